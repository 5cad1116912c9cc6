import PyProof.Rows.All
import Wide.All
import OpenK.AllK
import Wide.FinOn
import Lean
import PyProof.EqAt
import PyProof.EqKinds
import PyProof.TupleCall
import PyProof.StrCalls2
import PyProof.SumAny
import PyProof.Rows.Range3
import PyProof.StrBlockI
import PyProof.SliceStr2
import PyProof.IsRules
import PyProof.StrBlock2
import PyProof.ListRange
import KE.KRevSl
import PyProof.Seq
import KE.KRevIter
import PyProof.StrBlock
import PyProof.StrLawsIn
import PySem.Challenge.RW_skeinwood_k49_long_put_in_taken_kept
set_option Elab.async false
set_option linter.all false
set_option maxRecDepth 100000
noncomputable section
namespace L2
open PySem PySem.Spec PyProof.Rows
abbrev Key:=Sum Int Str
abbrev b01 (b:Bool):Int:=if b then 1 else 0
def yd8:Key->Value->Bool
 | .inl k,.bool b=>decide (k=b01 b)
 | .inl k,v=>Value.isInt k v
 | .inr x,v=>Value.isStrOf x v
def keyH (w:World):Key->Int
 | .inl k=>hashInt k
 | .inr x=>hashStr w x
theorem zaw:∀ {k:Key} {v:Value},yd8 k v=true->(∃ i t,k=Sum.inl i/\v=Value.int i t)\/(∃ b,k=Sum.inl (b01 b)/\v=Value.bool b)\/(∃ x t,k=Sum.inr x/\v=Value.str x t)
 | .inl i,v,h=>by
  cases v with
  | bool b=>exact .inr (.inl ⟨b,by rw [of_decide_eq_true (show decide (i=b01 b)=true from h)],rfl⟩)
  | int j t =>
   obtain ⟨t,e⟩:=Value.isInt_shape (k:=i) (v:=.int j t) h
   exact .inl ⟨i,t,rfl,e⟩
  | _=>exact absurd h (by simp [yd8,Value.isInt])
 | .inr x,v,h=>by
  obtain ⟨t,e⟩:=Value.isStrOf_shape (x:=x) (v:=v) h
  exact .inr (.inr ⟨x,t,rfl,e⟩)
theorem zgE (i:Int) (t:Tok):yd8 (.inl i) (.int i t)=true:=by simp [yd8,Value.isInt]
theorem zgF (x:Str) (t:Tok):yd8 (.inr x) (.str x t)=true:=by simp [yd8,Value.isStrOf]
theorem yeQ (a b:Int):decide ((Sum.inl a:Key)=Sum.inl b)=(a == b):=by
 by_cases e:a=b
 ·subst e;simp
 ·have h : ¬ (Sum.inl a:Key)=Sum.inl b:=fun q=>e (Sum.inl.inj q)
  rw [decide_eq_false h]
  exact (beq_eq_false_iff_ne.mpr e).symm
theorem ygb (a b:Str):decide ((Sum.inr a:Key)=Sum.inr b)=decide (a=b):=by
 by_cases e:a=b
 ·subst e;simp
 ·have h : ¬ (Sum.inr a:Key)=Sum.inr b:=fun q=>e (Sum.inr.inj q)
  rw [decide_eq_false h,decide_eq_false e]
theorem yfl (a:Int) (b:Str):decide ((Sum.inl a:Key)=Sum.inr b)=false:=decide_eq_false (fun q=>nomatch q)
theorem yfm (a:Str) (b:Int):decide ((Sum.inr a:Key)=Sum.inl b)=false:=decide_eq_false (fun q=>nomatch q)
theorem zcR {prog:Program} {w:World} {A:Around} {E:Value->Shared->Prop} {s:Shared} {b:Bool} {Q:Int->Shared->Prop} (h:Q (hashInt (b01 b)) { s with toks:=s.toks+1 }) :
  wpAny (model prog w) A (pyHash (.bool b)) Q E s:=by
 unfold pyHash
 unfold pyHashByItsType
 have hv:[Value.bool b].any Value.onHeap=false:=rfl
 refine wpAny_bind ?_
 rw [cRoomFor,if_neg (by rw [hv];exact Bool.false_ne_true)];refine wpAny_pure ?_
 refine wpAny_bind (wpAny_specialOf (PySem.typeIs_bool s b) PySem.F.slot_bool_hash.lookup ?_)
 show wpAny _ _ (if (some (Value.builtin "int.__hash__") == some Value.none)=true then _ else _) Q E s
 rw [if_neg (by rw [beq_builtin_none];exact Bool.false_ne_true)]
 refine wpAny_bind (wpAny_specialOf (PySem.typeIs_bool s b) PySem.F.slot_bool_hash.lookup ?_)
 show wpAny _ _ (callSpecialIfBoundUnlessNone? (.bool b) "__hash__" _ >>= _) Q E s
 cases b with
 | false =>
  refine wpAny_bind (wpAny_callSpecialIfBoundUnlessNone?_slot (PySem.typeIs_bool s false) PySem.F.slot_bool_hash
   (wpAny_call_entry PySem.F.slot_bool_hash (PySem.typeIs_bool s false) entry_int_hash
    (show wpAny _ _ (do ret (<- mkInt 0)) _ _ s from wpAny_ret_mkInt ?_) (args_int_hash _)))
  exact wpAny_pure h
 | true =>
  refine wpAny_bind (wpAny_callSpecialIfBoundUnlessNone?_slot (PySem.typeIs_bool s true) PySem.F.slot_bool_hash
   (wpAny_call_entry PySem.F.slot_bool_hash (PySem.typeIs_bool s true) entry_int_hash
    (show wpAny _ _ (do ret (<- mkInt 1)) _ _ s from wpAny_ret_mkInt ?_) (args_int_hash _)))
  exact wpAny_pure h
theorem zir (a b:Bool):(a == b)=decide ((Sum.inl (b01 a):Key)=Sum.inl (b01 b)):=by cases a<;>cases b<;>decide
def ybr (prog:Program) (w:World):PySem.KeyKind prog w Key where
 is:=yd8
 hash:=keyH w
 inj:=fun v a b ha hb=>by
  rcases zaw ha with ⟨i,t,rfl,rfl⟩ | ⟨c,rfl,rfl⟩ | ⟨x,t,rfl,rfl⟩
  ·rcases zaw hb with ⟨j,u,rfl,e⟩ | ⟨d,rfl,e⟩ | ⟨y,u,rfl,e⟩
   ·injection e with e1 _;rw [e1]
   ·exact nomatch e
   ·exact nomatch e
  ·rcases zaw hb with ⟨j,u,rfl,e⟩ | ⟨d,rfl,e⟩ | ⟨y,u,rfl,e⟩
   ·exact nomatch e
   ·injection e with e1;rw [e1]
   ·exact nomatch e
  ·rcases zaw hb with ⟨j,u,rfl,e⟩ | ⟨d,rfl,e⟩ | ⟨y,u,rfl,e⟩
   ·exact nomatch e
   ·exact nomatch e
   ·injection e with e1 _;rw [e1]
 byValue:=fun k v h=>by
  rcases zaw h with ⟨i,t,rfl,rfl⟩ | ⟨c,rfl,rfl⟩ | ⟨x,t,rfl,rfl⟩<;>rfl
 pyHash:=fun hv h=>by
  rcases zaw hv with ⟨i,t,rfl,rfl⟩ | ⟨c,rfl,rfl⟩ | ⟨x,t,rfl,rfl⟩
  ·exact wpAny_pyHash_int h
  ·exact zcR h
  ·exact wpAny_pyHash_str h
 eqBool:=fun hu hv h=>by
  rcases zaw hu with ⟨i,t,rfl,rfl⟩ | ⟨c,rfl,rfl⟩ | ⟨x,t,rfl,rfl⟩
  ·rcases zaw hv with ⟨j,u,rfl,rfl⟩ | ⟨d,rfl,rfl⟩ | ⟨y,u,rfl,rfl⟩
   ·rw [yeQ] at h;exact wpAny_eqBool_int h
   ·rw [yeQ] at h;exact SeqAt.EqAt.int_bool i t d _ _ _ _ h
   ·rw [yfl] at h;exact SeqAt.EqAt.int_str i t y u _ _ _ _ h
  ·rcases zaw hv with ⟨j,u,rfl,rfl⟩ | ⟨d,rfl,rfl⟩ | ⟨y,u,rfl,rfl⟩
   ·rw [yeQ] at h;exact SeqAt.EqAt.bool_int c j u _ _ _ _ h
   ·rw [<- zir] at h;exact SeqAt.EqAt.bool_bool c d _ _ _ _ h
   ·rw [yfl] at h;exact SeqAt.EqAt.bool_str c y u _ _ _ _ h
  ·rcases zaw hv with ⟨j,u,rfl,rfl⟩ | ⟨d,rfl,rfl⟩ | ⟨y,u,rfl,rfl⟩
   ·rw [yfm] at h;exact SeqAt.EqAt.str_int x t j u _ _ _ _ h
   ·rw [yfm] at h;exact SeqAt.EqAt.str_bool x t d _ _ _ _ h
   ·rw [ygb] at h;exact wpAny_eqBool_str h
 «strs» := fun k x t v h=>by
  rcases zaw h with ⟨i,u,rfl,e⟩ | ⟨d,rfl,e⟩ | ⟨y,u,rfl,e⟩
  ·exact nomatch e
  ·exact nomatch e
  ·injection e with e1 _
   subst e1
   cases v<;>rfl
theorem zcT (prog:Program) (w:World) (i:Int) (t:Tok):(ybr prog w).is (.inl i) (.int i t)=true:=zgE i t
theorem zcU (prog:Program) (w:World) (x:Str) (t:Tok):(ybr prog w).is (.inr x) (.str x t)=true:=zgF x t
end L2
namespace L2
open PySem PySem.Spec PyProof.Rows
inductive V where
 | non | bl (b:Bool) | int (i:Int) | str (x:Str) | byt (b:Array UInt8) | flt (b:UInt64) | ref (a:Addr) | ty (n:String)
 deriving DecidableEq
def RelV:V->Value->Prop
 | .non,u=>u=Value.none
 | .bl b,u=>u=Value.bool b
 | .int i,u=>∃ t,u=Value.int i t
 | .str x,u=>∃ t,u=Value.str x t
 | .byt b,u=>∃ t,u=Value.bytes b t
 | .flt b,u=>∃ t,u=Value.float b t
 | .ref a,u=>u=Value.ref a
 | .ty n,u=>u=Value.type n
abbrev Vals:List V->List Value->Prop:=Paired RelV
theorem Vals.length {xs:List V} {us:List Value} (r:Vals xs us):xs.length=us.length:=Paired.length r
theorem Vals.get:∀ {xs:List V} {us:List Value} {i:Nat} {x:V},Vals xs us->xs[i]? = some x->∃ u,us[i]? = some u/\RelV x u
 | _,_,_,_,.nil,e=>by simp at e
 | _,_,0,_,.cons r _,e=>by simp at e;subst e;exact ⟨_,rfl,r⟩
 | _,_,i+1,x,.cons _ t,e=>by
  obtain ⟨u,h1,h2⟩:=Vals.get (i:=i) (x:=x) t (by simpa using e)
  exact ⟨u,by simpa using h1,h2⟩
theorem Vals.set {x:V} {u:Value} (r:RelV x u):∀ {xs:List V} {us:List Value} (i:Nat),Vals xs us->Vals (xs.set i x) (us.set i u)
 | _,_,_,.nil=>.nil
 | _,_,0,.cons _ t=>.cons r t
 | _,_,i+1,.cons q t=>.cons q (Vals.set r i t)
theorem Vals.append:∀ {xs ys:List V} {us ws:List Value},Vals xs us->Vals ys ws->Vals (xs++ys) (us++ws)
 | _,_,_,_,.nil,s=>s
 | _,_,_,_,.cons r t,s=>.cons r (Vals.append t s)
theorem Vals.take:∀ {xs:List V} {us:List Value} (n:Nat),Vals xs us->Vals (xs.take n) (us.take n)
 | _,_,0,_=>.nil
 | _,_,_+1,.nil=>.nil
 | _,_,n+1,.cons r t=>.cons r (Vals.take n t)
theorem Vals.drop:∀ {xs:List V} {us:List Value} (n:Nat),Vals xs us->Vals (xs.drop n) (us.drop n)
 | _,_,0,r=>r
 | _,_,_+1,.nil=>.nil
 | _,_,n+1,.cons _ t=>Vals.drop n t
def RelO:Option V->Option Value->Prop
 | some v,some u=>RelV v u
 | none,none=>True
 | _,_=>False
def KV {κ:Type}:List (κ×V)->List (κ×Value)->Prop:=Paired fun (p:κ×V) (q:κ×Value)=>p.1=q.1/\RelV p.2 q.2
def kV:Key->V
 | .inl i=>.int i
 | .inr x=>.str x
def kOf:V->Option Key
 | .int i=>some (.inl i)
 | .bl b=>some (.inl (b01 b))
 | .str x=>some (.inr x)
 | _=>none
theorem ygc (k:Key):kOf (kV k)=some k:=by cases k<;>rfl
inductive HO where
 | lst (xs:List V)
 | tup (xs:List V)
 | dK (kvs:List (Key×V)) | dT (kvs:List (List Key×V))
 | set (S:Int->Bool) (n:Nat)
 | ins (C dx:Addr) (fs:List (Str×V))
 | own (x:Addr)
 | xd (fs:List (Str×V))
 | met (f x:Addr)
 | rng (lo hi:Int)
 | frz (o:Obj) (u:HO)
 | tbl (ps:Array Value)
 | ext (φ:Heap->Prop)
abbrev Hp:=Addr->Option HO
def upd (H:Hp) (a:Addr) (o:HO):Hp:=fun b=>if b=a then some o else H b
theorem zav {H:Hp} {a:Addr} {o:HO}:upd H a o a=some o:=by unfold upd;rw [if_pos rfl]
theorem yaN {H:Hp} {a b:Addr} {o:HO} (h:b≠a):upd H a o b=H b:=by unfold upd;rw [if_neg h]
theorem yht {H:Hp} {a b:Addr} {o u:HO} (h:H a=some o) (h':H b=some u) (d:o≠u):a≠b:=by
 intro e;subst e;rw [h] at h';exact d (Option.some.inj h')
theorem zax {H:Hp} {a b:Addr} {o:HO} (h:H a=some o) (h':H b=none):a≠b:=by
 intro e;subst e;rw [h] at h';cases h'
section
variable (P:Program) (w:World)
def ObjOk (H:Hp) (h:Heap) (a:Addr):HO->Prop
 | .lst xs=>xs.length<=sizeLine/\∃ (its:List Value) (n:Nat),Vals xs its/\h.get? a=some { cls:=.type "list",data:=.seq its.toArray n }
 | .tup xs=>xs.length<=sizeLine/\∃ its:List Value,Vals xs its/\IsTup h a its.toArray
 | .dK kvs=>kvs.length<=sizeLine/\(a == sysModules)=false/\∃ vs,KV kvs vs/\h.DictOf (ybr P w) a vs
 | .dT kvs=>kvs.length<=sizeLine/\(a == sysModules)=false/\∃ xs:List (List Key×Addr×Value),
   Paired (fun (p:List Key×V) (q:List Key×Addr×Value)=>p.1=q.1/\(∃ ys,H q.2.1=some (.tup ys)/\ys.map kOf=p.1.map some)/\RelV p.2 q.2.2) kvs xs /\
   ∃ o es ep,h.get? a=some o/\o.ExactDict/\o.data = .dict es ep/\es.toList=xs.map (entryOfKey (tupleKind (ybr P w)))/\(xs.map (·.1)).Nodup
 | .set S n=>h.SetOf (intKind P w) a S n
 | .ins C dx fs=>H dx=some (.own a)/\fs.length<=1000/\dx≠a/\h.get? a=some (PySem.W.instObj C dx) /\
   ∃ mA,h.Ns1 dx mA/\(∀ f,RelO (fs.lookup f) (mA f))/\PySem.Within mA (fs.map (·.1))
 | .own _=>∃ o,h.get? a=some o
 | .xd fs=>∃ mA,h.Ns1 a mA/\∀ f,RelO (fs.lookup f) (mA f)
 | .rng lo hi=>∃ t u v,h.get? a=some { cls:=.type "range",data:=.fields #[.int lo t,.int hi u,.int 1 v] }
 | .frz o u=>h.get? a=some o/\ObjOk H h a u
 | .tbl ps=>h.get? a=some { cls:=.none,data:=.fields ps }
 | .met f x=>h.get? a=some (PySem.W.methodObj (.ref f) (.ref x))
 | .ext φ=>φ h/\(∃ o,h.get? a=some o)/\∀ h1 h2:Heap,φ h1->(∀ o,h1.get? a=some o->h2.get? a=some o)->φ h2
def HOk (H:Hp) (h:Heap):Prop:=∀ a o,H a=some o->ObjOk P w H h a o
end
section
variable {P:Program} {w:World} {H H':Hp} {h h':Heap} {a:Addr} {o:HO}
theorem ObjOk.lt (x:ObjOk P w H h a o):a<h.objs.size:=by
 cases o with
 | lst xs=>obtain ⟨_,_,_,_,e⟩:=x;exact Heap.lt_size e
 | tup xs=>obtain ⟨_,_,_,p⟩:=x;exact p.lt
 | dK kvs=>obtain ⟨_,_,_,_,o,_,_,e,_⟩:=x;exact Heap.lt_size e
 | dT kvs=>obtain ⟨_,_,_,_,o,_,_,e,_⟩:=x;exact Heap.lt_size e
 | set S n=>obtain ⟨o,_,_,_,e,_⟩:=x;exact Heap.lt_size e
 | ins C dx fs=>obtain ⟨_,_,_,e,_⟩:=x;exact Heap.lt_size e
 | own y=>obtain ⟨_,e⟩:=x;exact Heap.lt_size e
 | xd fs=>obtain ⟨_,⟨_,_,_,e,_⟩,_⟩:=x;exact Heap.lt_size e
 | rng lo hi=>obtain ⟨_,_,_,e⟩:=x;exact Heap.lt_size e
 | frz ob u=>obtain ⟨e,_⟩:=x;exact Heap.lt_size e
 | tbl ps=>exact Heap.lt_size (show h.get? a=some _ from x)
 | met f y=>exact Heap.lt_size (show h.get? a=some _ from x)
 | ext φ=>obtain ⟨_,⟨_,e⟩,_⟩:=x;exact Heap.lt_size e
theorem Paired.mapP {α β:Type} {F G:α->β->Prop}:∀ {l₁:List α} {l₂:List β},Paired F l₁ l₂->(∀ a b,F a b->G a b)->Paired G l₁ l₂
 | _,_,.nil,_=>.nil
 | _,_,.cons r t,f=>.cons (f _ _ r) (Paired.mapP t f)
theorem ObjOk.stay (x:ObjOk P w H h a o) (k:∀ b u,(b=a\/H b=some (.own a))->h.get? b=some u->h'.get? b=some u)
  (ho:∀ b,H b=some (.own a)->H' b=some (.own a)) (ht:∀ b xs,H b=some (.tup xs)->H' b=some (.tup xs)):ObjOk P w H' h' a o:=by
 induction o with
 | lst xs=>obtain ⟨z,its,n,r,e⟩:=x;exact ⟨z,its,n,r,k _ _ (.inl rfl) e⟩
 | tup xs=>obtain ⟨z,its,r,ob,e,c⟩:=x;exact ⟨z,its,r,ob,k _ _ (.inl rfl) e,c⟩
 | dK kvs=>obtain ⟨z,y,vs,r,ob,es,ep,e,c⟩:=x;exact ⟨z,y,vs,r,ob,es,ep,k _ _ (.inl rfl) e,c⟩
 | dT kvs =>
  obtain ⟨z,y,xs,r,ob,es,ep,e,c⟩:=x
  exact ⟨z,y,xs,Paired.mapP r fun p q z=>⟨z.1,z.2.1.imp fun _ e=>⟨ht _ _ e.1,e.2⟩,z.2.2⟩,ob,es,ep,k _ _ (.inl rfl) e,c⟩
 | set S n=>obtain ⟨ob,es,ep,t,e,c⟩:=x;exact ⟨ob,es,ep,t,k _ _ (.inl rfl) e,c⟩
 | ins C dx fs =>
  obtain ⟨d,z,ne,e,mA,⟨od,es,ep,e2,c⟩,r⟩:=x
  exact ⟨ho _ d,z,ne,k _ _ (.inl rfl) e,mA,⟨od,es,ep,k _ _ (.inr d) e2,c⟩,r⟩
 | own y=>obtain ⟨ob,e⟩:=x;exact ⟨ob,k _ _ (.inl rfl) e⟩
 | xd fs=>obtain ⟨mA,⟨od,es,ep,e,c⟩,r⟩:=x;exact ⟨mA,⟨od,es,ep,k _ _ (.inl rfl) e,c⟩,r⟩
 | rng lo hi=>obtain ⟨t,u,v,e⟩:=x;exact ⟨t,u,v,k _ _ (.inl rfl) e⟩
 | frz ob u ih=>obtain ⟨e,q⟩:=x;exact ⟨k _ _ (.inl rfl) e,ih q⟩
 | tbl ps =>
  have e:h.get? a=some { cls:=.none,data:=.fields ps }:=x
  show h'.get? a=some { cls:=.none,data:=.fields ps }
  exact k a _ (.inl rfl) e
 | met f y =>
  have e:h.get? a=some (PySem.W.methodObj (.ref f) (.ref y)):=x
  show h'.get? a=some (PySem.W.methodObj (.ref f) (.ref y))
  exact k a _ (.inl rfl) e
 | ext φ=>obtain ⟨p,⟨o,e⟩,st⟩:=x;exact ⟨st _ _ p fun o q=>k _ _ (.inl rfl) q,⟨o,k _ _ (.inl rfl) e⟩,st⟩
theorem HOk.lt (x:HOk P w H h) (e:H a=some o):a<h.objs.size:=(x a o e).lt
theorem HOk.fresh (x:HOk P w H h) (e:h.objs.size<=a):H a=none:=by
 cases q:H a with
 | none=>rfl
 | some u=>exact absurd (Nat.lt_of_lt_of_le (x.lt q) e) (Nat.lt_irrefl _)
theorem HOk.kept (x:HOk P w H h) (k:∀ b u,h.get? b=some u->h'.get? b=some u):HOk P w H h' := fun a o e =>
 (x a o e).stay (fun b u _ q=>k b u q) (fun _ q=>q) fun _ _ q=>q
theorem HOk.laid (x:HOk P w H h) (k:∀ b u,h.get? b=some u->h'.get? b=some u) (hp:h.objs.size<=a) (new:ObjOk P w (upd H a o) h' a o):HOk P w (upd H a o) h' := fun b u e=>by
 have hn:=x.fresh hp
 by_cases hb:b=a
 ·subst hb;rw [zav] at e;cases e;exact new
 ·rw [yaN hb] at e
  exact (x b u e).stay (fun c v _ q=>k c v q) (fun c q=>by rw [yaN (zax q hn)];exact q) fun c xs q=>by rw [yaN (zax q hn)];exact q
end
def Rd (H:Hp) (a:Addr) (u:HO):Prop:=H a=some u\/∃ o,H a=some (.frz o u)
theorem Rd.ok {P:Program} {w:World} {H:Hp} {h:Heap} {a:Addr} {u:HO} (r:Rd H a u) (x:HOk P w H h):ObjOk P w H h a u:=by
 rcases r with r | ⟨o,r⟩
 ·exact x a u r
 ·obtain ⟨_,q⟩:=x a _ r
  exact q
def Mut:Option HO->Prop
 | some (.lst _)=>True
 | some (.dK _)=>True
 | some (.dT _)=>True
 | some (.set _ _)=>True
 | some (.ins _ _ _)=>True
 | some (.ext _)=>True
 | _=>False
section
variable {P:Program} {w:World} {H:Hp} {h h':Heap} {x e:Addr} {o':HO}
theorem HOk.write (ok:HOk P w H h) (mu:Mut (H x)) (he:e=x\/H e=some (.own x)) (k:∀ b u,b≠e->h.get? b=some u->h'.get? b=some u) (heo:∃ u,h'.get? e=some u)
  (new:ObjOk P w (upd H x o') h' x o'):HOk P w (upd H x o') h' := fun b u q=>by
 have nown:∀ c y,H c=some (.own y)->c≠x:=fun c y r z=>by subst z;rw [r] at mu;exact mu
 have ntup:∀ c xs,H c=some (.tup xs)->c≠x:=fun c xs r z=>by subst z;rw [r] at mu;exact mu
 by_cases hb:b=x
 ·subst hb;rw [zav] at q;cases q;exact new
 ·rw [yaN hb] at q
  by_cases hbe:b=e
  ·have q':H b=some (.own x):=by
    rcases he with z | z
    ·exact absurd (hbe.trans z) hb
    ·rw [hbe];exact z
   rw [q] at q';cases q'
   obtain ⟨v,hv⟩:=heo
   exact ⟨v,by rw [hbe];exact hv⟩
  ·refine (ok b u q).stay (fun c v hc r=>k c v ?_ r) (fun c r=>by rw [yaN (nown c b r)];exact r) fun c xs r=>by rw [yaN (ntup c xs r)];exact r
   rcases hc with rfl | hc
   ·exact hbe
   ·rintro rfl
    rcases he with z | z
    ·exact nown c b hc z
    ·rw [hc] at z;cases z;exact hb rfl
end
structure Un (fs ex:List Addr) (H H':Hp) (h h':Heap):Prop where
 keep:∀ b o,h.get? b=some o->H b=none->b∉fs->b∉ex->h'.get? b=some o
 slot:∀ b o,h.get? b=some o->H b=none->b∈fs->b∉ex->∃ sl,h'.get? b=some { o with slots:=sl }
 free:∀ b o,h.get? b=some o->H b=none->b∉ex->H' b=none
 there:∀ b o,h.get? b=some o->b∉ex->∃ o',h'.get? b=some o'
 tups:∀ b xs,H b=some (.tup xs)->H' b=some (.tup xs)
 frzs:∀ b o u,H b=some (.frz o u)->H' b=some (.frz o u)
 tbls:∀ b ps,H b=some (.tbl ps)->∃ more,H' b=some (.tbl (ps++more))
section
variable {fs fs' ex ex':List Addr} {H H1 H2:Hp} {h h1 h2 h':Heap} {a x e:Addr} {o:HO}
theorem Un.any (u:Un fs ex H H1 h h1) {b:Addr} {ob:Obj} (q:h.get? b=some ob) (n:H b=none) (hx:b∉ex):∃ sl,h1.get? b=some { ob with slots:=sl }:=by
 by_cases hb:b∈fs
 ·exact u.slot b ob q n hb hx
 ·exact ⟨ob.slots,u.keep b ob q n hb hx⟩
theorem Un.kept (k:∀ b u,h.get? b=some u->h'.get? b=some u):Un fs ex H H h h' :=
 ⟨fun b ob q _ _ _=>k b ob q,fun b ob q _ _ _=>⟨ob.slots,k b ob q⟩,fun _ _ _ n _=>n,fun b ob q _=>⟨ob,k b ob q⟩,fun _ _ q=>q,fun _ _ _ q=>q,fun _ ps q=>⟨#[],by rw [q];simp⟩⟩
theorem Un.refl:Un fs ex H H h h:=Un.kept fun _ _ q=>q
theorem Un.laid (k:∀ b u,h.get? b=some u->h'.get? b=some u) (hp:h.objs.size<=a) (hn:H a=none):Un fs ex H (upd H a o) h h' where
 keep:=fun b u q _ _ _=>k b u q
 slot:=fun b u q _ _ _=>⟨u.slots,k b u q⟩
 free:=fun b u q n _=>by rw [yaN (Nat.ne_of_lt (Nat.lt_of_lt_of_le (Heap.lt_size q) hp))];exact n
 there:=fun b u q _=>⟨u,k b u q⟩
 tups:=fun b xs q=>by rw [yaN (zax q hn)];exact q
 frzs:=fun b u xs q=>by rw [yaN (zax q hn)];exact q
 tbls:=fun b ps q=>⟨#[],by rw [yaN (zax q hn),q];simp⟩
theorem Un.write (mu:Mut (H x)) (he:e=x\/H e=some (.own x)) (k:∀ b u,b≠e->h.get? b=some u->h'.get? b=some u) (heo:∃ u,h'.get? e=some u):Un fs ex H (upd H x o) h h' := by
 have hx:∀ b,H b=none->b≠x:=fun b n z=>by subst z;rw [n] at mu;exact mu
 have hb:∀ b,H b=none->b≠e:=fun b n z=>by
  subst z
  rcases he with r | r
  ·exact hx b n r
  ·rw [n] at r;cases r
 have hm:∀ b u,H b=some u -> ¬ Mut (some u)->b≠x:=fun b u q nm z=>by subst z;rw [q] at mu;exact nm mu
 refine ⟨fun b u q n _ _=>k b u (hb b n) q,fun b u q n _ _=>⟨u.slots,k b u (hb b n) q⟩,fun b u q n _=>by rw [yaN (hx b n)];exact n,fun b u q _=>?_,
  fun b xs q=>by rw [yaN (hm b _ q fun z=>z)];exact q,fun b u xs q=>by rw [yaN (hm b _ q fun z=>z)];exact q,fun b ps q=>⟨#[],by rw [yaN (hm b _ q fun z=>z),q];simp⟩⟩
 by_cases hbe:b=e
 ·subst hbe;exact heo
 ·exact ⟨u,k b u hbe q⟩
end
def trk (h:Heap) (H:Hp):List Addr:=(List.range h.objs.size).filter fun a=>(H a).isSome
def hidT (h:Heap) (H:Hp):Heap:=PySem.W.hideAll h (trk h H)
theorem zgG (h:Heap) (H:Hp):(hidT h H).objs.size=h.objs.size:=PySem.W.hideAll_size _ _
theorem zhu {h:Heap} {H:Hp} {b:Addr} {o:Obj} (e:h.get? b=some o) (n:H b=none):(hidT h H).get? b=some o :=
 PySem.W.hideAll_get _ e fun hm=>by
  have q:(H b).isSome=true:=(List.mem_filter.mp hm).2
  rw [n] at q;simp at q
theorem zis {h:Heap} {H:Hp} {b:Addr} {o:Obj} (e:(hidT h H).get? b=some o):h.get? b=some o/\H b=none:=by
 have e':h.get? b=some o:=PySem.W.of_hideAll (trk h H) e
 refine ⟨e',?_⟩
 cases q:H b with
 | none=>rfl
 | some x =>
  have hm:b∈trk h H:=List.mem_filter.mpr ⟨List.mem_range.mpr (Heap.lt_size e'),by simp [q]⟩
  have z:(hidT h H).get? b=none:=PySem.W.hideAll_none (trk h H) hm
  rw [z] at e;cases e
end L2
namespace L2
open PySem PySem.Spec PyProof.Rows
structure Mod (K:PySem.W.Frag) (mg:Str->Option Value) (base:Heap):Prop where
 kin:K.In base
 glob:base.Ns mainGlobals mg
 blt:∃ mb,base.Ns builtinsNs mb/\∀ x:Str,x ≠ "__name__" -> mb x=bootBuiltins x
 nolimit:base.NoLimit
structure Cx where
 prog:Program
 w:World
 K:PySem.W.Frag
 mg:Str->Option Value
 base:Heap
 A:Around
 N:List Str
 s₀:Shared
 H₀:Hp
 env:Env
 outer:List Env
 stack:List Env
 ex:List Addr
 fn:Str->Bool
 calm:Bool
 pn:List (Addr×Obj)
 xe:Value->Shared->Prop
def frs (l:List Env):List Addr:=l.filterMap (·.frame)
abbrev Cx.fs (X:Cx):List Addr:=frs X.outer
def Vis (sc:Scope) (x:Str):Prop:=sc.names.lookup x=some .local\/sc.names.lookup x=some .cell\/sc.names.lookup x=some .free
def Loc (sc:Scope) (x:Str):Prop:=sc.names.lookup x=some .local\/sc.names.lookup x=some .cell
def Look (env:Env) (h:Heap) (m:Str->Option Value) (x:Str) (u:Value):Prop :=
 (env.kindOf x=some .local/\m x=some u)\/((env.kindOf x=some .cell\/env.kindOf x=some .free)/\∃ c,env.cells.lookup x=some c/\h.IsCell c (some u))
structure Cx.Ok (X:Cx):Prop where
 mod:Mod X.K X.mg X.base
 kind:X.env.scope.kind = .function
 glob:X.env.globals=mainGlobals
 blt:X.env.builtins=builtinsNs
 above:X.s₀.heap.objs.size<=X.env.locals
 inj:∀ x y c,X.env.cells.lookup x=some c->X.env.cells.lookup y=some c->x=y
 has:∀ x,(X.env.kindOf x=some .cell\/X.env.kindOf x=some .free)->∃ c,X.env.cells.lookup x=some c
 cab:∀ x c,X.fn x=true->X.env.cells.lookup x=some c->X.s₀.heap.objs.size<=c
 hd:X.calm=true->X.A.handled=none
 frames:X.A.frames=some X.stack
 stk:X.stack=X.outer\/(X.stack=X.env::X.outer/\X.env.frame=some X.env.locals)
 exf:∀ b∈X.ex,b≠X.env.locals/\∀ x c,X.env.cells.lookup x=some c->c≠b
 bs:∀ b o,X.base.get? b=some o->X.s₀.heap.get? b=some o/\X.H₀ b=none
 bsz:X.base.objs.size<=X.s₀.heap.objs.size
 noex:∀ b o,X.base.get? b=some o->b∉X.ex
 exfs:∀ b∈X.ex,b∉X.fs
 funs:X.s₀.heap.FunFrames X.base X.outer
 frf:∀ b∈X.fs,X.H₀ b=none
structure Inv (X:Cx) (pins:List (Addr×Obj)) (σ:List (Option V)) (H:Hp) (s:Shared):Prop where
 ok:X.Ok
 os:s.os=X.s₀.os
 bare:AllBare s.gens
 base:Un X.fs X.ex X.H₀ H X.s₀.heap s.heap
 loc:∃ m,s.heap.Ns X.env.locals m/\∀ (i:Nat) (x:Str) (v:V),X.N[i]? = some x->σ[i]? = some (some v)->Vis X.env.scope x->∃ u,RelV v u/\Look X.env s.heap m x u
 cell:∀ x c,X.env.cells.lookup x=some c->∃ v,s.heap.IsCell c v
 free:H X.env.locals=none
 freeC:∀ x c,X.env.cells.lookup x=some c->H c=none
 pin:∀ p∈X.pn++pins,s.heap.get? p.1=some p.2/\H p.1=none/\p.1≠X.env.locals/\p.1∉X.fs/\∀ v,p.2.data ≠ .cell v
 hok:HOk X.prog X.w H s.heap
 len:σ.length=X.N.length
section
variable {X:Cx} {pins:List (Addr×Obj)} {σ:List (Option V)} {H H':Hp} {s:Shared} {h':Heap}
theorem Cx.Ok.nofr (ok:X.Ok) {b:Addr} {o:Obj} (e:X.base.get? b=some o):b∉X.fs:=fun hb=>by
 have:=(ok.funs.mem hb).1
 rw [e] at this;cases this
theorem Inv.bs (I:Inv X pins σ H s):∀ b o,X.base.get? b=some o->s.heap.get? b=some o/\H b=none:=fun b o e =>
 ⟨I.base.keep b o (I.ok.bs b o e).1 (I.ok.bs b o e).2 (I.ok.nofr e) (I.ok.noex b o e),I.base.free b o (I.ok.bs b o e).1 (I.ok.bs b o e).2 (I.ok.noex b o e)⟩
theorem Inv.bk (I:Inv X pins σ H s):∀ b o,X.base.get? b=some o->s.heap.get? b=some o:=fun b o e=>(I.bs b o e).1
theorem Inv.mod (I:Inv X pins σ H s):Mod X.K X.mg X.base:=I.ok.mod
theorem Inv.kIn (I:Inv X pins σ H s):X.K.In s.heap:=I.ok.mod.kin.keeps I.bk
theorem Inv.fr (I:Inv X pins σ H s):∃ m,Fr X.base X.env.locals s.heap m :=
 let ⟨m,hn,_⟩:=I.loc
 ⟨m,hn,I.bk,Nat.le_trans I.ok.bsz I.ok.above⟩
theorem Inv.lt (I:Inv X pins σ H s):X.env.locals<s.heap.objs.size:=let ⟨_,hn,_⟩:=I.loc;hn.lt
theorem Inv.sz (I:Inv X pins σ H s):X.s₀.heap.objs.size<=s.heap.objs.size:=Nat.le_trans I.ok.above (Nat.le_of_lt I.lt)
theorem Inv.nofs (I:Inv X pins σ H s) {a:Addr} (h:s.heap.objs.size<=a):a∉X.fs:=fun hb=>by
 obtain ⟨_,o,ho,_⟩:=I.ok.funs.mem hb
 exact absurd (Nat.lt_of_lt_of_le (Heap.lt_size ho) (Nat.le_trans I.sz h)) (Nat.lt_irrefl _)
theorem Inv.cne (I:Inv X pins σ H s):∀ x c,X.env.cells.lookup x=some c->c≠X.env.locals:=fun x c e z=>by
 obtain ⟨v,o,ho,hd⟩:=I.cell x c e
 obtain ⟨m,⟨o',es,ep,ho',hd',_⟩,_⟩:=I.loc
 rw [z,ho'] at ho;cases ho;rw [hd'] at hd;cases hd
theorem Inv.funs (I:Inv X pins σ H s):s.heap.FunFrames X.base X.outer:=by
 have all:∀ (l:List Env),(∀ b∈frs l,b∈X.fs)->X.s₀.heap.FunFrames X.base l->s.heap.FunFrames X.base l:=by
  intro l
  induction l with
  | nil=>intro _ _;trivial
  | cons env r ih =>
   intro hs hl
   obtain ⟨hk,⟨L,o,hf,hn,ho,hd⟩,hr⟩:=hl
   have hL:L∈X.fs:=hs L (by unfold frs;rw [List.filterMap_cons,hf];exact List.mem_cons_self)
   obtain ⟨sl,e⟩:=I.base.slot L o ho (I.ok.frf L hL) hL fun z=>I.ok.exfs L z hL
   exact ⟨hk,⟨L,_,hf,hn,e,hd⟩,ih (fun b hb=>hs b (by unfold frs;rw [List.filterMap_cons,hf];exact List.mem_cons_of_mem _ hb)) hr⟩
 exact all X.outer (fun _ hb=>hb) I.ok.funs
theorem Inv.stack (I:Inv X pins σ H s):s.heap.FunFrames X.base X.stack:=by
 rcases I.ok.stk with e | ⟨e,hf⟩
 ·rw [e];exact I.funs
 ·rw [e]
  obtain ⟨m,hn,_⟩:=I.loc
  refine .cons (by rw [I.ok.kind];decide) hf hn ?_ I.funs
  exact Heap.get?_none_of_le (Nat.le_trans I.ok.bsz I.ok.above)
theorem Inv.stkSub (I:Inv X pins σ H s):∀ b∈frs X.stack,b∈X.env.locals::X.fs:=fun b hb=>by
 rcases I.ok.stk with e | ⟨e,hf⟩
 ·rw [e] at hb;exact List.mem_cons_of_mem _ hb
 ·rw [e] at hb
  unfold frs at hb
  rw [List.filterMap_cons,hf] at hb
  exact hb
theorem Inv.stkFree (I:Inv X pins σ H s):∀ b∈frs X.stack,H b=none:=fun b hb=>by
 rcases List.mem_cons.mp (I.stkSub b hb) with e | hb
 ·rw [e];exact I.free
 ·obtain ⟨_,o,ho,_⟩:=I.ok.funs.mem hb
  exact I.base.free b o ho (I.ok.frf b hb) fun z=>I.ok.exfs b z hb
theorem Inv.step {g':Array GenState} {t':Nat} {d':Drawn} {ch:List Addr} (I:Inv X pins σ H s)
  (hch:∀ b∈ch,(b∈X.ex\/X.s₀.heap.objs.size<=b)/\b≠X.env.locals/\(∀ x c,X.env.cells.lookup x=some c->c≠b)/\∀ p∈X.pn++pins,p.1≠b)
  (keep:∀ b o,b≠X.env.locals->b∉X.fs->b∉ch->s.heap.get? b=some o->H b=none->h'.get? b=some o)
  (slot:∀ b o,b≠X.env.locals->b∈X.fs->b∉ch->s.heap.get? b=some o->H b=none->∃ sl,h'.get? b=some { o with slots:=sl }) (free:∀ b o,b∉ch->s.heap.get? b=some o->H b=none->H' b=none)
  (there:∀ b o,b∉ch->s.heap.get? b=some o->∃ o',h'.get? b=some o')
  (tups:∀ b xs,H b=some (.tup xs)->H' b=some (.tup xs)) (frzs:∀ b o u,H b=some (.frz o u)->H' b=some (.frz o u)) (tbls:∀ b ps,H b=some (.tbl ps)->∃ more,H' b=some (.tbl (ps++more)))
  (ns:∀ m,s.heap.Ns X.env.locals m->h'.Ns X.env.locals m) (hok:HOk X.prog X.w H' h') (hg:AllBare g') :
  Inv X pins σ H' { s with heap:=h',gens:=g',drawn:=d',toks:=t' }:=by
 have neL:∀ b o,X.s₀.heap.get? b=some o->b≠X.env.locals:=fun b o e=>Nat.ne_of_lt (Nat.lt_of_lt_of_le (Heap.lt_size e) I.ok.above)
 have neC:∀ b o,X.s₀.heap.get? b=some o->b∉X.ex->b∉ch:=fun b o e hx hb=>by
  rcases (hch b hb).1 with z | z
  ·exact hx z
  ·exact absurd (Nat.lt_of_lt_of_le (Heap.lt_size e) z) (Nat.lt_irrefl _)
 have cellK:∀ x c,X.env.cells.lookup x=some c->∀ v,s.heap.IsCell c v->h'.IsCell c v:=fun x c e v ⟨o,ho,hd⟩=>by
  have nch:c∉ch:=fun z=>(hch c z).2.2.1 x c e rfl
  by_cases hc:c∈X.fs
  ·obtain ⟨sl,q⟩:=slot c o (I.cne x c e) hc nch ho (I.freeC x c e)
   exact ⟨_,q,hd⟩
  ·exact ⟨o,keep c o (I.cne x c e) hc nch ho (I.freeC x c e),hd⟩
 refine ⟨I.ok,I.os,hg,⟨fun b o e n hb hx=>?_,fun b o e n hb hx=>?_,fun b o e n hx=>?_,fun b o e hx=>?_,fun b xs e=>tups b xs (I.base.tups b xs e),fun b o xs e=>frzs b o xs (I.base.frzs b o xs e),fun b ps e=>?_⟩,?_,fun x c e=>?_,?_,fun x c e=>?_,fun p hp=>?_,hok,I.len⟩
 ·exact keep b o (neL b o e) hb (neC b o e hx) (I.base.keep b o e n hb hx) (I.base.free b o e n hx)
 ·obtain ⟨sl,e1⟩:=I.base.slot b o e n hb hx
  obtain ⟨sl',e2⟩:=slot b _ (neL b o e) hb (neC b o e hx) e1 (I.base.free b o e n hx)
  exact ⟨sl',e2⟩
 ·obtain ⟨o',e1⟩:=I.base.there b o e hx
  exact free b o' (neC b o e hx) e1 (I.base.free b o e n hx)
 ·obtain ⟨o',e1⟩:=I.base.there b o e hx
  exact there b o' (neC b o e hx) e1
 ·obtain ⟨m1,e1⟩:=I.base.tbls b ps e
  obtain ⟨m2,e2⟩:=tbls b _ e1
  exact ⟨m1++m2,by rw [e2,Array.append_assoc]⟩
 ·obtain ⟨m,hn,hl⟩:=I.loc
  refine ⟨m,ns m hn,fun i x v e1 e2 e3=>?_⟩
  obtain ⟨u,r,l⟩:=hl i x v e1 e2 e3
  refine ⟨u,r,?_⟩
  rcases l with l | ⟨k,c,e,z⟩
  ·exact .inl l
  ·exact .inr ⟨k,c,e,cellK x c e _ z⟩
 ·obtain ⟨v,z⟩:=I.cell x c e
  exact ⟨v,cellK x c e v z⟩
 ·obtain ⟨m,⟨o,_,_,ho,_⟩,_⟩:=I.loc
  exact free _ o (fun z=>(hch _ z).2.1 rfl) ho I.free
 ·obtain ⟨v,o,ho,hd⟩:=I.cell x c e
  exact free c o (fun z=>(hch c z).2.2.1 x c e rfl) ho (I.freeC x c e)
 ·obtain ⟨e,n,ne,nf,d⟩:=I.pin p hp
  have nch:p.1∉ch:=fun z=>(hch p.1 z).2.2.2 p hp rfl
  exact ⟨keep p.1 p.2 ne nf nch e n,free p.1 p.2 nch e n,ne,nf,d⟩
theorem Inv.un {t':Nat} (I:Inv X pins σ H s) (u:Un X.fs [] H H' s.heap h') (hok:HOk X.prog X.w H' h'):Inv X pins σ H' { s with heap:=h',toks:=t' }:=by
 obtain ⟨m,⟨o,es,ep,ho,r⟩,_⟩:=id I.loc
 obtain ⟨sl,hL⟩:=u.any ho I.free (by simp)
 exact I.step (g' := s.gens) (d' := s.drawn) (ch:=[]) (fun _ z=>nomatch z) (fun b o _ hb _ e n=>u.keep b o e n hb (by simp)) (fun b o _ hb _ e n=>u.slot b o e n hb (by simp)) (fun b o _ e n=>u.free b o e n (by simp)) (fun b o _ e=>u.there b o e (by simp)) u.tups u.frzs u.tbls (fun m' hm=>by
  obtain ⟨o',es',ep',ho',r'⟩:=hm
  rw [ho] at ho';cases ho'
  exact ⟨_,es',ep',hL,r'⟩) hok I.bare
theorem Inv.call {g':Array GenState} {t':Nat} {d':Drawn} {ch:List Addr} (I:Inv X pins σ H s) (u:Un (frs X.stack) ch H H' s.heap h') (hok:HOk X.prog X.w H' h') (hg:AllBare g')
  (hch:∀ b∈ch,(b∈X.ex\/X.s₀.heap.objs.size<=b)/\b≠X.env.locals/\(∀ x c,X.env.cells.lookup x=some c->c≠b)/\∀ p∈X.pn++pins,p.1≠b) :
  Inv X pins σ H' { s with heap:=h',gens:=g',drawn:=d',toks:=t' }:=by
 obtain ⟨m,⟨o,es,ep,ho,r⟩,_⟩:=id I.loc
 obtain ⟨sl,hL⟩:=u.any ho I.free fun z=>(hch _ z).2.1 rfl
 exact I.step (ch:=ch) hch (fun b o hL hb hc e n=>u.keep b o e n (fun z=>(List.mem_cons.mp (I.stkSub b z)).elim hL hb) hc) (fun b o _ _ hc e n=>u.any e n hc) (fun b o hc e n=>u.free b o e n hc) (fun b o hc e=>u.there b o e hc) u.tups u.frzs u.tbls (fun m' hm=>by
  obtain ⟨o',es',ep',ho',r'⟩:=hm
  rw [ho] at ho';cases ho'
  exact ⟨_,es',ep',hL,r'⟩) hok hg
theorem Inv.turned {t':Nat} {it:Addr} (I:Inv X pins σ H s) (k:∀ b o,b≠it->s.heap.get? b=some o->h'.get? b=some o) (hn:H it=none) (hL:it≠X.env.locals)
  (h1:it∈X.ex\/X.s₀.heap.objs.size<=it) (h2:∀ x c,X.env.cells.lookup x=some c->c≠it) (h3:∀ p∈X.pn++pins,p.1≠it):Inv X pins σ H { s with heap:=h',toks:=t' }:=by
 have nit:∀ b u,H b=some u->b≠it:=fun b u e z=>by rw [z,hn] at e;cases e
 refine I.step (g' := s.gens) (d' := s.drawn) (ch:=[it]) (fun b hb=>?_) (fun b o _ _ hc e _=>k b o (fun z=>hc (by simp [z])) e) (fun b o _ _ hc e _=>⟨o.slots,k b o (fun z=>hc (by simp [z])) e⟩) (fun _ _ _ _ n=>n)
  (fun b o hc e=>⟨o,k b o (fun z=>hc (by simp [z])) e⟩) (fun _ _ e=>e) (fun _ _ _ e=>e) (fun b ps e=>⟨#[],by rw [e];simp⟩) (fun m hm=>?_) (fun b u e=>?_) I.bare
 ·have e:b=it:=by simpa using hb
  subst e
  exact ⟨h1,hL,h2,h3⟩
 ·obtain ⟨o,es,ep,ho,r⟩:=hm
  exact ⟨o,es,ep,k _ o (Ne.symm hL) ho,r⟩
 ·refine (I.hok b u e).stay (fun c v hc q=>k c v ?_ q) (fun _ q=>q) fun _ _ q=>q
  rcases hc with z | z
  ·rw [z];exact nit b u e
  ·exact nit c _ z
theorem Inv.tok (I:Inv X pins σ H s) (t:Nat):Inv X pins σ H { s with toks:=t }:=I.un (h' := s.heap) (t' := t) Un.refl I.hok
theorem Inv.kept {t':Nat} (I:Inv X pins σ H s) (k:∀ b u,s.heap.get? b=some u->h'.get? b=some u):Inv X pins σ H { s with heap:=h',toks:=t' }:=I.un (Un.kept k) (I.hok.kept k)
theorem Inv.laid {a:Addr} {o:HO} {t':Nat} (I:Inv X pins σ H s) (k:∀ b u,s.heap.get? b=some u->h'.get? b=some u) (hp:s.heap.objs.size<=a) (new:ObjOk X.prog X.w (upd H a o) h' a o) :
  Inv X pins σ (upd H a o) { s with heap:=h',toks:=t' }:=I.un (Un.laid k hp (I.hok.fresh hp)) (I.hok.laid k hp new)
theorem Inv.write {x e:Addr} {o:HO} {t':Nat} (I:Inv X pins σ H s) (mu:Mut (H x)) (he:e=x\/H e=some (.own x)) (k:∀ b u,b≠e->s.heap.get? b=some u->h'.get? b=some u) (heo:∃ u,h'.get? e=some u)
  (new:ObjOk X.prog X.w (upd H x o) h' x o):Inv X pins σ (upd H x o) { s with heap:=h',toks:=t' }:=I.un (Un.write mu he k heo) (I.hok.write mu he k heo new)
theorem Inv.weak {σ':List (Option V)} (I:Inv X pins σ H s) (hl:σ'.length=σ.length) (w:∀ (i:Nat) v,σ'[i]? = some (some v)->σ[i]? = some (some v)):Inv X pins σ' H s :=
 ⟨I.ok,I.os,I.bare,I.base,let ⟨m,hn,hl'⟩:=I.loc;⟨m,hn,fun i x v e1 e2 e3=>hl' i x v e1 (w i v e2) e3⟩,I.cell,I.free,I.freeC,I.pin,I.hok,hl.trans I.len⟩
theorem Inv.pins_of {pins':List (Addr×Obj)} (I:Inv X pins σ H s) (h:∀ p∈pins',s.heap.get? p.1=some p.2/\H p.1=none/\p.1≠X.env.locals/\p.1∉X.fs/\∀ v,p.2.data ≠ .cell v):Inv X pins' σ H s :=
 ⟨I.ok,I.os,I.bare,I.base,I.loc,I.cell,I.free,I.freeC,fun p hp=>(List.mem_append.mp hp).elim (fun z=>I.pin p (List.mem_append_left _ z)) (h p),I.hok,I.len⟩
theorem zc4 {N:List Str} (hN:N.Nodup) {i j:Nat} {x:Str} (a:N[i]? = some x) (b:N[j]? = some x):i=j:=by
 obtain ⟨h1,e1⟩:=List.getElem?_eq_some_iff.mp a
 obtain ⟨h2,e2⟩:=List.getElem?_eq_some_iff.mp b
 exact (List.getElem_inj hN).mp (e1.trans e2.symm)
theorem zd5 {M:Model} {A:Around} {E:Value->Shared->Prop} {i:Nat} {x:Str} {v:V} {u:Value} {Q:Unit->Shared->Prop} (I:Inv X pins σ H s) (hN:X.N.Nodup) (hi:X.N[i]? = some x) (hx:Loc X.env.scope x) (r:RelV v u)
  (h:∀ s',Inv X pins (σ.set i (some v)) H s'->(∃ a,Heap.SameBut a s.heap s'.heap/\(a=X.env.locals\/X.env.cells.lookup x=some a))->Q () s') (hf:X.fn x=true\/X.env.scope.names.lookup x=some .local:=by first | exact .inl rfl | exact .inr rfl | assumption):wpAny M A (storeName X.env x u) Q E s:=by
 obtain ⟨m,hn,hl⟩:=id I.loc
 have hcls:(X.env.scope.kind == .class || (X.env.scope.kind == .module && X.env.locals != X.env.globals))=false:=by rw [I.ok.kind];rfl
 have hiσ:i<σ.length:=by rw [I.len];exact (List.getElem?_eq_some_iff.mp hi).1
 have cne:=I.cne
 have tracked:∀ {a:Addr} {h':Heap},(∃ o,s.heap.get? a=some o/\H a=none)->Heap.SameBut a s.heap h'->HOk X.prog X.w H h' := fun {a h'} ha hs b ob e=>by
  obtain ⟨_,_,hfree⟩:=ha
  refine (I.hok b ob e).stay (fun c w' hc q=>(hs.2 c ?_).trans q) (fun _ q=>q) fun _ _ q=>q
  rintro rfl
  rcases hc with rfl | hc
  ·rw [hfree] at e;cases e
  ·rw [hfree] at hc;cases hc
 rcases hx with hk | hk
 ·refine wpAny_storeName_local hk hn (fun h' hn' hs=>?_) hcls
  obtain ⟨oL,_,_,hoL,_⟩:=id hn
  refine h _ ⟨I.ok,I.os,I.bare,⟨fun b o e n hb hx=>?_,fun b o e n hb hx=>?_,I.base.free,fun b o e hx=>?_,I.base.tups,I.base.frzs,I.base.tbls⟩,⟨_,hn',fun j y v' e1 e2 e3=>?_⟩,fun y c e=>?_,I.free,I.freeC,fun p hp=>?_,tracked ⟨oL,hoL,I.free⟩ hs,by simpa using I.len⟩ ⟨_,hs,.inl rfl⟩
  ·exact (hs.2 b (Nat.ne_of_lt (Nat.lt_of_lt_of_le (Heap.lt_size e) I.ok.above))).trans (I.base.keep b o e n hb hx)
  ·obtain ⟨sl,e1⟩:=I.base.slot b o e n hb hx
   exact ⟨sl,(hs.2 b (Nat.ne_of_lt (Nat.lt_of_lt_of_le (Heap.lt_size e) I.ok.above))).trans e1⟩
  ·obtain ⟨o',e1⟩:=I.base.there b o e hx
   exact ⟨o',(hs.2 b (Nat.ne_of_lt (Nat.lt_of_lt_of_le (Heap.lt_size e) I.ok.above))).trans e1⟩
  ·by_cases hj:j=i
   ·subst hj
    rw [hi] at e1;cases e1
    rw [List.getElem?_set_self hiσ] at e2
    cases e2
    exact ⟨u,r,.inl ⟨hk,by simp⟩⟩
   ·rw [List.getElem?_set_ne (Ne.symm hj)] at e2
    obtain ⟨u',r',q⟩:=hl j y v' e1 e2 e3
    refine ⟨u',r',?_⟩
    rcases q with ⟨k,e⟩ | ⟨k,c,e,z⟩
    ·refine .inl ⟨k,?_⟩
     have:y≠x:=fun e=>hj (zc4 hN e1 (e▸hi))
     simp [this,e]
    ·exact .inr ⟨k,c,e,z.sameBut hs (cne y c e)⟩
  ·obtain ⟨w',z⟩:=I.cell y c e
   exact ⟨w',z.sameBut hs (cne y c e)⟩
  ·obtain ⟨e,n,ne,nf,d⟩:=I.pin p hp
   exact ⟨(hs.2 p.1 ne).trans e,n,ne,nf,d⟩
 ·have hfn:X.fn x=true:=by
   rcases hf with z | z
   ·exact z
   ·rw [z] at hk;cases hk
  obtain ⟨c,hc⟩:=I.ok.has x (.inl hk)
  obtain ⟨w',z⟩:=I.cell x c hc
  refine wpAny_storeName_cell I.ok.kind hk hc z (fun h' hc' hs=>?_)
  obtain ⟨oc,hoc,hocd⟩:=id z
  refine h { s with heap:=h' } ⟨I.ok,I.os,I.bare,⟨fun b o e n hb hx=>?_,fun b o e n hb hx=>?_,I.base.free,fun b o e hx=>?_,I.base.tups,I.base.frzs,I.base.tbls⟩,⟨m,hn.sameBut hs (Ne.symm (cne x c hc)),fun j y v' e1 e2 e3=>?_⟩,fun y c' e=>?_,I.free,I.freeC,fun p hp=>?_,tracked ⟨oc,hoc,I.freeC x c hc⟩ hs,by simpa using I.len⟩ ⟨c,hs,.inr hc⟩
  ·exact (hs.2 b (Nat.ne_of_lt (Nat.lt_of_lt_of_le (Heap.lt_size e) (I.ok.cab x c hfn hc)))).trans (I.base.keep b o e n hb hx)
  ·obtain ⟨sl,e1⟩:=I.base.slot b o e n hb hx
   exact ⟨sl,(hs.2 b (Nat.ne_of_lt (Nat.lt_of_lt_of_le (Heap.lt_size e) (I.ok.cab x c hfn hc)))).trans e1⟩
  ·obtain ⟨o',e1⟩:=I.base.there b o e hx
   exact ⟨o',(hs.2 b (Nat.ne_of_lt (Nat.lt_of_lt_of_le (Heap.lt_size e) (I.ok.cab x c hfn hc)))).trans e1⟩
  ·by_cases hj:j=i
   ·subst hj
    rw [hi] at e1;cases e1
    rw [List.getElem?_set_self hiσ] at e2
    cases e2
    exact ⟨u,r,.inr ⟨.inl hk,c,hc,hc'⟩⟩
   ·rw [List.getElem?_set_ne (Ne.symm hj)] at e2
    obtain ⟨u',r',q⟩:=hl j y v' e1 e2 e3
    refine ⟨u',r',?_⟩
    rcases q with q | ⟨k,c',e,z'⟩
    ·exact .inl q
    ·refine .inr ⟨k,c',e,z'.sameBut hs ?_⟩
     rintro rfl
     exact hj (zc4 hN e1 (I.ok.inj _ _ _ e hc▸hi))
  ·by_cases hcc:c'=c
   ·subst hcc;exact ⟨_,hc'⟩
   ·obtain ⟨w2,z2⟩:=I.cell y c' e
    exact ⟨w2,z2.sameBut hs hcc⟩
  ·obtain ⟨e,n,ne,nf,d⟩:=I.pin p hp
   refine ⟨(hs.2 p.1 ?_).trans e,n,ne,nf,d⟩
   intro q
   rw [q,hoc] at e
   have q':oc=p.2:=Option.some.inj e
   exact d w' (by rw [<- q'];exact hocd)
theorem zc5 {M:Model} {A:Around} {E:Value->Shared->Prop} {i:Nat} {x:Str} {v:V} {u:Value} {Q:Unit->Shared->Prop} (I:Inv X pins σ H s) (hN:X.N.Nodup) (hi:X.N[i]? = some x) (hx:Loc X.env.scope x) (r:RelV v u)
  (h:∀ s',Inv X pins (σ.set i (some v)) H s'->Q () s') (hf:X.fn x=true\/X.env.scope.names.lookup x=some .local:=by first | exact .inl rfl | exact .inr rfl | assumption):wpAny M A (storeName X.env x u) Q E s :=
 zd5 I hN hi hx r (fun s' I' _=>h s' I') hf
theorem Inv.call' {s':Shared} {ch:List Addr} (I:Inv X pins σ H s) (ho:s'.os=s.os) (u:Un (frs X.stack) ch H H' s.heap s'.heap) (hok:HOk X.prog X.w H' s'.heap) (hg:AllBare s'.gens)
  (hch:∀ b∈ch,(b∈X.ex\/X.s₀.heap.objs.size<=b)/\b≠X.env.locals/\(∀ x c,X.env.cells.lookup x=some c->c≠b)/\∀ p∈X.pn++pins,p.1≠b):Inv X pins σ H' s' := by
 obtain ⟨h',g',d',t',o'⟩:=s'
 have e:o'=s.os:=ho
 subst e
 exact I.call (g' := g') (t' := t') (d' := d') u hok hg hch
end
abbrev XK:=Value->Option Addr->Hp->Prop
abbrev St:=List (Option V)
abbrev VK:=V->Hp->Prop
abbrev TE:=St->Hp->VK->Prop
abbrev TT:=St->Hp->(Bool->Hp->Prop)->Prop
abbrev TA:=St->Hp->(List V->Hp->Prop)->Prop
structure Ends where
 nx:St->Hp->Prop
 rt:VK
 bk:St->Hp->Prop:=fun _ _=>False
 ct:St->Hp->Prop:=fun _ _=>False
abbrev TS:=Ends->St->Hp->Prop
def EP (X:Cx) (pins:List (Addr×Obj)) (σ:St) (Q:VK) (u:Value) (s':Shared):Prop:=∃ v H',Inv X pins σ H' s'/\RelV v u/\Q v H'
def TP (X:Cx) (pins:List (Addr×Obj)) (σ:St) (Q:Bool->Hp->Prop) (b:Bool) (s':Shared):Prop:=∃ H',Inv X pins σ H' s'/\Q b H'
def AP (X:Cx) (pins:List (Addr×Obj)) (σ:St) (Q:List V->Hp->Prop) (us:List Value) (s':Shared):Prop:=∃ vs H',Inv X pins σ H' s'/\Vals vs us/\Q vs H'
def SP (X:Cx) (pins:List (Addr×Obj)) (D:Ends) (f:Flow) (s':Shared):Prop :=
 match f with
 | .next=>∃ σ' H',Inv X pins σ' H' s'/\D.nx σ' H'
 | .brk=>∃ σ' H',Inv X pins σ' H' s'/\D.bk σ' H'
 | .cont=>∃ σ' H',Inv X pins σ' H' s'/\D.ct σ' H'
 | .ret u=>∃ v σ' H',Inv X pins σ' H' s'/\RelV v u/\D.rt v H'
def PE (X:Cx) (e:Expr) (t:TE):Prop :=
 ∀ (pins:List (Addr×Obj)) (s:Shared) (σ:St) (H:Hp) (Q:VK),Inv X pins σ H s->t σ H Q->wpAny (model X.prog X.w) X.A (eval e X.env) (EP X pins σ Q) X.xe s
def PT (X:Cx) (e:Expr) (t:TT):Prop :=
 ∀ (pins:List (Addr×Obj)) (s:Shared) (σ:St) (H:Hp) (Q:Bool->Hp->Prop),Inv X pins σ H s->t σ H Q->wpAny (model X.prog X.w) X.A (isTrue e X.env (eval e X.env)) (TP X pins σ Q) X.xe s
def PW (X:Cx) (e:Expr) (t:TT):Prop :=
 ∀ (whole:Sem Value) (pins:List (Addr×Obj)) (s:Shared) (σ:St) (H:Hp) (Q:Bool->Hp->Prop),Inv X pins σ H s->t σ H Q->wpAny (model X.prog X.w) X.A (isTrue e X.env whole) (TP X pins σ Q) X.xe s
theorem PW.pt {X:Cx} {e:Expr} {t:TT} (h:PW X e t):PT X e t:=h _
def PA (X:Cx) (es:List Expr) (t:TA):Prop :=
 ∀ (pos:Pos) (pins:List (Addr×Obj)) (s:Shared) (σ:St) (H:Hp) (Q:List V->Hp->Prop),Inv X pins σ H s->t σ H Q->wpAny (model X.prog X.w) X.A (spliced (backTo pos (starEach es X.env))) (AP X pins σ Q) X.xe s
def PS (X:Cx) (st:Stmt) (t:TS):Prop :=
 ∀ (pins:List (Addr×Obj)) (s:Shared) (σ:St) (H:Hp) (D:Ends),Inv X pins σ H s->t D σ H->wpAny (model X.prog X.w) X.A (exec st X.env) (SP X pins D) X.xe s
def PSs (X:Cx) (st:List Stmt) (t:TS):Prop :=
 ∀ (pins:List (Addr×Obj)) (s:Shared) (σ:St) (H:Hp) (D:Ends),Inv X pins σ H s->t D σ H->wpAny (model X.prog X.w) X.A (execs st X.env) (SP X pins D) X.xe s
theorem thn {α:Type} {t:Sem α} {Q Q':α->Shared->Prop} {M:Model} {A:Around} {E:Value->Shared->Prop} {s:Shared} (h:wpAny M A t Q E s) (hQ:∀ a s,Q a s->Q' a s):wpAny M A t Q' E s:=wpAny_mono h hQ fun _ _ x=>x
end L2
namespace L2
open PySem PySem.Spec PyProof.Rows
section
variable {X:Cx}
theorem bin {a b:Expr} {ta tb:TE} (ha:PE X a ta) (hb:PE X b tb) {pins:List (Addr×Obj)} {s:Shared} {σ:St} {H:Hp} {R:V->V->Hp->Prop} (I:Inv X pins σ H s) (h:ta σ H fun x H1=>tb σ H1 fun y H2=>R x y H2)
  {α:Type} {Q:α->Shared->Prop} {f:Value->Value->Sem α}
  (hf:∀ v u s2 x y H2,Inv X pins σ H2 s2->RelV x v->RelV y u->R x y H2->wpAny (model X.prog X.w) X.A (f v u) Q X.xe s2) :
  wpAny (model X.prog X.w) X.A (eval a X.env) (fun v s₁=>wpAny (model X.prog X.w) X.A (eval b X.env) (fun u s₂=>wpAny (model X.prog X.w) X.A (f v u) Q X.xe s₂) X.xe s₁) X.xe s:=by
 refine thn (ha pins s σ H _ I h) fun v s1 ⟨x,H1,I1,r1,q1⟩=>?_
 refine thn (hb pins s1 σ H1 _ I1 q1) fun u s2 ⟨y,H2,I2,r2,q2⟩=>?_
 exact hf v u s2 x y H2 I2 r1 r2 q2
def tVar (i:Nat):TE:=fun σ H Q=>∃ v,σ[i]? = some (some v)/\Q v H
def tC (v:V):TE:=fun _ H Q=>Q v H
theorem ygd {i:Nat} {x:Str} {pos:Pos} (hN:X.N[i]? = some x) (hv:Vis X.env.scope x) (hd:(x == ("__debug__" : Str))=false:=by decide) (hcd:(x == ("__classdict__" : Str))=false:=by decide):PE X (.Name x pos) (tVar i):=by
 intro pins s σ H Q I h
 obtain ⟨v,e,h⟩:=h
 obtain ⟨m,hn,hl⟩:=I.loc
 obtain ⟨u,r,l⟩:=hl i x v hN e hv
 have fin:EP X pins σ Q u s:=⟨v,H,I,r,h⟩
 rcases l with ⟨hk,hm⟩ | ⟨hk,c,hc,hcell⟩
 ·exact wpAny_Name (wpAny_loadName_local I.ok.kind hk hn hm fin) hd
 ·rcases hk with hk | hk
  ·exact wpAny_Name (wpAny_loadName_cell I.ok.kind hk hc hcell fin) hd
  ·exact wpAny_Name (wpAny_loadName_free I.ok.kind hk hc hcell fin hcd) hd
theorem yge {i j pos}:PE X (.Constant (.int i) j pos) (tC (.int i)):=fun _ _ _ H _ I h=>wpAny_Constant_int ⟨.int i,H,I.tok _,⟨_,rfl⟩,h⟩
theorem yhu {b j pos}:PE X (.Constant (.bool b) j pos) (tC (.bl b)):=fun _ _ _ H _ I h=>Constant_bool ⟨.bl b,H,I,rfl,h⟩
theorem ygf {x j pos}:PE X (.Constant (.str x) j pos) (tC (.str x)):=fun _ _ _ H _ I h=>Calls.Constant_str ⟨.str x,H,I.tok _,⟨_,rfl⟩,h⟩
def Gl (X:Cx) (x:Str):Prop:=X.env.kindOf x=some .globalImplicit
theorem zbV {E:Value->Shared->Prop} {pins:List (Addr×Obj)} {s:Shared} {σ:St} {H:Hp} {x:Str} {u:Value} {pos:Pos} {Q:Value->Shared->Prop} (I:Inv X pins σ H s) (hg:Gl X x) (hm:X.mg x=some u) (h:Q u s)
  (hd:(x == ("__debug__" : Str))=false:=by decide):wpAny (model X.prog X.w) X.A (eval (.Name x pos) X.env) Q E s :=
 Calls.Name_function_global I.ok.kind hg (Calls.loadGlobal_global (by rw [I.ok.glob];exact I.mod.glob.keeps I.bk) hm h) hd
theorem yeq {E:Value->Shared->Prop} {pins:List (Addr×Obj)} {s:Shared} {σ:St} {H:Hp} {x:Str} {u:Value} {pos:Pos} {Q:Value->Shared->Prop} (I:Inv X pins σ H s) (hg:Gl X x) (hm:X.mg x=none) (hv:bootBuiltins x=some u) (h:Q u s)
  (hn:x ≠ "__name__" := by decide) (hd:(x == ("__debug__" : Str))=false:=by decide):wpAny (model X.prog X.w) X.A (eval (.Name x pos) X.env) Q E s:=by
 obtain ⟨mb,h1,h2⟩:=I.mod.blt
 exact Calls.Name_function_global I.ok.kind hg (Calls.loadGlobal_builtin (by rw [I.ok.glob];exact I.mod.glob.keeps I.bk) hm (by rw [I.ok.blt];exact h1.keeps I.bk) ((h2 x hn).trans hv) h) hd
theorem zit {x:Str} {v:V} {u:Value} {pos:Pos} (hg:Gl X x) (hm:X.mg x=some u) (r:RelV v u) (hd:(x == ("__debug__" : Str))=false:=by decide):PE X (.Name x pos) (tC v) :=
 fun _ _ _ H _ I h=>zbV I hg hm ⟨v,H,I,r,h⟩ hd
theorem ziu {x:Str} {v:V} {u:Value} {pos:Pos} (hg:Gl X x) (hm:X.mg x=none) (hv:bootBuiltins x=some u) (r:RelV v u) (hn:x ≠ "__name__" := by decide) (hd:(x == ("__debug__" : Str))=false:=by decide):PE X (.Name x pos) (tC v) :=
 fun _ _ _ H _ I h=>yeq I hg hm hv ⟨v,H,I,r,h⟩ hn hd
variable {a b:Expr} {ta tb:TE} {pos:Pos}
variable {tA tB':TT} {rest:List Expr}
def tOr (t u:TT):TT:=fun σ H Q=>t σ H fun c H1=>if c=true then Q true H1 else u σ H1 Q
def tNot (t:TT):TT:=fun σ H Q=>t σ H fun c H1=>Q (!c) H1
theorem ygg (ha:PT X a tA):PW X (.BoolOp .Or [a] pos) tA:=by
 intro wh pins s σ H Q I h
 refine isTrue_or (thn (ha pins s σ H Q I h) fun c s1 e=>?_)
 cases c with
 | false=>exact isTrue_or_nil e
 | true=>exact e
theorem yhv (ha:PT X a tA) (hb:PW X (.BoolOp .Or (b::rest) pos) tB'):PW X (.BoolOp .Or (a::b::rest) pos) (tOr tA tB'):=by
 intro wh pins s σ H Q I h
 refine isTrue_or (thn (ha pins s σ H _ I h) fun c s1 ⟨H1,I1,q1⟩=>?_)
 cases c with
 | true=>exact ⟨H1,I1,q1⟩
 | false=>exact hb wh pins s1 σ H1 Q I1 q1
theorem ygh (ha:PT X a tA):PT X (.UnaryOp .Not a pos) (tNot tA):=by
 intro pins s σ H Q I h
 exact isTrue_not (ha pins s σ H (fun c H1=>Q (!c) H1) I h)
def yhw (ta tb:TE):TE:=fun σ H Q=>ta σ H fun x H1=>∃ c,x = .bl c/\if c=true then tb σ H1 Q else Q (.bl false) H1
def tOrV (ta tb:TE):TE:=fun σ H Q=>ta σ H fun x H1=>∃ c,x = .bl c/\if c=true then Q (.bl true) H1 else tb σ H1 Q
def yhx (ta:TE):TE:=fun σ H Q=>ta σ H fun x H1=>∃ c,x = .bl c/\Q (.bl (!c)) H1
theorem ygi {op} {t:TE} (h:PE X a t):PE X (.BoolOp op [a] pos) t:=fun pins s σ H Q I hw=>BoolOp_one (h pins s σ H Q I hw)
theorem ygj (ha:PE X a ta) (hb:PE X (.BoolOp .And (b::rest) pos) tb):PE X (.BoolOp .And (a::b::rest) pos) (yhw ta tb):=by
 intro pins s σ H Q I h
 refine BoolOp_and (thn (ha pins s σ H _ I h) fun v s1 ⟨x,H1,I1,r1,q1⟩=>?_)
 obtain ⟨c,rfl,q1⟩:=q1
 cases r1
 refine wpAny_truthy_bool ?_
 cases c with
 | true=>exact hb pins s1 σ H1 Q I1 q1
 | false=>exact ⟨.bl false,H1,I1,rfl,q1⟩
theorem yhy (ha:PE X a ta) (hb:PE X (.BoolOp .Or (b::rest) pos) tb):PE X (.BoolOp .Or (a::b::rest) pos) (tOrV ta tb):=by
 intro pins s σ H Q I h
 refine BoolOp_or (thn (ha pins s σ H _ I h) fun v s1 ⟨x,H1,I1,r1,q1⟩=>?_)
 obtain ⟨c,rfl,q1⟩:=q1
 cases r1
 refine wpAny_truthy_bool ?_
 cases c with
 | false=>exact hb pins s1 σ H1 Q I1 q1
 | true=>exact ⟨.bl true,H1,I1,rfl,q1⟩
theorem ygk (ha:PE X a ta):PE X (.UnaryOp .Not a pos) (yhx ta):=by
 intro pins s σ H Q I h
 refine UnaryOp_ (thn (ha pins s σ H _ I h) fun v s1 ⟨x,H1,I1,r1,q1⟩=>?_)
 obtain ⟨c,rfl,q1⟩:=q1
 cases r1
 exact not_of (wpAny_truthy_bool ⟨.bl (!c),H1,I1,rfl,q1⟩)
end
end L2
namespace L2
open PySem PySem.Spec PyProof.Rows
def SqL (K:PySem.W.Frag) (H:Hp) (a:Addr) (xs:List V):Prop :=
 Rd H a (.lst xs) \/
  ∃ (o:Obj) (its:Array Value) (n:Nat),K.lookup a=some o/\o.cls = .type "list" /\ o.dict=none/\o.data = .seq its n/\its.size<=sizeLine/\Vals xs its.toList
def SqT (K:PySem.W.Frag) (H:Hp) (a:Addr) (xs:List V):Prop :=
 Rd H a (.tup xs) \/
  ∃ (o:Obj) (its:Array Value) (n:Nat),K.lookup a=some o/\o.cls = .type "tuple" /\ o.data = .seq its n/\its.size<=sizeLine/\Vals xs its.toList
def absV:Value->Option V
 | .none=>some .non
 | .bool b=>some (.bl b)
 | .int i _=>some (.int i)
 | .str x _=>some (.str x)
 | .bytes b _=>some (.byt b)
 | .float b _=>some (.flt b)
 | .ref a=>some (.ref a)
 | .type n=>some (.ty n)
 | _=>none
theorem RelV.abs {x:V} {u:Value} (r:RelV x u):absV u=some x:=by
 cases x with
 | non=>cases r;rfl
 | bl _=>cases r;rfl
 | int _=>obtain ⟨t,rfl⟩:=r;rfl
 | str _=>obtain ⟨t,rfl⟩:=r;rfl
 | byt _=>obtain ⟨t,rfl⟩:=r;rfl
 | flt _=>obtain ⟨t,rfl⟩:=r;rfl
 | ref _=>cases r;rfl
 | ty _=>cases r;rfl
theorem RelV.inj {x y:V} {u:Value} (r:RelV x u) (q:RelV y u):x=y:=Option.some.inj (r.abs.symm.trans q.abs)
theorem Vals.inj:∀ {xs ys:List V} {us:List Value},Vals xs us->Vals ys us->xs=ys
 | _,_,_,.nil,.nil=>rfl
 | _,_,_,.cons r t,.cons r' t' => by rw [r.inj r',Vals.inj t t']
section
variable {X:Cx} {pins:List (Addr×Obj)} {σ:St} {H:Hp} {s:Shared} {a:Addr} {xs ys:List V}
theorem SqL.of {K:PySem.W.Frag} (h:H a=some (.lst xs)):SqL K H a xs:=.inl (.inl h)
theorem SqT.of {K:PySem.W.Frag} (h:H a=some (.tup xs)):SqT K H a xs:=.inl (.inl h)
theorem Inv.list (I:Inv X pins σ H s) (h:SqL X.K H a xs):∃ its:List Value,Vals xs its/\PlainL s.heap a its.toArray/\xs.length<=sizeLine:=by
 rcases h with h | ⟨o,its,n,hk,hc,hd,hs,hz,r⟩
 ·obtain ⟨z,its,n,r,e⟩:=h.ok I.hok
  exact ⟨its,r,⟨_,n,e,rfl,rfl,rfl⟩,z⟩
 ·refine ⟨its.toList,r,⟨o,n,I.kIn a o hk,hc,hd,by simpa using hs⟩,?_⟩
  have e:=r.length
  simp only [Array.length_toList] at e
  omega
theorem Inv.tuple (I:Inv X pins σ H s) (h:SqT X.K H a xs):∃ its:List Value,Vals xs its/\IsTup s.heap a its.toArray/\xs.length<=sizeLine:=by
 rcases h with h | ⟨o,its,n,hk,hc,hs,hz,r⟩
 ·obtain ⟨z,its,r,p⟩:=h.ok I.hok
  exact ⟨its,r,p,z⟩
 ·refine ⟨its.toList,r,⟨o,I.kIn a o hk,hc,n,by simpa using hs⟩,?_⟩
  have e:=r.length
  simp only [Array.length_toList] at e
  omega
theorem Inv.list_inj (I:Inv X pins σ H s) (h:SqL X.K H a xs) (h':SqL X.K H a ys):xs=ys:=by
 obtain ⟨its,r,⟨o,n,e,_,_,d⟩,_⟩:=I.list h
 obtain ⟨its',r',⟨o',n',e',_,_,d'⟩,_⟩:=I.list h'
 rw [e] at e';cases e'
 rw [d] at d'
 injection d' with d1 _
 have:its=its' := by simpa using congrArg Array.toList d1
 subst this
 exact r.inj r'
theorem Inv.tuple_inj (I:Inv X pins σ H s) (h:SqT X.K H a xs) (h':SqT X.K H a ys):xs=ys:=by
 obtain ⟨its,r,⟨o,e,_,n,d⟩,_⟩:=I.tuple h
 obtain ⟨its',r',⟨o',e',_,n',d'⟩,_⟩:=I.tuple h'
 rw [e] at e';cases e'
 rw [d] at d'
 injection d' with d1 _
 have:its=its' := by simpa using congrArg Array.toList d1
 subst this
 exact r.inj r'
end
abbrev Cx.wish (X:Cx) (E:Value->Shared->Prop):Cx:={ X with xe:=E }
abbrev Cx.nox (X:Cx):Cx:=X.wish fun _ _=>False
theorem Cx.Ok.wish {X:Cx} (ok:X.Ok) (E:Value->Shared->Prop):(X.wish E).Ok :=
 ⟨ok.mod,ok.kind,ok.glob,ok.blt,ok.above,ok.inj,ok.has,ok.cab,ok.hd,ok.frames,ok.stk,ok.exf,ok.bs,ok.bsz,ok.noex,ok.exfs,ok.funs,ok.frf⟩
theorem Cx.Ok.unwish {X:Cx} {E:Value->Shared->Prop} (ok:(X.wish E).Ok):X.Ok :=
 ⟨ok.mod,ok.kind,ok.glob,ok.blt,ok.above,ok.inj,ok.has,ok.cab,ok.hd,ok.frames,ok.stk,ok.exf,ok.bs,ok.bsz,ok.noex,ok.exfs,ok.funs,ok.frf⟩
section
variable {X:Cx} {pins:List (Addr×Obj)} {σ:St} {H:Hp} {s:Shared} {E:Value->Shared->Prop}
theorem Inv.wish (I:Inv X pins σ H s) (E:Value->Shared->Prop):Inv (X.wish E) pins σ H s:=⟨I.ok.wish E,I.os,I.bare,I.base,I.loc,I.cell,I.free,I.freeC,I.pin,I.hok,I.len⟩
theorem Inv.unwish (I:Inv (X.wish E) pins σ H s):Inv X pins σ H s:=⟨I.ok.unwish,I.os,I.bare,I.base,I.loc,I.cell,I.free,I.freeC,I.pin,I.hok,I.len⟩
theorem SP.unwish {D:Ends} {f:Flow} {s':Shared} (h:SP (X.wish E) pins D f s'):SP X pins D f s' := by
 cases f with
 | next=>obtain ⟨σ',H',I,q⟩:=h;exact ⟨σ',H',I.unwish,q⟩
 | brk=>obtain ⟨σ',H',I,q⟩:=h;exact ⟨σ',H',I.unwish,q⟩
 | cont=>obtain ⟨σ',H',I,q⟩:=h;exact ⟨σ',H',I.unwish,q⟩
 | ret u=>obtain ⟨v,σ',H',I,r,q⟩:=h;exact ⟨v,σ',H',I.unwish,r,q⟩
end
section
variable {X:Cx} {st:Stmt} {rest:List Stmt} {t u:TS} {e:Expr} {te:TE} {pos:Pos}
def yhz:TS:=fun D σ H=>D.nx σ H
def tSeq (t u:TS):TS:=fun D σ H=>t { D with nx:=u D } σ H
theorem ziv:PSs X [] yhz:=fun _ _ σ H _ I h=>wpAny_execs_nil ⟨σ,H,I,h⟩
theorem zhv (h1:PS X st t) (h2:PSs X rest u):PSs X (st::rest) (tSeq t u):=by
 intro pins s σ H D I h
 refine wpAny_execs_cons (thn (h1 pins s σ H { D with nx:=u D } I h) fun f s1 q=>?_)
 cases f with
 | next =>
  obtain ⟨σ',H',I',q⟩:=q
  exact h2 pins s1 σ' H' D I' q
 | ret v=>exact q
 | brk=>exact q
 | cont=>exact q
theorem ziw (h1:PS X st t):PSs X [st] t:=by
 intro pins s σ H D I h
 refine wpAny_execs_cons (thn (h1 pins s σ H D I h) fun f s1 q=>?_)
 cases f with
 | next=>exact wpAny_execs_nil q
 | ret v=>exact q
 | brk=>exact q
 | cont=>exact q
def yhA:TS:=fun D σ H=>D.ct σ H
theorem ze8:PS X (.Continue pos) yhA:=fun _ _ σ H _ I h=>wpAny_Continue ⟨σ,H,I,h⟩
theorem Inv.quiet {pins:List (Addr×Obj)} {σ:St} {H:Hp} {s:Shared} (I:Inv X pins σ H s):interactive X.env=false:=by simp [interactive,I.ok.kind]
def yhB (te:TE):TS:=fun D σ H=>te σ H fun _ H1=>D.nx σ H1
theorem zix (he:PE X e te) (hs:swapsWith e none pos.line X.env=pure false:=by rfl):PS X (.Expr e pos) (yhB te):=by
 intro pins s σ H D I h
 exact wpAny_Expr_any (thn (he pins s σ H _ I h) fun v s1 ⟨x,H1,I1,r1,q1⟩=>⟨σ,H1,I1,q1⟩) I.quiet hs
def tRet (te:TE):TS:=fun D σ H=>te σ H D.rt
theorem ygl (he:PE X e te):PS X (.Return (some e) pos) (tRet te):=by
 intro pins s σ H D I h
 exact wpAny_Return_some (thn (he pins s σ H _ I h) fun v s1 ⟨x,H1,I1,r1,q1⟩=>⟨x,σ,H1,I1,r1,q1⟩)
def tIfS (c:TT) (t u:TS):TS:=fun D σ H=>c σ H fun b H1=>if b=true then t D σ H1 else u D σ H1
theorem yhC {c:Expr} {a b:List Stmt} {tc:TT} (hc:PT X c tc) (ha:PSs X a t) (hb:PSs X b u):PS X (.If c a b pos) (tIfS tc t u):=by
 intro pins s σ H D I h
 refine wpAny_If (thn (hc pins s σ H _ I h) fun d s1 ⟨H1,I1,q1⟩=>?_)
 cases d with
 | true=>exact ha pins s1 σ H1 D I1 q1
 | false=>exact hb pins s1 σ H1 D I1 q1
end
abbrev TG:=V->St->Hp->(St->Hp->Prop)->Prop
abbrev TGs:=List V->St->Hp->(St->Hp->Prop)->Prop
def PG (X:Cx) (target:Expr) (t:TG):Prop :=
 ∀ (pins:List (Addr×Obj)) (s:Shared) (σ:St) (H:Hp) (v:V) (u:Value) (Q:St->Hp->Prop),Inv X pins σ H s->RelV v u->t v σ H Q ->
  wpAny (model X.prog X.w) X.A (assign target X.env u) (fun _ s' => ∃ σ' H',Inv X pins σ' H' s'/\Q σ' H') X.xe s
def PGs (X:Cx) (ts:List Expr) (t:TGs):Prop :=
 ∀ (pins:List (Addr×Obj)) (s:Shared) (σ:St) (H:Hp) (vs:List V) (us:List Value) (Q:St->Hp->Prop),Inv X pins σ H s->Vals vs us->t vs σ H Q ->
  wpAny (model X.prog X.w) X.A (assignInOrder ((assignEach ts X.env).map (·.2)) us) (fun _ s' => ∃ σ' H',Inv X pins σ' H' s'/\Q σ' H') X.xe s
abbrev TSet:=V->V->V->Hp->(Hp->Prop)->Prop
def PSet (X:Cx) (t:TSet):Prop :=
 ∀ (pins:List (Addr×Obj)) (s:Shared) (σ:St) (H:Hp) (o i v:V) (ov iv u:Value) (Q:Hp->Prop),Inv X pins σ H s->RelV o ov->RelV i iv->RelV v u->t o i v H Q ->
  wpAny (model X.prog X.w) X.A (setItem ov iv u) (fun _ s' => ∃ H',Inv X pins σ H' s'/\Q H') X.xe s
section
variable {X:Cx} {pos:Pos}
def yeg (i:Nat):TG:=fun v σ H Q=>Q (σ.set i (some v)) H
theorem zcI {i:Nat} {x:Str} (hN:X.N.Nodup) (hi:X.N[i]? = some x) (hx:Loc X.env.scope x) (hf:X.fn x=true\/X.env.scope.names.lookup x=some .local:=by first | exact .inl rfl | exact .inr rfl | assumption):PG X (.Name x pos) (yeg i):=by
 intro pins s σ H v u Q I r h
 exact wpAny_assign_Name (zc5 I hN hi hx r (fun s' I' => ⟨_,H,I',h⟩) hf)
def gNil:TGs:=fun vs σ H Q=>vs=[]/\Q σ H
def ye8 (t:TG) (u:TGs):TGs:=fun vs σ H Q=>∃ v r,vs=v::r/\t v σ H fun σ' H' => u r σ' H' Q
theorem zfq:PGs X [] gNil:=by
 intro pins s σ H vs us Q I r h
 obtain ⟨e,h⟩:=h
 subst e
 cases r
 exact assignInOrder_nil ⟨σ,H,I,h⟩
theorem zc6 {e:Expr} {es:List Expr} {t:TG} {u:TGs} (h1:PG X e t) (h2:PGs X es u)
  (hs:(assignEach (e::es) X.env).map (·.2)=assign e X.env::(assignEach es X.env).map (·.2):=by rfl):PGs X (e::es) (ye8 t u):=by
 intro pins s σ H vs us Q I r h
 obtain ⟨v,vr,e1,h⟩:=h
 subst e1
 cases r with
 | cons r rr =>
  rw [hs]
  refine assignInOrder_cons (thn (h1 pins s σ H _ _ _ I r h) fun _ s1 ⟨σ1,H1,I1,q1⟩=>?_)
  exact h2 pins s1 σ1 H1 _ _ Q I1 rr q1
def gTup (K:PySem.W.Frag) (n:Nat) (t:TGs):TG:=fun v σ H Q=>∃ a xs,v = .ref a/\SqT K H a xs/\xs.length=n/\t xs σ H Q
theorem yfn {es:List Expr} {k:Nat} {t:TGs} {n:Nat} (hc:X.calm=true) (h:PGs X es t)
  (hn:(assignEach es X.env).length=n:=by rfl) (hst:(assignEach es X.env).findIdx? (·.1)=none:=by rfl):PG X (.Tuple es k pos) (gTup X.K n t):=by
 intro pins s σ H v u Q I r hw
 obtain ⟨a,xs,e1,hq,hl,hw⟩:=hw
 subst e1
 cases r
 obtain ⟨its,rv,ht,hz⟩:=I.tuple hq
 refine assign_Tuple_tuple (I.ok.hd hc) ht (by simp [hn,<- hl,rv.length]) hst fun h' hx=>?_
 have I1:Inv X pins σ H { s with heap:=h' }:=I.kept (t' := s.toks) fun b o e=>hx b o (Nat.ne_of_lt (Heap.lt_size e)) e
 exact h pins _ σ H xs _ Q I1 (by simpa using rv) hw
def gSub (to ti:TE) (t:TSet):TG:=fun v σ H Q=>to σ H fun o H1=>ti σ H1 fun i H2=>t o i v H2 fun H3=>Q σ H3
theorem ygm {o i:Expr} {to ti:TE} {t:TSet} (ho:PE X o to) (hi:PE X i ti) (hs:PSet X t)
  (ha:∀ v,assign (.Subscript o i pos) X.env v=(do
   let ov <- holding [v] (eval o X.env)
   let iv <- holding [v,ov] (eval i X.env)
   standAt pos
   holding [v,ov,iv] (setItem ov iv v)
   release [v,ov,iv] []):=by intro _;rfl):PG X (.Subscript o i pos) (gSub to ti t):=by
 intro pins s σ H v u Q I r h
 rw [ha]
 refine wpAny_bind (wpAny_holding (thn (ho pins s σ H _ I h) fun ov s1 ⟨x,H1,I1,r1,q1⟩=>?_))
 refine wpAny_bind (wpAny_holding (thn (hi pins s1 σ H1 _ I1 q1) fun iv s2 ⟨y,H2,I2,r2,q2⟩=>?_))
 refine wpAny_bind (wpAny_standAt (wpAny_bind (wpAny_holding (thn (hs pins s2 σ H2 x y v ov iv u _ I2 r1 r2 r q2) fun _ s3 ⟨H3,I3,q3⟩=>?_))))
 exact wpAny_release ⟨σ,H3,I3,q3⟩
def tAsg (te:TE) (g:TG):TS:=fun D σ H=>te σ H fun x H1=>g x σ H1 D.nx
theorem ygn {tg e:Expr} {te:TE} {g:TG} (he:PE X e te) (hg:PG X tg g) (hs:swapsWithSole [tg] e pos.line X.env=pure false:=by rfl) (hw:swappedStores [tg] e X.env=pure none:=by rfl)
  (h1:(assignEach [tg] X.env).map (·.2)=[assign tg X.env]:=by rfl):PS X (.Assign [tg] e pos) (tAsg te g):=by
 intro pins s σ H D I h
 refine wpAny_Assign_stores (thn (he pins s σ H _ I h) fun v s1 ⟨x,H1,I1,r1,q1⟩=>?_) hs hw
 rw [h1]
 exact thn (hg pins s1 σ H1 x v _ I1 r1 q1) fun _ s2 q=>q
theorem ygo {i:Nat} {x:Str} {e:Expr} {te:TE} {pos':Pos} (hN:X.N.Nodup) (hi:X.N[i]? = some x) (hx:Loc X.env.scope x) (he:PE X e te) (hs:swapsWith e (some (.Name x pos')) pos.line X.env=pure false:=by rfl) (hf:X.fn x=true\/X.env.scope.names.lookup x=some .local:=by first | exact .inl rfl | exact .inr rfl | assumption) :
  PS X (.Assign [.Name x pos'] e pos) (tAsg te (yeg i)):=by
 intro pins s σ H D I h
 refine wpAny_Assign_Name (thn (he pins s σ H _ I h) fun v s1 ⟨y,H1,I1,r1,q1⟩=>?_) hs
 exact zc5 I1 hN hi hx r1 (fun s2 I2=>⟨_,H1,I2,q1⟩) hf
end
section
variable {X:Cx} {pos:Pos}
def ygp (c:TT) (tb:TS):TS:=fun D σ H=>∃ W:Nat->St->Hp->Prop,(∃ m,W m σ H)/\∀ m σ H,W m σ H ->
 c σ H fun b H1=>if b=true then ∃ N:St->Hp->Prop,(∀ σ' H',N σ' H'->∃ m',m'<m/\W m' σ' H')/\tb { D with nx:=N,ct:=N,bk:=D.nx } σ H1 else D.nx σ H1
theorem zhw {c:Expr} {body:List Stmt} {tc:TT} {tb:TS} (hp:PassesOwn (model X.prog X.w) X.A X.env X.xe) (hc:PT X c tc) (hb:PSs X body tb):PS X (.While c body [] pos) (ygp tc tb):=by
 intro pins s σ H D I h
 obtain ⟨W,⟨m0,w0⟩,turn⟩:=h
 refine wpAny_While (codeAny_whileLoop (fun n s' => ∃ σ' H',Inv X pins σ' H' s'/\W n σ' H') ?_ m0 ⟨σ,H,I,w0⟩)
 rintro n s1 ⟨σ1,H1,I1,w1⟩
 refine wpAny_passesOwn hp (thn (hc pins s1 σ1 H1 _ I1 (turn n σ1 H1 w1)) fun b s2 ⟨H2,I2,q2⟩=>?_)
 cases b with
 | true =>
  obtain ⟨N,hN,q2⟩:=q2
  rw [if_pos rfl]
  refine wpAny_passesOwn hp (thn (hb pins s2 σ1 H2 _ I2 q2) fun f s3 q3=>?_)
  cases f with
  | next =>
   obtain ⟨σ3,H3,I3,n3⟩:=q3
   obtain ⟨m',hm,w3⟩:=hN σ3 H3 n3
   exact ⟨m',hm,σ3,H3,I3,w3⟩
  | cont =>
   obtain ⟨σ3,H3,I3,n3⟩:=q3
   obtain ⟨m',hm,w3⟩:=hN σ3 H3 n3
   exact ⟨m',hm,σ3,H3,I3,w3⟩
  | brk=>exact q3
  | ret v=>exact q3
 | false =>
  rw [if_neg Bool.false_ne_true]
  exact wpAny_execs_nil ⟨σ1,H2,I2,q2⟩
end
structure It where
 go:Nat->Hp->Prop
 yld:Nat->Hp->V->Hp->Prop
 stop:Nat->Hp->Prop
def FpOk (X:Cx) (pins:List (Addr×Obj)) (H:Hp) (b:Addr):Prop :=
 H b=none/\b≠X.env.locals/\b∉X.fs/\(b∈X.ex\/X.s₀.heap.objs.size<=b)/\(∀ x c,X.env.cells.lookup x=some c->c≠b)/\∀ p∈X.pn++pins,p.1≠b
theorem Inv.fpOk {X:Cx} {pins:List (Addr×Obj)} {σ:St} {H H':Hp} {s:Shared} {b:Addr} (I:Inv X pins σ H s) (hb:s.heap.objs.size<=b) (hn:H' b=none):FpOk X pins H' b:=by
 refine ⟨hn,Nat.ne_of_gt (Nat.lt_of_lt_of_le I.lt hb),I.nofs hb,.inr (Nat.le_trans I.sz hb),fun x c e z=>?_,fun p hp z=>?_⟩
 ·obtain ⟨v,q⟩:=I.cell x c e
  exact absurd (Nat.lt_of_lt_of_le q.lt (by rw [z];exact hb)) (Nat.lt_irrefl _)
 ·exact absurd (Nat.lt_of_lt_of_le (Heap.lt_size (I.pin p hp).1) (by rw [z];exact hb)) (Nat.lt_irrefl _)
structure Turn (P:Program) (w:World) (K:PySem.W.Frag) (tg:Expr) (J:It) (fp:List Addr) (it:Addr) (tn:Nat->Heap->Prop):Prop where
 mem:it∈fp
 obj:∀ i h,tn i h->∀ b∈fp,∃ o,h.get? b=some o/\∀ v,o.data ≠ .cell v
 keep:∀ i h h',tn i h->(∀ b∈fp,∀ o,h.get? b=some o->h'.get? b=some o)->tn i h'
 item:∀ (X:Cx),X.prog=P->X.w=w->X.K=K->X.calm=true->∀ (i:Nat) (pins:List (Addr×Obj)) (s:Shared) (σ:St) (H:Hp) (E:Value->Shared->Prop),Inv X pins σ H s->(∀ b∈fp,FpOk X pins H b)->tn i s.heap->J.go i H ->
  wpAny (model P w) X.A (pyNext (.ref it)) (fun r s1=>∃ u,r=some u /\
   wpAny (model P w) X.A (letOwnedTupleGo tg (.ref it) u) (fun _ s2=>∃ x H',Inv X pins σ H' s2/\RelV x u/\J.yld i H x H'/\tn (i+1) s2.heap/\∀ b∈fp,H' b=none) E s1) E s
 done:∀ (X:Cx),X.prog=P->X.w=w->X.K=K->X.calm=true->∀ (i:Nat) (pins:List (Addr×Obj)) (s:Shared) (σ:St) (H:Hp) (E:Value->Shared->Prop),Inv X pins σ H s->(∀ b∈fp,FpOk X pins H b)->tn i s.heap->J.stop i H ->
  wpAny (model P w) X.A (pyNext (.ref it)) (fun r s1=>r=none/\Inv X pins σ H s1) E s
 self:∀ (A:Around) (i:Nat) (s:Shared) (Q:Value->Shared->Prop) (E:Value->Shared->Prop),tn i s.heap->Q (.ref it) s->wpAny (model P w) A (pyIter (.ref it)) Q E s
abbrev TI:=St->Hp->(It->Hp->Prop)->Prop
def PIE (X:Cx) (pins:List (Addr×Obj)) (σ:St) (tg:Expr) (R:It->Hp->Prop) (itv:Value) (s2:Shared):Prop :=
 ∃ (it:Addr) (fp:List Addr) (tn:Nat->Heap->Prop) (J:It) (H':Hp),itv = .ref it/\Inv X pins σ H' s2/\Turn X.prog X.w X.K tg J fp it tn/\tn 0 s2.heap/\(∀ b∈fp,FpOk X pins H' b)/\R J H'
def PI (X:Cx) (tg iter:Expr) (wi:TI):Prop :=
 ∀ (pins:List (Addr×Obj)) (s:Shared) (σ:St) (H:Hp) (R:It->Hp->Prop),Inv X pins σ H s->wi σ H R ->
  wpAny (model X.prog X.w) X.A (eval iter X.env) (fun v s1=>wpAny (model X.prog X.w) X.A (pyIter v) (PIE X pins σ tg R) X.xe s1) X.xe s
theorem yeI {M:Model} {A:Around} {E:Value->Shared->Prop} {s:Shared} {tg:Expr} {it:Addr} {u:Value} {o:Obj} {n:String} {vs:Array Value} {Q:Unit->Shared->Prop} (ho:s.heap.get? it=some o) (hc:o.cls = .type n) (hd:o.data = .fields vs)
  (hn:["enumerate", "zip", "dict_itemiterator", "dict_reverseitemiterator", "odict_iterator", "itertools.zip_longest", "itertools.pairwise"].contains n=false) (hQ:Q () s):wpAny M A (letOwnedTupleGo tg (.ref it) u) Q E s:=by
 unfold letOwnedTupleGo
 cases tg<;>first
  | exact wpAny_pure hQ
  | (cases u<;>first
    | exact wpAny_pure hQ
    | (refine wpAny_bind (wpAny_load ho ?_)
       rw [hc,hd]
       show wpAny M A (if (["enumerate", "zip", "dict_itemiterator", "dict_reverseitemiterator", "odict_iterator", "itertools.zip_longest", "itertools.pairwise"].contains n && vs[0]? == some (rawInt _))=true then _ else _) Q E s
       rw [if_neg (by intro h;rw [hn,Bool.false_and] at h;cases h)]
       exact wpAny_pure hQ))
def Itl (K:PySem.W.Frag) (a:Addr):It :=
 ⟨fun i H=>∃ xs x,SqL K H a xs/\xs[i]? = some x,fun i H x H' => H'=H/\∀ xs,SqL K H a xs->xs[i]? = some x,fun i H=>∃ xs,SqL K H a xs/\xs.length<=i⟩
def Itt (K:PySem.W.Frag) (a:Addr):It :=
 ⟨fun i H=>∃ xs x,SqT K H a xs/\xs[i]? = some x,fun i H x H' => H'=H/\∀ xs,SqT K H a xs->xs[i]? = some x,fun i H=>∃ xs,SqT K H a xs/\xs.length<=i⟩
def Itr (lo:Int) (n:Nat):It:=⟨fun i _=>i<n,fun i H x H' => H'=H/\x = .int (lo+i),fun i _=>n<=i⟩
theorem zgH {P:Program} {w:World} {K:PySem.W.Frag} {tg:Expr} (a it:Addr):Turn P w K tg (Itl K a) [it] it (fun i h=>h.IsListIter it a i) where
 mem:=by simp
 obj:=fun i h st b hb=>by
  have e:b=it:=by simpa using hb
  subst e
  obtain ⟨o,e,c,d⟩:=st
  exact ⟨o,e,fun v z=>by rw [d] at z;cases z⟩
 keep:=fun i h h' st k=>st.at fun o e=>k it (by simp) o e
 item:=by
  intro X hP hw hK hc i pins s σ H E I hf st hg
  subst hP hw hK
  obtain ⟨xs,x,hq,hx⟩:=hg
  obtain ⟨its,rv,p,hz⟩:=I.list hq
  obtain ⟨u,hu,ru⟩:=rv.get hx
  obtain ⟨f0,f1,f2,f3,f4,f5⟩:=hf it (by simp)
  refine wpAny_pyNext_list_item st p.isList (x:=u) (by simpa using hu) fun h' st' sb=>?_
  have I1:Inv X pins σ H { s with heap:=h' }:=I.turned (t' := s.toks) (fun b o hb e=>(sb.2 b hb).trans e) f0 f1 f3 f4 f5
  obtain ⟨o,e,c,d⟩:=id st'
  exact ⟨u,rfl,yeI (s:={ s with heap:=h' }) e c d (by decide) ⟨x,H,I1,ru,⟨rfl,fun ys hy=>by rw [I.list_inj hy hq];exact hx⟩,st',fun b hb=>(hf b hb).1⟩⟩
 done:=by
  intro X hP hw hK hc i pins s σ H E I hf st hg
  subst hP hw hK
  obtain ⟨xs,hq,hx⟩:=hg
  obtain ⟨its,rv,p,hz⟩:=I.list hq
  obtain ⟨f0,f1,f2,f3,f4,f5⟩:=hf it (by simp)
  have hl:=rv.length
  exact wpAny_pyNext_list_end (I.ok.hd hc) st p.isList (by simp;omega) fun h' eb=>⟨rfl,I.turned (t' := s.toks) (fun b o hb e=>eb b o hb e) f0 f1 f3 f4 f5⟩
 self:=fun _ _ _ _ _ st h=>wpAny_pyIter_listiter st h
theorem zga {P:Program} {w:World} {K:PySem.W.Frag} {tg:Expr} (a it:Addr):Turn P w K tg (Itt K a) [it] it (fun i h=>h.IsTupleIter it a i) where
 mem:=by simp
 obj:=fun i h st b hb=>by
  have e:b=it:=by simpa using hb
  subst e
  obtain ⟨o,e,c,d⟩:=st
  exact ⟨o,e,fun v z=>by rw [d] at z;cases z⟩
 keep:=fun i h h' st k=>st.at fun o e=>k it (by simp) o e
 item:=by
  intro X hP hw hK hc i pins s σ H E I hf st hg
  subst hP hw hK
  obtain ⟨xs,x,hq,hx⟩:=hg
  obtain ⟨its,rv,p,hz⟩:=I.tuple hq
  obtain ⟨u,hu,ru⟩:=rv.get hx
  obtain ⟨f0,f1,f2,f3,f4,f5⟩:=hf it (by simp)
  refine wpAny_pyNext_tuple_item st (show s.heap.IsTuple a its.toArray from p) (x:=u) (by simpa using hu) fun h' st' sb=>?_
  have I1:Inv X pins σ H { s with heap:=h' }:=I.turned (t' := s.toks) (fun b o hb e=>(sb.2 b hb).trans e) f0 f1 f3 f4 f5
  obtain ⟨o,e,c,d⟩:=id st'
  exact ⟨u,rfl,yeI (s:={ s with heap:=h' }) e c d (by decide) ⟨x,H,I1,ru,⟨rfl,fun ys hy=>by rw [I.tuple_inj hy hq];exact hx⟩,st',fun b hb=>(hf b hb).1⟩⟩
 done:=by
  intro X hP hw hK hc i pins s σ H E I hf st hg
  subst hP hw hK
  obtain ⟨xs,hq,hx⟩:=hg
  obtain ⟨its,rv,p,hz⟩:=I.tuple hq
  obtain ⟨f0,f1,f2,f3,f4,f5⟩:=hf it (by simp)
  have hl:=rv.length
  exact wpAny_pyNext_tuple_end (I.ok.hd hc) st (show s.heap.IsTuple a its.toArray from p) (by simp;omega) fun h' eb=>⟨rfl,I.turned (t' := s.toks) (fun b o hb e=>eb b o hb e) f0 f1 f3 f4 f5⟩
 self:=fun _ _ _ _ _ st h=>wpAny_pyIter_tupleiter st h
theorem zgb {P:Program} {w:World} {K:PySem.W.Frag} {tg:Expr} (it:Addr) (lo:Int) (n:Nat):Turn P w K tg (Itr lo n) [it] it (fun i h=>IsRangeIter h it (lo+(i:Nat)*1) ((n:Int)-(i:Nat)) 1) where
 mem:=by simp
 obj:=fun i h st b hb=>by
  have e:b=it:=by simpa using hb
  subst e
  exact ⟨_,st,fun v z=>by
   have z':Data.fields _=Data.cell v:=z
   cases z'⟩
 keep:=fun i h h' st k=>k it (by simp) _ st
 item:=by
  intro X hP hw hK hc i pins s σ H E I hf st hg
  subst hP hw hK
  obtain ⟨f0,f1,f2,f3,f4,f5⟩:=hf it (by simp)
  have W:=Walks.range (prog:=X.prog) (w:=X.w) (I.ok.hd hc) it lo 1 n
  refine W.item i s _ _ hg st fun v h' tk hv st' kk=>?_
  obtain ⟨t,rfl⟩:=hv
  have I1:Inv X pins σ H { s with heap:=h',toks:=tk }:=I.turned (fun b o hb e=>kk b o (by simpa using hb) e) f0 f1 f3 f4 f5
  refine ⟨_,rfl,yeI (s:={ s with heap:=h',toks:=tk }) (n := "range_iterator") st' rfl rfl (by decide) ⟨.int (lo+i),H,I1,⟨t,?_⟩,⟨rfl,rfl⟩,st',fun b hb=>(hf b hb).1⟩⟩
  rw [Int.mul_one]
 done:=by
  intro X hP hw hK hc i pins s σ H E I hf st hg
  subst hP hw hK
  obtain ⟨f0,f1,f2,f3,f4,f5⟩:=hf it (by simp)
  exact wpAny_pyNext_range_end (I.ok.hd hc) st (by have:n<=i:=hg;omega) fun h' eb=>⟨rfl,I.turned (t' := s.toks) (fun b o hb e=>eb b o hb e) f0 f1 f3 f4 f5⟩
 self:=fun _ _ _ _ _ st h=>wpAny_pyIter_rangeiter st h
end L2
namespace L2
open PySem PySem.Spec PyProof.Rows
section
variable {X:Cx} {tg:Expr}
def yfS (K:PySem.W.Frag) (tl:TE):TI:=fun σ H R=>tl σ H fun x H1=>∃ a,x = .ref a/\(∃ xs,SqL K H1 a xs)/\R (Itl K a) H1
def iTup (K:PySem.W.Frag) (tl:TE):TI:=fun σ H R=>tl σ H fun x H1=>∃ a,x = .ref a/\(∃ xs,SqT K H1 a xs)/\R (Itt K a) H1
theorem zfr {l:Expr} {tl:TE} (hl:PE X l tl):PI X tg l (yfS X.K tl):=by
 intro pins s σ H R I h
 refine thn (hl pins s σ H _ I h) fun v s1 ⟨x,H1,I1,r1,q1⟩=>?_
 obtain ⟨a,e,⟨xs,hq⟩,q⟩:=q1
 subst e
 cases r1
 obtain ⟨its,rv,p,hz⟩:=I1.list hq
 refine wpAny_pyIter_list p.isList ?_
 refine ⟨s1.heap.objs.size,[s1.heap.objs.size],_,_,H1,rfl,I1.kept (t' := s1.toks) fun b o e=>Heap.get?_push_of_some _ e,zgH a _,⟨_,Heap.get?_push_size _ rfl,rfl,rfl⟩,fun b hb=>?_,q⟩
 have e:b=s1.heap.objs.size:=by simpa using hb
 subst e
 exact I1.fpOk (Nat.le_refl _) (I1.hok.fresh (Nat.le_refl _))
theorem yfo {l:Expr} {tl:TE} (hl:PE X l tl):PI X tg l (iTup X.K tl):=by
 intro pins s σ H R I h
 refine thn (hl pins s σ H _ I h) fun v s1 ⟨x,H1,I1,r1,q1⟩=>?_
 obtain ⟨a,e,⟨xs,hq⟩,q⟩:=q1
 subst e
 cases r1
 obtain ⟨its,rv,p,hz⟩:=I1.tuple hq
 refine wpAny_pyIter_tuple (show s1.heap.IsTuple a its.toArray from p) ?_
 refine ⟨s1.heap.objs.size,[s1.heap.objs.size],_,_,H1,rfl,I1.kept (t' := s1.toks) fun b o e=>Heap.get?_push_of_some _ e,zga a _,⟨_,Heap.get?_push_size _ rfl,rfl,rfl⟩,fun b hb=>?_,q⟩
 have e:b=s1.heap.objs.size:=by simpa using hb
 subst e
 exact I1.fpOk (Nat.le_refl _) (I1.hok.fresh (Nat.le_refl _))
theorem zhx {pins:List (Addr×Obj)} {σ:St} {H:Hp} {s:Shared} {R:It->Hp->Prop} {E:Value->Shared->Prop} {lo hi:Int} {t u v:Tok} {tk:Nat} (I:Inv X pins σ H s) (h1 : -(2 ^ 62)<=lo) (h2:lo<2 ^ 62) (h3 : -(2 ^ 62)<=hi) (h4:hi<2 ^ 62)
  (q:R (Itr lo (hi-lo).toNat) H):wpAny (model X.prog X.w) X.A (pyIter (.ref s.heap.objs.size)) (PIE X pins σ tg R) E { s with heap:=s.heap.push { cls:=.type "range",data:=.fields #[.int lo t,.int hi u,.int 1 v] },toks:=tk }:=by
 refine wpAny_pyIter_range (IsRange.new ..) (small_one h1 h2 h3 h4) ?_
 have I1:Inv X pins σ H { s with heap:=s.heap.push { cls:=.type "range",data:=.fields #[.int lo t,.int hi u,.int 1 v] },toks:=tk }:=I.kept fun b o e=>Heap.get?_push_of_some _ e
 refine ⟨(s.heap.push { cls:=.type "range",data:=.fields #[.int lo t,.int hi u,.int 1 v] }).objs.size,[(s.heap.push { cls:=.type "range",data:=.fields #[.int lo t,.int hi u,.int 1 v] }).objs.size],_,_,H,rfl,
  I1.kept (t' := tk) fun b o e=>Heap.get?_push_of_some _ e,zgb _ lo (hi-lo).toNat,?_,fun b hb=>?_,q⟩
 ·have e1:lo+((0:Nat):Int)*1=lo:=by simp
  have e2:(((hi-lo).toNat:Nat):Int)-((0:Nat):Int)=Builtin.Range.rangeSize lo hi 1:=by rw [rangeSize_one];split<;>omega
  show IsRangeIter _ _ (lo+((0:Nat):Int)*1) ((((hi-lo).toNat:Nat):Int)-((0:Nat):Int)) 1
  rw [e1,e2]
  exact Heap.get?_push_size _ rfl
 ·have e:b=(s.heap.push { cls:=.type "range",data:=.fields #[.int lo t,.int hi u,.int 1 v] }).objs.size:=by simpa using hb
  subst e
  exact I1.fpOk (Nat.le_refl _) (I1.hok.fresh (Nat.le_refl _))
def yhD (ta:TA):TI:=fun σ H R=>ta σ H fun vs H1=>∃ j:Int,vs=[.int j] /\ -(2 ^ 62)<=j/\j<2 ^ 62/\R (Itr 0 j.toNat) H1
theorem zgI {a:Expr} {ta:TA} {p pos:Pos} (hg:Gl X "range") (hm:X.mg "range" = none) (ha:PA X [a] ta) (hs:starEach [a] X.env=[(false,eval a X.env)]:=by rfl):PI X tg (.Call (.Name "range" p) [a] [] pos) (yhD ta):=by
 intro pins s σ H R I h
 refine Call_ (yeq I hg hm boot_range (PyProof.Rows.callWith_type1 (thn (ha pos pins s σ H _ I h) fun us s1 ⟨vs,H1,I1,r1,q1⟩=>?_) hs rfl))
 obtain ⟨j,e,q1,q2,q⟩:=q1
 subst e
 cases r1 with
 | cons r rr =>
  cases rr
  obtain ⟨t,rfl⟩:=r
  exact call_range_1 (zhx I1 (by omega) (by omega) q1 q2 (by simpa using q))
def tFor (wi:TI) (g:TG) (tb:TS):TS:=fun D σ H=>wi σ H fun J H1=>∃ W:Nat->Nat->St->Hp->Prop,(∃ m,W 0 m σ H1)/\∀ i m σ H,W i m σ H ->
 (J.stop i H/\D.nx σ H)\/(J.go i H/\∃ N:St->Hp->Prop,(∀ σ' H',N σ' H'->∃ m',m'<m/\W (i+1) m' σ' H')/\∀ x H',J.yld i H x H'->g x σ H' fun σ2 H2=>tb { D with nx:=N,ct:=N,bk:=D.nx } σ2 H2)
def ybY (fp:List Addr) (h:Heap):List (Addr×Obj):=fp.filterMap fun b=>(h.get? b).map fun o=>(b,o)
theorem zaZ {fp:List Addr} {h:Heap} {b:Addr} {o:Obj} (hb:b∈fp) (e:h.get? b=some o):(b,o)∈ybY fp h:=List.mem_filterMap.mpr ⟨b,hb,by rw [e];rfl⟩
theorem zgJ {fp:List Addr} {h:Heap} {p:Addr×Obj} (hp:p∈ybY fp h):p.1∈fp/\h.get? p.1=some p.2:=by
 obtain ⟨b,hb,e⟩:=List.mem_filterMap.mp hp
 cases q:h.get? b with
 | none=>rw [q] at e;cases e
 | some o =>
  rw [q] at e
  have e':(b,o)=p:=Option.some.inj e
  subst e'
  exact ⟨hb,q⟩
theorem Inv.pinned {pins:List (Addr×Obj)} {σ:St} {H:Hp} {s:Shared} {fp:List Addr} (I:Inv X pins σ H s) (hf:∀ b∈fp,FpOk X pins H b) (ho:∀ b∈fp,∃ o,s.heap.get? b=some o/\∀ v,o.data ≠ .cell v):Inv X (pins++ybY fp s.heap) σ H s :=
 I.pins_of fun p hp=>(List.mem_append.mp hp).elim (fun z=>I.pin p (List.mem_append_right _ z)) fun z=>by
  obtain ⟨hb,e⟩:=zgJ z
  obtain ⟨f0,f1,f2,_⟩:=hf p.1 hb
  obtain ⟨o,e',d⟩:=ho p.1 hb
  rw [e] at e';cases e'
  exact ⟨e,f0,f1,f2,d⟩
theorem Inv.unpinned {pins pl:List (Addr×Obj)} {σ:St} {H:Hp} {s:Shared} (I:Inv X (pins++pl) σ H s):Inv X pins σ H s:=I.pins_of fun p hp=>I.pin p (List.mem_append_right _ (List.mem_append_left _ hp))
theorem ygq {iter:Expr} {body:List Stmt} {wi:TI} {g:TG} {tb:TS} {pos:Pos} (hp:PassesOwn (model X.prog X.w) X.A X.env X.xe) (hc:X.calm=true) (hi:PI X tg iter wi) (hg:PG X tg g) (hb:PSs X body tb)
  (hs:∀ x,foldedSetIterable iter X.env x=pure x:=by intro _;rfl):PS X (.For tg iter body [] pos) (tFor wi g tb):=by
 intro pins s σ H D I h
 refine wpAny_For (thn (hi pins s σ H _ I h) fun v s1 h1=>thn h1 fun itv s2 h2=>?_) hs
 obtain ⟨it,fp,tn,J,H2,e,I2,T,st2,f2,W,⟨m0,w0⟩,turn⟩:=h2
 subst e
 have stat:∀ {H':Hp},(∀ b∈fp,H' b=none)->∀ b∈fp,FpOk X pins H' b:=fun hn b hb=>⟨hn b hb,(f2 b hb).2⟩
 refine codeAny_forLoop_any (fun n s' => ∃ i σ' H',Inv X pins σ' H' s'/\tn i s'.heap/\(∀ b∈fp,H' b=none)/\W i n σ' H') ?_ m0 ⟨0,σ,H2,I2,st2,fun b hb=>(f2 b hb).1,w0⟩
 rintro n s3 ⟨i,σ3,H3,I3,st3,fr3,w3⟩
 rcases turn i n σ3 H3 w3 with ⟨stop,qn⟩ | ⟨go,N,hN,step⟩
 ·refine wpAny_passesOwn hp (thn (T.done X rfl rfl rfl hc i pins s3 σ3 H3 X.xe I3 (stat fr3) st3 stop) fun r s4 ⟨hr,I4⟩=>?_)
  subst hr
  exact wpAny_execs_nil ⟨σ3,H3,I4,qn⟩
 ·refine wpAny_passesOwn hp (thn (T.item X rfl rfl rfl hc i pins s3 σ3 H3 X.xe I3 (stat fr3) st3 go) fun r s4 ⟨u,hr,h4⟩=>?_)
  subst hr
  refine wpAny_passesOwn hp (thn h4 fun _ s5 ⟨x,H5,I5,r5,y5,st5,fr5⟩=>?_)
  have I5' := I5.pinned (stat fr5) (T.obj _ _ st5)
  refine wpAny_passesOwn hp (thn (hg _ s5 σ3 H5 x u _ I5' r5 (step x H5 y5)) fun _ s6 ⟨σ6,H6,I6,q6⟩=>?_)
  refine wpAny_passesOwn hp (thn (hb _ s6 σ6 H6 _ I6 q6) fun f s7 q7=>?_)
  have again:∀ {σ7:St} {H7:Hp},Inv X (pins++ybY fp s5.heap) σ7 H7 s7->N σ7 H7->∃ m,m<n/\∃ i σ' H',Inv X pins σ' H' s7/\tn i s7.heap/\(∀ b∈fp,H' b=none)/\W i m σ' H' := fun {σ7 H7} I7 n7=>by
   obtain ⟨m',hm,w7⟩:=hN σ7 H7 n7
   refine ⟨m',hm,i+1,σ7,H7,I7.unpinned,T.keep _ _ _ st5 fun b hb o e=>(I7.pin (b,o) (List.mem_append_right _ (List.mem_append_right _ (zaZ hb e)))).1,fun b hb=>?_,w7⟩
   obtain ⟨o,e,d⟩:=T.obj _ _ st5 b hb
   exact (I7.pin (b,o) (List.mem_append_right _ (List.mem_append_right _ (zaZ hb e)))).2.1
  cases f with
  | next=>obtain ⟨σ7,H7,I7,n7⟩:=q7;exact again I7 n7
  | cont=>obtain ⟨σ7,H7,I7,n7⟩:=q7;exact again I7 n7
  | brk=>obtain ⟨σ7,H7,I7,q7⟩:=q7;exact ⟨σ7,H7,I7.unpinned,q7⟩
  | ret v=>obtain ⟨x7,σ7,H7,I7,r7,q7⟩:=q7;exact ⟨x7,σ7,H7,I7.unpinned,r7,q7⟩
end
end L2
namespace L2
open PySem PySem.Spec PyProof.Rows
abbrev R2:=V->V->Hp->VK->Prop
def OpR (X:Cx) (f:Value->Value->Sem Value) (r:R2):Prop :=
 ∀ (pins:List (Addr×Obj)) (s:Shared) (σ:St) (H:Hp) (x y:V) (v u:Value) (Q:VK),Inv X pins σ H s->RelV x v->RelV y u->r x y H Q ->
  wpAny (model X.prog X.w) X.A (f v u) (EP X pins σ Q) X.xe s
def UnR (X:Cx) (f:Value->Sem Value) (r:V->Hp->VK->Prop):Prop :=
 ∀ (pins:List (Addr×Obj)) (s:Shared) (σ:St) (H:Hp) (x:V) (v:Value) (Q:VK),Inv X pins σ H s->RelV x v->r x H Q ->
  wpAny (model X.prog X.w) X.A (f v) (EP X pins σ Q) X.xe s
def CallR (X:Cx) (f:Value) (r:List V->Hp->VK->Prop):Prop :=
 ∀ (pins:List (Addr×Obj)) (s:Shared) (σ:St) (H:Hp) (xs:List V) (us:List Value) (Q:VK),Inv X pins σ H s->Vals xs us->r xs H Q ->
  wpAny (model X.prog X.w) X.A (call f us) (EP X pins σ Q) X.xe s
def TruR (X:Cx) (r:V->Hp->(Bool->Hp->Prop)->Prop):Prop :=
 ∀ (pins:List (Addr×Obj)) (s:Shared) (σ:St) (H:Hp) (x:V) (v:Value) (Q:Bool->Hp->Prop),Inv X pins σ H s->RelV x v->r x H Q ->
  wpAny (model X.prog X.w) X.A (truthy v) (TP X pins σ Q) X.xe s
def tOp (r:R2) (ta tb:TE):TE:=fun σ H Q=>ta σ H fun x H1=>tb σ H1 fun y H2=>r x y H2 Q
def tUn (r:V->Hp->VK->Prop) (ta:TE):TE:=fun σ H Q=>ta σ H fun x H1=>r x H1 Q
def rI (C:Int->Int->Prop) (g:Int->Int->V):R2:=fun x y H Q=>∃ i j,x = .int i/\y = .int j/\C i j/\Q (g i j) H
def rI0 (g:Int->Int->V):R2:=fun x y H Q=>∃ i j,x = .int i/\y = .int j/\Q (g i j) H
def rU (g:Int->V):V->Hp->VK->Prop:=fun x H Q=>∃ i,x = .int i/\Q (g i) H
section
variable {X:Cx} {a b c:Expr} {ta tb tc:TE} {pos:Pos}
theorem binT (ha:PE X a ta) (hb:PE X b tb) {pins:List (Addr×Obj)} {s:Shared} {σ:St} {H:Hp} {R:V->V->Hp->Prop} (I:Inv X pins σ H s)
  (h:ta σ H fun x H1=>tb σ H1 fun y H2=>R x y H2) {Q:Value->Shared->Prop} {f:Value->Value->Sem Value}
  (hf:∀ v u s2 x y H2,Inv X pins σ H2 s2->RelV x v->RelV y u->R x y H2->wpAny (model X.prog X.w) X.A (f v u) Q X.xe s2) :
  wpAny (model X.prog X.w) X.A (eval a X.env) (fun v s₁=>wpAny (model X.prog X.w) X.A (eval b X.env) (fun u s₂=>wpAny (model X.prog X.w) X.A (f v u) Q X.xe s₂) X.xe s₁) X.xe s:=by
 refine thn (ha pins s σ H _ I h) fun v s1 ⟨x,H1,I1,r1,q1⟩=>?_
 refine thn (hb pins s1 σ H1 _ I1 q1) fun u s2 ⟨y,H2,I2,r2,q2⟩=>?_
 exact hf v u s2 x y H2 I2 r1 r2 q2
theorem yhE {op:Operator} {r:R2} (ho:OpR X (binaryOp op) r) (ha:PE X a ta) (hb:PE X b tb):PE X (.BinOp a op b pos) (tOp r ta tb):=by
 intro pins s σ H Q I h
 exact wpAny_BinOp (binT ha hb I h fun v u s2 x y H2 I2 rx ry q=>ho pins s2 σ H2 x y v u Q I2 rx ry q)
theorem yhF {op:UnaryOp} {r:V->Hp->VK->Prop} (ho:UnR X (unaryOp op) r) (ha:PE X a ta):PE X (.UnaryOp op a pos) (tUn r ta):=by
 intro pins s σ H Q I h
 exact UnaryOp_ (thn (ha pins s σ H _ I h) fun v s1 ⟨x,H1,I1,r1,q1⟩=>ho pins s1 σ H1 x v Q I1 r1 q1)
theorem opI {f:Value->Value->Sem Value} {C:Int->Int->Prop} {g:Int->Int->Int}
  (rule:∀ (i j:Int) (t u:Tok) (s:Shared) (Q:Value->Shared->Prop) (E:Value->Shared->Prop),C i j->Q (.int (g i j) s.toks) { s with toks:=s.toks+1 }->wpAny (model X.prog X.w) X.A (f (.int i t) (.int j u)) Q E s) :
  OpR X f (rI C fun i j=>.int (g i j)):=by
 intro pins s σ H x y v u Q I rx ry h
 obtain ⟨i,j,rfl,rfl,hc,q⟩:=h
 obtain ⟨t,rfl⟩:=rx
 obtain ⟨t',rfl⟩:=ry
 exact rule i j t t' s _ _ hc ⟨.int (g i j),H,I.tok _,⟨_,rfl⟩,q⟩
theorem opI0 {f:Value->Value->Sem Value} {g:Int->Int->Int}
  (rule:∀ (i j:Int) (t u:Tok) (s:Shared) (Q:Value->Shared->Prop) (E:Value->Shared->Prop),Q (.int (g i j) s.toks) { s with toks:=s.toks+1 }->wpAny (model X.prog X.w) X.A (f (.int i t) (.int j u)) Q E s) :
  OpR X f (rI0 fun i j=>.int (g i j)):=by
 intro pins s σ H x y v u Q I rx ry h
 obtain ⟨i,j,rfl,rfl,q⟩:=h
 obtain ⟨t,rfl⟩:=rx
 obtain ⟨t',rfl⟩:=ry
 exact rule i j t t' s _ _ ⟨.int (g i j),H,I.tok _,⟨_,rfl⟩,q⟩
theorem opB0 {f:Value->Value->Sem Value} {g:Int->Int->Bool}
  (rule:∀ (i j:Int) (t u:Tok) (s:Shared) (Q:Value->Shared->Prop) (E:Value->Shared->Prop),Q (.bool (g i j)) s->wpAny (model X.prog X.w) X.A (f (.int i t) (.int j u)) Q E s) :
  OpR X f (rI0 fun i j=>.bl (g i j)):=by
 intro pins s σ H x y v u Q I rx ry h
 obtain ⟨i,j,rfl,rfl,q⟩:=h
 obtain ⟨t,rfl⟩:=rx
 obtain ⟨t',rfl⟩:=ry
 exact rule i j t t' s _ _ ⟨.bl (g i j),H,I,rfl,q⟩
def CPow (i j:Int):Prop:=0<=j/\j<=1000000/\i.natAbs<2 ^ 64
def CMul (i j:Int):Prop:=(-(2 ^ 64)<i/\i<2 ^ 64)\/(-(2 ^ 64)<j/\j<2 ^ 64)
theorem CMul.ok {i j:Int} (h:CMul i j):IntMulOk i j:=by
 rcases h with ⟨h1,h2⟩ | ⟨h1,h2⟩
 ·exact .of_left (intBits_le_64 h1 h2)
 ·exact .of_right (intBits_le_64 h1 h2)
theorem op_add:OpR X (binaryOp .Add) (rI0 fun i j=>.int (i+j)):=opI0 fun _ _ _ _ _ _ _ q=>add_int q
theorem ygr:OpR X (binaryOp .Sub) (rI0 fun i j=>.int (i-j)):=opI0 fun _ _ _ _ _ _ _ q=>sub_int q
theorem ygs:OpR X (binaryOp .Mod) (rI (fun _ j=>0<j) fun i j=>.int (i % j)):=opI fun i j _ _ _ _ _ hc q=>by
 have h1:(0:Int)<j:=hc
 exact mod_int' (by omega) (by rw [Int.fmod_eq_emod_of_nonneg i (by omega)];exact q)
theorem ygt:OpR X (binaryOp .Pow) (rI CPow fun i j=>.int (i ^ j.toNat)):=opI fun _ _ _ _ _ _ _ hc q=>pow_int_small hc.1 hc.2.1 hc.2.2 q
theorem unI {f:Value->Sem Value} {g:Int->Int}
  (rule:∀ (i:Int) (t:Tok) (s:Shared) (Q:Value->Shared->Prop) (E:Value->Shared->Prop),Q (.int (g i) s.toks) { s with toks:=s.toks+1 }->wpAny (model X.prog X.w) X.A (f (.int i t)) Q E s) :
  UnR X f (rU fun i=>.int (g i)):=by
 intro pins s σ H x v Q I rx h
 obtain ⟨i,rfl,q⟩:=h
 obtain ⟨t,rfl⟩:=rx
 exact rule i t s _ _ ⟨.int (g i),H,I.tok _,⟨_,rfl⟩,q⟩
theorem ygu:UnR X (unaryOp .USub) (rU fun i=>.int (-i)):=unI fun _ _ _ _ _ q=>neg_int q
end
def scal:V->V->Bool
 | .non,.non=>true | .non,.int _=>true | .int _,.non=>true | .non,.bl _=>true | .bl _,.non=>true | .non,.str _=>true | .str _,.non=>true
 | .int _,.int _=>true | .bl _,.bl _=>true | .str _,.str _=>true | .byt _,.byt _=>true
 | .int _,.str _=>true | .str _,.int _=>true | .bl _,.str _=>true | .str _,.bl _=>true
 | _,_=>false
def rEq:R2:=fun x y H Q=>scal x y=true/\Q (.bl (decide (x=y))) H
def rNe:R2:=fun x y H Q=>scal x y=true/\Q (.bl (!decide (x=y))) H
theorem zfs {i j:Int}:decide (V.int i=V.int j)=(i == j):=by
 rw [Bool.eq_iff_iff]
 simp
theorem yfp {i j:Bool}:decide (V.bl i=V.bl j)=(i == j):=by
 rw [Bool.eq_iff_iff]
 simp
theorem zft {i j:Str}:decide (V.str i=V.str j)=(i == j):=by
 rw [Bool.eq_iff_iff]
 simp
theorem zfu {i j:Array UInt8}:decide (V.byt i=V.byt j)=(i.toList == j.toList):=by
 rw [Bool.eq_iff_iff]
 cases i
 cases j
 simp
section
variable {X:Cx} {a b c:Expr} {ta tb tc:TE} {pos:Pos}
theorem yaT {pins:List (Addr×Obj)} {σ:St} {H:Hp} {s:Shared} {Q:VK} {k k':Bool} (I:Inv X pins σ H s) (q:Q (.bl k) H) (e:k=k'):EP X pins σ Q (.bool k') s:=by
 subst e
 exact ⟨.bl k,H,I,rfl,q⟩
theorem op_eq:OpR X (compareOp .Eq) rEq:=by
 intro pins s σ H x y v u Q I rx ry h
 obtain ⟨hs,q⟩:=h
 cases x with
 | non =>
  cases rx
  cases y with
  | non=>cases ry;exact PySem.EqNone.eq_none_none (yaT I q (by simp))
  | bl j=>cases ry;exact PySem.EqNone.eq_none_bool (yaT I q (by simp))
  | int j=>obtain ⟨t',rfl⟩:=ry;exact PySem.EqNone.eq_none_int (yaT I q (by simp))
  | str j=>obtain ⟨t',rfl⟩:=ry;exact PySem.EqNone.eq_none_str (yaT I q (by simp))
  | _=>exact absurd (show false=true from hs) Bool.false_ne_true
 | bl i =>
  cases rx
  cases y with
  | non=>cases ry;exact PySem.EqNone.eq_bool_none (yaT I q (by simp))
  | bl j=>cases ry;exact eq_bool (yaT I q yfp)
  | str j=>obtain ⟨t',rfl⟩:=ry;exact PySem.EqMixed.eq_bool_str (yaT I q (by simp))
  | _=>exact absurd (show false=true from hs) Bool.false_ne_true
 | int i =>
  obtain ⟨t,rfl⟩:=rx
  cases y with
  | non=>cases ry;exact PySem.EqNone.eq_int_none (yaT I q (by simp))
  | int j=>obtain ⟨t',rfl⟩:=ry;exact eq_int (yaT I q zfs)
  | str j=>obtain ⟨t',rfl⟩:=ry;exact PySem.EqMixed.eq_int_str (yaT I q (by simp))
  | _=>exact absurd (show false=true from hs) Bool.false_ne_true
 | str i =>
  obtain ⟨t,rfl⟩:=rx
  cases y with
  | non=>cases ry;exact PySem.EqNone.eq_str_none (yaT I q (by simp))
  | bl j=>cases ry;exact PySem.EqMixed.eq_str_bool (yaT I q (by simp))
  | int j=>obtain ⟨t',rfl⟩:=ry;exact PySem.EqMixed.eq_str_int (yaT I q (by simp))
  | str j=>obtain ⟨t',rfl⟩:=ry;exact eq_str (yaT I q zft)
  | _=>exact absurd (show false=true from hs) Bool.false_ne_true
 | byt i =>
  obtain ⟨t,rfl⟩:=rx
  cases y with
  | byt j=>obtain ⟨t',rfl⟩:=ry;exact PySem.W.eq_bytes (yaT I q zfu)
  | _=>exact absurd (show false=true from hs) Bool.false_ne_true
 | _=>cases y<;>exact absurd (show false=true from hs) Bool.false_ne_true
theorem op_ne:OpR X (compareOp .NotEq) rNe:=by
 intro pins s σ H x y v u Q I rx ry h
 obtain ⟨hs,q⟩:=h
 cases x with
 | non =>
  cases rx
  cases y with
  | non=>cases ry;exact PySem.EqNone.ne_none_none (yaT I q (by simp))
  | bl j=>cases ry;exact PySem.EqNone.ne_none_bool (yaT I q (by simp))
  | int j=>obtain ⟨t',rfl⟩:=ry;exact PySem.EqNone.ne_none_int (yaT I q (by simp))
  | str j=>obtain ⟨t',rfl⟩:=ry;exact PySem.EqNone.ne_none_str (yaT I q (by simp))
  | _=>exact absurd (show false=true from hs) Bool.false_ne_true
 | bl i =>
  cases rx
  cases y with
  | non=>cases ry;exact PySem.EqNone.ne_bool_none (yaT I q (by simp))
  | bl j=>cases ry;exact ne_bool (yaT I q (congrArg not yfp))
  | str j=>obtain ⟨t',rfl⟩:=ry;exact PySem.EqMixed.ne_bool_str (yaT I q (by simp))
  | _=>exact absurd (show false=true from hs) Bool.false_ne_true
 | int i =>
  obtain ⟨t,rfl⟩:=rx
  cases y with
  | non=>cases ry;exact PySem.EqNone.ne_int_none (yaT I q (by simp))
  | int j=>obtain ⟨t',rfl⟩:=ry;exact ne_int (yaT I q (congrArg not zfs))
  | str j=>obtain ⟨t',rfl⟩:=ry;exact PySem.EqMixed.ne_int_str (yaT I q (by simp))
  | _=>exact absurd (show false=true from hs) Bool.false_ne_true
 | str i =>
  obtain ⟨t,rfl⟩:=rx
  cases y with
  | non=>cases ry;exact PySem.EqNone.ne_str_none (yaT I q (by simp))
  | bl j=>cases ry;exact PySem.EqMixed.ne_str_bool (yaT I q (by simp))
  | int j=>obtain ⟨t',rfl⟩:=ry;exact PySem.EqMixed.ne_str_int (yaT I q (by simp))
  | str j=>obtain ⟨t',rfl⟩:=ry;exact ne_str (yaT I q (congrArg not zft))
  | _=>exact absurd (show false=true from hs) Bool.false_ne_true
 | byt i =>
  obtain ⟨t,rfl⟩:=rx
  cases y with
  | byt j=>obtain ⟨t',rfl⟩:=ry;exact PySem.W.ne_bytes (yaT I q (congrArg not zfu))
  | _=>exact absurd (show false=true from hs) Bool.false_ne_true
 | _=>cases y<;>exact absurd (show false=true from hs) Bool.false_ne_true
theorem op_lt:OpR X (compareOp .Lt) (rI0 fun i j=>.bl (decide (i<j))):=opB0 fun _ _ _ _ _ _ _ q=>lt_int q
theorem op_le:OpR X (compareOp .LtE) (rI0 fun i j=>.bl (decide (i<=j))):=opB0 fun _ _ _ _ _ _ _ q=>le_int q
theorem yhG:OpR X (compareOp .Gt) (rI0 fun i j=>.bl (decide (j<i))):=opB0 fun _ _ _ _ _ _ _ q=>gt_int q
theorem yhH:OpR X (compareOp .GtE) (rI0 fun i j=>.bl (decide (j<=i))):=opB0 fun _ _ _ _ _ _ _ q=>ge_int q
theorem zgK:OpR X (compareOp .Lt) (fun x y H Q=>∃ i j,x = .str i/\y = .str j/\Q (.bl (decide (i.cps.toList<j.cps.toList))) H):=by
 intro pins s σ H x y v u Q I rx ry h
 obtain ⟨i,j,rfl,rfl,q⟩:=h
 obtain ⟨t,rfl⟩:=rx
 obtain ⟨t',rfl⟩:=ry
 exact lt_str (yaT I q rfl)
theorem OpR.or {f:Value->Value->Sem Value} {r r':R2} (h:OpR X f r) (h':OpR X f r'):OpR X f (fun x y H Q=>r x y H Q\/r' x y H Q):=by
 intro pins s σ H x y v u Q I rx ry q
 rcases q with q | q
 ·exact h pins s σ H x y v u Q I rx ry q
 ·exact h' pins s σ H x y v u Q I rx ry q
theorem yau (b:Expr) {op:CmpOp} (h:op ≠ .In:=by decide) (h2:op ≠ .NotIn:=by decide):behindInMarks op b=false:=by
 have e1:(op == CmpOp.In)=false:=by cases op<;>first | rfl | exact absurd rfl h
 have e2:(op == CmpOp.NotIn)=false:=by cases op<;>first | rfl | exact absurd rfl h2
 cases b<;>simp [behindInMarks,e1,e2]
theorem ziy {op:CmpOp} {r:R2} (ho:OpR X (compareOp op) r) (ha:PE X a ta) (hb:PE X b tb) (hm:behindInMarks op b=false):PE X (.Compare a [op] [b] pos) (tOp r ta tb):=by
 intro pins s σ H Q I h
 exact wpAny_Compare1 (binT ha hb I h fun v u s2 x y H2 I2 rx ry q=>ho pins s2 σ H2 x y v u Q I2 rx ry q) hm
def ye9 (t:TE):TT:=fun σ H Q=>t σ H fun x H' => ∃ k,x = .bl k/\Q k H'
theorem ziz {op:CmpOp} {r:R2} (ho:OpR X (compareOp op) r) (ha:PE X a ta) (hb:PE X b tb) (hm:behindInMarks op b=false):PT X (.Compare a [op] [b] pos) (ye9 (tOp r ta tb)):=by
 intro pins s σ H Q I h
 refine wpAny_isTrue_Compare1 (thn (ha pins s σ H _ I h) fun v s1 ⟨x,H1,I1,r1,q1⟩=>thn (hb pins s1 σ H1 _ I1 q1) fun u s2 ⟨y,H2,I2,r2,q2⟩ =>
  thn (ho pins s2 σ H2 x y v u _ I2 r1 r2 q2) fun c s3 ⟨z,H3,I3,r3,k,e,q3⟩=>?_) hm
 subst e
 cases r3
 exact wpAny_truthy_bool ⟨H3,I3,q3⟩
def yeR (r r':R2) (ta tb tc:TE):TE:=fun σ H Q=>ta σ H fun x H1=>tb σ H1 fun y H2=>r x y H2 fun z H3=>∃ k,z = .bl k /\
 (if k=true then tc σ H3 fun w' H4=>r' y w' H4 Q else Q (.bl false) H3)
theorem zhy {op op':CmpOp} {r r':R2} (ho:OpR X (compareOp op) r) (ho':OpR X (compareOp op') r') (ha:PE X a ta) (hb:PE X b tb) (hc:PE X c tc)
  (hm:lastMarks [op,op'] [b,c]=false:=by with_unfolding_all rfl):PE X (.Compare a [op,op'] [b,c] pos) (yeR r r' ta tb tc):=by
 intro pins s σ H Q I h
 refine Compare_chain (thn (ha pins s σ H _ I h) fun v s1 ⟨x,H1,I1,r1,q1⟩=>chain_link (thn (hb pins s1 σ H1 _ I1 q1) fun u s2 ⟨y,H2,I2,r2,q2⟩ =>
  thn (ho pins s2 σ H2 x y v u _ I2 r1 r2 q2) fun d s3 ⟨z,H3,I3,r3,k,e,q3⟩=>?_)) hm
 subst e
 cases r3
 refine wpAny_truthy_bool ?_
 cases k with
 | false=>exact ite_ff ⟨.bl false,H3,I3,rfl,q3⟩
 | true=>exact ite_tt (chain_last (thn (hc pins s3 σ H3 _ I3 q3) fun w' s4 ⟨z',H4,I4,r4,q4⟩=>ho' pins s4 σ H4 y z' u w' Q I4 r2 r4 q4))
theorem zhz {op op':CmpOp} {r r':R2} (ho:OpR X (compareOp op) r) (ho':OpR X (compareOp op') r') (ha:PE X a ta) (hb:PE X b tb) (hc:PE X c tc)
  (hm:lastMarks [op,op'] [b,c]=false:=by with_unfolding_all rfl):PT X (.Compare a [op,op'] [b,c] pos) (ye9 (yeR r r' ta tb tc)):=by
 intro pins s σ H Q I h
 refine isTrue_chain (thn (ha pins s σ H _ I h) fun v s1 ⟨x,H1,I1,r1,q1⟩=>test_link (thn (hb pins s1 σ H1 _ I1 q1) fun u s2 ⟨y,H2,I2,r2,q2⟩ =>
  thn (ho pins s2 σ H2 x y v u _ I2 r1 r2 q2) fun d s3 ⟨z,H3,I3,r3,k,e,q3⟩=>?_)) hm
 subst e
 cases r3
 refine wpAny_truthy_bool ?_
 cases k with
 | false =>
  obtain ⟨k',e',q'⟩:=q3
  cases e'
  exact ite_ff ⟨H3,I3,q'⟩
 | true =>
  refine ite_tt (test_last (thn (hc pins s3 σ H3 _ I3 q3) fun w' s4 ⟨z',H4,I4,r4,q4⟩=>thn (ho' pins s4 σ H4 y z' u w' _ I4 r2 r4 q4) fun d' s5 ⟨z2,H5,I5,r5,k2,e2,q5⟩=>?_))
  subst e2
  cases r5
  exact wpAny_truthy_bool ⟨H5,I5,q5⟩
def TruV (K:PySem.W.Frag) (x:V) (H:Hp) (k:Bool):Prop :=
 match x with
 | .non=>k=false
 | .bl b=>k=b
 | .int i=>k=(i != 0)
 | .str y=>y.length<=sizeLine/\k=((y.length:Int) != 0)
 | .byt y=>y.size<=sizeLine/\k=((y.size:Int) != 0)
 | .ref p=>(∃ xs,SqL K H p xs/\k = !xs.isEmpty)\/(∃ xs,SqT K H p xs/\k = !xs.isEmpty)\/∃ kvs,H p=some (.dK kvs)/\k = !kvs.isEmpty
 | _=>False
theorem zgc {κ:Type} {kvs:List (κ×V)} {vs:List (κ×Value)} (r:KV kvs vs):(!vs.isEmpty) = !kvs.isEmpty:=by
 cases r<;>rfl
theorem zds {xs:List V} {its:List Value} (r:Vals xs its):(!its.toArray.isEmpty) = !xs.isEmpty:=by
 cases r<;>simp
theorem ydQ:(sizeLine:Nat)<2 ^ 63:=by rw [sizeLine_eq];decide
theorem ygv:TruR X (fun x H Q=>∃ k,TruV X.K x H k/\Q k H):=by
 intro pins s σ H x v Q I rx h
 obtain ⟨k,e,q⟩:=h
 have hl:=ydQ
 have hs:sizeLine=16777216:=sizeLine_eq
 cases x with
 | non =>
  cases rx
  have e':k=false:=e
  subst e'
  exact truthy_none ⟨H,I,q⟩
 | bl b =>
  cases rx
  have e':k=b:=e
  subst e'
  exact wpAny_truthy_bool ⟨H,I,q⟩
 | int i =>
  obtain ⟨t,rfl⟩:=rx
  have e':k=(i != 0):=e
  subst e'
  exact PySem.P.truthy_int ⟨H,I,q⟩
 | str y =>
  obtain ⟨t,rfl⟩:=rx
  obtain ⟨hy,e'⟩:y.length<=sizeLine/\k=((y.length:Int) != 0):=e
  subst e'
  exact PySem.P.truthy_str (by omega) ⟨H,I.tok _,q⟩
 | byt y =>
  obtain ⟨t,rfl⟩:=rx
  obtain ⟨hy,e'⟩:y.size<=sizeLine/\k=((y.size:Int) != 0):=e
  subst e'
  exact PySem.W.truthy_bytes (by omega) ⟨H,I.tok _,q⟩
 | ref p =>
  cases rx
  have e':(∃ xs,SqL X.K H p xs/\k = !xs.isEmpty)\/(∃ xs,SqT X.K H p xs/\k = !xs.isEmpty)\/∃ kvs,H p=some (.dK kvs)/\k = !kvs.isEmpty:=e
  rcases e' with ⟨xs,hx,e'⟩ | ⟨xs,hx,e'⟩ | ⟨kvs,hx,e'⟩
  ·subst e'
   obtain ⟨its,r,pl,hz⟩:=I.list hx
   have hlen:=r.length
   exact wpAny_truthy_list pl.isList (by simp only [List.size_toArray];omega) ⟨H,I.tok _,by rw [zds r];exact q⟩
  ·subst e'
   obtain ⟨its,r,pl,hz⟩:=I.tuple hx
   have hlen:=r.length
   exact truthy_tuple pl (by simp only [List.size_toArray];omega) ⟨H,I.tok _,by rw [zds r];exact q⟩
  ·subst e'
   obtain ⟨hz,hS,vs,r,m⟩:kvs.length<=sizeLine/\(p == sysModules)=false/\∃ vs,KV kvs vs/\s.heap.DictOf (ybr X.prog X.w) p vs:=I.hok p _ hx
   have hlen:kvs.length=vs.length:=Paired.length r
   exact wpAny_truthy_dict hS m (by omega) ⟨H,I.tok _,by rw [zgc r];exact q⟩
 | _=>exact (show False from e).elim
theorem zhA (ha:PE X a ta) (he:∀ whole,isTrue a X.env whole=(do let v <- whole;standAt a.pos;holding [v] (truthy v))) :
  PT X a (fun σ H Q=>ta σ H fun x H' => ∃ k,TruV X.K x H' k/\Q k H'):=by
 intro pins s σ H Q I h
 exact isTrue_plain (thn (ha pins s σ H _ I h) fun v s1 ⟨x,H1,I1,r1,q1⟩=>ygv pins s1 σ H1 x v Q I1 r1 q1) (he _)
theorem zgd:OpR X (binaryOp .Add) (fun x y H Q=>∃ i j,x = .str i/\y = .str j/\i.length+j.length<=sizeLine/\Q (.str (i++j)) H):=by
 intro pins s σ H x y v u Q I rx ry h
 obtain ⟨i,j,rfl,rfl,hz,q⟩:=h
 obtain ⟨t,rfl⟩:=rx
 obtain ⟨t',rfl⟩:=ry
 exact add_str (fun t' tk=>⟨.str (i++j),H,I.tok _,⟨_,rfl⟩,q⟩) hz
theorem ydy {x:V} {us:List Value} (r:Vals [x] us):∃ u,us=[u]/\RelV x u:=by
 cases r with
 | cons r1 r2=>cases r2;exact ⟨_,rfl,r1⟩
theorem yeJ {x y:V} {us:List Value} (r:Vals [x,y] us):∃ u w',us=[u,w']/\RelV x u/\RelV y w' := by
 cases r with
 | cons r1 r2 =>
  cases r2 with
  | cons r3 r4=>cases r4;exact ⟨_,_,rfl,r1,r3⟩
theorem zhB:CallR X (.builtin "abs") (fun xs H Q=>∃ i,xs=[.int i]/\Q (.int (if i<0 then -i else i)) H):=by
 intro pins s σ H xs us Q I r h
 obtain ⟨i,rfl,q⟩:=h
 obtain ⟨u,rfl,t,rfl⟩:=ydy r
 exact call_abs_int fun u tk=>⟨.int (if i<0 then -i else i),H,I.tok _,⟨_,rfl⟩,q⟩
theorem zgL (hc:X.calm=true):CallR X (.builtin "max") (fun xs H Q=>∃ i j,xs=[.int i,.int j]/\Q (.int (if j > i then j else i)) H):=by
 intro pins s σ H xs us Q I r h
 obtain ⟨i,j,rfl,q⟩:=h
 obtain ⟨u,w',rfl,⟨t,rfl⟩,⟨t',rfl⟩⟩:=yeJ r
 refine max_two_ints (I.ok.hd hc) fun h' tk k=>⟨_,H,I.kept k,?_,q⟩
 by_cases hj:j > i
 ·rw [if_pos hj,if_pos hj];exact ⟨_,rfl⟩
 ·rw [if_neg hj,if_neg hj];exact ⟨_,rfl⟩
theorem zgM (hc:X.calm=true):CallR X (.builtin "min") (fun xs H Q=>∃ i j,xs=[.int i,.int j]/\Q (.int (if j<i then j else i)) H):=by
 intro pins s σ H xs us Q I r h
 obtain ⟨i,j,rfl,q⟩:=h
 obtain ⟨u,w',rfl,⟨t,rfl⟩,⟨t',rfl⟩⟩:=yeJ r
 refine min_two_ints (I.ok.hd hc) fun h' tk k=>⟨_,H,I.kept k,?_,q⟩
 by_cases hj:j<i
 ·rw [if_pos hj,if_pos hj];exact ⟨_,rfl⟩
 ·rw [if_neg hj,if_neg hj];exact ⟨_,rfl⟩
end
end L2
namespace L2
open PySem PySem.Spec PyProof.Rows
structure ObjM (h:Heap) (x dx C:Addr) (mA:Str->Option Value):Prop where
 obj:h.get? x=some (PySem.W.instObj C dx)
 ns:h.Ns1 dx mA
 ne:dx≠x
theorem zgN {h:Heap} {dx:Addr} {mA:Str->Option Value} (n:h.Ns1 dx mA):∃ od,h.get? dx=some od/\∀ name,PySem.W.lookIn name od=some (mA name):=by
 obtain ⟨o,es,ep,ho,hd,hk,_,hm⟩:=n
 refine ⟨o,ho,fun name=>?_⟩
 have e:=hm name
 unfold nsFind findBy at e
 rw [<- Array.find?_toList] at e
 unfold PySem.W.lookIn
 rw [hd]
 dsimp only
 split
 ·rename_i y q
  rw [q] at e
  exact congrArg some e
 ·rename_i q
  rw [q] at e
  have a:es.toList.any (·.refKey)=false:=by
   rw [List.any_eq_false]
   intro y hy
   obtain ⟨z,t,hkey⟩:=hk y (Array.mem_toList_iff.mp hy)
   simp [DictEntry.refKey,hkey]
  have a' : ¬ es.toList.any (·.refKey)=true:=by rw [a];exact Bool.false_ne_true
  rw [if_neg a']
  exact congrArg some e
theorem ObjM.look {h:Heap} {x dx C:Addr} {mA:Str->Option Value} (I:ObjM h x dx C mA):∃ od,PySem.W.InstAt h x (PySem.W.instObj C dx) C (some od)/\∀ name,PySem.W.lookIn name od=some (mA name) :=
 let ⟨od,ho,hl⟩:=zgN I.ns
 ⟨od,⟨I.obj,rfl,rfl,ho⟩,hl⟩
section
variable {prog:Program} {w:World} {A:Around} {E:Value->Shared->Prop} {s:Shared} {K:PySem.W.Frag} {x dx C f:Addr} {mA:Str->Option Value} {name:Str} {v:Value}
theorem ziA {expr:Bool} {Q:Value->Shared->Prop} (X:K.In s.heap) (I:ObjM s.heap x dx C mA) (hg:PySem.W.plainGet K C name=true) (hh:PySem.W.hasDictIn K C=true)
  (ha:PySem.W.findIn K (.ref C) name=some none) (hv:mA name=some v) (hv':PySem.W.handedIn v=true) (h:Q v { s with toks:=s.toks+1 }) :
  wpAny (model prog w) A (getAttr (.ref x) name expr) Q E s:=by
 obtain ⟨od,J,hl⟩:=I.look
 exact PySem.W.get_value X J (PySem.W.plainGet_of hg).1 (PySem.W.findObj_own hh ha rfl (by rw [hl,hv])) hv' h
theorem zhC {pl:Sem Bool} {Q:Value×List Value->Shared->Prop} (X:K.In s.heap) (I:ObjM s.heap x dx C mA) (hg:PySem.W.plainGet K C name=true)
  (hf:PySem.W.findIn K (.ref C) name=some (some (.ref f))) (ht:PySem.W.isFn K (.ref f)=true) (hv:mA name=none) (h:Q (.ref f,[.ref x]) s) :
  wpAny (model prog w) A (getMethod (.ref x) name pl) Q E s:=by
 obtain ⟨od,J,hl⟩:=I.look
 exact PySem.W.method_fn X J (PySem.W.plainGet_of hg).1 (PySem.W.plainGet_of hg).2 hf (beq_iff_eq.mp ht) (by show (PySem.W.lookIn name od).map (·.isSome)=some false;rw [hl,hv];rfl) h
theorem ziB {ns:List Str} {Q:Unit->Shared->Prop} (X:K.In s.heap) (I:ObjM s.heap x dx C mA)
  (hs:PySem.W.findIn K (.ref C) "__setattr__" = some (some (.builtin "object.__setattr__"))) (hp:PySem.W.plainOver K C=true) (ht:PySem.W.takerIn K C name=some none) (hh:PySem.W.hasDictIn K C=true)
  (hw:PySem.Within mA ns) (hsz:ns.length<=sizeLine)
  (h:∀ h',ObjM h' x dx C (fun y=>if y=name then some v else mA y)->Heap.SameBut dx s.heap h'->Q () { s with heap:=h',toks:=s.toks+2 }) :
  wpAny (model prog w) A (setAttr (.ref x) name v) Q E s:=by
 obtain ⟨od,J,hl⟩:=I.look
 refine PySem.W.set_plain X J hs (PySem.W.osa_open (s:={ s with toks:=s.toks+1 }) (r:=none) X J hp ht fun b=>?_)
 obtain ⟨cd,hc,hd'⟩:=PySem.W.any_some hh
 have hx:s.heap.get? x=some ⟨.ref C,some dx,.plain,#[]⟩:=I.obj
 refine wpAny_bind (wpAny_pure (wpAny_bind (wpAny_bind (wpAny_loadPart hx (wpAny_bind (PySem.W.Looks.here (s:={ s with toks:=s.toks+1 }) (PySem.W.looks_clsIn X hc) ?_))))))
 rw [hd']
 refine wpAny_pure (a:=some dx) (wpAny_bind (wpAny_pure (wpAny_bind ?_)))
 refine wpAny_nsSet1 (s:={ s with toks:=s.toks+1 }) I.ns fun h' hn2 hs2=>?_
 obtain ⟨oD,esD,epD,hoD,hdD,hcD⟩:=hn2.count (PySem.Within.cons name v hw)
 refine wpAny_bind (wpAny_lookBehind hoD (by rw [hdD];exact pastItsLine_dict (Nat.le_trans hcD (by rw [List.length_cons];omega))) ?_)
 exact wpAny_pure (h _ ⟨(hs2.2 _ (Ne.symm I.ne)).trans I.obj,hn2,I.ne⟩ hs2)
theorem zhD {R:Result->Shared->Prop} {vs:List Value} {kw:List (Str×Value)} (X:K.In s.heap) (hm:PySem.W.makesIn K C=true)
  (hi:PySem.W.findIn K (.ref C) "__init__" = some (some (.ref f))) (hf:PySem.W.typeIn K (.ref f)=some (.type "function"))
  (h:codeAny (model prog w) (A.under (.builtin "type.__call__" ⟨.ref C::vs,kw⟩)) (.call (.ref f) ⟨.ref (s.heap.objs.size+1)::vs,kw⟩) (PySem.W.InitBack (s.heap.objs.size+1) R)
   { s with heap:=(s.heap.push PySem.W.emptyDict).push (PySem.W.instObj C s.heap.objs.size) }) :
  codeAny (model prog w) A (.call (.ref C) ⟨vs,kw⟩) R s:=by
 obtain ⟨hh,g,d,t,os⟩:=s
 exact PySem.W.make_core (PySem.W.makes_of X hm) (PySem.W.looks_findIn X hi) (fun self=>PySem.W.bind_fn X self hf) (.inl rfl) h
end
def putF (f:Str) (v:V):List (Str×V)->List (Str×V)
 | []=>[(f,v)]
 | (g,x)::r=>if g=f then (g,v)::r else (g,x)::putF f v r
theorem zbs (f g:Str) (v:V):∀ fs:List (Str×V),(putF f v fs).lookup g=if g=f then some v else fs.lookup g
 | []=>by
  show List.lookup g [(f,v)]=_
  by_cases h:g=f
  ·have hb:(g == f)=true:=beq_iff_eq.mpr h
   simp only [List.lookup,hb,if_pos h]
  ·have hb:(g == f)=false:=beq_eq_false_iff_ne.mpr h
   simp only [List.lookup,hb,if_neg h]
 | (k,x)::r=>by
  have ih:=zbs f g v r
  rw [show putF f v ((k,x)::r)=(if k=f then (k,v)::r else (k,x)::putF f v r) from rfl]
  by_cases hk:k=f
  ·rw [if_pos hk]
   by_cases h:g=k
   ·have hb:(g == k)=true:=beq_iff_eq.mpr h
    simp only [List.lookup,hb,if_pos (h.trans hk)]
   ·have hb:(g == k)=false:=beq_eq_false_iff_ne.mpr h
    simp only [List.lookup,hb,if_neg (fun e:g=f=>h (e.trans hk.symm))]
  ·rw [if_neg hk]
   by_cases h:g=k
   ·have hb:(g == k)=true:=beq_iff_eq.mpr h
    simp only [List.lookup,hb,if_neg (fun e:g=f=>hk (h.symm.trans e))]
   ·have hb:(g == k)=false:=beq_eq_false_iff_ne.mpr h
    simp only [List.lookup,hb]
    exact ih
theorem zco (f:Str) (v:V):∀ fs:List (Str×V),f∈(putF f v fs).map (·.1)/\∀ g,g∈fs.map (·.1)->g∈(putF f v fs).map (·.1)
 | []=>⟨by simp [putF],fun g h=>by simp at h⟩
 | (k,x)::r=>by
  obtain ⟨i1,i2⟩:=zco f v r
  rw [show putF f v ((k,x)::r)=(if k=f then (k,v)::r else (k,x)::putF f v r) from rfl]
  by_cases hk:k=f
  ·rw [if_pos hk]
   subst hk
   exact ⟨by simp,fun g h=>by simpa using h⟩
  ·rw [if_neg hk]
   refine ⟨?_,fun g h=>?_⟩
   ·rw [List.map_cons]
    exact List.mem_cons_of_mem _ i1
   ·rw [List.map_cons] at h ⊢
    rcases List.mem_cons.mp h with e | e
    ·exact List.mem_cons.mpr (.inl e)
    ·exact List.mem_cons_of_mem _ (i2 g e)
theorem zcV (f:Str) (v:V):∀ fs:List (Str×V),(putF f v fs).length<=fs.length+1
 | []=>by simp [putF]
 | (k,x)::r=>by
  have ih:=zcV f v r
  rw [show putF f v ((k,x)::r)=(if k=f then (k,v)::r else (k,x)::putF f v r) from rfl]
  by_cases hk:k=f
  ·rw [if_pos hk,List.length_cons,List.length_cons];omega
  ·rw [if_neg hk,List.length_cons,List.length_cons];omega
theorem RelO.some_of {v:V} {o:Option Value} (r:RelO (some v) o):∃ u,o=some u/\RelV v u:=by
 cases o with
 | none=>exact (show False from r).elim
 | some u=>exact ⟨u,rfl,r⟩
theorem RelO.none_of {o:Option Value} (r:RelO none o):o=none:=by
 cases o with
 | none=>rfl
 | some u=>exact (show False from r).elim
theorem zgO {v:V} {u:Value} (r:RelV v u):PySem.W.handedIn u=true:=by
 cases v with
 | non=>cases (show u=Value.none from r);rfl
 | bl b=>cases (show u=Value.bool b from r);rfl
 | int i=>obtain ⟨t,e⟩:=(show ∃ t,u=Value.int i t from r);cases e;rfl
 | str x=>obtain ⟨t,e⟩:=(show ∃ t,u=Value.str x t from r);cases e;rfl
 | byt b=>obtain ⟨t,e⟩:=(show ∃ t,u=Value.bytes b t from r);cases e;rfl
 | flt b=>obtain ⟨t,e⟩:=(show ∃ t,u=Value.float b t from r);cases e;rfl
 | ref a=>cases (show u=Value.ref a from r);rfl
 | ty n=>cases (show u=Value.type n from r);rfl
section
variable {P:Program} {w:World} {H H':Hp} {h h':Heap} {a C dx:Addr} {fs fs':List (Str×V)}
theorem zcJ (hok:HOk P w H h) (e:H a=some (.ins C dx fs)):∃ mA,ObjM h a dx C mA/\(∀ f,RelO (fs.lookup f) (mA f))/\PySem.Within mA (fs.map (·.1))/\fs.length<=1000/\H dx=some (.own a):=by
 obtain ⟨d,z,ne,ob,mA,n,r,q⟩:=(show ObjOk P w H h a (.ins C dx fs) from hok a _ e)
 exact ⟨mA,⟨ob,n,ne⟩,r,q,z,d⟩
end
structure Cls (K:PySem.W.Frag) (C:Addr):Prop where
 pg:PySem.W.plainGet K C Str.empty=true
 hd:PySem.W.hasDictIn K C=true
 po:PySem.W.plainOver K C=true
 sa:PySem.W.findIn K (.ref C) "__setattr__" = some (some (.builtin "object.__setattr__"))
theorem Cls.get {K:PySem.W.Frag} {C:Addr} (c:Cls K C) (f:Str):PySem.W.plainGet K C f=true:=c.pg
def NoAttr (K:PySem.W.Frag) (C:Addr) (f:Str):Prop:=PySem.W.findIn K (.ref C) f=some none
theorem NoAttr.taker {K:PySem.W.Frag} {C:Addr} {f:Str} (n:NoAttr K C f):PySem.W.takerIn K C f=some none:=by
 unfold PySem.W.takerIn
 rw [show PySem.W.findIn K (.ref C) f=some none from n]
 rfl
structure Meth (K:PySem.W.Frag) (C:Addr) (m:Str) (f:Addr):Prop where
 at_:PySem.W.findIn K (.ref C) m=some (some (.ref f))
 fn:PySem.W.isFn K (.ref f)=true
 kp:PySem.W.keepIn K (.ref f)=true
section
variable {X:Cx} {pins:List (Addr×Obj)} {σ:St} {H:Hp} {s:Shared} {a C dx:Addr} {fs:List (Str×V)} {f:Str} {v:V} {A:Around} {E:Value->Shared->Prop}
theorem zge {b:Bool} {Q:Value->Shared->Prop} (I:Inv X pins σ H s) (e:H a=some (.ins C dx fs)) (c:Cls X.K C) (n:NoAttr X.K C f) (l:fs.lookup f=some v)
  (h:∀ u s',Inv X pins σ H s'->RelV v u->Q u s'):wpAny (model X.prog X.w) A (getAttr (.ref a) f b) Q E s:=by
 obtain ⟨mA,O,r,_,_,_⟩:=zcJ I.hok e
 obtain ⟨u,hu,ru⟩:=RelO.some_of (v:=v) (o:=mA f) (by rw [<- l];exact r f)
 exact ziA I.kIn O (c.get f) c.hd n hu (zgO ru) (h u _ (I.tok _) ru)
theorem zdt {m:Str} {g:Addr} {pl:Sem Bool} {Q:Value×List Value->Shared->Prop} (I:Inv X pins σ H s) (e:H a=some (.ins C dx fs)) (c:Cls X.K C) (k:Meth X.K C m g) (l:fs.lookup m=none)
  (h:Q (.ref g,[.ref a]) s):wpAny (model X.prog X.w) A (getMethod (.ref a) m pl) Q E s:=by
 obtain ⟨mA,O,r,_,_,_⟩:=zcJ I.hok e
 have hn:mA m=none:=RelO.none_of (by rw [<- l];exact r m)
 exact zhC I.kIn O (c.get m) k.at_ k.fn hn h
theorem zgf {y:V} {u:Value} {Q:Unit->Shared->Prop} (I:Inv X pins σ H s) (e:H a=some (.ins C dx fs)) (c:Cls X.K C) (n:NoAttr X.K C f) (hl:fs.length<1000) (ry:RelV y u)
  (h:∀ s',Inv X pins σ (upd H a (.ins C dx (putF f y fs))) s'->Q () s'):wpAny (model X.prog X.w) A (setAttr (.ref a) f u) Q E s:=by
 obtain ⟨mA,O,r,wi,_,ho⟩:=zcJ I.hok e
 have hz:(fs.map (·.1)).length<=sizeLine:=by rw [List.length_map,sizeLine_eq];omega
 refine ziB I.kIn O c.sa c.po n.taker c.hd wi hz fun h' O' sb=>h _ ?_
 have hd:∃ o,h'.get? dx=some o:=let ⟨o,_,_,e',_⟩:=O'.ns;⟨o,e'⟩
 refine I.write (x:=a) (e:=dx) (by rw [e];exact True.intro) (.inr ho) (fun b q hb z=>(sb.2 b hb).trans z) hd ?_
 refine ⟨by rw [yaN O.ne];exact ho,?_,O.ne,O'.obj,_,O'.ns,fun g=>?_,fun g hg=>?_⟩
 ·have:=zcV f y fs;omega
 ·show RelO ((putF f y fs).lookup g) (if g=f then some u else mA g)
  rw [zbs]
  by_cases q:g=f
  ·rw [if_pos q,if_pos q];exact ry
  ·rw [if_neg q,if_neg q];exact r g
 ·by_cases q:g=f
  ·rw [q];exact (zco f y fs).1
  ·refine (zco f y fs).2 g (wi g fun z=>hg ?_)
   show (if g=f then some u else mA g)=none
   rw [if_neg q];exact z
theorem Inv.made (I:Inv X pins σ H s):Inv X pins σ (upd (upd H s.heap.objs.size (.own (s.heap.objs.size+1))) (s.heap.objs.size+1) (.ins C s.heap.objs.size []))
  { s with heap:=(s.heap.push PySem.W.emptyDict).push (PySem.W.instObj C s.heap.objs.size) }:=by
 have e1:(s.heap.push PySem.W.emptyDict).get? s.heap.objs.size=some PySem.W.emptyDict:=Heap.get?_push_size s.heap rfl
 have e2:((s.heap.push PySem.W.emptyDict).push (PySem.W.instObj C s.heap.objs.size)).get? (s.heap.objs.size+1)=some (PySem.W.instObj C s.heap.objs.size):=by
  have:=Heap.get?_push_size (s.heap.push PySem.W.emptyDict) (o:=PySem.W.instObj C s.heap.objs.size) rfl
  rwa [Heap.size_push] at this
 have e3:(s.heap.push PySem.W.emptyDict).Ns s.heap.objs.size (fun _=>none):=⟨PySem.W.emptyDict,#[],_,e1,rfl,(fun e he=>absurd he (by simp)),fun _=>rfl⟩
 have I1:=I.laid (a:=s.heap.objs.size) (o:=.own (s.heap.objs.size+1)) (h' := s.heap.push PySem.W.emptyDict) (t' := s.toks) (fun b u q=>Heap.get?_push_of_some _ q) (Nat.le_refl _) ⟨_,e1⟩
 refine I1.laid (a:=s.heap.objs.size+1) (o:=.ins C s.heap.objs.size []) (t' := s.toks) (fun b u q=>Heap.get?_push_of_some _ q) (Nat.le_of_eq (Heap.size_push _ _)) ?_
 have ne:s.heap.objs.size≠s.heap.objs.size+1:=Nat.ne_of_lt (Nat.lt_succ_self _)
 refine ⟨by rw [yaN ne,zav],Nat.zero_le _,ne,e2,fun _=>none,(Heap.Ns1.of_empty e3).at fun o q=>Heap.get?_push_of_some _ q,fun _=>True.intro,fun y hy=>absurd rfl hy⟩
theorem ziC {prog:Program} {w:World} {env:Env} {e:Expr} {f:Str} {pos:Pos} {s:Shared} {Q:Value->Shared->Prop} (hb:attributeBase e f env (eval e env)=eval e env)
  (h:wpAny (model prog w) A (eval e env) (fun o s₁=>wpAny (model prog w) A (getAttr o f true) Q E s₁) E s):wpAny (model prog w) A (eval (.Attribute e f pos) env) Q E s :=
 Attribute_any_ h (by rw [arm_eval_Attribute,hb])
end
def tFld (K:PySem.W.Frag) (ta:TE) (f:Str):TE:=fun σ H Q=>ta σ H fun x H1=>∃ a C dx fs v,x = .ref a/\H1 a=some (.ins C dx fs)/\Cls K C/\NoAttr K C f/\fs.lookup f=some v/\Q v H1
def sFld (K:PySem.W.Frag) (ta tv:TE) (f:Str):TS:=fun D σ H=>tv σ H fun y H1=>ta σ H1 fun x H2=>∃ a C dx fs,x = .ref a/\H2 a=some (.ins C dx fs)/\Cls K C/\NoAttr K C f/\fs.length<1000 /\
 D.nx σ (upd H2 a (.ins C dx (putF f y fs)))
section
variable {X:Cx} {o e value:Expr} {f:Str} {pos pos' tpos:Pos} {ta tv:TE}
theorem ygw (he:PE X e ta) (hb:attributeBase e f X.env (eval e X.env)=eval e X.env):PE X (.Attribute e f pos) (tFld X.K ta f):=by
 intro pins s σ H Q I h
 refine ziC hb (thn (he pins s σ H _ I h) fun u s1 ⟨x,H1,I1,rx,a,C,dx,fs,v,ex,ea,c,n,l,q⟩=>?_)
 subst ex
 obtain rfl:u=Value.ref a:=rx
 exact zge I1 ea c n l fun u' s2 I2 ru=>⟨v,H1,I2,ru,q⟩
theorem ygx (ha:PE X o ta) (hv:PE X value tv) (hs:swapsWith value (some (.Attribute o f pos')) pos.line X.env=pure false):PS X (.Assign [.Attribute o f pos'] value pos) (sFld X.K ta tv f):=by
 intro pins s σ H D I h
 refine plainObj_wpAny_Assign_Attribute (thn (hv pins s σ H _ I h) fun u s1 ⟨y,H1,I1,ry,q⟩=>thn (ha pins s1 σ H1 _ I1 q) fun ov s2 ⟨x,H2,I2,rx,a,C,dx,fs,ex,ea,c,n,l,q2⟩=>?_) hs
 subst ex
 obtain rfl:ov=Value.ref a:=rx
 exact zgf I2 ea c n l ry fun s3 I3=>⟨σ,_,I3,q2⟩
end
section
variable {X:Cx} {pins:List (Addr×Obj)} {σ:St} {H:Hp} {s:Shared} {A:Around} {E:Value->Shared->Prop} {Q:Value->Shared->Prop} {c:Value} {b:Bool}
inductive TyOf (K:PySem.W.Frag) (H:Hp):V->Value->Prop where
 | non:TyOf K H .non (.type "NoneType")
 | bl (x:Bool):TyOf K H (.bl x) (.type "bool")
 | int (i:Int):TyOf K H (.int i) (.type "int")
 | str (x:Str):TyOf K H (.str x) (.type "str")
 | flt (x:UInt64):TyOf K H (.flt x) (.type "float")
 | lst {a:Addr} {xs:List V} (e:H a=some (.lst xs)):TyOf K H (.ref a) (.type "list")
 | frz {a:Addr} {o:Obj} {xs:List V} (e:H a=some (.frz o (.lst xs))):TyOf K H (.ref a) (.type "list")
 | tup {a:Addr} {xs:List V} (e:H a=some (.tup xs)):TyOf K H (.ref a) (.type "tuple")
 | dK {a:Addr} {kvs:List (Key×V)} (e:H a=some (.dK kvs)):TyOf K H (.ref a) (.type "dict")
 | dT {a:Addr} {kvs:List (List Key×V)} (e:H a=some (.dT kvs)):TyOf K H (.ref a) (.type "dict")
 | ins {a C dx:Addr} {fs:List (Str×V)} (e:H a=some (.ins C dx fs)) (cl:Cls K C) (ha:PySem.W.findIn K (.ref C) "__class__" = some (some (.builtin "object.__class__")))
   (hn:PySem.W.specialIn K (.builtin "object.__class__") "__get__" = some (some (.builtin "getset_descriptor.__get__"))) (htk:PySem.W.takesIn K (.builtin "object.__class__")=some true)
   (hm:PySem.W.mroIn K C (.type "object")=some true):TyOf K H (.ref a) (.ref C)
theorem zgP {x:V} {u t:Value} (I:Inv X pins σ H s) (rx:RelV x u) (ty:TyOf X.K H x t) (e:PySem.W.kitOne X.K t c=some b) (h:∀ tk,Q (.bool b) { s with toks:=tk }) :
  wpAny (model X.prog X.w) A (call (.builtin "isinstance") [u,c]) Q E s:=by
 cases ty with
 | non=>cases (show u=Value.none from rx);exact PySem.W.kia_one PySem.W.kitx_none I.kIn True.intro e (fun z=>nomatch z) h
 | bl y=>cases (show u=Value.bool y from rx);exact PySem.W.kia_one PySem.W.kitx_bool I.kIn True.intro e (fun z=>nomatch z) h
 | int i=>obtain ⟨t,q⟩:=(show ∃ t,u=Value.int i t from rx);cases q;exact PySem.W.kia_one PySem.W.kitx_int I.kIn True.intro e (fun z=>nomatch z) h
 | str y=>obtain ⟨t,q⟩:=(show ∃ t,u=Value.str y t from rx);cases q;exact PySem.W.kia_one PySem.W.kitx_str I.kIn True.intro e (fun z=>nomatch z) h
 | flt y=>obtain ⟨t,q⟩:=(show ∃ t,u=Value.float y t from rx);cases q;exact PySem.W.kia_one PySem.W.kitx_float I.kIn True.intro e (fun z=>nomatch z) h
 | @lst a xs ea =>
  cases (show u=Value.ref a from rx)
  obtain ⟨_,_,n,_,h1⟩:=(show ObjOk X.prog X.w H s.heap a (.lst xs) from I.hok a _ ea)
  exact PySem.W.kia_one PySem.W.kitx_list I.kIn ⟨_,h1,rfl⟩ e (fun z=>nomatch z) h
 | @frz a ob xs ea =>
  cases (show u=Value.ref a from rx)
  obtain ⟨_,_,_,n,_,h1⟩:=(show ObjOk X.prog X.w H s.heap a (.frz ob (.lst xs)) from I.hok a _ ea)
  exact PySem.W.kia_one PySem.W.kitx_list I.kIn ⟨_,h1,rfl⟩ e (fun z=>nomatch z) h
 | @tup a xs ea =>
  cases (show u=Value.ref a from rx)
  obtain ⟨_,_,_,p⟩:=(show ObjOk X.prog X.w H s.heap a (.tup xs) from I.hok a _ ea)
  obtain ⟨o,h1,h2,_⟩:=p
  exact PySem.W.kia_one PySem.W.kitx_tuple I.kIn ⟨o,h1,h2⟩ e (fun z=>nomatch z) h
 | @dK a kvs ea =>
  cases (show u=Value.ref a from rx)
  obtain ⟨_,_,vs,_,p⟩:=(show ObjOk X.prog X.w H s.heap a (.dK kvs) from I.hok a _ ea)
  obtain ⟨o,es,ep,h1,h2,_⟩:=p
  exact PySem.W.kia_one PySem.W.kitx_dict I.kIn ⟨o,h1,h2.1⟩ e (fun z=>nomatch z) h
 | @dT a kvs ea =>
  cases (show u=Value.ref a from rx)
  obtain ⟨_,_,xs,_,o,es,ep,h1,h2,_⟩:=(show ObjOk X.prog X.w H s.heap a (.dT kvs) from I.hok a _ ea)
  exact PySem.W.kia_one PySem.W.kitx_dict I.kIn ⟨o,h1,h2.1⟩ e (fun z=>nomatch z) h
 | @ins a C dx fs ea cl ha hn htk hm =>
  cases (show u=Value.ref a from rx)
  obtain ⟨mA,O,_⟩:=zcJ I.hok ea
  obtain ⟨od,J,_⟩:=O.look
  exact PySem.W.kia_one (PySem.W.kitx_own (cl.get _) cl.hd ha hn htk hm) I.kIn J e (fun z=>nomatch z) h
end
end L2
namespace L2
open PySem PySem.Spec PyProof.Rows
structure Room (k:Nat) (A:Around):Prop where
 hd:A.handled=none
 dp:A.depth+3*k+5<recursionLimit
 un:A.units+16*k+200<cLine
theorem Room.mono {j k:Nat} {A:Around} (r:Room k A) (h:j<=k):Room j A:=⟨r.hd,by have:=r.dp;omega,by have:=r.un;omega⟩
theorem Room.deeper {k:Nat} {A:Around} (r:Room (k+1) A) (env:Env):Room k (A.deeper env) :=
 ⟨r.hd,by have:=r.dp;show A.depth+1+3*k+5<_;omega,by have:=r.un;show A.units+3+16*k+200<_;omega⟩
theorem zgg {A:Around} {C:Addr} {us:List Value} {kw:List (Str×Value)}:(A.under (.builtin "type.__call__" ⟨.ref C::us,kw⟩)).depth=A.depth+1:=by
 first | rfl | simp [Around.under,Code.weight,Code.isCreation,Code.isGuard,Code.isCaller,Code.frames,Code.isFrame,guardIds]
theorem zgh {A:Around} {C:Addr} {us:List Value} {kw:List (Str×Value)}:(A.under (.builtin "type.__call__" ⟨.ref C::us,kw⟩)).units=A.units+1:=by
 first | rfl | simp [Around.under,Code.cUnits,Code.frames,Code.isFrame]
theorem Room.make {k:Nat} {A:Around} (r:Room (k+1) A) (C:Addr) (us:List Value) (kw:List (Str×Value)):Room k (A.under (.builtin "type.__call__" ⟨.ref C::us,kw⟩)) :=
 ⟨r.hd,by have:=r.dp;rw [zgg];omega,by have:=r.un;rw [zgh];omega⟩
theorem Room.depth {k:Nat} {A:Around} (r:Room k A):A.depth<recursionLimit:=by have:=r.dp;omega
def tNil:TA:=fun _ H Q=>Q [] H
def yhI (ta:TE) (tr:TA):TA:=fun σ H Q=>ta σ H fun x H1=>tr σ H1 fun xs H2=>Q (x::xs) H2
section
variable {X:Cx} {e:Expr} {es:List Expr} {te:TE} {t:TA} {pos:Pos}
theorem yfq:PA X [] tNil:=fun _ _ _ _ H Q I h=>Calls.spliced_nil ⟨[],H,I,.nil,h⟩
theorem zdK (ha:PE X e te) (hr:PA X es t) (hs:starEach (e::es) X.env=(false,eval e X.env)::starEach es X.env:=by rfl):PA X (e::es) (yhI te t):=by
 intro pos pins s σ H Q I h
 rw [hs]
 show wpAny _ _ (spliced ((false,eval e X.env)::backTo pos (starEach es X.env))) _ _ s
 refine Calls.spliced_cons (thn (ha pins s σ H _ I h) fun u s1 ⟨x,H1,I1,r1,q1⟩=>?_)
 exact thn (hr pos pins s1 σ H1 _ I1 q1) fun us s2 ⟨xs,H2,I2,r2,q2⟩=>⟨x::xs,H2,I2,.cons r1 r2,q2⟩
def tTup (t:TA):TE:=fun σ H Q=>t σ H fun xs H1=>xs.length<=sizeLine/\∀ p,H1 p=none->Q (.ref p) (upd H1 p (.tup xs))
def tLst (t:TA):TE:=fun σ H Q=>t σ H fun xs H1=>xs.length<=sizeLine/\∀ p,H1 p=none->Q (.ref p) (upd H1 p (.lst xs))
theorem ygy {x1} (h:PA X es t):PE X (.Tuple es x1 pos) (tTup t):=by
 intro pins s σ H Q I hq
 refine wpAny_Tuple_spliced (thn (h pos pins s σ H _ I hq) fun us s1 ⟨xs,H1,I1,r,z,q⟩=>⟨by rw [<- r.length];exact z,?_⟩)
 have hf:H1 s1.heap.objs.size=none:=I1.hok.fresh (Nat.le_refl _)
 refine ⟨.ref s1.heap.objs.size,upd H1 s1.heap.objs.size (.tup xs),I1.laid (t' := s1.toks) (fun b u e=>Heap.get?_push_of_some _ e) (Nat.le_refl _) ?_,rfl,q _ hf⟩
 exact ⟨z,us,r,⟨_,Heap.get?_push_size _ rfl,rfl,_,rfl⟩⟩
theorem yfr (h:PA X es t):PE X (.List es pos) (tLst t):=by
 intro pins s σ H Q I hq
 refine wpAny_List_spliced (thn (h pos pins s σ H _ I hq) fun us s1 ⟨xs,H1,I1,r,z,q⟩=>⟨by rw [<- r.length];exact z,?_⟩)
 have hf:H1 s1.heap.objs.size=none:=I1.hok.fresh (Nat.le_refl _)
 refine ⟨.ref s1.heap.objs.size,upd H1 s1.heap.objs.size (.lst xs),I1.laid (t' := s1.toks) (fun b u e=>Heap.get?_push_of_some _ e) (Nat.le_refl _) ?_,rfl,q _ hf⟩
 exact ⟨z,us,0,r,Heap.get?_push_size _ rfl⟩
end
abbrev Sp:=List V->Hp->VK->XK->Prop
abbrev CXT:=List Env->Hp->Shared->XK->Value->Shared->Prop
structure Env0 (P:Program) (w:World) (K:PySem.W.Frag) (mg:Str->Option Value) (base:Heap) (A:Around) (outer:List Env) (s:Shared) (H:Hp):Prop where
 frames:A.frames=some outer
 mod:Mod K mg base
 bs:∀ b o,base.get? b=some o->s.heap.get? b=some o/\H b=none
 bsz:base.objs.size<=s.heap.objs.size
 funs:s.heap.FunFrames base outer
 frf:∀ b∈frs outer,H b=none
 hok:HOk P w H s.heap
 bare:AllBare s.gens
def CE (outer:List Env) (P:Program) (w:World) (H:Hp) (s:Shared) (Q:VK) (u:Value) (s':Shared):Prop :=
 ∃ v H',s'.os=s.os/\AllBare s'.gens/\Un (frs outer) [] H H' s.heap s'.heap/\HOk P w H' s'.heap/\RelV v u/\Q v H'
def CR (CX:CXT) (outer:List Env) (P:Program) (w:World) (H:Hp) (s:Shared) (Q:VK) (E:XK) (r:Result) (s':Shared):Prop :=
 match r with
 | .ok (.ret u)=>CE outer P w H s Q u s'
 | .ok _=>False
 | .error e=>CX outer H s E e s'
structure FnOk (P:Program) (w:World) (K:PySem.W.Frag) (mg:Str->Option Value) (base:Heap) (CX:CXT) (k:Nat) (f:Addr) (fd:FuncData) (ps:List Str) (sp:Sp):Prop where
 len:∀ vs H Q E,sp vs H Q E->vs.length=ps.length
 run:∀ (A:Around) (outer:List Env) (s:Shared) (H:Hp) (args:Args) (us:List Value) (vs:List V) (Q:VK) (E:XK),Room k A->Env0 P w K mg base A outer s H->BindsTo s fd args (ps.zip us)->Vals vs us->sp vs H Q E ->
  codeAny (model P w) A (.call (.ref f) args) (CR CX outer P w H s Q E) s
theorem FnOk.imp {P:Program} {w:World} {K:PySem.W.Frag} {mg:Str->Option Value} {base:Heap} {CX:CXT} {k:Nat} {f:Addr} {fd:FuncData} {ps:List Str} {sp sp':Sp} (F:FnOk P w K mg base CX k f fd ps sp)
  (h:∀ vs H Q E,sp' vs H Q E->sp vs H Q E):FnOk P w K mg base CX k f fd ps sp' :=
 ⟨fun vs H Q E q=>F.len vs H Q E (h _ _ _ _ q),fun A outer s H args us vs Q E hr he hb hv hs=>F.run A outer s H args us vs Q E hr he hb hv (h _ _ _ _ hs)⟩
theorem Env0.make {P:Program} {w:World} {K:PySem.W.Frag} {mg:Str->Option Value} {base:Heap} {A:Around} {outer:List Env} {s:Shared} {H:Hp} (e:Env0 P w K mg base A outer s H) (C:Addr) (us:List Value) (kw:List (Str×Value)) :
  Env0 P w K mg base (A.under (.builtin "type.__call__" ⟨.ref C::us,kw⟩)) outer s H:=⟨by first | exact e.frames | (simpa [Around.under,Code.envs,Code.isFrame,pushEnvs] using e.frames),e.mod,e.bs,e.bsz,e.funs,e.frf,e.hok,e.bare⟩
section
variable {X:Cx} {pins:List (Addr×Obj)} {σ:St} {H:Hp} {s s':Shared}
theorem Inv.env0 (I:Inv X pins σ H s):Env0 X.prog X.w X.K X.mg X.base X.A X.stack s H :=
 ⟨I.ok.frames,I.ok.mod,I.bs,Nat.le_trans I.ok.bsz I.sz,I.stack,I.stkFree,I.hok,I.bare⟩
theorem Inv.after {Q:VK} {u:Value} (I:Inv X pins σ H s) (h:CE X.stack X.prog X.w H s Q u s'):EP X pins σ Q u s' := by
 obtain ⟨v,H',os,bare,un,hok,r,q⟩:=h
 obtain ⟨hh,g,d,t,os'⟩:=s'
 obtain rfl:os'=s.os:=os
 exact ⟨v,H',I.call (h' := hh) (g' := g) (d' := d) (t' := t) (ch:=[]) un hok bare (fun b z=>absurd z (by simp)),r,q⟩
end
def Binds (K:PySem.W.Frag) (fd:FuncData) (ps:List Str) (ds:List Value):Prop :=
 ∀ (s:Shared) (us:List Value),K.In s.heap->(us++ds).length=ps.length->BindsTo s fd ⟨us,[]⟩ (ps.zip (us++ds))
theorem Binds.all {K:PySem.W.Frag} {fd:FuncData} {ps:List Str} (h:∀ us:List Value,us.length=ps.length->bindArgs fd ⟨us,[]⟩=pure (ps.zip us)):Binds K fd ps []:=fun s us _ hl=>by
 rw [List.append_nil] at hl ⊢
 exact .of_eq (h us hl)
def ygz (CX:CXT) (X:Cx) (E:XK):Prop:=∀ (pins:List (Addr×Obj)) (σ:St) (H:Hp) (s:Shared) (e:Value) (s':Shared),Inv X pins σ H s->CX X.stack H s E e s'->X.xe e s'
section
variable {X:Cx} {CX:CXT} {k:Nat} {f C:Addr} {fd:FuncData} {ps:List Str} {sp:Sp} {dvs:List V} {ds:List Value} {E:XK} {x m:Str} {p pos apos:Pos} {e o:Expr} {es:List Expr} {ta:TE} {t:TA}
structure Mk (K:PySem.W.Frag) (C f:Addr):Prop where
 makes:PySem.W.makesIn K C=true
 init:PySem.W.findIn K (.ref C) "__init__" = some (some (.ref f))
 fn:PySem.W.isFn K (.ref f)=true
 kp:PySem.W.keepIn K (.ref C)=true
end
section
variable {X:Cx} {CX:CXT} {k:Nat} {f C:Addr} {fd:FuncData} {ps ks:List Str} {sp:Sp} {E:XK} {x m:Str} {p pos apos kpos:Pos} {e o:Expr} {es:List Expr} {kws:List Keyword} {te ta:TE} {t tk:TA} {nm:Option Str}
variable {g:List Value->List Value->List Value} {gV:List V->List V->List V}
end
structure FnScope (N P:List Str) (sc:Scope):Prop where
 kind:sc.kind = .function
 co:sc.isCoroutine=false
 gen:sc.isGenerator=false
 nd:N.Nodup
 pre:N.take P.length=P
 par:∀ x∈P,sc.names.lookup x=some .local\/sc.names.lookup x=some .cell
 nofree:∀ y∈sc.names,y.2 ≠ .free
theorem zd6 {kindOf:Str->Option NameKind} {x:Str}:∀ {binds:List (Str×Value)} {m:Str->Option Value},(∀ v,(x,v)∉binds)->bindL kindOf binds m x=m x
 | [],_,_=>rfl
 | (n,v)::r,m,h=>by
  unfold bindL
  rw [zd6 fun w hw=>h w (List.mem_cons_of_mem _ hw)]
  split
  ·have:x≠n:=by rintro rfl;exact h v List.mem_cons_self
   simp [this]
  ·rfl
theorem zd7 {kindOf:Str->Option NameKind} {x:Str}:∀ {binds:List (Str×Value)} {m:Str->Option Value},(∀ v,(x,v)∉binds)->bindC kindOf binds m x=m x
 | [],_,_=>rfl
 | (n,v)::r,m,h=>by
  unfold bindC
  rw [zd7 fun w hw=>h w (List.mem_cons_of_mem _ hw)]
  split
  ·rfl
  ·have:x≠n:=by rintro rfl;exact h v List.mem_cons_self
   simp [this]
theorem zd8 {kindOf:Str->Option NameKind} {x:Str} {v:Value}:∀ {P:List Str} {vs:List Value} {i:Nat} {m:Str->Option Value},P.Nodup->P[i]? = some x->vs[i]? = some v->kindOf x=some .local ->
  bindL kindOf (P.zip vs) m x=some v
 | [],_,_,_,_,h,_,_=>by simp at h
 | _::_,[],_,_,_,_,h,_=>by simp at h
 | p::P,w::vs,0,m,nd,h1,h2,hk=>by
  simp at h1 h2;subst h1;subst h2
  show bindL kindOf ((p,w)::P.zip vs) m p=_
  unfold bindL
  rw [zd6 fun v hv=>(List.nodup_cons.mp nd).1 (List.of_mem_zip hv).1,if_pos hk]
  simp
 | p::P,w::vs,i+1,m,nd,h1,h2,hk=>by
  show bindL kindOf ((p,w)::P.zip vs) m x=_
  unfold bindL
  exact zd8 (i:=i) (List.nodup_cons.mp nd).2 (by simpa using h1) (by simpa using h2) hk
theorem zd9 {kindOf:Str->Option NameKind} {x:Str} {v:Value}:∀ {P:List Str} {vs:List Value} {i:Nat} {m:Str->Option Value},P.Nodup->P[i]? = some x->vs[i]? = some v->kindOf x≠some .local ->
  bindC kindOf (P.zip vs) m x=some v
 | [],_,_,_,_,h,_,_=>by simp at h
 | _::_,[],_,_,_,_,h,_=>by simp at h
 | p::P,w::vs,0,m,nd,h1,h2,hk=>by
  simp at h1 h2;subst h1;subst h2
  show bindC kindOf ((p,w)::P.zip vs) m p=_
  unfold bindC
  rw [zd7 fun v hv=>(List.nodup_cons.mp nd).1 (List.of_mem_zip hv).1,if_neg hk]
  simp
 | p::P,w::vs,i+1,m,nd,h1,h2,hk=>by
  show bindC kindOf ((p,w)::P.zip vs) m x=_
  unfold bindC
  exact zd9 (i:=i) (List.nodup_cons.mp nd).2 (by simpa using h1) (by simpa using h2) hk
def start (N:List Str) (vs:List V):St:=vs.map some++List.replicate (N.length-vs.length) none
def cxOf (CX:CXT) (P:Program) (w:World) (K:PySem.W.Frag) (mg:Str->Option Value) (base:Heap) (N:List Str) (qual:Str) (scope:Scope) (f:Addr) (cd:Value) (A:Around) (outer:List Env) (s:Shared) (H:Hp) (E:XK):Cx where
 prog:=P
 w:=w
 K:=K
 mg:=mg
 base:=base
 A:=A.deeper (envOfC qual scope s.heap.objs.size f cd)
 N:=N
 s₀:=s
 H₀:=H
 env:=envOfC qual scope s.heap.objs.size f cd
 outer:=outer
 stack:=envOfC qual scope s.heap.objs.size f cd::outer
 ex:=[]
 calm:=true
 fn:=fun _=>true
 pn:=[]
 xe:=fun e s' => wpAny (model P w) (A.deeper (envOfC qual scope s.heap.objs.size f cd)) (leaving (envOfC qual scope s.heap.objs.size f cd) e) (fun _ s'' => CX outer H s E e s'') (fun e' s'' => CX outer H s E e' s'') s'
theorem zey {sc:Scope} {n:Nat} {x:Str} (h:sc.names.lookup x=some .cell):∃ c,(cellsFrom n sc.names []).lookup x=some c:=by
 have q:=PySem.W.cellsFrom_some sc.names n [] (.inl h)
 exact Option.isSome_iff_exists.mp q
theorem zgQ {CX:CXT} {P:Program} {w:World} {K:PySem.W.Frag} {mg:Str->Option Value} {base:Heap} {N ps:List Str} {qual:Str} {scope:Scope} {f:Addr} {cd:Value} {A:Around} {outer:List Env} {s s1:Shared} {H:Hp} {E:XK} {us:List Value} {vs:List V}
  (S:FnScope N ps scope) (hd:A.handled=none) (e0:Env0 P w K mg base A outer s H) (hl:vs.length=ps.length) (r:Vals vs us)
  (x:InCallC s s.heap.objs.size (bindL (envOfC qual scope s.heap.objs.size f cd).kindOf (ps.zip us) fun _=>none) (cellsFrom (s.heap.objs.size+1) scope.names []) (bindC (envOfC qual scope s.heap.objs.size f cd).kindOf (ps.zip us) fun _=>none) s1) :
  Inv (cxOf CX P w K mg base N qual scope f cd A outer s H E) [] (start N vs) H s1:=by
 have hpl:ps.length<=N.length:=by have:=congrArg List.length S.pre;rw [List.length_take] at this;omega
 obtain ⟨h1,tk,rfl,hk⟩:=x.done
 have noA:∀ b:Addr,b∉(cxOf CX P w K mg base N qual scope f cd A outer s H E).ex:=fun b z=>absurd (show b∈([]:List Addr) from z) (by simp)
 refine ⟨⟨e0.mod,S.kind,rfl,rfl,Nat.le_refl _,fun y z c h1 h2=>?_,fun y hy=>?_,fun y c _ h=>?_,fun _=>hd,Around.frames_deeper e0.frames,.inr ⟨rfl,rfl⟩,fun b z=>absurd z (noA b),e0.bs,e0.bsz,fun b _ _=>noA b,fun b z=>absurd z (noA b),e0.funs,e0.frf⟩,
  rfl,e0.bare,Un.kept hk,⟨_,x.toInCall.ns,fun i y v h1 h2 h3=>?_⟩,fun y c h=>⟨_,x.cell y c h⟩,e0.hok.fresh (Nat.le_refl _),fun y c h=>?_,fun p hp=>absurd (show p∈([]:List (Addr×Obj)) from hp) (by simp),e0.hok.kept hk,?_⟩
 ·exact name_of_addr x.apart (PySem.mem_of_lookup h1) (PySem.mem_of_lookup h2)
 ·have hy:scope.names.lookup y=some .cell\/scope.names.lookup y=some .free:=hy
  rcases hy with hy | hy
  ·exact zey hy
  ·exact absurd rfl (S.nofree _ (PySem.mem_of_lookup hy))
 ·exact Nat.le_of_lt (x.above y c (PySem.mem_of_lookup h))
 ·have hi:i<vs.length:=by
   unfold start at h2
   by_cases hi:i<vs.length
   ·exact hi
   ·rw [List.getElem?_append_right (by simpa using hi)] at h2
    rw [List.getElem?_replicate] at h2
    split at h2<;>cases h2
  have ha:vs[i]? = some v:=by
   unfold start at h2
   rw [List.getElem?_append_left (by simpa using hi),List.getElem?_map] at h2
   cases e:vs[i]? with
   | none=>rw [e] at h2;cases h2
   | some a=>rw [e] at h2;cases h2;rfl
  obtain ⟨u,hu,rv⟩:=r.get ha
  have hp:ps[i]? = some y:=by
   rw [<- S.pre,List.getElem?_take_of_lt (by omega)];exact h1
  have ndP:ps.Nodup:=by rw [<- S.pre];exact S.nd.sublist (List.take_sublist _ _)
  refine ⟨u,rv,?_⟩
  rcases S.par y (List.mem_of_getElem? hp) with k | k
  ·exact .inl ⟨k,zd8 ndP hp hu k⟩
  ·obtain ⟨c,e⟩:=zey (n:=s.heap.objs.size+1) k
   refine .inr ⟨.inl k,c,e,?_⟩
   have q:=x.cell y c e
   rw [zd9 ndP hp hu (by show scope.names.lookup y≠_;rw [k];decide)] at q
   exact q
 ·exact e0.hok.fresh (Nat.le_of_lt (x.above y c (PySem.mem_of_lookup h)))
 ·unfold start
  show _=N.length
  rw [List.length_append,List.length_map,List.length_replicate]
  omega
theorem yhJ {CX:CXT} {P:Program} {w:World} {K:PySem.W.Frag} {mg:Str->Option Value} {base:Heap} {k:Nat} {f:Addr} {name qual:Str} {params:Arguments} {body:List Stmt} {scope:Scope} {dV kV doc pm cdv ct oc:Value} {an od:Option Addr}
  {osl:Array (Option Value)} {N ps:List Str} {sp:Sp} (lk:K.lookup f=some ⟨oc,od,.func (PySem.W.fnOf name qual params body scope dV kV doc pm an cdv ct),osl⟩) (hcd:PySem.W.codeIn K cdv qual=true) (S:FnScope N ps scope)
  (len:∀ vs H Q E,sp vs H Q E->vs.length=ps.length)
  (hbody:∀ (A:Around) (outer:List Env) (s:Shared) (H:Hp) (vs:List V) (Q:VK) (E:XK),Room k (A.deeper (envOfC qual scope s.heap.objs.size f cdv))->sp vs H Q E ->
   ∃ t,PSs (cxOf CX P w K mg base N qual scope f cdv A outer s H E) body t/\t { nx:=fun _ H' => Q .non H',rt:=Q } (start N vs) H) :
  FnOk P w K mg base CX (k+1) f (PySem.W.fnOf name qual params body scope dV kV doc pm an cdv ct) ps sp:=by
 refine ⟨len,fun A outer s H args us vs Q E hr e0 hb r hsp=>?_⟩
 have hl:=len _ _ _ _ hsp
 have KX:K.In s.heap:=e0.mod.kin.keeps fun b o e=>(e0.bs b o e).1
 have lim:s.heap.NoLimit:=e0.mod.nolimit.keeps fun b o e=>(e0.bs b o e).1
 have hkind:∀ y∈ps.zip us,scope.names.lookup y.1=some .local\/(scope.names.lookup y.1=some .cell/\((cellsFrom (s.heap.objs.size+1) scope.names []).lookup y.1).isSome=true):=fun ⟨n,v⟩ hy=>by
  rcases S.par n (List.of_mem_zip hy).1 with q | q
  ·exact .inl q
  ·exact .inr ⟨q,PySem.W.cellsFrom_some _ _ _ (.inl q)⟩
 refine codeAny_call_function hr.depth (KX _ _ lk) rfl S.co S.gen rfl (PySem.W.codeRec_of KX hcd) (hb _ _ _ _ ?_)
 refine wpAny_newFunctionEnv_cells S.kind hkind fun env he s1 x=>?_
 subst he
 refine ⟨lim.keeps x.toInCall.keep,codeAny_func ?_⟩
 obtain ⟨t,ht,hq⟩:=hbody A outer s H vs Q E (hr.deeper _) hsp
 have I:Inv (cxOf CX P w K mg base N qual scope f cdv A outer s H E) [] (start N vs) H s1:=zgQ S hr.hd e0 hl r x
 refine wpAny_mono (ht [] s1 (start N vs) H _ I hq) (fun fl s' hs=>?_) fun e s' hs=>hs
 have fin:∀ {σ':St} {H':Hp} {v:V} {u:Value},Inv (cxOf CX P w K mg base N qual scope f cdv A outer s H E) [] σ' H' s'->RelV v u->Q v H'->CE outer P w H s Q u s' :=
  fun {σ' H' v u} J rv q=>⟨v,H',J.os,J.bare,J.base,J.hok,rv,q⟩
 cases fl with
 | ret u =>
  obtain ⟨v,σ',H',J,rv,q⟩:=hs
  exact fin J rv q
 | next =>
  obtain ⟨σ',H',J,q⟩:=hs
  exact fin (v:=V.non) (u:=Value.none) J rfl q
 | brk =>
  obtain ⟨_,_,_,q⟩:=hs
  exact False.elim q
 | cont =>
  obtain ⟨_,_,_,q⟩:=hs
  exact False.elim q
end L2
namespace L2
open PySem PySem.Spec PyProof.Rows
section
variable {X:Cx} {x:Str} {p pos:Pos} {e:Expr} {es:List Expr} {t:TA} {id T:String} {r:List V->Hp->VK->Prop}
def tCB (r:List V->Hp->VK->Prop) (t:TA):TE:=fun σ H Q=>t σ H fun vs H1=>r vs H1 Q
theorem zez (hc:CallR X (.builtin id) r) (hg:Gl X x) (hm:X.mg x=none) (hv:bootBuiltins x=some (.builtin id)) (ha:PA X (e::es) t) (hn:x ≠ "__name__" := by decide) (hdb:(x == ("__debug__" : Str))=false:=by decide)
  (he:starEach (e::es) X.env=(false,eval e X.env)::starEach es X.env:=by rfl) (hpl:(backTo pos (starEach es X.env)).any (·.1)=false:=by rfl):PE X (.Call (.Name x p) (e::es) [] pos) (tCB r t):=by
 intro pins s σ H Q I h
 refine wpAny_Call_Name_kw (yeq I hg hm hv ?_ hn hdb)
 exact PyProof.Rows.callWith_builtin1 (thn (ha pos pins s σ H _ I h) fun us s1 ⟨vs,H1,I1,r1,q1⟩=>hc pins s1 σ H1 vs us Q I1 r1 q1) he hpl
end
end L2
namespace HT
open PySem PyProof.Rows
section
open PySem.SeqAt
open PySem.AutoSeq1 (wpAny_loadPart')
open PySem.MeetsSeq PySem.MeetsSeq2 PySem.MeetsSeq3
end
section
variable {prog:Program} {w:World} {A:Around} {E:Value->Shared->Prop} {s:Shared}
theorem cat_tup {t b:Addr} {vs ws:List Value} {Q:Value->Shared->Prop} (ht:IsTup s.heap t vs.toArray) (hb:IsTup s.heap b ws.toArray) (hv:vs≠[])
  (h1:ws=[]->Q (.ref t) s) (h2:ws≠[]->Q (.ref s.heap.objs.size) { s with heap:=s.heap.push { cls:=.type "tuple",data:=.seq (vs++ws).toArray } })
  (hsz:vs.length+ws.length<=sizeLine):wpAny (model prog w) A (binaryOp .Add (.ref t) (.ref b)) Q E s:=by
 obtain ⟨⟨cls,dd,data,sl⟩,ho,hc,n,hd⟩:=id ht
 obtain ⟨⟨cls2,dd2,data2,sl2⟩,ho2,hc2,n2,hd2⟩:=id hb
 simp only at hc hd hc2 hd2
 subst hc hd hc2 hd2
 have e:vs.toArray++ws.toArray=(vs++ws).toArray:=by simp
 by_cases hw:ws=[]
 ·exact concat_meets ⟨_,ho,rfl⟩ ⟨_,ho2,rfl⟩ noFill_tuple_add seq_tuple_add PySem.F.slot_tuple_add PySem.F.entry_tuple_add (PySem.F.args_tuple_add_2 _ _)
   (tuple_addW1 t b vs.toArray ws.toArray n n2 dd dd2 sl sl2 (by simpa using hv) (by simp [hw])) ⟨ho,ho2,h1 hw⟩
 ·refine concat_meets ⟨_,ho,rfl⟩ ⟨_,ho2,rfl⟩ noFill_tuple_add seq_tuple_add PySem.F.slot_tuple_add PySem.F.entry_tuple_add (PySem.F.args_tuple_add_2 _ _)
   (tuple_addW2 t b vs.toArray ws.toArray n n2 dd dd2 sl sl2 (by simpa using hv) (by simpa using hw) (by rw [List.size_toArray,List.size_toArray];exact hsz)) ⟨ho,ho2,?_⟩
  rw [e]
  exact h2 hw
def sIx (n d:Nat):Option Int->Nat
 | none=>d
 | some v=>if v<0 then (v+(n:Int)).toNat else min v.toNat n
theorem sIx_none (n d:Nat):sIx n d none=d:=rfl
theorem sIx_nat (n d k:Nat):sIx n d (some (k:Int))=min k n:=by
 show (if (k:Int)<0 then ((k:Int)+(n:Int)).toNat else min (k:Int).toNat n)=min k n
 rw [if_neg (by omega),Int.toNat_natCast]
theorem sIx_le (n d:Nat) (hd:d<=n) (o:Option Int):sIx n d o<=n:=by
 cases o with
 | none=>exact hd
 | some v =>
  show (if v<0 then (v+(n:Int)).toNat else min v.toNat n)<=n
  by_cases hv:v<0
  ·rw [if_pos hv];omega
  ·rw [if_neg hv];exact Nat.min_le_right _ _
theorem zfv (v:Int) (n d:Nat):(if v<0 then max (v+(n:Int)) 0 else min v (n:Int))=((sIx n d (some v):Nat):Int):=by
 show (if v<0 then max (v+(n:Int)) 0 else min v (n:Int))=(((if v<0 then (v+(n:Int)).toNat else min v.toNat n):Nat):Int)
 by_cases hv:v<0
 ·simp only [if_pos hv];omega
 ·simp only [if_neg hv];omega
theorem zgi (lo hi:Option Int) (n:Nat):Builtin.Slice.sliceAdjust lo hi 1 (n:Int)=(((sIx n 0 lo:Nat):Int),((sIx n n hi:Nat):Int)):=by
 have h1 : ¬ ((1:Int)<0):=by omega
 unfold Builtin.Slice.sliceAdjust
 simp only [h1,if_false]
 refine Prod.ext ?_ ?_
 ·cases lo with
  | none=>rfl
  | some v=>exact zfv v n 0
 ·cases hi with
  | none=>rfl
  | some v=>exact zfv v n n
theorem zgj (i j:Nat):Builtin.Slice.slicePlaces (i:Int) (j:Int) 1=j-i:=by
 unfold Builtin.Slice.slicePlaces
 have h1:(1:Int) > 0:=by omega
 simp only [h1,if_true,Int.ediv_one]
 split<;>omega
theorem zdu {v:Value} {o:Option Int} {Q:Option Int->Shared->Prop} (p:IsPart v o) (h:Q o s):wpAny (model prog w) A (Builtin.Slice.slicePartIndex v) Q E s:=by
 cases p with
 | none=>exact slicePart_none h
 | int i t=>exact slicePart_int h
theorem zc7 {sl:Addr} {vl vu:Value} {lo hi:Option Int} {n:Nat} {Q:Int×Int×Nat->Shared->Prop} (hs:s.heap.IsSliceOf sl vl vu .none) (pl:IsPart vl lo) (pu:IsPart vu hi)
  (h:Q (((sIx n 0 lo:Nat):Int),1,sIx n n hi-sIx n 0 lo) s):wpAny (model prog w) A (Builtin.Slice.sliceApplied (.ref sl) (pure (n:Int))) Q E s:=by
 obtain ⟨os,hos,hcs,hds⟩:=id hs
 unfold Builtin.Slice.sliceApplied Builtin.Slice.sliceFields
 refine wpAny_bind (wpAny_bind (wpAny_field hos hds (x:=vl) rfl (wpAny_bind (wpAny_field hos hds (x:=vu) rfl (wpAny_bind (wpAny_field hos hds (x:=.none) rfl (wpAny_pure ?_)))))))
 refine wpAny_bind (slicePart_none ?_)
 show wpAny _ _ (if ((1:Int) == 0)=true then _ else _) _ _ s
 rw [if_neg (by decide)]
 refine wpAny_bind (zdu pl (wpAny_bind (zdu pu (wpAny_bind (wpAny_pure ?_)))))
 show wpAny _ _ (match Builtin.Slice.sliceAdjust lo hi 1 (n:Int) with | (lo,hi)=>pure (lo,(1:Int),Builtin.Slice.slicePlaces lo hi 1)) _ _ s
 rw [zgi lo hi n]
 show wpAny _ _ (pure (((sIx n 0 lo:Nat):Int),(1:Int),Builtin.Slice.slicePlaces ((sIx n 0 lo:Nat):Int) ((sIx n n hi:Nat):Int) 1)) _ _ s
 rw [zgj]
 exact wpAny_pure h
theorem zhE (xs:Array Value) (i k:Nat):((List.range k).filterMap fun (m:Nat)=>xs[((i:Int)+(m:Int)*1).toNat]?).toArray=((xs.toList.drop i).take k).toArray:=by
 have e:(fun (m:Nat)=>xs[((i:Int)+(m:Int)*1).toNat]?)=fun m=>xs[i+m]? := by
  funext m
  have:((i:Int)+(m:Int)*1).toNat=i+m:=by omega
  rw [this]
 rw [e]
 have:=pick_run xs i k
 rw [List.filterMap_map] at this
 have e2:((fun x=>xs[x]?) ∘ fun x=>i+x)=fun m=>xs[i+m]? := rfl
 rw [e2] at this
 rw [this]
theorem getItem_tuple_cut {t sl:Addr} {items:Array Value} {vl vu:Value} {lo hi:Option Int} {Q:Value->Shared->Prop} (ht:IsTup s.heap t items) (hs:s.heap.IsSliceOf sl vl vu .none) (pl:IsPart vl lo) (pu:IsPart vu hi)
  (hw : ¬ (sIx items.size 0 lo=0/\sIx items.size items.size hi=items.size))
  (h:Q (.ref s.heap.objs.size) { s with heap:=s.heap.push { cls:=.type "tuple",data:=.seq ((items.toList.drop (sIx items.size 0 lo)).take (sIx items.size items.size hi-sIx items.size 0 lo)).toArray } })
  (hsz:items.size<=sizeLine):wpAny (model prog w) A (getItem (.ref t) (.ref sl)) Q E s:=by
 have htake:sizeOk (.seq ((items.toList.drop (sIx items.size 0 lo)).take (sIx items.size items.size hi-sIx items.size 0 lo)).toArray):=by
  show ((items.toList.drop (sIx items.size 0 lo)).take (sIx items.size items.size hi-sIx items.size 0 lo)).toArray.size<=sizeLine
  rw [List.size_toArray,List.length_take,List.length_drop,Array.length_toList]
  omega
 have hj:sIx items.size items.size hi<=items.size:=sIx_le _ _ (Nat.le_refl _) hi
 obtain ⟨os,hos,hcs,hds⟩:=id hs
 have hTs:s.TypeIs (.ref sl) "slice" := ⟨os,hos,hcs⟩
 unfold getItem
 try with_reducible refine wpAny_holding ?_
 first | refine wpAny_bind (wpAny_pure ?_) | skip
 refine wpAny_bind (wpAny_sequenceKey ht.typeIs (by decide) ?_)
 refine wpAny_bind (wpAny_callSpecial?_slot (name:=Str.ofString "__getitem__") ht.typeIs PyProof.Rows.slot_tuple_getitem
  (wpAny_call_entry PyProof.Rows.slot_tuple_getitem ht.typeIs entry_tuple_getitem ?_ (args_tuple_getitem _ _)))
 show wpAny _ _ (Builtin.Tuple.tupleItemsOf (.ref t) >>= _) _ _ s
 refine wpAny_bind (tupleItemsOf_ ht ?_)
 refine wpAny_bind (wpAny_typeOf hTs ?_)
 rw [if_pos (by decide)]
 refine wpAny_bind (zc7 hs pl pu ?_)
 have hno : ¬ ((((sIx items.size 0 lo:Nat):Int) == 0 && (1:Int) == 1 && (sIx items.size items.size hi-sIx items.size 0 lo) == items.size)=true):=by
  intro q
  rw [Bool.and_eq_true,Bool.and_eq_true] at q
  have q1:((sIx items.size 0 lo:Nat):Int)=0:=eq_of_beq q.1.1
  have q2:sIx items.size items.size hi-sIx items.size 0 lo=items.size:=eq_of_beq q.2
  exact hw ⟨by omega,by omega⟩
 show wpAny _ _ (if (((sIx items.size 0 lo:Nat):Int) == 0 && (1:Int) == 1 && (sIx items.size items.size hi-sIx items.size 0 lo) == items.size)=true then _ else _) _ _ s
 rw [if_neg hno,zhE]
 first
  | exact wpAny_bind (m:=Builtin.Tuple.tupleExact _) (wpAny_newObj_type (wpAny_pure ⟨_,rfl,wpAny_pure h⟩) htake)
  | exact wpAny_bind (m:=Builtin.Tuple.tupleExact _) (wpAny_newObj_type (wpAny_bind (wpAny_pure (wpAny_pure ⟨_,rfl,wpAny_pure h⟩))) htake)
  | exact wpAny_bind (wpAny_bind (m:=Builtin.Tuple.tupleExact _) (wpAny_newObj_type (wpAny_pure (wpAny_pure ⟨_,rfl,wpAny_pure h⟩)) htake))
  | exact wpAny_bind (wpAny_bind (m:=Builtin.Tuple.tupleExact _) (wpAny_newObj_type (wpAny_pure ⟨_,rfl,wpAny_pure h⟩) htake))
end
end HT
namespace L2
open PySem PySem.Spec PyProof.Rows
abbrev TO:=St->Hp->(Option Int->Hp->Prop)->Prop
def PO (X:Cx) (e:Option Expr) (t:TO):Prop :=
 ∀ (pins:List (Addr×Obj)) (s:Shared) (σ:St) (H:Hp) (Q:Option Int->Hp->Prop),Inv X pins σ H s->t σ H Q ->
  wpAny (model X.prog X.w) X.A (evalPart e X.env) (fun u s' => ∃ o H',Inv X pins σ H' s'/\IsPart u o/\Q o H') X.xe s
def ye6:TO:=fun _ H Q=>Q none H
def yfT (t:TE):TO:=fun σ H Q=>t σ H fun x H1=>∃ i,x = .int i/\Q (some i) H1
section
variable {X:Cx} {e:Expr} {te:TE} {lo hi:Option Expr} {tl th:TO} {pos p2:Pos}
theorem ziD:PO X none ye6:=by
 intro pins s σ H Q I h
 rw [evalPart_none]
 exact wpAny_pure ⟨none,H,I,.none,h⟩
theorem ziE (h:PE X e te):PO X (some e) (yfT te):=by
 intro pins s σ H Q I hw
 rw [evalPart_some]
 refine thn (h pins s σ H _ I hw) fun u s1 ⟨x,H1,I1,r1,q1⟩=>?_
 obtain ⟨i,rfl,q⟩:=q1
 obtain ⟨t,rfl⟩:=r1
 exact ⟨some i,H1,I1,.int i t,q⟩
def SlR (X:Cx) (r:V->Option Int->Option Int->Hp->VK->Prop):Prop :=
 ∀ (pins:List (Addr×Obj)) (s:Shared) (σ:St) (H:Hp) (x:V) (v vl vu:Value) (lo hi:Option Int) (sl:Addr) (Q:VK),Inv X pins σ H s->RelV x v->s.heap.IsSliceOf sl vl vu .none->IsPart vl lo->IsPart vu hi->r x lo hi H Q ->
  ∃ T id,typeLookup (.type T) "__getitem__" = pure (some (.builtin id))/\s.TypeIs v T/\wpAny (model X.prog X.w) X.A (getItem v (.ref sl)) (EP X pins σ Q) X.xe s
theorem SlR.or {r r':V->Option Int->Option Int->Hp->VK->Prop} (h:SlR X r) (h':SlR X r'):SlR X (fun x lo hi H Q=>r x lo hi H Q\/r' x lo hi H Q):=by
 intro pins s σ H x v vl vu lo hi sl Q I rx hs pl pu q
 rcases q with q | q
 ·exact h pins s σ H x v vl vu lo hi sl Q I rx hs pl pu q
 ·exact h' pins s σ H x v vl vu lo hi sl Q I rx hs pl pu q
def tSl (r:V->Option Int->Option Int->Hp->VK->Prop) (te:TE) (tl th:TO):TE:=fun σ H Q=>te σ H fun x H1=>tl σ H1 fun l H2=>th σ H2 fun u H3=>r x l u H3 Q
theorem zhF {r:V->Option Int->Option Int->Hp->VK->Prop} (hr:SlR X r) (he:PE X e te) (hl:PO X lo tl) (hu:PO X hi th):PE X (.Subscript e (.Slice lo hi none p2) pos) (tSl r te tl th):=by
 intro pins s σ H Q I h
 refine Subscript_ (thn (he pins s σ H _ I h) fun v s1 ⟨x,H1,I1,r1,q1⟩=>?_)
 refine wpAny_Slice (thn (hl pins s1 σ H1 _ I1 q1) fun vl s2 ⟨l,H2,I2,pl,q2⟩=>thn (hu pins s2 σ H2 _ I2 q2) fun vu s3 ⟨u,H3,I3,pu,q3⟩=>?_)
 rw [evalPart_none]
 refine wpAny_pure ?_
 have I4:Inv X pins σ H3 { s3 with heap:=s3.heap.push { cls:=.type "slice",data:=.fields #[vl,vu,.none] } }:=I3.kept (t' := s3.toks) fun b ob q=>Heap.get?_push_of_some _ q
 obtain ⟨T,id,hT,ht,hg⟩:=hr pins { s3 with heap:=s3.heap.push { cls:=.type "slice",data:=.fields #[vl,vu,.none] } } σ H3 x v vl vu l u s3.heap.objs.size Q I4 r1 (Heap.IsSliceOf.new ..) pl pu q3
 show wpAny (model X.prog X.w) X.A (subscriptTail e (.Slice lo hi none p2) v (.ref s3.heap.objs.size)) (EP X pins σ Q) X.xe { s3 with heap:=s3.heap.push { cls:=.type "slice",data:=.fields #[vl,vu,.none] } }
 exact tail_any (ops:=[.ref s3.heap.objs.size,v]) ht hT hg (by with_unfolding_all rfl)
def cutV (xs:List V) (lo hi:Option Int):List V:=(xs.drop (HT.sIx xs.length 0 lo)).take (HT.sIx xs.length xs.length hi-HT.sIx xs.length 0 lo)
theorem zcW (xs:List V) (lo hi:Option Int):(cutV xs lo hi).length<=xs.length:=by
 unfold cutV
 rw [List.length_take,List.length_drop]
 omega
def rSlT (K:PySem.W.Frag):V->Option Int->Option Int->Hp->VK->Prop:=fun x lo hi H Q=>∃ a xs,x = .ref a/\SqT K H a xs /\
 ¬ (HT.sIx xs.length 0 lo=0/\HT.sIx xs.length xs.length hi=xs.length)/\∀ p,H p=none->Q (.ref p) (upd H p (.tup (cutV xs lo hi)))
theorem sl_tup:SlR X (rSlT X.K):=by
 intro pins s σ H x v vl vu lo hi sl Q I rx hs pl pu h
 obtain ⟨a,xs,rfl,hx,hw,q⟩:=h
 cases rx
 obtain ⟨its,r,ht,hz⟩:=I.tuple hx
 have hlen:its.toArray.size=xs.length:=by rw [List.size_toArray];exact r.length.symm
 refine ⟨"tuple",_,PyProof.Rows.slot_tuple_getitem.lookup,ht.typeIs,?_⟩
 refine HT.getItem_tuple_cut ht hs pl pu (by rw [hlen];exact hw) ?_ (by rw [hlen];exact hz)
 rw [hlen]
 refine ⟨.ref s.heap.objs.size,_,I.laid (t' := s.toks) (o:=.tup (cutV xs lo hi)) (fun b ob q=>Heap.get?_push_of_some _ q) (Nat.le_refl _) ?_,rfl,q _ (I.hok.fresh (Nat.le_refl _))⟩
 exact ⟨Nat.le_trans (zcW xs lo hi) hz,_,(r.drop (HT.sIx xs.length 0 lo)).take (HT.sIx xs.length xs.length hi-HT.sIx xs.length 0 lo),IsTup.new _ _⟩
def yhK (K:PySem.W.Frag):R2:=fun x y H Q=>∃ a b xs ys,x = .ref a/\y = .ref b/\SqT K H a xs/\SqT K H b ys/\xs≠[]/\xs.length+ys.length<=sizeLine /\
 (ys=[]->Q (.ref a) H)/\(ys≠[]->∀ p,H p=none->Q (.ref p) (upd H p (.tup (xs++ys))))
theorem Vals.nil_iff {xs:List V} {us:List Value} (r:Vals xs us):us=[] ↔ xs=[]:=by
 cases r with
 | nil=>simp
 | cons _ _=>simp
theorem ziF:OpR X (binaryOp .Add) (yhK X.K):=by
 intro pins s σ H x y v u Q I rx ry h
 obtain ⟨a,b,xs,ys,rfl,rfl,ha,hb,hx,hz,q1,q2⟩:=h
 cases rx
 cases ry
 obtain ⟨its,r1,p1,_⟩:=I.tuple ha
 obtain ⟨its2,r2,p2,_⟩:=I.tuple hb
 refine HT.cat_tup p1 p2 (fun z=>hx (r1.nil_iff.mp z)) (fun z=>⟨.ref a,H,I,rfl,q1 (r2.nil_iff.mp z)⟩) (fun z=>?_) (by rw [<- r1.length,<- r2.length];exact hz)
 refine ⟨.ref s.heap.objs.size,_,I.laid (t' := s.toks) (o:=.tup (xs++ys)) (fun b ob q=>Heap.get?_push_of_some _ q) (Nat.le_refl _) ?_,rfl,q2 (fun w=>z (r2.nil_iff.mpr w)) _ (I.hok.fresh (Nat.le_refl _))⟩
 exact ⟨by rw [List.length_append];exact hz,_,r1.append r2,IsTup.new _ _⟩
end
end L2
namespace L2
open PySem PySem.Spec PyProof.Rows
def ixN (n:Nat) (i:Int):Option Nat:=if 0<=i then (if i<n then some i.toNat else none) else if -(n:Int)<=i then some (i+n).toNat else none
def atI {α:Type} (xs:List α) (i:Int):Option α:=(ixN xs.length i).bind fun j=>xs[j]?
theorem zfw {n:Nat} {i:Int} {j:Nat} (h:ixN n i=some j):seqIndex? i n=some j/\j<n /\ -(n:Int)<=i/\i<n:=by
 unfold ixN at h
 by_cases h0:0<=i
 ·rw [if_pos h0] at h
  by_cases h1:i<n
  ·rw [if_pos h1] at h
   have e:i.toNat=j:=Option.some.inj h
   exact ⟨by rw [seqIndex_of h0 h1,e],by omega,by omega,h1⟩
  ·rw [if_neg h1] at h;cases h
 ·rw [if_neg h0] at h
  by_cases h1 : -(n:Int)<=i
  ·rw [if_pos h1] at h
   have e:(i+n).toNat=j:=Option.some.inj h
   exact ⟨by rw [seqIndex_neg (by omega) h1,e],by omega,h1,by omega⟩
  ·rw [if_neg h1] at h;cases h
theorem zcK {α:Type} {xs:List α} {i:Int} {v:α} (h:atI xs i=some v):∃ j,seqIndex? i xs.length=some j/\xs[j]? = some v/\j<xs.length /\ -(xs.length:Int)<=i/\i<xs.length:=by
 unfold atI at h
 cases e:ixN xs.length i with
 | none=>rw [e] at h;cases h
 | some j =>
  rw [e] at h
  obtain ⟨h1,h2,h3,h4⟩:=zfw e
  exact ⟨j,h1,h,h2,h3,h4⟩
theorem zdL {α:Type} {xs:List α} {j:Nat} {v:α} (h:xs[j]? = some v):atI xs (j:Int)=some v:=by
 have hj:j<xs.length:=(List.getElem?_eq_some_iff.mp h).1
 have e:ixN xs.length (j:Int)=some j:=by
  unfold ixN
  rw [if_pos (by omega),if_pos (by omega)];simp
 unfold atI;rw [e];exact h
theorem zhG {α:Type} (xs:List α) (v:α):atI (xs++[v]) (-1)=some v:=by
 have hl:(xs++[v]).length=xs.length+1:=by simp
 have e:ixN (xs++[v]).length (-1)=some xs.length:=by
  unfold ixN
  rw [hl,if_neg (by decide),if_pos (by omega)]
  congr 1
  omega
 unfold atI
 rw [e]
 show (xs++[v])[xs.length]? = some v
 simp
def ye7 (b:Expr):Prop:=∀ o i,subscripted b false o i=operate [o,i] (getItem o i)
def IxR (X:Cx) (r:R2):Prop :=
 ∀ (value slice:Expr) (pins:List (Addr×Obj)) (s:Shared) (σ:St) (H:Hp) (x y:V) (v u:Value) (Q:VK),Inv X pins σ H s->RelV x v->RelV y u->r x y H Q ->
  subscripted slice false v u=operate [v,u] (getItem v u)->wpAny (model X.prog X.w) X.A (subscriptTail value slice v u) (EP X pins σ Q) X.xe s
def MtR (X:Cx) (id:String) (r:V->List V->Hp->VK->Prop):Prop :=
 ∀ (pins:List (Addr×Obj)) (s:Shared) (σ:St) (H:Hp) (x:V) (xs:List V) (v:Value) (us:List Value) (Q:VK),Inv X pins σ H s->RelV x v->Vals xs us->r x xs H Q ->
  wpAny (model X.prog X.w) X.A (call (.builtin id) (v::us)) (EP X pins σ Q) X.xe s
section
variable {X:Cx} {a b:Expr} {ta tb:TE} {pos:Pos}
theorem IxR.or {r r':R2} (h:IxR X r) (h':IxR X r'):IxR X (fun x y H Q=>r x y H Q\/r' x y H Q):=by
 intro value slice pins s σ H x y v u Q I rx ry q hs
 rcases q with q | q
 ·exact h value slice pins s σ H x y v u Q I rx ry q hs
 ·exact h' value slice pins s σ H x y v u Q I rx ry q hs
theorem yhL {r:R2} (hr:IxR X r) (ha:PE X a ta) (hb:PE X b tb) (hs:ye7 b):PE X (.Subscript a b pos) (tOp r ta tb):=by
 intro pins s σ H Q I h
 exact Subscript_ (binT ha hb I h fun v u s2 x y H2 I2 rx ry q=>hr a b pins s2 σ H2 x y v u Q I2 rx ry q (hs _ _))
def rIxL (K:PySem.W.Frag):R2:=fun x y H Q=>∃ p xs i v,x = .ref p/\y = .int i/\SqL K H p xs/\atI xs i=some v/\Q v H
def rIxT (K:PySem.W.Frag):R2:=fun x y H Q=>∃ p xs i v,x = .ref p/\y = .int i/\SqT K H p xs/\atI xs i=some v/\Q v H
def rIxS:R2:=fun x y H Q=>∃ z i c,x = .str z/\y = .int i/\z.length<=sizeLine/\atI z.cps.toList i=some c/\Q (.str ⟨#[c]⟩) H
theorem ziG:IxR X (rIxL X.K):=by
 intro value slice pins s σ H x y v u Q I rx ry h hs
 obtain ⟨p,xs,i,z,rfl,rfl,hq,he,q⟩:=h
 cases rx
 obtain ⟨t,rfl⟩:=ry
 obtain ⟨its,r,pl,hz⟩:=I.list hq
 obtain ⟨j,h1,h2,h3,h4,h5⟩:=zcK he
 obtain ⟨w,ew,rw'⟩:=r.get h2
 have hl:=r.length
 have hn:=ydQ
 have fin:EP X pins σ Q w s:=⟨z,H,I,rw',q⟩
 by_cases h0:0<=i
 ·have hj:i.toNat=j:=by
   rw [seqIndex_of h0 h5] at h1
   exact Option.some.inj h1
  exact item_listR pl.isList h0 (by omega) (by rw [hj];simpa using ew) fin hs
 ·have hj:(i+(its.toArray.size:Int)).toNat=j:=by
   rw [seqIndex_neg (by omega) h4] at h1
   rw [List.size_toArray,<- hl]
   exact Option.some.inj h1
  exact subscriptTail_builtinR (x:=w) pl.isList.typeIs slot_list_getitem.lookup
   (wpAny_getItem_list_neg (Q:=fun r s' => r=w/\EP X pins σ Q r s') pl.isList (by omega) (by rw [List.size_toArray]<;>omega) (by omega) (by rw [hj];simpa using ew) ⟨rfl,fin⟩) hs
theorem ix_tup:IxR X (rIxT X.K):=by
 intro value slice pins s σ H x y v u Q I rx ry h hs
 obtain ⟨p,xs,i,z,rfl,rfl,hq,he,q⟩:=h
 cases rx
 obtain ⟨t,rfl⟩:=ry
 obtain ⟨its,r,pl,hz⟩:=I.tuple hq
 obtain ⟨j,h1,h2,h3,h4,h5⟩:=zcK he
 obtain ⟨w,ew,rw'⟩:=r.get h2
 have hl:=r.length
 have hn:=ydQ
 have fin:EP X pins σ Q w s:=⟨z,H,I,rw',q⟩
 exact subscriptTail_builtinR (x:=w) pl.typeIs slot_tuple_getitem.lookup
  (getItem_tuple (j:=j) (Q:=fun r s' => r=w/\EP X pins σ Q r s') pl (by omega) (by omega) (by rw [List.size_toArray,<- hl];exact h1) (by simpa using ew) ⟨rfl,fin⟩) hs
theorem ygA:IxR X rIxS:=by
 intro value slice pins s σ H x y v u Q I rx ry h hs
 obtain ⟨z,i,c,rfl,rfl,hz,he,q⟩:=h
 obtain ⟨t,rfl⟩:=rx
 obtain ⟨t',rfl⟩:=ry
 obtain ⟨j,h1,h2,h3,h4,h5⟩:=zcK he
 have hl:z.cps.toList.length=z.length:=by simp [Str.length]
 rw [hl] at h1 h4 h5
 have hn:=ydQ
 exact tail_any (typeIs_str s z t) slot_str_getitem.lookup (getItem_str (c:=c) (by
  have e1:decide (i < -(2 ^ 63:Int))=false:=decide_eq_false (by omega)
  have e2:decide (i ≥ 2 ^ 63)=false:=decide_eq_false (by omega)
  rw [e1,e2,Bool.or_false]) (by rw [h1];simpa using h2) ⟨.str ⟨#[c]⟩,H,I.tok _,⟨_,rfl⟩,q⟩) hs
def rIx (K:PySem.W.Frag):R2:=fun x y H Q=>rIxL K x y H Q\/rIxT K x y H Q\/rIxS x y H Q
theorem ygB:IxR X (rIx X.K):=ziG.or (ix_tup.or ygA)
theorem zgk (its:List Value) (n j:Nat) (u:Value):Obj.mapSeq (·.setIfInBounds j u) { cls:=.type "list",data:=.seq its.toArray n }={ cls:=.type "list",data:=.seq (its.set j u).toArray n }:=by
 simp [Obj.mapSeq]
theorem Inv.lst {pins:List (Addr×Obj)} {σ:St} {H:Hp} {s:Shared} {p:Addr} {xs:List V} (I:Inv X pins σ H s) (h:H p=some (.lst xs)) :
  ∃ (its:List Value) (n:Nat),Vals xs its/\s.heap.get? p=some { cls:=.type "list",data:=.seq its.toArray n }/\xs.length<=sizeLine:=by
 obtain ⟨z,its,n,r,e⟩:=I.hok p _ h
 exact ⟨its,n,r,e,z⟩
theorem Inv.lstUpd {pins:List (Addr×Obj)} {σ:St} {H:Hp} {s:Shared} {p:Addr} {xs ys:List V} {its its':List Value} {n n':Nat} {f:Obj->Obj} (I:Inv X pins σ H s) (h:H p=some (.lst xs))
  (ho:s.heap.get? p=some { cls:=.type "list",data:=.seq its.toArray n }) (hf:f { cls:=.type "list",data:=.seq its.toArray n }={ cls:=.type "list",data:=.seq its'.toArray n' }) (r:Vals ys its') (hz:ys.length<=sizeLine) (t:Nat) :
  Inv X pins σ (upd H p (.lst ys)) { s with heap:=s.heap.update p f,toks:=t }:=by
 have e:(s.heap.update p f).get? p=some { cls:=.type "list",data:=.seq its'.toArray n' }:=by
  rw [Heap.get?_update_self f ho (by rw [hf]<;>rfl),hf]
 refine I.write (x:=p) (e:=p) (by rw [h];trivial) (.inl rfl) (fun b u hb q=>(Heap.get?_update_other _ _ (Ne.symm hb)).trans q) ⟨_,e⟩ ?_
 exact ⟨hz,its',n',r,e⟩
def yhM:V->V->V->Hp->(Hp->Prop)->Prop:=fun o i v H Q=>∃ p xs k j,o = .ref p/\i = .int k/\H p=some (.lst xs)/\ixN xs.length k=some j/\Q (upd H p (.lst (xs.set j v)))
theorem zhH:PSet X yhM:=by
 intro pins s σ H o i v ov iv u Q I ro ri rv h
 obtain ⟨p,xs,k,j,rfl,rfl,hp,hj,q⟩:=h
 cases ro
 obtain ⟨t,rfl⟩:=ri
 obtain ⟨its,n,r,ho,hz⟩:=I.lst hp
 obtain ⟨h1,h2,h3,h4⟩:=zfw hj
 have hl:=r.length
 have hn:=ydQ
 have I':Inv X pins σ (upd H p (.lst (xs.set j v))) { s with heap:=s.heap.update p (Obj.mapSeq (·.setIfInBounds j u)) } :=
  I.lstUpd hp ho (zgk its n j u) (r.set rv j) (by rw [List.length_set];exact hz) s.toks
 by_cases h0:0<=k
 ·have hk:k.toNat=j:=by
   rw [seqIndex_of h0 h4] at h1
   exact Option.some.inj h1
  exact PySem.W.ki_setAt ho h0 (by omega) (by rw [List.size_toArray,<- hl];exact h4) (by rw [hk];exact ⟨_,I',q⟩)
 ·have hk:(k+(its.toArray.size:Int)).toNat=j:=by
   rw [seqIndex_neg (by omega) h3] at h1
   rw [List.size_toArray,<- hl]
   exact Option.some.inj h1
  exact PySem.W.ki_setBack ho (by omega) (by rw [List.size_toArray,<- hl];exact h3) (by omega) (by rw [hk];exact ⟨_,I',q⟩)
theorem zeA (lo hi:Option Int) (n:Nat):(sliceBounds lo hi none n).1=((HT.sIx n 0 lo:Nat):Int)/\(sliceBounds lo hi none n).2.1=((HT.sIx n n hi:Nat):Int)/\(sliceBounds lo hi none n).2.2=1:=by
 refine ⟨?_,?_,rfl⟩
 ·cases lo with
  | none=>simp [sliceBounds,HT.sIx]
  | some i =>
   simp only [sliceBounds,HT.sIx,Option.getD_none,show (1:Int) > 0 by decide,if_true]
   by_cases h:i<0
   ·simp only [h,if_true]<;>omega
   ·simp only [h,if_false]<;>omega
 ·cases hi with
  | none=>simp [sliceBounds,HT.sIx]
  | some i =>
   simp only [sliceBounds,HT.sIx,Option.getD_none,show (1:Int) > 0 by decide,if_true]
   by_cases h:i<0
   ·simp only [h,if_true]<;>omega
   ·simp only [h,if_false]<;>omega
theorem zes (its:List Value) (lo hi:Option Int):slicePick its.toArray lo hi none=((its.drop (HT.sIx its.length 0 lo)).take (HT.sIx its.length its.length hi-HT.sIx its.length 0 lo)).toArray:=by
 obtain ⟨h1,h2,h3⟩:=zeA lo hi its.toArray.size
 unfold slicePick
 rw [h1,h2,h3]
 simp only [sliceRange_one,pick_run,List.size_toArray]<;>rfl
def rSlL (K:PySem.W.Frag):V->Option Int->Option Int->Hp->VK->Prop:=fun x lo hi H Q=>∃ a xs,x = .ref a/\SqL K H a xs/\∀ p,H p=none->Q (.ref p) (upd H p (.lst (cutV xs lo hi)))
theorem ziH:SlR X (rSlL X.K):=by
 intro pins s σ H x v vl vu lo hi sl Q I rx hs pl pu h
 obtain ⟨a,xs,rfl,hx,q⟩:=h
 cases rx
 obtain ⟨its,r,ht,hz⟩:=I.list hx
 have hlen:=r.length
 refine ⟨"list",_,slot_list_getitem.lookup,ht.isList.typeIs,?_⟩
 refine wpAny_getItem_list_slice ht.isList hs pl pu .none (by simp) ?_ (by rw [List.size_toArray]<;>omega)
 rw [zes,<- hlen]
 refine ⟨.ref s.heap.objs.size,_,I.laid (t' := s.toks) (o:=.lst (cutV xs lo hi)) (fun b ob q=>Heap.get?_push_of_some _ q) (Nat.le_refl _) ?_,rfl,q _ (I.hok.fresh (Nat.le_refl _))⟩
 exact ⟨Nat.le_trans (zcW xs lo hi) hz,_,0,(r.drop (HT.sIx xs.length 0 lo)).take (HT.sIx xs.length xs.length hi-HT.sIx xs.length 0 lo),Heap.get?_push_size _ rfl⟩
theorem zeB:OpR X (compareOp .NotIn) (fun x y H Q=>∃ i j,x = .str i/\y = .str j/\Q (.bl (!(!(Builtin.Str.occurrences j i 0 j.length 1).isEmpty))) H):=by
 intro pins s σ H x y v u Q I rx ry h
 obtain ⟨i,j,rfl,rfl,q⟩:=h
 obtain ⟨t,rfl⟩:=rx
 obtain ⟨t',rfl⟩:=ry
 exact notIn_str ⟨.bl _,H,I,rfl,q⟩
theorem zeC:CallR X (.builtin "len") (fun xs H Q=>∃ p ys,xs=[.ref p]/\(SqL X.K H p ys\/SqT X.K H p ys)/\Q (.int ys.length) H):=by
 intro pins s σ H xs us Q I r h
 obtain ⟨p,ys,rfl,hq,q⟩:=h
 obtain ⟨u,rfl,rx⟩:=ydy r
 cases rx
 have hn:=ydQ
 rcases hq with hq | hq
 ·obtain ⟨its,r',pl,hz⟩:=I.list hq
  have hlen:=r'.length
  exact Calls.call_len_list pl.isList (by simp only [List.size_toArray]<;>omega) ⟨.int ys.length,H,I.tok _,⟨s.toks+1,by rw [List.size_toArray,hlen]⟩,q⟩
 ·obtain ⟨its,r',pl,hz⟩:=I.tuple hq
  have hlen:=r'.length
  exact len_tuple pl (by simp only [List.size_toArray]<;>omega) ⟨.int ys.length,H,I.tok _,⟨s.toks+1,by rw [List.size_toArray,hlen]⟩,q⟩
theorem zeD:CallR X (.builtin "len") (fun xs H Q=>∃ z,xs=[.str z]/\z.length<=sizeLine/\Q (.int z.length) H):=by
 intro pins s σ H xs us Q I r h
 obtain ⟨z,rfl,hz,q⟩:=h
 obtain ⟨u,rfl,t,rfl⟩:=ydy r
 have hn:=ydQ
 exact len_str (by omega) ⟨.int z.length,H,I.tok _,⟨_,rfl⟩,q⟩
theorem CallR.or {f:Value} {r r':List V->Hp->VK->Prop} (h:CallR X f r) (h':CallR X f r'):CallR X f (fun xs H Q=>r xs H Q\/r' xs H Q):=by
 intro pins s σ H xs us Q I rs q
 rcases q with q | q
 ·exact h pins s σ H xs us Q I rs q
 ·exact h' pins s σ H xs us Q I rs q
def tyV (K:PySem.W.Frag) (T:String) (x:V) (H:Hp):Prop:=match x with
 | .str _=>T = "str"
 | .int _=>T = "int"
 | .ref p=>(T = "list" /\ ∃ xs,SqL K H p xs)\/(T = "tuple" /\ ∃ o,K.lookup p=some o/\o.cls = .type "tuple" /\ o.dict=none) \/
   (T = "dict" /\ ((∃ kvs,H p=some (.dK kvs))\/∃ kvs,H p=some (.dT kvs)))\/(T = "set" /\ ∃ S n,H p=some (.set S n))
 | _=>False
theorem yfs {pins:List (Addr×Obj)} {σ:St} {H:Hp} {s:Shared} {T:String} {x:V} {v:Value} (I:Inv X pins σ H s) (r:RelV x v) (ty:tyV X.K T x H) :
  s.TypeIs v T/\∀ a,v = .ref a->∃ ob,s.heap.get? a=some ob/\ob.dict=none:=by
 cases x with
 | str z =>
  obtain ⟨t,rfl⟩:=r
  cases (show T = "str" from ty)
  exact ⟨typeIs_str s z t,fun _ e=>nomatch e⟩
 | int i =>
  obtain ⟨t,rfl⟩:=r
  cases (show T = "int" from ty)
  exact ⟨typeIs_int s i t,fun _ e=>nomatch e⟩
 | ref p =>
  cases r
  rcases ty with ⟨rfl,xs,hq⟩ | ⟨rfl,o,hk,hc,hd⟩ | ⟨rfl,hk⟩ | ⟨rfl,S,n,hk⟩
  ·obtain ⟨its,_,pl,_⟩:=I.list hq
   refine ⟨pl.isList.typeIs,fun a e=>?_⟩
   cases e
   obtain ⟨o,n,e,c,hd,_⟩:=pl
   exact ⟨o,e,hd⟩
  ·refine ⟨⟨o,I.kIn p o hk,hc⟩,fun a e=>?_⟩
   cases e
   exact ⟨o,I.kIn _ o hk,hd⟩
  ·have z:∃ o,s.heap.get? p=some o/\o.ExactDict:=by
    rcases hk with ⟨kvs,hk⟩ | ⟨kvs,hk⟩
    ·obtain ⟨_,_,_,_,o,_,_,e,ex,_⟩:=I.hok p _ hk
     exact ⟨o,e,ex⟩
    ·obtain ⟨_,_,_,_,o,_,_,e,ex,_⟩:=I.hok p _ hk
     exact ⟨o,e,ex⟩
   obtain ⟨o,e,ex⟩:=z
   refine ⟨⟨o,e,ex.1⟩,fun a e2=>?_⟩
   cases e2
   exact ⟨o,e,ex.2.1⟩
  ·obtain ⟨o,_,_,_,e,ex,_⟩:=I.hok p _ hk
   refine ⟨⟨o,e,ex.1⟩,fun a e2=>?_⟩
   cases e2
   exact ⟨o,e,ex.2.1⟩
 | _=>exact False.elim ty
def tBM0 (K:PySem.W.Frag) (T:String) (r:V->List V->Hp->VK->Prop) (to:TE):TE:=fun σ H Q=>to σ H fun x H1=>tyV K T x H1/\r x [] H1 Q
def tBM (K:PySem.W.Frag) (T:String) (r:V->List V->Hp->VK->Prop) (to:TE) (t:TA):TE:=fun σ H Q=>to σ H fun x H1=>tyV K T x H1/\t σ H1 fun xs H2=>r x xs H2 Q
variable {o e:Expr} {es:List Expr} {to:TE} {t:TA} {name:Str} {apos cpos:Pos} {T id:String} {r:V->List V->Hp->VK->Prop}
theorem ygC (pa:PlainAttrs T) (slot:Slot T name id) (hty:typeOf (.builtin id)=pure (.type "method_descriptor")) (hm:MtR X id r) (ho:PE X o to)
  (hbase:attributeBase o name X.env (eval o X.env)=eval o X.env:=by rfl) (hline:(apos.endLine == cpos.line)=true:=by rfl):PE X (.Call (.Attribute o name apos) [] [] cpos) (tBM0 X.K T r to):=by
 intro pins s σ H Q I h
 refine wpAny_Call_method0_late hbase hline (thn (ho pins s σ H _ I h) fun v s1 ⟨x,H1,I1,r1,ty,q1⟩=>?_)
 obtain ⟨h1,h2⟩:=yfs I1 r1 ty
 exact ⟨T,id,pa,slot,hty,h1,h2,Calls.callWith_builtin rfl (PySem.evalArgs_none (hm pins s1 σ H1 x [] v [] Q I1 r1 .nil q1))⟩
theorem yhN (pa:PlainAttrs T) (slot:Slot T name id) (hty:typeOf (.builtin id)=pure (.type "method_descriptor")) (hm:MtR X id r) (ho:PE X o to) (ha:PA X (e::es) t)
  (hbase:attributeBase o name X.env (eval o X.env)=eval o X.env:=by rfl)
  (hfew:((backTo cpos (starEach (e::es) X.env)).all (fun x=>!x.1) && (backToKw cpos (keywordEach [] X.env)).all (fun x=>x.1.isSome)
   && decide ((e::es).length+([]:List Keyword).length+(if ([]:List Keyword).isEmpty then 0 else 1)<30))=true:=by rfl)
  (hline:(apos.endLine == cpos.line)=true:=by rfl) (hs:starEach (e::es) X.env=(false,eval e X.env)::starEach es X.env:=by rfl) (hplain:(backTo cpos (starEach es X.env)).any (·.1)=false:=by rfl) :
  PE X (.Call (.Attribute o name apos) (e::es) [] cpos) (tBM X.K T r to t):=by
 intro pins s σ H Q I h
 refine wpAny_Call_method_late hbase hfew hline rfl (thn (ho pins s σ H _ I h) fun v s1 ⟨x,H1,I1,r1,ty,q1⟩=>?_)
 obtain ⟨h1,h2⟩:=yfs I1 r1 ty
 refine ⟨T,id,pa,slot,hty,h1,h2,?_⟩
 have hA:=ha cpos pins s1 σ H1 _ I1 q1
 rw [hs] at hA ⊢
 refine Calls.callWith_builtin (by show (false || (backTo cpos (starEach es X.env)).any (·.1))=false;rw [hplain]<;>rfl) (Calls.evalArgs_plain ?_)
 exact thn hA fun us s2 ⟨vs,H2,I2,r2,q2⟩=>hm pins s2 σ H2 x vs v us Q I2 r1 r2 q2
end
end L2
namespace L2
open PySem PySem.Spec PyProof.Rows
def MtM (X:Cx) (id:String) (r:V->List V->Hp->VK->Prop):Prop :=
 ∀ (pins:List (Addr×Obj)) (s:Shared) (σ:St) (H:Hp) (x:V) (xs:List V) (v:Value) (us:List Value) (Q:VK),Inv X pins σ H s->RelV x v->Vals xs us->r x xs H Q ->
  wpAny (model X.prog X.w) X.A (call (.builtin id) (v::us)) (EP X pins σ Q) X.xe s
theorem Vals.one:∀ {x:V} {us:List Value},Vals [x] us->∃ u,us=[u]/\RelV x u
 | _,_,.cons r .nil=>⟨_,rfl,r⟩
theorem Vals.zero:∀ {us:List Value},Vals [] us->us=[]
 | _,.nil=>rfl
theorem Vals.dropLast {xs:List V} {us:List Value} (h:Vals xs us):Vals xs.dropLast us.dropLast:=by
 induction h with
 | nil=>exact .nil
 | cons r t ih =>
  cases t with
  | nil=>exact .nil
  | cons q t' => exact .cons r ih
theorem zgl {α:Type} (l:List α):l.eraseIdx (l.length-1)=l.dropLast:=by
 induction l with
 | nil=>rfl
 | cons a r ih =>
  cases r with
  | nil=>rfl
  | cons b r =>
   have e:(a::b::r).length-1=((b::r).length-1)+1:=by
    have h1:(a::b::r).length=r.length+2:=rfl
    have h2:(b::r).length=r.length+1:=rfl
    omega
   rw [e,List.eraseIdx_cons_succ,ih]
   all_goals rfl
section
variable {X:Cx} {pins:List (Addr×Obj)} {σ:St} {H:Hp} {s:Shared} {l b:Addr} {xs ys zs:List V}
theorem Inv.lset {its its':List Value} {n:Nat} {f:Array Value->Array Value} {t':Nat} (I:Inv X pins σ H s) (hH:H l=some (.lst xs))
  (e:s.heap.get? l=some { cls:=.type "list",data:=.seq its.toArray n }) (hf:f its.toArray=its'.toArray) (hv:Vals ys its') (hz:ys.length<=sizeLine) :
  Inv X pins σ (upd H l (.lst ys)) { s with heap:=s.heap.update l (Obj.mapSeq f),toks:=t' }:=by
 have q:=PySem.IsL.update e f
 rw [hf] at q
 refine I.write (x:=l) (e:=l) (by rw [hH];exact trivial) (.inl rfl) (fun b' u hb hu=>(Heap.get?_update_other s.heap (Obj.mapSeq f) (Ne.symm hb)).trans hu) ⟨_,q⟩ ?_
 exact ⟨hz,its',_,hv,q⟩
theorem Inv.lnew {its:List Value} {t':Nat} (I:Inv X pins σ H s) (hv:Vals ys its) (hz:ys.length<=sizeLine) :
  Inv X pins σ (upd H s.heap.objs.size (.lst ys)) { s with heap:=s.heap.push { cls:=.type "list",data:=.seq its.toArray },toks:=t' } :=
 I.laid (fun _ _ q=>Heap.get?_push_of_some _ q) (Nat.le_refl _) ⟨hz,its,0,hv,Heap.get?_push_size _ rfl⟩
theorem Inv.fresh (I:Inv X pins σ H s):H s.heap.objs.size=none:=I.hok.fresh (Nat.le_refl _)
theorem Inv.lstM (I:Inv X pins σ H s) (hH:H l=some (.lst xs)):xs.length<=sizeLine/\∃ (its:List Value) (n:Nat),Vals xs its/\xs.length=its.length/\s.heap.get? l=some { cls:=.type "list",data:=.seq its.toArray n }:=by
 obtain ⟨z,its,n,r,e⟩:=I.hok l _ hH
 exact ⟨z,its,n,r,r.length,e⟩
theorem zhI {n:Nat} (h:n<=sizeLine):Builtin.List.listTooLong n=false:=by
 unfold Builtin.List.listTooLong
 exact decide_eq_false (by omega)
end
section
variable {X:Cx}
def yf6:V->List V->Hp->VK->Prop:=fun x vs H Q=>∃ l xs y,x = .ref l/\vs=[y]/\H l=some (.lst xs)/\xs.length<sizeLine/\Q .non (upd H l (.lst (xs++[y])))
theorem zcp:MtM X "list.append" yf6:=by
 intro pins s σ H x vs v us Q I rx rv h
 obtain ⟨l,xs,y,rfl,rfl,hH,hz,q⟩:=h
 cases rx
 obtain ⟨u,rfl,ru⟩:=rv.one
 obtain ⟨z,its,n,r,hl,e⟩:=I.lstM hH
 refine call_meets F.slot_list_append ⟨_,e,rfl⟩ F.entry_list_append (F.args_list_append_2 _ _) (PySem.list_append l its.toArray n u (by rw [List.size_toArray];omega)) ⟨e,?_⟩
 refine ⟨.non,_,I.lset (its' := its++[u]) hH e (by simp) (r.append (.cons ru .nil)) ?_,rfl,q⟩
 rw [List.length_append,List.length_singleton]
 omega
def yf7:V->List V->Hp->VK->Prop:=fun x vs H Q=>∃ l b xs zs,x = .ref l/\vs=[.ref b]/\H l=some (.lst xs)/\H b=some (.lst zs)/\xs.length+zs.length<=sizeLine/\Q .non (upd H l (.lst (xs++zs)))
theorem zgR:MtM X "list.extend" yf7:=by
 intro pins s σ H x vs v us Q I rx rv h
 obtain ⟨l,b,xs,zs,rfl,rfl,hH,hB,hz,q⟩:=h
 cases rx
 obtain ⟨u,rfl,ru⟩:=rv.one
 cases ru
 obtain ⟨z,its,n,r,hl,e⟩:=I.lstM hH
 obtain ⟨z2,its2,n2,r2,hl2,e2⟩:=I.lstM hB
 have hsz:its.toArray.size+its2.toArray.size<=sizeLine:=by rw [List.size_toArray,List.size_toArray];omega
 have hlong : ¬ (!its.toArray.isEmpty && Builtin.List.listTooLong (its.toArray.size+its2.toArray.size))=true:=by
  rw [zhI hsz,Bool.and_false]
  exact Bool.false_ne_true
 refine call_meets F.slot_list_extend ⟨_,e,rfl⟩ F.entry_list_extend (F.args_list_extend_2 _ _)
  (AutoSeq1.list_extend_list_list_0 l its.toArray n b its2.toArray n2 hlong (by rw [List.size_toArray];omega) (by omega)) ⟨e,e2,?_⟩
 refine ⟨.non,_,I.lset (its' := its++its2) hH e (by simp) (r.append r2) ?_,rfl,q⟩
 rw [List.length_append]
 omega
def rPop:V->List V->Hp->VK->Prop:=fun x vs H Q=>∃ l xs y,x = .ref l/\vs=[]/\H l=some (.lst xs)/\xs[xs.length-1]? = some y/\Q y (upd H l (.lst xs.dropLast))
theorem ygD:MtM X "list.pop" rPop:=by
 intro pins s σ H x vs v us Q I rx rv h
 obtain ⟨l,xs,y,rfl,rfl,hH,hy,q⟩:=h
 cases rx
 have hus:=rv.zero
 subst hus
 obtain ⟨z,its,n,r,hl,e⟩:=I.lstM hH
 obtain ⟨u,hu,ru⟩:=r.get hy
 have hy':its.toArray[its.toArray.size-1]? = some u:=by
  show its.toArray[its.length-1]? = some u
  rw [<- Array.getElem?_toList,<- hl]
  exact hu
 refine call_meets F.slot_list_pop ⟨_,e,rfl⟩ F.entry_list_pop (F.args_list_pop_1 _) (MeetsSeq.list_pop_last l its.toArray n u hy' (by rw [List.size_toArray];omega)) ⟨e,?_⟩
 refine ⟨y,_,I.lset (its' := its.dropLast) hH e ?_ r.dropLast ?_,ru,q⟩
 ·show its.toArray.eraseIdxIfInBounds (its.toArray.size-1)=its.dropLast.toArray
  rw [List.size_toArray,List.eraseIdxIfInBounds_toArray,zgl]
 ·rw [List.length_dropLast]
  omega
end
section
variable {prog:Program} {w:World} {A:Around} {E:Value->Shared->Prop} {s:Shared}
end
section
variable {X:Cx}
end
end L2
namespace L2
open PySem PySem.Spec PyProof.Rows
section
variable {κ:Type} [DecidableEq κ]
def valV (kvs:List (κ×V)) (k:κ):Option V:=(kvs.find? fun kv=>decide (kv.1=k)).map (·.2)
def putK (kvs:List (κ×V)) (k:κ) (v:V):List (κ×V) :=
 if (kvs.any fun kv=>decide (kv.1=k))=true then kvs.map (fun kv=>if kv.1=k then (kv.1,v) else kv) else kvs++[(k,v)]
theorem zb4 {p:κ×V} {r:List (κ×V)} {k:κ} (e:p.1=k):valV (p::r) k=some p.2:=by simp [valV,List.find?_cons,e]
theorem zbI {p:κ×V} {r:List (κ×V)} {k:κ} (e : ¬ p.1=k):valV (p::r) k=valV r k:=by simp [valV,List.find?_cons,e]
theorem zc8 (k:κ):∀ kvs:List (κ×V),(kvs.any fun kv=>decide (kv.1=k))=(valV kvs k).isSome
 | []=>rfl
 | p::r=>by
  rw [List.any_cons]
  by_cases e:p.1=k
  ·simp only [zb4 e,decide_eq_true e,Bool.true_or,Option.isSome_some]
  ·rw [zbI e,decide_eq_false e,Bool.false_or];exact zc8 k r
theorem zcX (kvs:List (κ×V)) (k:κ) (v:V):(putK kvs k v).length<=kvs.length+1:=by
 unfold putK
 split
 ·rw [List.length_map];omega
 ·rw [List.length_append,List.length_cons,List.length_nil];omega
theorem RelO.isSome_eq {o:Option V} {u:Option Value} (r:RelO o u):o.isSome=u.isSome:=by
 cases o with
 | none=>cases u with
  | none=>rfl
  | some _=>exact (show False from r).elim
 | some _=>cases u with
  | none=>exact (show False from r).elim
  | some _=>rfl
theorem KV.val {kvs:List (κ×V)} {vs:List (κ×Value)} (r:KV kvs vs) (k:κ):RelO (valV kvs k) (valueAt vs k):=by
 unfold KV at r
 induction r with
 | nil=>exact True.intro
 | @cons p q ps qs h t ih =>
  obtain ⟨h1,h2⟩:=h
  by_cases e:p.1=k
  ·have e':q.1=k:=h1.symm.trans e
   have b:valueAt (q::qs) k=some q.2:=by simp [valueAt,List.find?_cons,e']
   rw [zb4 e,b];exact h2
  ·have e' : ¬ q.1=k:=fun z=>e (h1.trans z)
   have b:valueAt (q::qs) k=valueAt qs k:=by simp [valueAt,List.find?_cons,e']
   rw [zbI e,b];exact ih
theorem KV.any {kvs:List (κ×V)} {vs:List (κ×Value)} (r:KV kvs vs) (k:κ):(kvs.any fun kv=>decide (kv.1=k))=vs.any fun kv=>decide (kv.1=k):=by
 unfold KV at r
 induction r with
 | nil=>rfl
 | cons h t ih=>rw [List.any_cons,List.any_cons,ih,h.1]
theorem KV.repl {kvs:List (κ×V)} {vs:List (κ×Value)} (r:KV kvs vs) (k:κ) {y:V} {u:Value} (ry:RelV y u) :
  KV (kvs.map fun kv=>if kv.1=k then (kv.1,y) else kv) (vs.map fun kv=>if kv.1=k then (kv.1,u) else kv):=by
 unfold KV at r ⊢
 induction r with
 | nil=>exact .nil
 | @cons p q ps qs h t ih =>
  rw [List.map_cons,List.map_cons]
  refine .cons ?_ ih
  obtain ⟨h1,h2⟩:=h
  by_cases e:p.1=k
  ·rw [if_pos e,if_pos (h1.symm.trans e)];exact ⟨h1,ry⟩
  ·rw [if_neg e,if_neg (fun z=>e (h1.trans z))];exact ⟨h1,h2⟩
theorem KV.put {kvs:List (κ×V)} {vs:List (κ×Value)} (r:KV kvs vs) (k:κ) {y:V} {u:Value} (ry:RelV y u):KV (putK kvs k y) (stored vs k u):=by
 unfold putK stored
 rw [r.any k]
 by_cases e:(vs.any fun kv=>decide (kv.1=k))=true
 ·rw [if_pos e,if_pos e];exact r.repl k ry
 ·rw [if_neg e,if_neg e];exact Paired.snoc r ⟨rfl,ry⟩
theorem KV.length {kvs:List (κ×V)} {vs:List (κ×Value)} (r:KV kvs vs):kvs.length=vs.length:=Paired.length r
end
theorem yfa {P:Program} {w:World} {k:Key} {u:Value} (r:RelV (kV k) u):(ybr P w).is k u=true:=by
 cases k with
 | inl i=>obtain ⟨t,e⟩:=(show ∃ t,u=Value.int i t from r);subst e;exact zcT P w i t
 | inr x=>obtain ⟨t,e⟩:=(show ∃ t,u=Value.str x t from r);subst e;exact zcU P w x t
theorem ygE {P:Program} {w:World} {y:V} {k:Key} {u:Value} (e:kOf y=some k) (r:RelV y u):(ybr P w).is k u=true:=by
 cases y with
 | int i=>cases e;obtain ⟨t,e⟩:=(show ∃ t,u=Value.int i t from r);subst e;exact zcT P w i t
 | str x=>cases e;obtain ⟨t,e⟩:=(show ∃ t,u=Value.str x t from r);subst e;exact zcU P w x t
 | bl b=>cases e;cases (show u=Value.bool b from r);exact decide_eq_true rfl
 | _=>cases e
theorem zea {P:Program} {w:World}:∀ {ys:List V} {ks:List Key} {us:List Value},ys.map kOf=ks.map some->Vals ys us->ItemsAre (ybr P w) ks us
 | [],[],_,_,r=>by cases r;exact .nil
 | [],_::_,_,e,_=>by simp at e
 | _::_,[],_,e,_=>by simp at e
 | y::ys,k::ks,_,e,r=>by
  rw [List.map_cons,List.map_cons] at e
  injection e with e1 e2
  cases r with
  | cons h t=>exact .cons (ygE e1 h) (zea e2 t)
def KTup (H:Hp) (b:Addr) (k:List Key):Prop:=∃ ys,H b=some (.tup ys)/\ys.map kOf=k.map some
theorem KTup.of {H:Hp} {b:Addr} {k:List Key} (e:H b=some (.tup (k.map kV))):KTup H b k:=⟨_,e,by rw [List.map_map];exact List.map_congr_left fun x _=>ygc x⟩
abbrev KT (H:Hp):List (List Key×V)->List (List Key×Addr×Value)->Prop:=Paired fun p q=>p.1=q.1/\(∃ ys,H q.2.1=some (.tup ys)/\ys.map kOf=p.1.map some)/\RelV p.2 q.2.2
theorem KT.val {H:Hp} {kvs:List (List Key×V)} {xs:List (List Key×Addr×Value)} (r:KT H kvs xs) (k:List Key):RelO (valV kvs k) ((atKey xs k).map (·.2)):=by
 induction r with
 | nil=>exact True.intro
 | @cons p q ps qs h t ih =>
  obtain ⟨h1,_,h2⟩:=h
  by_cases e:p.1=k
  ·have e':q.1=k:=h1.symm.trans e
   have b:atKey (q::qs) k=some q.2:=by simp [atKey,List.find?_cons,e']
   rw [zb4 e,b];exact h2
  ·have e' : ¬ q.1=k:=fun z=>e (h1.trans z)
   have b:atKey (q::qs) k=atKey qs k:=by simp [atKey,List.find?_cons,e']
   rw [zbI e,b];exact ih
theorem KT.repl {H:Hp} {kvs:List (List Key×V)} {xs:List (List Key×Addr×Value)} (r:KT H kvs xs) (k:List Key) {y:V} {u:Value} (ry:RelV y u) :
  KT H (kvs.map fun kv=>if kv.1=k then (kv.1,y) else kv) (xs.map (putAt k u)):=by
 induction r with
 | nil=>exact .nil
 | @cons p q ps qs h t ih =>
  rw [List.map_cons,List.map_cons]
  refine .cons ?_ ih
  obtain ⟨h1,h2,h3⟩:=h
  unfold putAt
  by_cases e:p.1=k
  ·rw [if_pos e,if_pos (h1.symm.trans e)];exact ⟨h1,h2,ry⟩
  ·rw [if_neg e,if_neg (fun z=>e (h1.trans z))];exact ⟨h1,h2,h3⟩
theorem KT.put {H:Hp} {kvs:List (List Key×V)} {xs:List (List Key×Addr×Value)} (r:KT H kvs xs) (k:List Key) {b:Addr} {y:V} {u:Value} (hb:KTup H b k) (ry:RelV y u) :
  KT H (putK kvs k y) (storedH xs k b u):=by
 have e:(kvs.any fun kv=>decide (kv.1=k))=(atKey xs k).isSome:=by
  rw [zc8,(r.val k).isSome_eq,Option.isSome_map]
 unfold putK storedH
 rw [e]
 by_cases q:(atKey xs k).isSome=true
 ·rw [if_pos q,if_pos q];exact r.repl k ry
 ·rw [if_neg q,if_neg q];exact Paired.snoc r ⟨rfl,hb,ry⟩
theorem KT.keeps {H H':Hp} {kvs:List (List Key×V)} {xs:List (List Key×Addr×Value)} (r:KT H kvs xs) (ht:∀ b ys,H b=some (.tup ys)->H' b=some (.tup ys)):KT H' kvs xs :=
 Paired.mapP r fun _ _ z=>⟨z.1,z.2.1.imp fun _ e=>⟨ht _ _ e.1,e.2⟩,z.2.2⟩
section
variable {P:Program} {w:World} {H:Hp} {h:Heap} {a:Addr}
theorem yfU {u:HO} (ok:HOk P w H h) (e:Rd H a u):ObjOk P w H h a u:=e.ok ok
theorem yer {kvs:List (Key×V)} (ok:HOk P w H h) (e:Rd H a (.dK kvs)):kvs.length<=sizeLine/\(a == sysModules)=false/\∃ vs,KV kvs vs/\h.DictOf (ybr P w) a vs :=
 show ObjOk P w H h a (.dK kvs) from yfU ok e
theorem yhO {kvs:List (Key×V)} (ok:HOk P w H h) (e:H a=some (.dK kvs)):kvs.length<=sizeLine/\(a == sysModules)=false/\∃ vs,KV kvs vs/\h.DictOf (ybr P w) a vs:=yer ok (.inl e)
theorem yes {ks:List Key} (ok:HOk P w H h) (e:KTup H a ks):(tupleKind (ybr P w)).is h ks a:=by
 obtain ⟨ys,e,ek⟩:=e
 obtain ⟨_,its,r,o,h1,h2,n,h3⟩:=(show ObjOk P w H h a (.tup ys) from ok a _ e)
 exact ⟨o,its.toArray,n,h1,h2,h3,by simpa using zea ek r⟩
theorem yeK {kvs:List (List Key×V)} (ok:HOk P w H h) (e:Rd H a (.dT kvs)):kvs.length<=sizeLine/\(a == sysModules)=false /\
  ∃ xs,KT H kvs xs/\h.DictOfH (tupleKind (ybr P w)) a xs:=by
 obtain ⟨z,y,xs,r,o,es,ep,h1,h2,h3,h4,h5⟩:=(show ObjOk P w H h a (.dT kvs) from yfU ok e)
 refine ⟨z,y,xs,r,o,es,ep,h1,h2,h3,h4,fun x hx=>?_,h5⟩
 have all:∀ {l:List (List Key×V)} {m:List (List Key×Addr×Value)},KT H l m->∀ x∈m,(tupleKind (ybr P w)).is h x.1 x.2.1:=by
  intro l m q
  induction q with
  | nil=>intro x hx;exact nomatch hx
  | @cons p q ps qs hq t ih =>
   intro x hx
   rcases List.mem_cons.mp hx with e | hx
   ·subst e
    exact yes ok (by rw [<- hq.1];exact hq.2.1)
   ·exact ih x hx
 exact all r x hx
theorem yhP {kvs:List (List Key×V)} (ok:HOk P w H h) (e:H a=some (.dT kvs)):kvs.length<=sizeLine/\(a == sysModules)=false /\
  ∃ xs,KT H kvs xs/\h.DictOfH (tupleKind (ybr P w)) a xs:=yeK ok (.inl e)
end
def DGet (H:Hp) (a:Addr) (y:V) (r:Option V):Prop :=
 (∃ kvs k,Rd H a (.dK kvs)/\y=kV k/\r=valV kvs k)\/∃ kvs k b,Rd H a (.dT kvs)/\y = .ref b/\KTup H b k/\r=valV kvs k
def DPut (H:Hp) (a:Addr) (y v:V) (H':Hp):Prop :=
 (∃ kvs k,H a=some (.dK kvs)/\y=kV k/\kvs.length<sizeLine/\H'=upd H a (.dK (putK kvs k v))) \/
 ∃ kvs k b,H a=some (.dT kvs)/\y = .ref b/\KTup H b k/\kvs.length<sizeLine/\H'=upd H a (.dT (putK kvs k v))
theorem DGet.k {H:Hp} {a:Addr} {kvs:List (Key×V)} {k:Key} (e:H a=some (.dK kvs)):DGet H a (kV k) (valV kvs k):=.inl ⟨kvs,k,.inl e,rfl,rfl⟩
theorem DGet.t {H:Hp} {a b:Addr} {kvs:List (List Key×V)} {k:List Key} (e:H a=some (.dT kvs)) (eb:KTup H b k):DGet H a (.ref b) (valV kvs k):=.inr ⟨kvs,k,b,.inl e,rfl,eb,rfl⟩
theorem DPut.k {H:Hp} {a:Addr} {kvs:List (Key×V)} {k:Key} {v:V} (e:H a=some (.dK kvs)) (hl:kvs.length<sizeLine):DPut H a (kV k) v (upd H a (.dK (putK kvs k v))):=.inl ⟨kvs,k,e,rfl,hl,rfl⟩
theorem DPut.t {H:Hp} {a b:Addr} {kvs:List (List Key×V)} {k:List Key} {v:V} (e:H a=some (.dT kvs)) (eb:KTup H b k) (hl:kvs.length<sizeLine) :
  DPut H a (.ref b) v (upd H a (.dT (putK kvs k v))):=.inr ⟨kvs,k,b,e,rfl,eb,hl,rfl⟩
section
variable {X:Cx} {pins:List (Addr×Obj)} {σ:St} {H:Hp} {s:Shared} {a:Addr} {y v:V} {u r:Value} {o:Option V} {A:Around} {E:Value->Shared->Prop}
theorem Inv.big (I:Inv X pins σ H s):sysModules<s.heap.objs.size:=by
 have h:mainGlobals<s.heap.objs.size:=(I.mod.glob.keeps I.bk).lt
 exact Nat.lt_trans (by decide) h
theorem zgS {Q:Value->Shared->Prop} (hu:A.units+1<cLine) (I:Inv X pins σ H s) (g:DGet H a y (some v)) (ry:RelV y u) (h:∀ w' s',Inv X pins σ H s'->RelV v w'->Q w' s') :
  wpAny (model X.prog X.w) A (getItem (.ref a) u) Q E s:=by
 rcases g with ⟨kvs,k,e,ey,l⟩ | ⟨kvs,k,b,e,ey,eb,l⟩
 ·subst ey
  obtain ⟨z,hd,vs,rel,dd⟩:=yer I.hok e
  obtain ⟨w',hw,rw'⟩:=RelO.some_of (v:=v) (o:=valueAt vs k) (by rw [l];exact rel.val k)
  exact wpAny_getItem_of (yfa ry) dd.mapOf hw (h w' _ (I.tok _) rw')
 ·subst ey
  cases (show u=Value.ref b from ry)
  obtain ⟨z,hd,xs,rel,dd⟩:=yeK I.hok e
  obtain ⟨w',hw,rw'⟩:=RelO.some_of (v:=v) (o:=(atKey xs k).map (·.2)) (by rw [l];exact rel.val k)
  obtain ⟨p,hp,hp2⟩:=Option.map_eq_some_iff.mp hw
  refine wpAny_getItem_heap (tupleKind_room_in1 hu) (yes I.hok eb) dd hp ?_
  rw [hp2]
  exact h w' _ (I.tok _) rw'
theorem ziI {Q:Value->Shared->Prop} (hu:A.units+1<cLine) (I:Inv X pins σ H s) (g:DGet H a y o) (ry:RelV y u) (h:∀ s',Inv X pins σ H s'->Q (.bool (!o.isSome)) s') :
  wpAny (model X.prog X.w) A (compareOp .NotIn u (.ref a)) Q E s:=by
 rcases g with ⟨kvs,k,e,ey,l⟩ | ⟨kvs,k,b,e,ey,eb,l⟩
 ·subst ey
  obtain ⟨z,hd,vs,rel,dd⟩:=yer I.hok e
  refine wpAny_notIn_of (yfa ry) hd dd.mapOf ?_
  rw [<- (rel.val k).isSome_eq,<- l]
  exact h _ (I.tok _)
 ·subst ey
  cases (show u=Value.ref b from ry)
  obtain ⟨z,hd,xs,rel,dd⟩:=yeK I.hok e
  refine wpAny_notIn_heap (tupleKind_room_in1 hu) (yes I.hok eb) hd dd ?_
  have q:=(rel.val k).isSome_eq
  rw [Option.isSome_map] at q
  rw [<- q,<- l]
  exact h _ (I.tok _)
theorem zfx {h':Heap} {t':Nat} {ob:HO} (I:Inv X pins σ H s) (mu:Mut (H a)) (hs:Heap.SameBut a s.heap h') (he:∃ q,h'.get? a=some q) (new:ObjOk X.prog X.w (upd H a ob) h' a ob) :
  Inv X pins σ (upd H a ob) { s with heap:=h',toks:=t' } :=
 I.write (x:=a) (e:=a) mu (.inl rfl) (fun b q hb z=>(hs.2 b hb).trans z) he new
theorem ygF {P:Program} {w:World} {H':Hp} {h':Heap} {kvs:List (Key×V)} {vs:List (Key×Value)} (z:kvs.length<=sizeLine) (hd:(a == sysModules)=false) (rel:KV kvs vs) (dd:h'.DictOf (ybr P w) a vs) :
  ObjOk P w H' h' a (.dK kvs):=⟨z,hd,vs,rel,dd⟩
theorem zgT {H':Hp} {Q:Unit->Shared->Prop} (hu:A.units+1<cLine) (I:Inv X pins σ H s) (g:DPut H a y v H') (ry:RelV y u) (rv:RelV v r) (h:∀ s',Inv X pins σ H' s'->Q () s') :
  wpAny (model X.prog X.w) A (setItem (.ref a) u r) Q E s:=by
 rcases g with ⟨kvs,k,e,ey,l,eH⟩ | ⟨kvs,k,b,e,ey,eb,l,eH⟩
 ·subst ey eH
  obtain ⟨z,hd,vs,rel,dd⟩:=yhO I.hok e
  have hz:vs.length<=sizeLine:=by rw [<- rel.length];exact z
  have hl:(putK kvs k v).length<=sizeLine:=by have:=zcX kvs k v;omega
  refine wpAny_setItem_pairs (hsz:=hz) (yfa ry) dd fun h' dd' hs=>h _ ?_
  have he:∃ q,h'.get? a=some q:=let ⟨q,_,_,hq,_⟩:=dd';⟨q,hq⟩
  exact zfx I (by rw [e];exact True.intro) hs he (ygF hl hd (rel.put k rv) dd')
 ·subst ey eH
  cases (show u=Value.ref b from ry)
  obtain ⟨z,hd,xs,rel,dd⟩:=yhP I.hok e
  have hz:xs.length<=sizeLine:=by rw [<- Paired.length rel];exact z
  have hl:(putK kvs k v).length<=sizeLine:=by have:=zcX kvs k v;omega
  refine wpAny_setItem_heap (hsz:=hz) (tupleKind_room_in1 hu) (yes I.hok eb) dd fun h' dd' hs=>h _ ?_
  obtain ⟨q,es,ep,hq,h2,h3,h4,_,h5⟩:=dd'
  refine zfx I (by rw [e];exact True.intro) hs ⟨q,hq⟩ ⟨hl,hd,_,(rel.put k eb rv).keeps fun c ys ec=>?_,q,es,ep,hq,h2,h3,h4,h5⟩
  rw [yaN (yht ec e (fun z=>nomatch z))]
  exact ec
end
section
variable {X:Cx} {pins:List (Addr×Obj)} {σ:St} {H:Hp} {s:Shared} {a:Addr} {kvs:List (Key×V)} {k:Key} {u:Value} {A:Around} {E:Value->Shared->Prop}
theorem yhQ {Q:Value->Shared->Prop} (I:Inv X pins σ H s) (e:Rd H a (.dK kvs)) (h:∀ t s',Inv X pins σ H s'->Q (.int kvs.length t) s'):wpAny (model X.prog X.w) A (call (.builtin "len") [.ref a]) Q E s:=by
 obtain ⟨z,hd,vs,rel,dd⟩:=yer I.hok e
 refine call_len_dict hd dd (by rw [<- rel.length];rw [sizeLine_eq] at z;omega) ?_
 rw [<- rel.length]
 exact h _ _ (I.tok _)
end
def NoSl (i:Expr):Prop:=∀ ov iv,subscripted i false ov iv=operate [ov,iv] (getItem ov iv)
theorem ziJ {prog:Program} {w:World} {A:Around} {E:Value->Shared->Prop} {s:Shared} {env:Env} {value slice:Expr} {pos:Pos} {T id:String} {Q:Value->Shared->Prop}
  (hl:typeLookup (.type T) "__getitem__" = pure (some (.builtin id))) (hs:NoSl slice)
  (h:wpAny (model prog w) A (eval value env) (fun o s₁=>wpAny (model prog w) A (eval slice env) (fun i s₂=>s₂.TypeIs o T/\wpAny (model prog w) A (getItem o i) Q E s₂) E s₁) E s) :
  wpAny (model prog w) A (eval (.Subscript value slice pos) env) Q E s:=by
 refine Subscript_ (wpAny_mono h (fun o s₁ h₁=>wpAny_mono h₁ (fun i s₂ h₂=>?_) fun _ _ x=>x) fun _ _ x=>x)
 obtain ⟨hT,h₂⟩:=h₂
 unfold subscriptTail
 refine wpAny_bind ?_
 rw [getitemInPython_of_ne hT.not_modules]
 refine wpAny_bind (wpAny_specialOf hT hl ?_)
 have fin:wpAny (model prog w) A (subscripted slice false o i) (fun r s₃=>wpAny (model prog w) A (letTemporaryGo value o r >>= fun _=>pure r) Q E s₃) E s₂:=by
  rw [hs o i]
  exact wpAny_operating (wpAny_mono h₂ (fun r s₃ h₃=>wpAny_bind (wpAny_letTemporaryGo (wpAny_pure h₃))) fun _ _ x=>x)
 first
  | exact wpAny_pure (wpAny_bind fin)
  | exact wpAny_bind (wpAny_pure (wpAny_bind fin))
  | exact wpAny_bind fin
theorem ze9 {X:Cx} {pins:List (Addr×Obj)} {σ:St} {H:Hp} {s:Shared} {a:Addr} {y:V} {o:Option V} (I:Inv X pins σ H s) (g:DGet H a y o):s.TypeIs (.ref a) "dict" := by
 rcases g with ⟨kvs,k,e,_,_⟩ | ⟨kvs,k,b,e,_,_,_⟩
 ·obtain ⟨_,_,vs,_,dd⟩:=yer I.hok e
  exact dd.typeIs
 ·obtain ⟨_,_,xs,_,dd⟩:=yeK I.hok e
  exact dd.typeIs
def yhR (td ty:TE):TE:=fun σ H Q=>td σ H fun x H1=>ty σ H1 fun y H2=>∃ a v,x = .ref a/\DGet H2 a y (some v)/\Q v H2
def yhS (td ty tv:TE):TS:=fun D σ H=>tv σ H fun v H1=>td σ H1 fun x H2=>ty σ H2 fun y H3=>∃ a H4,x = .ref a/\DPut H3 a y v H4/\D.nx σ H4
section
variable {X:Cx} {o i e value:Expr} {pos pos' tpos:Pos} {td ty tv:TE}
theorem ziK (hu:X.A.units+1<cLine) (ho:PE X o td) (hi:PE X i ty) (hs:NoSl i):PE X (.Subscript o i pos) (yhR td ty):=by
 intro pins s σ H Q I h
 refine ziJ PySem.F.slot_dict_getitem.lookup hs (thn (ho pins s σ H _ I h) fun u s1 ⟨x,H1,I1,rx,q1⟩=>thn (hi pins s1 σ H1 _ I1 q1) fun iv s2 ⟨y,H2,I2,ry,a,v,ex,g,q2⟩=>?_)
 subst ex
 obtain rfl:u=Value.ref a:=rx
 exact ⟨ze9 I2 g,zgS hu I2 g ry fun w' s3 I3 rw' => ⟨v,H2,I3,rw',q2⟩⟩
theorem ziL (hu:X.A.units+1<cLine) (ho:PE X o td) (hi:PE X i ty) (hv:PE X value tv) (hs:swapsWith value (some (.Subscript o i pos')) pos.line X.env=pure false) :
  PS X (.Assign [.Subscript o i pos'] value pos) (yhS td ty tv):=by
 intro pins s σ H D I h
 refine wpAny_Assign_Subscript (thn (hv pins s σ H _ I h) fun r s1 ⟨v,H1,I1,rv,q1⟩=>thn (ho pins s1 σ H1 _ I1 q1) fun u s2 ⟨x,H2,I2,rx,q2⟩=>thn (hi pins s2 σ H2 _ I2 q2) fun iv s3 ⟨y,H3,I3,ry,a,H4,ex,g,q3⟩=>?_) hs
 subst ex
 obtain rfl:u=Value.ref a:=rx
 exact zgT hu I3 g ry rv fun s4 I4=>⟨σ,H4,I4,q3⟩
end
theorem zhJ {P:Program} {w:World} {H:Hp} (h:Heap) (hb:sysModules<h.objs.size):ObjOk P w H (h.push { cls:=.type "dict",data:=.dict #[] }) h.objs.size (.dT []) :=
 ⟨Nat.zero_le _,beq_eq_false_iff_ne.mpr (Ne.symm (Nat.ne_of_lt hb)),[],.nil,_,#[],0,Heap.get?_push_size _ rfl,⟨rfl,rfl,rfl⟩,rfl,rfl,List.nodup_nil⟩
def ygG:TE:=fun _ H Q=>∀ p,H p=none->Q (.ref p) (upd H p (.dT []))
section
variable {X:Cx} {pos:Pos}
theorem zhK:PE X (.Dict [] [] pos) ygG:=fun pins s σ H Q I h =>
 wpAny_Dict_empty ⟨.ref s.heap.objs.size,_,I.laid (a:=s.heap.objs.size) (o:=.dT []) (t' := s.toks) (fun _ _ q=>Heap.get?_push_of_some _ q) (Nat.le_refl _) (zhJ s.heap I.big),rfl,h _ (I.hok.fresh (Nat.le_refl _))⟩
end
section
variable {X:Cx} {pins:List (Addr×Obj)} {σ:St} {H:Hp} {s:Shared} {a:Addr} {y d:V} {u r:Value} {o:Option V} {A:Around} {E:Value->Shared->Prop}
end
section
variable {X:Cx} {o e f:Expr} {apos cpos:Pos} {td ty tx:TE}
end
section
variable {X:Cx} {pins:List (Addr×Obj)} {σ:St} {H:Hp} {s:Shared} {a:Addr} {kvs:List (Key×V)} {A:Around} {E:Value->Shared->Prop}
end
section
variable {X:Cx} {pins:List (Addr×Obj)} {σ:St} {H:Hp} {s:Shared} {a:Addr} {y:V} {u:Value} {A:Around} {E:Value->Shared->Prop}
end
end L2
namespace Att
open PySem PySem.W PySem.Calls PyProof.Rows
theorem zdv {P:Params} {h:Heap}:∀ (ns:List Int) (vs:List Value),WellAll P h vs (ns.map WData.int)->IntsAre vs ns:=by
 intro ns
 induction ns with
 | nil =>
  intro vs w
  rw [List.map_nil] at w
  cases w
  exact .nil
 | cons n ns ih =>
  intro vs w
  rw [List.map_cons] at w
  cases w with
  | cons a b =>
   cases a
   exact .cons _ _ (ih _ b)
theorem zgU {l:OpenLaw} {n:Nat} (hn:l.most=some n) {P:Params} {h:Heap} {args:List WData} {vals:List Value}
  (hpre:l.row.toRowW.claim.pre args=true) (hwl:WellAll P h vals args) :
  ∃ a vs ns,vals=[Value.ref a]/\args=[WData.list (ns.map WData.int)]/\h.get? a=some { cls:=.type "list",data:=.seq vs.toArray }/\IntsAre vs ns/\ns.length<=n:=by
 have hsh:WShape.hasAll [] args [.list .int]=true:=(pre_splitW hpre).1
 have hc:l.pre.holds [] { args:=args }=true:=(pre_splitW hpre).2
 obtain ⟨d,r,rfl,h1,h2⟩:=hasAllW_cons hsh
 obtain rfl:=hasAllW_nil h2
 obtain ⟨xs,rfl,h3⟩:=hasW_list h1
 obtain ⟨ns,rfl⟩:=items_int h3
 have hlen:ns.length<=n:=by
  unfold OpenLaw.pre at hc
  have h4:(WTm.not (.lt (.lit (.int (n:Int))) (.len (.arg 0)))).holds [] { args:=[.list (ns.map .int)] }=true:=by
   have h4:=(holds_andW hc).1
   rw [hn] at h4
   exact h4
  have h5:=condW_of h4 (w_not (w_lt w_lit (w_len_list (w_arg rfl))))
  rw [List.length_map] at h5
  refine Nat.le_of_not_lt fun q=>?_
  have q':(n:Int)<((ns.length:Nat):Int):=by omega
  first
   | (rw [decide_eq_true q'] at h5;exact absurd h5 (by decide))
   | (simp at h5;omega)
 cases hwl with
 | cons w1 w2 =>
  cases w2
  cases w1 with
  | list ho hall=>exact ⟨_,_,ns,rfl,rfl,ho,zdv ns _ hall,hlen⟩
theorem zgV (l:OpenLaw) (args:List WData):l.row.toRowW.claim.post args (.bool true) args=true :=
 postW_of (r:=l.row.toRowW) (X:=(true == true))
  (show WShape.has [] (.bool true) .bool=true by first | rfl | decide | simp [WShape.has,WShape.arms,WShape.armsAll])
  (show (WTm.eq .res (.lit (.bool true))).value [] { args:=args,res:=some (.bool true),after:=args }=some (.bool (true == true)) from w_eq_bool (w_res rfl) w_lit) rfl
theorem attach_call {l:OpenLaw} {n:Nat} {q:Program} {loose:List Str} {XP:(Str->Option Value)->Heap->Prop} {YP:World->Heap->Prop} {d:DefRec}
  (hn:l.most=some n) (hdf:d.params.defaults=[])
  (call:∀ (w:World) (s₀ s₁:Shared) (mg mb:Str->Option Value) (fa:Addr) (o:Obj) (pm cd doc:Value) (a:Addr) (vs:List Value) (ns:List Int),
   Ground q loose [] XP w s₀ mg mb s₁.heap->YP w s₁.heap ->
   s₁.heap.get? fa=some o->o.data = .func (docDef d.name d.params d.body d.scope pm cd doc)->s₁.heap.CodeRec cd d.name->mg d.name=some (.ref fa) ->
   s₁.heap.get? a=some { cls:=.type "list",data:=.seq vs.toArray }->IntsAre vs ns->ns.length<=n->s₁.gens = #[] ->
   codeAny (model l.prog w) callerA (.call (.ref fa) ⟨[.ref a],[]⟩) (fun r s' => r = .ok (.ret (.bool true))/\OldK s₁.heap s'.heap/\s'.os=s₁.os/\AllBare s'.gens) s₁) :
  WalkO q loose XP YP l.row.toRowW d [] (fun f vs=>PySem.call f vs):=by
 intro w s₀ s₁ mg mb G Y fa o pm cd doc dV kV ho hd hcd hD hmg hg args vals as hpre hlay hrd hwl hlo
 obtain rfl:dV = .none:=Dflts.none hD hdf
 obtain rfl:kV = .none:=Dflts.noKw hD
 obtain ⟨a,vs,ns,rfl,rfl,hobj,hints,hlen⟩:=zgU hn hpre hwl
 refine enter_call (codeAny_mono (call w s₀ s₁ mg mb fa o pm cd doc a vs ns G Y ho (fd_plain hd) hcd hmg hobj hints hlen hg) fun r s' hq=>?_)
 obtain ⟨rfl,h2,h3,h4⟩:=hq
 exact ⟨.inl ⟨.bool true,.bool true,[],rfl,fun _=>rfl,.bool true,zgV l _,fun _=>⟨List.Pairwise.nil,fun _ hm=>(nomatch hm)⟩⟩,h2,h3,h4⟩
section
variable {prog:Program} {w:World} {A:Around} {E:Value->Shared->Prop} {s:Shared} {K:Frag}
end
end Att
namespace L2
open PySem PySem.Spec PyProof.Rows
theorem zeb:∀ {vs:List Value} {ns:List Int},IntsAre vs ns->Vals (ns.map V.int) vs
 | _,_,.nil=>.nil
 | _,_,.cons n t h=>.cons ⟨t,rfl⟩ (zeb h)
def Only (H:Hp):Prop:=∀ b,H b=none\/∃ o xs,H b=some (.frz o (.lst xs))
theorem zhL {P:Program} {w:World} {K:PySem.W.Frag} {mg mb:Str->Option Value} {CX:CXT} {k:Nat} {fa a:Addr} {fd:FuncData} {x:Str} {sp:Sp} {s₁:Shared} {vs:List Value} {ns:List Int}
  (KX:K.In s₁.heap) (hns:s₁.heap.Ns mainGlobals mg) (hb:s₁.heap.Ns builtinsNs mb) (hbb:∀ x:Str,x ≠ "__name__" -> mb x=bootBuiltins x) (hlim:s₁.heap.NoLimit) (hg:s₁.gens = #[])
  (ha:s₁.heap.get? a=some { cls:=.type "list",data:=.seq vs.toArray }) (hi:IntsAre vs ns) (hl:ns.length<=sizeLine) (hr:Room k callerA)
  (F:∀ base:Heap,K.In base->base.Ns mainGlobals mg->FnOk P w K mg base CX k fa fd [x] sp) (hbind:∀ (s:Shared) (u:Value),BindsTo s fd ⟨[u],[]⟩ [(x,u)])
  (hsp:∀ H:Hp,Only H->SqL K H a (ns.map V.int)->sp [.ref a] H (fun v _=>v = .bl true) fun _ _ _=>False)
  (hCX:∀ H e s',CX [] H s₁ (fun _ _ _=>False) e s'->False) :
  codeAny (model P w) callerA (.call (.ref fa) ⟨[.ref a],[]⟩) (fun r s' => r = .ok (.ret (.bool true))/\OldK s₁.heap s'.heap/\s'.os=s₁.os/\AllBare s'.gens) s₁:=by
 have rv:=zeb hi
 have lenV:=hi.length
 have core:∀ H:Hp,Only H->SqL K H a (ns.map V.int)->HOk P w H s₁.heap->(∀ b,H b≠none->b=a)->(H a≠none->K.lookup a=none) ->
   codeAny (model P w) callerA (.call (.ref fa) ⟨[.ref a],[]⟩) (fun r s' => r = .ok (.ret (.bool true))/\OldK s₁.heap s'.heap/\s'.os=s₁.os/\AllBare s'.gens) s₁:=by
  intro H hO hS hok hA hK
  have base_of:∀ {b:Addr} {o:Obj},s₁.heap.get? b=some o->H b=none->(hidT s₁.heap H).get? b=some o:=fun e n=>zhu e n
  have noA:∀ {b:Addr} {o:Obj} {es:Array DictEntry} {ep:Nat},s₁.heap.get? b=some o->o.data = .dict es ep->H b=none:=fun {b o es ep} e d=>by
   cases q:H b with
   | none=>rfl
   | some u =>
    have e':b=a:=hA b (by rw [q];simp)
    subst e'
    rw [ha] at e;cases e
    have d':Data.seq vs.toArray _=Data.dict es ep:=d
    cases d'
  have nsK:∀ {b:Addr} {m:Str->Option Value},s₁.heap.Ns b m->(hidT s₁.heap H).Ns b m:=fun {b m} ⟨o,es,ep,e,d,r⟩=>⟨o,es,ep,base_of e (noA e d),d,r⟩
  have hKb:K.In (hidT s₁.heap H):=fun b o e=>base_of (KX b o e) (by
   cases q:H b with
   | none=>rfl
   | some u =>
    have e':b=a:=hA b (by rw [q];simp)
    subst e'
    rw [hK (by rw [q];simp)] at e;cases e)
  have hM:Mod K mg (hidT s₁.heap H):=⟨hKb,nsK hns,⟨mb,nsK hb,hbb⟩,let ⟨mc,h1,h2⟩:=hlim;⟨mc,nsK h1,h2⟩⟩
  have e0:Env0 P w K mg (hidT s₁.heap H) callerA [] s₁ H:=⟨rfl,hM,fun b o e=>zis e,Nat.le_of_eq (zgG _ _),trivial,fun b hb=>absurd (show b∈([]:List Addr) from hb) (by simp),hok,.of_eq hg⟩
  refine codeAny_mono ((F _ hKb (nsK hns)).run callerA [] s₁ H ⟨[.ref a],[]⟩ [.ref a] [.ref a] _ _ hr e0 (hbind s₁ (.ref a)) (.cons rfl .nil) (hsp H hO hS)) fun r s' h=>?_
  cases r with
  | error e=>exact (hCX H e s' h).elim
  | ok fl =>
   cases fl with
   | next=>exact False.elim h
   | brk=>exact False.elim h
   | cont=>exact False.elim h
   | ret u =>
    obtain ⟨v,H',os,bare,un,hok',r',q⟩:=h
    have q':v = .bl true:=q
    subst q'
    obtain rfl:u=Value.bool true:=r'
    refine ⟨rfl,OldK.of_keep fun b o e=>?_,os,bare⟩
    cases q:H b with
    | none=>exact un.keep b o e q (by intro z;exact absurd (show b∈([]:List Addr) from z) (by simp)) (by simp)
    | some u =>
     rcases hO b with z | ⟨ob,xs,z⟩
     ·rw [q] at z;cases z
     ·have z2:=un.frzs b ob _ z
      obtain ⟨e1,_⟩:=hok b _ z
      obtain ⟨e2,_⟩:=hok' b _ z2
      rw [e] at e1;cases e1
      exact e2
 cases hk:K.lookup a with
 | some o =>
  have e:=KX a o hk
  rw [ha] at e
  cases e
  refine core (fun _=>none) (fun _=>.inl rfl) (.inr ⟨_,vs.toArray,_,hk,rfl,rfl,rfl,by rw [List.size_toArray,lenV];exact hl,by simpa using rv⟩) (fun b u z=>by have z':(none:Option HO)=some u:=z;cases z') (fun b z=>absurd rfl z) fun z=>absurd rfl z
 | none =>
  refine core (fun b=>if b=a then some (.frz { cls:=.type "list",data:=.seq vs.toArray } (.lst (ns.map V.int))) else none) (fun b=>?_) (.inl (.inr ⟨{ cls:=.type "list",data:=.seq vs.toArray },if_pos rfl⟩)) (fun b u z=>?_) (fun b z=>?_) fun _=>hk
  ·by_cases hb:b=a
   ·exact .inr ⟨_,_,if_pos hb⟩
   ·exact .inl (if_neg hb)
  ·by_cases hb:b=a
   ·have z' := (if_pos hb).symm.trans z
    cases z'
    subst hb
    exact ⟨ha,by rw [List.length_map];exact hl,vs,_,rv,ha⟩
   ·have z' := (if_neg hb).symm.trans z
    cases z'
  ·by_cases hb:b=a
   ·exact hb
   ·exact absurd (if_neg hb) z
end L2
namespace L2
open PySem PySem.Spec PyProof.Rows
theorem walk_of {l:PySem.W.OpenLaw} {n k:Nat} {q:Program} {loose:List Str} {XP:(Str->Option Value)->Heap->Prop} {YP:World->Heap->Prop} {d:DefRec} {K:Params->PySem.W.Frag} {CX:World->CXT} {sp:World->Sp} {x:Str}
  (hn:l.most=some n) (hn2:n<=sizeLine) (hdf:d.params.defaults=[]) (hr:Room k callerA)
  (hY:∀ (w:World) (h:Heap),YP w h->(K w.params).In h)
  (F:∀ (w:World) (mg:Str->Option Value) (fa:Addr) (h:Heap),(K w.params).In h->h.Ns mainGlobals mg->mg d.name=some (.ref fa) ->
   ∃ fd:FuncData,(∀ (s:Shared) (u:Value),BindsTo s fd ⟨[u],[]⟩ [(x,u)]) /\
    ∀ base:Heap,(K w.params).In base->base.Ns mainGlobals mg->FnOk l.prog w (K w.params) mg base (CX w) k fa fd [x] (sp w))
  (hsp:∀ (w:World) (H:Hp) (a:Addr) (ns:List Int),ns.length<=n->Only H->SqL (K w.params) H a (ns.map V.int)->sp w [.ref a] H (fun v _=>v = .bl true) fun _ _ _=>False)
  (hCX:∀ (w:World) (H:Hp) (s:Shared) (e:Value) (s':Shared),CX w [] H s (fun _ _ _=>False) e s'->False) :
  PySem.W.WalkO q loose XP YP l.row.toRowW d [] (fun f vs=>PySem.call f vs):=by
 refine Att.attach_call hn hdf fun w s₀ s₁ mg mb fa o pm cd doc a vs ns G Y ho hd hcd hmg hobj hints hlen hg=>?_
 have KX:=hY w _ Y
 obtain ⟨fd,hb,hF⟩:=F w mg fa _ KX G.T.g hmg
 exact zhL KX G.T.g G.T.b G.T.builtins G.T.nolimit hg hobj hints (Nat.le_trans hlen hn2) hr hF hb (fun H hO hS=>hsp w H a ns hlen hO hS) fun H e s' => hCX w H s₁ e s'
end L2
namespace L2
open PySem PySem.Spec PyProof.Rows
def ybo (s:Stmt) (j:Nat):Stmt:=match s with
 | .ClassDef _ _ _ body _ _ _ _ _ _ _=>body.getD j (.Pass ⟨0,0,0,0⟩)
 | _=>.Pass ⟨0,0,0,0⟩
def yao (s:Stmt):Arguments:=match s with
 | .FunctionDef _ a _ _ _ _ _ _ _ _=>a
 | _=>{ posonlyargs:=[],args:=[],vararg:=none,kwonlyargs:=[],kw_defaults:=[],kwarg:=none,defaults:=[] }
def yan (s:Stmt):List Stmt:=match s with
 | .FunctionDef _ _ b _ _ _ _ _ _ _=>b
 | _=>[]
def yad (s:Stmt):Scope:=match s with
 | .FunctionDef _ _ _ _ _ _ sc _ _ _=>sc
 | _=>{ kind:=.function,names:=[],isGenerator:=false,isCoroutine:=false }
abbrev E0:XK:=fun _ _ _=>False
structure Fun (K:PySem.W.Frag) (x qual:Str) (st:Stmt) (f:Addr) (fd:FuncData):Prop where
 ex:∃ (oc:Value) (od:Option Addr) (kV doc pm:Value) (an:Option Addr) (cdv ct:Value) (osl:Array (Option Value)),
  fd=PySem.W.fnOf x qual (yao st) (yan st) (yad st) .none kV doc pm an cdv ct/\K.lookup f=some ⟨oc,od,.func fd,osl⟩/\PySem.W.codeIn K cdv qual=true
 kp:PySem.W.keepIn K (.ref f)=true
section
variable {P:Program} {w:World} {K:PySem.W.Frag} {mg:Str->Option Value} {base:Heap}
theorem Fun.binds {x qual:Str} {st:Stmt} {f:Addr} {fd:FuncData} {ps:List Str} (F:Fun K x qual st f fd)
  (h:∀ (kV doc pm:Value) (an:Option Addr) (cdv ct:Value) (us:List Value),us.length=ps.length->bindArgs (PySem.W.fnOf x qual (yao st) (yan st) (yad st) .none kV doc pm an cdv ct) ⟨us,[]⟩=pure (ps.zip us)):Binds K fd ps []:=by
 obtain ⟨oc,od,kV,doc,pm,an,cdv,ct,osl,rfl,lk,hcd⟩:=F.ex
 exact .all (h kV doc pm an cdv ct)
theorem yaq {x qual:Str} {st:Stmt} {f:Addr} {oc:Value} {od an:Option Addr} {osl:Array (Option Value)} {kV doc pm cdv ct:Value} (l:K.lookup f=some ⟨oc,od,.func (PySem.W.fnOf x qual (yao st) (yan st) (yad st) .none kV doc pm an cdv ct),osl⟩)
  (c:PySem.W.codeIn K cdv qual=true) (k:PySem.W.keepIn K (.ref f)=true):Fun K x qual st f (PySem.W.fnOf x qual (yao st) (yan st) (yad st) .none kV doc pm an cdv ct):=⟨⟨oc,od,kV,doc,pm,an,cdv,ct,osl,rfl,l,c⟩,k⟩
end
section
variable {X:Cx}
theorem pv (i:Nat) {x:Str} {pos:Pos} (hN:X.N[i]? = some x:=by rfl) (hv:Vis X.env.scope x:=by first | exact Or.inl rfl | exact Or.inr (Or.inl rfl) | exact Or.inr (Or.inr rfl)) (hd:(x == ("__debug__" : Str))=false:=by decide)
  (hcd:(x == ("__classdict__" : Str))=false:=by decide):PE X (.Name x pos) (tVar i):=ygd hN hv hd hcd
theorem zgW:CallR X (.builtin "len") (fun xs H Q=>∃ a kvs,xs=[V.ref a]/\H a=some (.dK kvs)/\Q (.int kvs.length) H):=by
 intro pins s σ H xs us Q I r h
 obtain ⟨a,kvs,rfl,ha,q⟩:=h
 obtain ⟨u,rfl,ru⟩:=ydy r
 cases ru
 exact yhQ I (.inl ha) fun t s' I' => ⟨.int kvs.length,H,I',⟨t,rfl⟩,q⟩
end
section
variable {κ:Type} [DecidableEq κ]
end
end L2
set_option maxHeartbeats 4000000
namespace L2
open PySem PySem.Spec PyProof.Rows
section
variable {X:Cx} {pins:List (Addr×Obj)} {σ:St} {H:Hp} {s:Shared} {h':Heap}
theorem Inv.turnedL {t':Nat} {fp:List Addr} (I:Inv X pins σ H s) (k:∀ b o,b∉fp->s.heap.get? b=some o->h'.get? b=some o) (hf:∀ b∈fp,FpOk X pins H b) :
  Inv X pins σ H { s with heap:=h',toks:=t' }:=by
 have nit:∀ b u,H b=some u->b∉fp:=fun b u e z=>by
  have q:=(hf b z).1
  rw [q] at e
  cases e
 refine I.step (g' := s.gens) (d' := s.drawn) (ch:=fp) (fun b hb=>?_) (fun b o _ _ hc e _=>k b o hc e) (fun b o _ _ hc e _=>⟨o.slots,k b o hc e⟩) (fun _ _ _ _ n=>n)
  (fun b o hc e=>⟨o,k b o hc e⟩) (fun _ _ e=>e) (fun _ _ _ e=>e) (fun b ps e=>⟨#[],by rw [e];simp⟩) (fun m hm=>?_) (fun b u e=>?_) I.bare
 ·obtain ⟨_,f1,_,f3,f4,f5⟩:=hf b hb
  exact ⟨f3,f1,f4,f5⟩
 ·obtain ⟨o,es,ep,ho,r⟩:=hm
  exact ⟨o,es,ep,k _ o (fun z=>(hf _ z).2.1 rfl) ho,r⟩
 ·refine (I.hok b u e).stay (fun c v hc q=>k c v ?_ q) (fun _ q=>q) fun _ _ q=>q
  rcases hc with z | z
  ·rw [z];exact nit b u e
  ·exact nit c _ z
end
section
variable {X:Cx}
end
def Its (x:Str):It:=⟨fun i _=>i<x.cps.size,fun i H v H' => H'=H/\∃ c,x.cps[i]? = some c/\v = .str ⟨#[c]⟩,fun i _=>x.cps.size<=i⟩
theorem zgX {P:Program} {w:World} {A:Around} (hh:A.handled=none) (it:Addr) (x:Str) (t:Tok) :
  Walks P w A it [it] [it] x.cps.size (SignAt x) (fun i h=>h.IsStrIter it (strIterType x) x t i):=by
 cases ha:x.cps.all (· < 128) with
 | false =>
  have e:strIterType x = "str_iterator" := by simp [strIterType,ha]
  rw [e]
  exact Walks.strWide hh it x t
 | true =>
  have e:strIterType x = "str_ascii_iterator" := by simp [strIterType,ha]
  rw [e]
  exact Walks.strAscii hh it x t
theorem zhM {P:Program} {w:World} {K:PySem.W.Frag} {y:Str} {py:Pos} (it:Addr) (x:Str) (t:Tok):Turn P w K (.Name y py) (Its x) [it] it (fun i h=>h.IsStrIter it (strIterType x) x t i) where
 mem:=by simp
 obj:=fun i h st b hb=>by
  have e:b=it:=by simpa using hb
  subst e
  obtain ⟨o,e,c,d⟩:=st
  exact ⟨o,e,fun v z=>by rw [d] at z;cases z⟩
 keep:=fun i h h' st k=>by
  obtain ⟨o,e,r⟩:=st
  exact ⟨o,k it (by simp) o e,r⟩
 item:=by
  intro X hP hw hK hc i pins s σ H E I hf st hg
  subst hP hw hK
  refine (zgX (I.ok.hd hc) it x t).item i s _ _ hg st fun v h1 tk hv st1 kk=>?_
  obtain ⟨c,u,hcp,rfl⟩:=hv
  have I1:Inv X pins σ H { s with heap:=h1,toks:=tk }:=I.turnedL (fp:=[it]) kk hf
  exact ⟨_,rfl,wpAny_pure ⟨.str ⟨#[c]⟩,H,I1,⟨u,rfl⟩,⟨rfl,c,hcp,rfl⟩,st1,fun b hb=>(hf b hb).1⟩⟩
 done:=by
  intro X hP hw hK hc i pins s σ H E I hf st hg
  subst hP hw hK
  have hx:x.cps[i]? = none:=Array.getElem?_eq_none hg
  cases ha:x.cps.all (· < 128) with
  | false =>
   have e:strIterType x = "str_iterator" := by simp [strIterType,ha]
   rw [e] at st
   exact wpAny_pyNext_wide_end (I.ok.hd hc) st hx fun h' eb=>⟨rfl,I.turnedL (fp:=[it]) (t' := s.toks) (fun b o hb q=>eb b o (fun z=>hb (by simp [z])) q) hf⟩
  | true =>
   have e:strIterType x = "str_ascii_iterator" := by simp [strIterType,ha]
   rw [e] at st
   exact wpAny_pyNext_ascii_end (I.ok.hd hc) st hx fun h' eb=>⟨rfl,I.turnedL (fp:=[it]) (t' := s.toks) (fun b o hb q=>eb b o (fun z=>hb (by simp [z])) q) hf⟩
 self:=fun A i s Q E st h=>by
  cases ha:x.cps.all (· < 128) with
  | false =>
   have e:strIterType x = "str_iterator" := by simp [strIterType,ha]
   rw [e] at st
   exact wpAny_pyIter_striter_wide st h
  | true =>
   have e:strIterType x = "str_ascii_iterator" := by simp [strIterType,ha]
   rw [e] at st
   exact wpAny_pyIter_striter_ascii st h
section
variable {X:Cx}
def iStr (tl:TE):TI:=fun σ H R=>tl σ H fun x H1=>∃ t,x = .str t/\R (Its t) H1
theorem ygH {l:Expr} {tl:TE} {y:Str} {py:Pos} (hl:PE X l tl):PI X (.Name y py) l (iStr tl):=by
 intro pins s σ H R I h
 refine thn (hl pins s σ H _ I h) fun v s1 ⟨x,H1,I1,r1,q1⟩=>?_
 obtain ⟨t,e,q⟩:=q1
 subst e
 obtain ⟨tk,rfl⟩:=r1
 refine wpAny_pyIter_strU ?_
 refine ⟨s1.heap.objs.size,[s1.heap.objs.size],_,_,H1,rfl,I1.kept (t' := s1.toks) fun b o e=>Heap.get?_push_of_some _ e,zhM _ t tk,⟨_,Heap.get?_push_size _ rfl,rfl,rfl⟩,fun b hb=>?_,q⟩
 have e:b=s1.heap.objs.size:=by simpa using hb
 subst e
 exact I1.fpOk (Nat.le_refl _) (I1.hok.fresh (Nat.le_refl _))
end
def yav (env:Env):List (Str×NameKind)->List (Str×Addr)->List (Str×Addr)
 | [],acc=>acc
 | (n,k)::r,acc=>yav env r (if k = .free then (n,(env.cells.lookup n).getD 0)::acc else acc)
theorem zdw {env:Env} {scope:Scope} (h:∀ y∈scope.names,y.2 = .free->(env.cells.lookup y.1).isSome=true):closureFor scope env=pure (yav env scope.names []):=by
 have all:∀ (l:List (Str×NameKind)) (acc:List (Str×Addr)),(∀ y∈l,y.2 = .free->(env.cells.lookup y.1).isSome=true) ->
   (forIn l acc fun (x:Str×NameKind) (cs:List (Str×Addr))=>if (x.2 == NameKind.free)=true then (do let a <- cellOf env x.1;pure (ForInStep.yield ((x.1,a)::cs))) else (pure (ForInStep.yield cs):Sem _))=pure (yav env l acc):=by
  intro l
  induction l with
  | nil=>intro acc _;rfl
  | cons y r ih =>
   intro acc hl
   obtain ⟨n,k⟩:=y
   rw [List.forIn_cons]
   have hr:=fun z hz=>hl z (List.mem_cons_of_mem _ hz)
   by_cases hk:k = .free
   ·subst hk
    obtain ⟨c,hc⟩:=Option.isSome_iff_exists.mp (hl (n,.free) List.mem_cons_self rfl)
    have e1:cellOf env n=pure c:=by
     simp only [cellOf]
     have hc':env.cells.lookup n=some c:=hc
     rw [hc']
    simp only [beq_self_eq_true,if_true,e1,pure_bind,yav]
    have hc':env.cells.lookup n=some c:=hc
    rw [hc']
    exact ih _ hr
   ·have hb:(k == NameKind.free)=false:=by simpa using hk
    simp only [hb,Bool.false_eq_true,if_false,pure_bind,yav,hk]
    exact ih _ hr
 unfold closureFor
 have q:=all scope.names [] h
 first
  | exact q
  | (simp only [bind_pure];exact q)
  | (rw [<- q];simp)
theorem zbJ {env:Env}:∀ {l:List (Str×NameKind)} {acc:List (Str×Addr)},(∀ y∈l,y.2 = .free->(env.cells.lookup y.1).isSome=true)->(∀ y c,acc.lookup y=some c->env.cells.lookup y=some c) ->
  ∀ y c,(yav env l acc).lookup y=some c->env.cells.lookup y=some c
 | [],_,_,h,y,c,e=>h y c e
 | (n,k)::r,acc,hl,h,y,c,e=>by
  refine zbJ (l:=r) (fun z hz=>hl z (List.mem_cons_of_mem _ hz)) ?_ y c e
  intro y c e
  by_cases hk:k = .free
  ·rw [if_pos hk] at e
   rw [List.lookup_cons] at e
   cases hy:y == n with
   | true =>
    rw [hy] at e
    have e':y=n:=by simpa using hy
    obtain ⟨c',hc'⟩:=Option.isSome_iff_exists.mp (hl (n,k) List.mem_cons_self hk)
    have hc'':env.cells.lookup n=some c' := hc'
    rw [hc''] at e
    rw [e',hc'']
    exact e
   | false =>
    rw [hy] at e
    exact h y c e
  ·rw [if_neg hk] at e
   exact h y c e
theorem zbK {env:Env}:∀ {l:List (Str×NameKind)} {acc:List (Str×Addr)} {y:Str},(y,NameKind.free)∈l\/(acc.lookup y).isSome=true->((yav env l acc).lookup y).isSome=true
 | [],_,_,h=>by
  rcases h with h | h
  ·cases h
  ·exact h
 | (n,k)::r,acc,y,h=>by
  refine zbK (l:=r) ?_
  rcases h with h | h
  ·rcases List.mem_cons.mp h with e | e
   ·right
    cases e
    rw [if_pos rfl,List.lookup_cons]
    simp
   ·exact .inl e
  ·right
   by_cases hk:k = .free
   ·rw [if_pos hk,List.lookup_cons]
    cases hy:y == n with
    | true=>rfl
    | false=>exact h
   ·rw [if_neg hk];exact h
theorem zas {names:List (Str×NameKind)} {x:Str} {k:NameKind} (h:names.lookup x=some k):(x,k)∈names:=PySem.mem_of_lookup h
theorem zaB {env:Env} {x:Str} {k:NameKind}:∀ {names:List (Str×NameKind)},(names.map fun (n,k)=>if (k == NameKind.free && env.scope.kind == .function && env.kindOf n == some .cell) then (n,NameKind.cell) else (n,k)).lookup x=some k ->
  names.lookup x=some k\/(k = .cell/\names.lookup x=some .free)
 | [],h=>by simp at h
 | (n,kk)::r,h=>by
  have ih:=@zaB env x k r
  by_cases hc:(kk == NameKind.free && env.scope.kind == .function && env.kindOf n == some .cell)=true
  ·have hf:kk = .free:=by
    have q:=(Bool.and_eq_true _ _).mp ((Bool.and_eq_true _ _).mp hc).1
    simpa using q.1
   subst hf
   have h':List.lookup x ((n,NameKind.cell)::(r.map fun (n,k)=>if (k == NameKind.free && env.scope.kind == .function && env.kindOf n == some .cell) then (n,NameKind.cell) else (n,k)))=some k:=by
    have e:(fun (p:Str×NameKind)=>match p with | (n,k)=>if (k == NameKind.free && env.scope.kind == .function && env.kindOf n == some .cell)=true then (n,NameKind.cell) else (n,k)) (n,NameKind.free)=(n,NameKind.cell):=by
     show (if _ then _ else _)=_
     rw [if_pos hc]
    rw [List.map_cons] at h
    rw [<- e]
    exact h
   rw [List.lookup_cons] at h' ⊢
   cases hx:x == n with
   | true =>
    rw [hx] at h'
    right
    exact ⟨(Option.some.inj h').symm,rfl⟩
   | false =>
    rw [hx] at h'
    exact ih h'
  ·have h':List.lookup x ((n,kk)::(r.map fun (n,k)=>if (k == NameKind.free && env.scope.kind == .function && env.kindOf n == some .cell) then (n,NameKind.cell) else (n,k)))=some k:=by
    have e:(fun (p:Str×NameKind)=>match p with | (n,k)=>if (k == NameKind.free && env.scope.kind == .function && env.kindOf n == some .cell)=true then (n,NameKind.cell) else (n,k)) (n,kk)=(n,kk):=by
     show (if _ then _ else _)=_
     rw [if_neg hc]
    rw [List.map_cons] at h
    rw [<- e]
    exact h
   rw [List.lookup_cons] at h' ⊢
   cases hx:x == n with
   | true =>
    rw [hx] at h'
    exact .inl h'
   | false =>
    rw [hx] at h'
    exact ih h'
def ya6 (X:Cx) (pins:List (Addr×Obj)) (x₁:Str) (jf:List (Nat×Str)) (scope:Scope) (cl:List (Str×Addr)) (s:Shared) (H:Hp) (fp:List Addr):Cx where
 prog:=X.prog
 w:=X.w
 K:=X.K
 mg:=X.mg
 base:=X.base
 A:=X.A
 N:=x₁::jf.map (·.2)
 s₀:=s
 H₀:=H
 env:=compEnvC scope cl s.heap.objs.size X.env
 outer:=X.stack
 stack:=X.stack
 ex:=fp
 fn:=fun _=>false
 calm:=X.calm
 pn:=X.pn++pins
 xe:=fun _ _=>False
def ybL (v:Option V) (js:List (Nat×Str)) (σ:St):St:=v::js.map fun j=>(σ[j.1]?).join
def PTs (X:Cx) (ifs:List Expr) (t:TT):Prop :=
 ∀ (pins:List (Addr×Obj)) (s:Shared) (σ:St) (H:Hp) (Q:Bool->Hp->Prop),Inv X pins σ H s->t σ H Q ->
  wpAny (model X.prog X.w) X.A (forIn ifs true fun c r=>if r=true then do let ok <- isTrue c X.env (eval c X.env);pure (ForInStep.yield ok) else pure (ForInStep.yield r)) (TP X pins σ Q) X.xe s
def tYes:TT:=fun _ H Q=>Q true H
theorem ziM {X:Cx}:PTs X [] tYes:=fun pins s σ H Q I h=>wpAny_tests_nil ⟨H,I,h⟩
theorem ziN {X:Cx} {c:Expr} {t:TT} (hc:PT X c t):PTs X [c] t:=fun pins s σ H Q I h=>wpAny_tests_one (hc pins s σ H Q I h)
def yet (jf:List (Nat×Str)) (wi:TI) (tc:TT) (te:TE):TE:=fun σ H Q=>wi σ H fun J H1=>∀ D,H1 D=none->∃ W:Nat->Nat->List V->Hp->Prop,(∃ m,W 0 m [] (upd H1 D (.lst []))) /\
 ∀ i m ys H2,W i m ys H2->H2 D=some (.lst ys)/\((J.stop i H2/\Q (.ref D) H2)\/(J.go i H2/\ys.length<sizeLine/\∀ x H3,J.yld i H2 x H3->tc (ybL (some x) jf σ) H3 fun b H5 =>
  if b=true then te (ybL (some x) jf σ) H5 fun v H6=>H6 D=some (.lst ys)/\∃ m',m'<m/\W (i+1) m' (ys++[v]) (upd H6 D (.lst (ys++[v]))) else ∃ m',m'<m/\W (i+1) m' ys H5))
section
variable {X:Cx} {pins:List (Addr×Obj)} {σ:St} {H:Hp} {s:Shared} {x₁:Str} {jf:List (Nat×Str)} {scope:Scope} {fp:List Addr}
theorem Inv.block {h1:Heap} {tk:Nat} (I:Inv X pins σ H s) (hf:∀ b∈fp,FpOk X pins H b) (hlt:∀ b∈fp,b<s.heap.objs.size) (hjf:∀ p∈jf,X.N[p.1]? = some p.2) (hjl:∀ p∈jf,scope.names.lookup p.2=some .free) (hkind:scope.kind = .function)
  (hcell:∀ y∈scope.names,y.2 ≠ .cell) (hfr:∀ y∈scope.names,y.2 = .free->X.env.kindOf y.1=some .cell\/X.env.kindOf y.1=some .free)
  (hn:h1.Ns s.heap.objs.size (fun _=>none)) (hk:∀ b o,s.heap.get? b=some o->h1.get? b=some o) :
  Inv (ya6 X pins x₁ jf scope (yav X.env scope.names []) s H fp) [] (ybL none jf σ) H { s with heap:=h1,toks:=tk }:=by
 have hsome:∀ y∈scope.names,y.2 = .free->(X.env.cells.lookup y.1).isSome=true:=fun y hy hyf=>Option.isSome_iff_exists.mpr (I.ok.has y.1 (hfr y hy hyf))
 have sub:∀ y c,(yav X.env scope.names []).lookup y=some c->X.env.cells.lookup y=some c:=zbJ hsome (fun y c e=>by simp at e)
 have hsz:=I.sz
 have inE:∀ b,b∈(ya6 X pins x₁ jf scope (yav X.env scope.names []) s H fp).ex->b∈fp:=fun b z=>z
 have stk:∀ b∈frs X.stack,b<s.heap.objs.size:=fun b hb=>by
  obtain ⟨_,o,ho,_⟩:=I.stack.mem hb
  exact Heap.lt_size ho
 refine ⟨⟨I.ok.mod,hkind,I.ok.glob,I.ok.blt,Nat.le_refl _,fun y z c e1 e2=>I.ok.inj y z c (sub y c e1) (sub z c e2),fun y hy=>?_,fun y c hfn _=>(by cases hfn),I.ok.hd,I.ok.frames,.inl rfl,fun b hb=>?_,fun b o e=>I.bs b o e,Nat.le_trans I.ok.bsz hsz,fun b o e z=>?_,fun b hb z=>?_,I.stack,I.stkFree⟩,
  rfl,I.bare,Un.kept hk,⟨_,hn,fun i y v e1 e2 e3=>?_⟩,fun y c e=>?_,I.hok.fresh (Nat.le_refl _),fun y c e=>I.freeC y c (sub y c e),fun p hp=>?_,I.hok.kept hk,?_⟩
 ·have hy':(relabel scope X.env).names.lookup y=some .cell\/(relabel scope X.env).names.lookup y=some .free:=hy
  have mem:(y,NameKind.free)∈scope.names:=by
   rcases hy' with q | q
   ·rcases zaB (env:=X.env) q with z | z
    ·exact absurd rfl (hcell _ (zas z))
    ·exact zas z.2
   ·rcases zaB (env:=X.env) q with z | z
    ·exact zas z
    ·exact zas z.2
  exact Option.isSome_iff_exists.mp (zbK (.inl mem))
 ·exact ⟨Nat.ne_of_lt (hlt b hb),fun y c e=>(hf b hb).2.2.2.2.1 y c (sub y c e)⟩
 ·rcases (hf b z).2.2.2.1 with q | q
  ·exact I.ok.noex b o e q
  ·exact absurd (Nat.lt_of_lt_of_le (Heap.lt_size e) (Nat.le_trans I.ok.bsz q)) (Nat.lt_irrefl _)
 ·rcases List.mem_cons.mp (I.stkSub b z) with q | q
  ·exact (hf b hb).2.1 q
  ·exact (hf b hb).2.2.1 q
 ·have e1':(x₁::jf.map (·.2))[i]? = some y:=e1
  unfold ybL at e2
  cases i with
  | zero=>cases e2
  | succ i =>
   rw [List.getElem?_cons_succ,List.getElem?_map] at e1' e2
   cases q:jf[i]? with
   | none=>rw [q] at e2;cases e2
   | some p =>
    rw [q] at e1' e2
    have ey:p.2=y:=Option.some.inj e1'
    have ev:(σ[p.1]?).join=some v:=Option.some.inj e2
    have hp:p∈jf:=List.mem_of_getElem? q
    have eσ:σ[p.1]? = some (some v):=by
     cases z:σ[p.1]? with
     | none=>rw [z] at ev;cases ev
     | some r=>rw [z] at ev;rw [show r=some v from ev]
    have hfree:scope.names.lookup y=some .free:=by rw [<- ey];exact hjl p hp
    have mem:=zas hfree
    have kX:=hfr _ mem rfl
    obtain ⟨m,hnX,hl⟩:=I.loc
    obtain ⟨u,ru,lk⟩:=hl p.1 y v (by rw [<- ey];exact hjf p hp) eσ (by
     rcases kX with z | z
     ·exact .inr (.inl z)
     ·exact .inr (.inr z))
    refine ⟨u,ru,.inr ⟨?_,?_⟩⟩
    ·have e3':Vis (relabel scope X.env) y:=e3
     rcases e3' with z | z | z
     ·exfalso
      rcases zaB (env:=X.env) z with q | q
      ·rw [hfree] at q;cases q
      ·cases q.1
     ·exact .inl z
     ·exact .inr z
    ·rcases lk with ⟨z,_⟩ | ⟨_,c,hc,hcell'⟩
     ·exfalso
      rcases kX with q | q
      ·rw [show X.env.kindOf y=some .cell from q] at z;cases z
      ·rw [show X.env.kindOf y=some .free from q] at z;cases z
     ·obtain ⟨c',hc'⟩:=Option.isSome_iff_exists.mp (zbK (env:=X.env) (acc:=[]) (.inl mem))
      have e:=sub y c' hc'
      rw [hc] at e
      cases e
      obtain ⟨o,ho,hd⟩:=hcell'
      exact ⟨c,hc',o,hk c o ho,hd⟩
 ·obtain ⟨v,o,ho,hd⟩:=I.cell y c (sub y c e)
  exact ⟨v,o,hk c o ho,hd⟩
 ·have hp':p∈X.pn++pins:=by simpa [ya6] using hp
  obtain ⟨e,n,ne,nf,d⟩:=I.pin p hp'
  refine ⟨hk _ _ e,n,Nat.ne_of_lt (Heap.lt_size e),fun z=>?_,d⟩
  rcases List.mem_cons.mp (I.stkSub p.1 z) with q | q
  ·exact ne q
  ·exact nf q
 ·unfold ybL
  show _=(x₁::jf.map (·.2)).length
  rw [List.length_cons,List.length_cons,List.length_map,List.length_map]
end
theorem zcq {prog:Program} {w:World} {A:Around} {R:Result->Shared->Prop} {s:Shared} {elt target iter:Expr} {ifs:List Expr} {scope:Scope} {pos:Pos} {it acc:Value} {env:Env} (I:Nat->Shared->Prop)
  (turn:∀ n s,I n s->wpAny (model prog w) A (pyNext it) (fun r s₁=>match r with
   | none=>R (.ok .next) s₁
   | some v=>wpAny (model prog w) A (letOwnedTupleGo target it v) (fun _ s₂=>wpAny (model prog w) A (assign target env v) (fun _ s₃ =>
     wpAny (model prog w) A (forIn ifs true fun c r=>if r=true then do let ok <- isTrue c env (eval c env);pure (ForInStep.yield ok) else pure (ForInStep.yield r)) (fun ok s₄ =>
      if ok=true then wpAny (model prog w) A (eval elt env) (fun x s₅=>wpAny (model prog w) A (call (.builtin "list.append") [acc,x]) (fun _ s₆=>∃ m,m<n/\I m s₆) (fun _ _=>False) s₅) (fun _ _=>False) s₄
      else ∃ m,m<n/\I m s₄) (fun _ _=>False) s₃) (fun _ _=>False) s₂) (fun _ _=>False) s₁) (fun _ _=>False) s)
  (n:Nat) (h:I n s):codeAny (model prog w) A (.compLoop (.ListComp elt [⟨target,iter,ifs,0⟩] scope pos) 0 it acc env) R s:=by
 refine codeAny_loop rfl I (fun n s hI=>?_) n h
 show wpAny _ A ((compTurn (.ListComp elt [⟨target,iter,ifs,0⟩] scope pos) 0 it acc env).onRaise (fun x=>do noteFrame x env;theTreesLotGoes x)) _ _ s
 refine wpAny_noted ?_
 rw [compTurn_list]
 refine wpAny_bind (wpAny_standAt (wpAny_bind (wpAny_mono (turn n s hI) (fun r s₁ h₁=>?_) fun _ _ z=>z.elim)))
 cases r with
 | none=>exact wpAny_pure h₁
 | some v =>
  refine wpAny_bind (wpAny_mono h₁ (fun _ s₂ h₂=>?_) fun _ _ z=>z.elim)
  refine wpAny_bind (wpAny_mono h₂ (fun _ s₃ h₃=>wpAny_bind (wpAny_mono h₃ (fun ok s₄ h₄=>?_) fun _ _ z=>z.elim)) fun _ _ z=>z.elim)
  cases ok with
  | false=>exact wpAny_pure ⟨rfl,h₄⟩
  | true =>
   exact wpAny_bind (wpAny_bind (wpAny_mono h₄ (fun x s₅ h₅=>wpAny_bind (wpAny_mono h₅ (fun _ s₆ h₆=>wpAny_pure (wpAny_pure ⟨rfl,h₆⟩)) fun _ _ z=>z.elim)) fun _ _ z=>z.elim))
section
variable {X:Cx} {x₁:Str} {px:Pos} {jf:List (Nat×Str)} {scope:Scope} {iter elt:Expr} {ifs:List Expr} {pos:Pos} {wi:TI} {tc:TT} {te:TE}
theorem zeE (hcalm:X.calm=true) (hi:PI X (.Name x₁ px) iter wi) (hc:∀ pins cl s H fp,PTs (ya6 X pins x₁ jf scope cl s H fp) ifs tc) (he:∀ pins cl s H fp,PE (ya6 X pins x₁ jf scope cl s H fp) elt te)
  (hN:(x₁::jf.map (·.2)).Nodup) (hx:scope.names.lookup x₁=some .local) (hjf:∀ p∈jf,X.N[p.1]? = some p.2) (hjl:∀ p∈jf,scope.names.lookup p.2=some .free) (hkind:scope.kind = .function)
  (hcell:∀ y∈scope.names,y.2 ≠ .cell) (hfr:∀ y∈scope.names,y.2 = .free->X.env.kindOf y.1=some .cell\/X.env.kindOf y.1=some .free)
  (hnames:∀ y∈scope.names,y.2 = .local->scope.names.lookup y.1=some .local) {use:Option (Value->Sem Unit)} {Qf:Value->Shared->Prop} {cpos:Pos}
  {pins:List (Addr×Obj)} {σ:St} {H:Hp} {s:Shared} {Q:VK} (I:Inv X pins σ H s) (h:yet jf wi tc te σ H Q)
  (fin:∀ D C s6 H6 m6,Inv X pins σ H6 s6->Q (.ref D) H6->FpOk X pins H6 C->s6.heap.Ns C m6->compPost (model X.prog X.w) X.A X.xe use Qf (.ref D) C (.ok .next) s6) (hs:∀ x,foldedSetIterable iter X.env x=pure x) :
  wpAny (model X.prog X.w) X.A (comprehension (.ListComp elt [⟨.Name x₁ px,iter,ifs,0⟩] scope pos) scope X.env cpos (newList []) false (eval iter X.env) use) Qf X.xe s:=by
 have hsome:∀ y∈scope.names,y.2 = .free->(X.env.cells.lookup y.1).isSome=true:=fun y hy hyf=>Option.isSome_iff_exists.mpr (I.ok.has y.1 (hfr y hy hyf))
 refine wpAny_comprehension_free (use:=use) rfl hs (zdw hsome) hkind hnames (thn (hi pins s σ H _ I h) fun xv s1 h1=>thn h1 fun itv s2 h2=>?_)
 obtain ⟨it,fp,tn,J,H2,e,I2,T,st2,f2,h⟩:=h2
 subst e
 refine wpAny_newObj_type (wpAny_newFunctionEnv hcell (by intro y hy;simp at hy) (fun h₁ hns₁ hsb₁=>?_) hkind)
 have hD0:H2 s2.heap.objs.size=none:=I2.hok.fresh (Nat.le_refl _)
 obtain ⟨W,⟨m0,w0⟩,step⟩:=h s2.heap.objs.size hD0
 dsimp only at hns₁ hsb₁ ⊢
 have I3:Inv X pins σ (upd H2 s2.heap.objs.size (.lst [])) { s2 with heap:=s2.heap.push { cls:=.type "list",dict:=none,data:=.seq ([]:List Value).toArray } } :=
  I2.laid (t' := s2.toks) (fun b u q=>Heap.get?_push_of_some _ q) (Nat.le_refl _) ⟨Nat.zero_le _,[],0,.nil,Heap.get?_push_size _ rfl⟩
 generalize hH3:s2.heap.push { cls:=.type "list",dict:=none,data:=.seq ([]:List Value).toArray }=hp3 at hns₁ hsb₁ I3 ⊢
 have hsz3:hp3.objs.size=s2.heap.objs.size+1:=by rw [<- hH3,Heap.size_push]
 have k23:∀ b o,s2.heap.get? b=some o->hp3.get? b=some o:=fun b o q=>by rw [<- hH3];exact Heap.get?_push_of_some _ q
 have flt:∀ b∈fp,b<s2.heap.objs.size:=fun b hb=>by
  obtain ⟨o,q,_⟩:=T.obj 0 _ st2 b hb
  exact Heap.lt_size q
 have f3:∀ b∈fp,FpOk X pins (upd H2 s2.heap.objs.size (.lst [])) b:=fun b hb=>by
  obtain ⟨g0,g⟩:=f2 b hb
  exact ⟨by rw [yaN (Nat.ne_of_lt (flt b hb))];exact g0,g⟩
 have kC:∀ b o,hp3.get? b=some o->h₁.get? b=some o:=fun b o q=>(hsb₁.2 b (Nat.ne_of_lt (Heap.lt_size q))).trans (Heap.get?_push_of_some _ q)
 have B0:=I3.block (x₁:=x₁) (jf:=jf) (scope:=scope) (fp:=fp) (h1:=h₁) (tk:=s2.toks+([]:List (Str×Value)).length) f3 (fun b hb=>by show b<hp3.objs.size;rw [hsz3];exact Nat.lt_succ_of_lt (flt b hb)) hjf hjl hkind hcell hfr (by simpa using hns₁) kC
 have st4:tn 0 h₁:=T.keep _ _ _ st2 fun b _ o q=>kC b o (k23 b o q)
 have w0' := w0
 have stat:∀ {H':Hp},(∀ b∈fp,H' b=none)->∀ b∈fp,FpOk (ya6 X pins x₁ jf scope (yav X.env scope.names []) { s2 with heap:=hp3 } (upd H2 s2.heap.objs.size (.lst [])) fp) [] H' b:=fun hn b hb=>by
  obtain ⟨_,g1,g2,g3,g4,g5⟩:=f2 b hb
  refine ⟨hn b hb,Nat.ne_of_lt (by show b<hp3.objs.size;rw [hsz3];exact Nat.lt_succ_of_lt (flt b hb)),fun z=>?_,.inl hb,fun y c q=>g4 y c (zbJ hsome (fun y c e=>by simp at e) y c q),fun p hp=>g5 p (by simpa [ya6] using hp)⟩
  rcases List.mem_cons.mp (I2.stkSub b z) with q | q
  ·exact g1 q
  ·exact g2 q
 have loop:codeAny (model X.prog X.w) X.A (.compLoop (.ListComp elt [⟨.Name x₁ px,iter,ifs,0⟩] scope pos) 0 (.ref it) (.ref s2.heap.objs.size) (compEnvC scope (yav X.env scope.names []) hp3.objs.size X.env))
   (compPost (model X.prog X.w) X.A X.xe use Qf (.ref s2.heap.objs.size) hp3.objs.size) { s2 with heap:=h₁,toks:=s2.toks+([]:List (Str×Value)).length }:=by
  refine zcq (fun n s' => ∃ i ys H',Inv (ya6 X pins x₁ jf scope (yav X.env scope.names []) { s2 with heap:=hp3 } (upd H2 s2.heap.objs.size (.lst [])) fp) [] (ybL none jf σ) H' s'/\tn i s'.heap/\(∀ b∈fp,H' b=none)/\W i n ys H') ?_ m0
   ⟨0,[],_,B0,st4,fun b hb=>(f3 b hb).1,w0⟩
  rintro n s5 ⟨i,ys,H5,I5,st5,fr5,w5⟩
  obtain ⟨hD5,alt⟩:=step i n ys H5 w5
  rcases alt with ⟨stop,q5⟩ | ⟨go,hlen,next⟩
  ·refine wpAny_mono (T.done (ya6 X pins x₁ jf scope (yav X.env scope.names []) { s2 with heap:=hp3 } (upd H2 s2.heap.objs.size (.lst [])) fp) rfl rfl rfl hcalm i [] s5 _ H5 (fun _ _=>False) I5 (stat fr5) st5 stop) (fun r s6 ⟨hr,I6⟩=>?_) fun _ _ z=>z
   subst hr
   obtain ⟨m6,hn6,_⟩:=id I6.loc
   refine fin _ _ s6 H5 m6 ?_ q5 (I3.fpOk (Nat.le_refl _) I6.free) hn6
   refine I3.call' (ch:=fp) I6.os I6.base I6.hok I6.bare (fun b hb=>?_)
   obtain ⟨_,g1,g2,g3,g4,g5⟩:=f2 b hb
   exact ⟨g3,g1,g4,g5⟩
  ·refine wpAny_mono (T.item (ya6 X pins x₁ jf scope (yav X.env scope.names []) { s2 with heap:=hp3 } (upd H2 s2.heap.objs.size (.lst [])) fp) rfl rfl rfl hcalm i [] s5 _ H5 (fun _ _=>False) I5 (stat fr5) st5 go) (fun r s6 ⟨u,hr,h6⟩=>?_) fun _ _ z=>z
   subst hr
   refine wpAny_mono h6 (fun _ s7 ⟨x,H7,I7,r7,y7,st7,fr7⟩=>?_) fun _ _ z=>z
   have I7' := I7.pinned (stat fr7) (T.obj _ _ st7)
   have hloc:Loc (ya6 X pins x₁ jf scope (yav X.env scope.names []) { s2 with heap:=hp3 } (upd H2 s2.heap.objs.size (.lst [])) fp).env.scope x₁:=.inl (lookup_relabel_local hx)
   refine wpAny_assign_Name (zc5 (i:=0) I7' hN rfl hloc r7 (fun s8 I8=>?_) (.inr (lookup_relabel_local hx)))
   have q8:=next x H7 y7
   have I8':Inv (ya6 X pins x₁ jf scope (yav X.env scope.names []) { s2 with heap:=hp3 } (upd H2 s2.heap.objs.size (.lst [])) fp) ([]++ybY fp s7.heap) (ybL (some x) jf σ) H7 s8:=I8
   have again:∀ {s9:Shared} {H9:Hp} {zs:List V} {m':Nat},Inv (ya6 X pins x₁ jf scope (yav X.env scope.names []) { s2 with heap:=hp3 } (upd H2 s2.heap.objs.size (.lst [])) fp) ([]++ybY fp s7.heap) (ybL (some x) jf σ) H9 s9->m'<n->W (i+1) m' zs H9 ->
     ∃ m,m<n/\∃ i ys H',Inv (ya6 X pins x₁ jf scope (yav X.env scope.names []) { s2 with heap:=hp3 } (upd H2 s2.heap.objs.size (.lst [])) fp) [] (ybL none jf σ) H' s9/\tn i s9.heap/\(∀ b∈fp,H' b=none)/\W i m ys H' := fun {s9 H9 zs m'} I9 hm w9=>by
    refine ⟨m',hm,i+1,zs,H9,I9.unpinned.weak (by simp [ybL]) (fun j v e=>?_),T.keep _ _ _ st7 fun b hb o e=>(I9.pin (b,o) (List.mem_append_right _ (List.mem_append_right _ (zaZ hb e)))).1,fun b hb=>?_,w9⟩
    ·cases j with
     | zero=>simp [ybL] at e
     | succ j=>simpa [ybL] using e
    ·obtain ⟨o,e,d⟩:=T.obj _ _ st7 b hb
     exact (I9.pin (b,o) (List.mem_append_right _ (List.mem_append_right _ (zaZ hb e)))).2.1
   refine wpAny_mono (hc pins _ _ _ fp ([]++ybY fp s7.heap) s8 _ H7 _ I8' q8) (fun ok s9 ⟨H9,I9,q9⟩=>?_) fun _ _ z=>z
   cases ok with
   | false =>
    rw [if_neg Bool.false_ne_true] at q9 ⊢
    obtain ⟨m',hm,w9⟩:=q9
    exact again I9 hm w9
   | true =>
    rw [if_pos rfl] at q9 ⊢
    refine wpAny_mono (he pins _ _ _ fp ([]++ybY fp s7.heap) s9 _ H9 _ I9 q9) (fun y s10 ⟨v,H10,I10,r10,hD10,m',hm,w10⟩=>?_) fun _ _ z=>z
    refine wpAny_mono (zcp (X:=(ya6 X pins x₁ jf scope (yav X.env scope.names []) { s2 with heap:=hp3 } (upd H2 s2.heap.objs.size (.lst [])) fp)) ([]++ybY fp s7.heap) s10 (ybL (some x) jf σ) H10 (.ref s2.heap.objs.size) [v] (.ref s2.heap.objs.size) [y] (fun _ H' => H'=upd H10 s2.heap.objs.size (.lst (ys++[v]))) I10 rfl (.cons r10 .nil) ⟨_,ys,v,rfl,rfl,hD10,hlen,rfl⟩)
     (fun _ s11 ⟨_,H11,I11,_,e11⟩=>?_) fun _ _ z=>z
    subst e11
    exact again I11 hm w10
 exact codeAny_compStart_list loop (T.self _ 0 _ _ _ st4 loop)
theorem ziO (hcalm:X.calm=true) (hi:PI X (.Name x₁ px) iter wi) (hc:∀ pins cl s H fp,PTs (ya6 X pins x₁ jf scope cl s H fp) ifs tc) (he:∀ pins cl s H fp,PE (ya6 X pins x₁ jf scope cl s H fp) elt te)
  (hN:(x₁::jf.map (·.2)).Nodup) (hx:scope.names.lookup x₁=some .local) (hjf:∀ p∈jf,X.N[p.1]? = some p.2) (hjl:∀ p∈jf,scope.names.lookup p.2=some .free) (hkind:scope.kind = .function)
  (hcell:∀ y∈scope.names,y.2 ≠ .cell) (hfr:∀ y∈scope.names,y.2 = .free->X.env.kindOf y.1=some .cell\/X.env.kindOf y.1=some .free)
  (hnames:∀ y∈scope.names,y.2 = .local->scope.names.lookup y.1=some .local) (hs:∀ x,foldedSetIterable iter X.env x=pure x:=by intro _;rfl) :
  PE X (.ListComp elt [⟨.Name x₁ px,iter,ifs,0⟩] scope pos) (yet jf wi tc te):=by
 intro pins s σ H Q I h
 rw [eval_ListComp]
 refine zeE hcalm hi hc he hN hx hjf hjl hkind hcell hfr hnames (use:=none) (Qf:=EP X pins σ Q) I h (fun D C s6 H6 m6 I6 q6 f6 n6=>?_) hs
 refine ⟨m6,n6,fun h' hs' => ⟨.ref D,H6,?_,rfl,q6⟩⟩
 exact I6.turnedL (fp:=[C]) (t' := s6.toks) (fun b o hb q=>(hs'.2 b (fun z=>hb (by simp [z]))).trans q) (fun b hb=>by
  have e:b=C:=by simpa using hb
  subst e
  exact f6)
theorem ziP {y:Str} {py spos:Pos} {i:Nat} (hcalm:X.calm=true) (hi:PI X (.Name x₁ px) iter wi) (hc:∀ pins cl s H fp,PTs (ya6 X pins x₁ jf scope cl s H fp) ifs tc) (he:∀ pins cl s H fp,PE (ya6 X pins x₁ jf scope cl s H fp) elt te)
  (hN:(x₁::jf.map (·.2)).Nodup) (hx:scope.names.lookup x₁=some .local) (hjf:∀ p∈jf,X.N[p.1]? = some p.2) (hjl:∀ p∈jf,scope.names.lookup p.2=some .free) (hkind:scope.kind = .function)
  (hcell:∀ y∈scope.names,y.2 ≠ .cell) (hfr:∀ y∈scope.names,y.2 = .free->X.env.kindOf y.1=some .cell\/X.env.kindOf y.1=some .free)
  (hnames:∀ y∈scope.names,y.2 = .local->scope.names.lookup y.1=some .local) (hNX:X.N.Nodup) (hi':X.N[i]? = some y) (hy:X.env.scope.names.lookup y=some .local)
  (hsw:swapsWith (.ListComp elt [⟨.Name x₁ px,iter,ifs,0⟩] scope pos) (some (.Name y py)) spos.line X.env=pure true) (hs:∀ x,foldedSetIterable iter X.env x=pure x:=by intro _;rfl) :
  PS X (.Assign [.Name y py] (.ListComp elt [⟨.Name x₁ px,iter,ifs,0⟩] scope pos) spos) (tAsg (yet jf wi tc te) (yeg i)):=by
 intro pins s σ H D I h
 rw [exec_Assign_Name_used _ _ _ _ hsw]
 refine wpAny_bind (wpAny_standAt (wpAny_bind ?_))
 show wpAny _ X.A (do let _ <- comprehension (.ListComp elt [⟨.Name x₁ px,iter,ifs,0⟩] scope pos) scope X.env _ (newList []) false (eval iter X.env) (some (assign (.Name y py) X.env))) _ _ s
 refine wpAny_bind (wpAny_mono (zeE (Qf:=fun _ s' => SP X pins D .next s') hcalm hi hc he hN hx hjf hjl hkind hcell hfr hnames (use:=some (assign (.Name y py) X.env)) I h (fun D' C s6 H6 m6 I6 q6 f6 n6=>?_) hs) (fun _ s' hq=>wpAny_pure (wpAny_pure hq)) fun _ _ e=>e)
 refine wpAny_assign_Name (zd5 I6 hNX hi' (.inl hy) (v:=.ref D') rfl (fun s7 I7 ⟨a,hsa,ha⟩=>?_) (.inr hy))
 have ne:C≠a:=by
  rcases ha with z | z
  ·rw [z];exact f6.2.1
  ·exact fun q=>f6.2.2.2.2.1 y a z q.symm
 refine ⟨m6,n6.sameBut hsa ne,fun h' hs' => ⟨_,H6,?_,q6⟩⟩
 exact I7.turnedL (fp:=[C]) (t' := s7.toks) (fun b o hb q=>(hs'.2 b (fun z=>hb (by simp [z]))).trans q) (fun b hb=>by
  have e:b=C:=by simpa using hb
  subst e
  exact f6)
end
end L2
namespace L2
open PySem PySem.Spec PyProof.Rows
section
variable {X:Cx} {a b e:Expr} {ta tb:TE} {p p2 pos:Pos}
theorem zhN {c:V} {cv:Value} (rc:∀ u,RelV c u->u=cv) :
  CallR X (.builtin "isinstance") (fun xs H Q=>∃ x t r,xs=[x,c]/\TyOf X.K H x t/\PySem.W.kitOne X.K t cv=some r/\Q (.bl r) H):=by
 intro pins s σ H xs us Q I r h
 obtain ⟨x,t,k,rfl,ty,hk,q⟩:=h
 obtain ⟨u,w',rfl,rx,ry⟩:=yeJ r
 obtain rfl:=rc _ ry
 exact zgP I rx ty hk fun tk=>⟨.bl k,H,I.tok _,rfl,q⟩
theorem yfV (n:String):∀ u,RelV (.ty n) u->u=Value.type n:=fun _ r=>r
theorem zgY:OpR X (compareOp .LtE) (fun x y H Q=>∃ i j,x = .str i/\y = .str j/\Q (.bl (!decide (j.cps.toList<i.cps.toList))) H):=by
 intro pins s σ H x y v u Q I rx ry h
 obtain ⟨i,j,rfl,rfl,q⟩:=h
 obtain ⟨t,rfl⟩:=rx
 obtain ⟨t',rfl⟩:=ry
 exact PySem.P.le_str (yaT I q rfl)
theorem zeF:MtR X "str.count" (fun x vs H Q=>∃ z y,x = .str z/\vs=[.str y]/\Q (.int ((Builtin.Str.occurrences z y 0 z.length (z.length+1)).length:Nat)) H):=by
 intro pins s σ H x vs v us Q I rx rv h
 obtain ⟨z,y,rfl,rfl,q⟩:=h
 obtain ⟨t,rfl⟩:=rx
 obtain ⟨u,rfl,t',rfl⟩:=ydy rv
 exact call_gives F.slot_str_count (typeIs_str s z t) F.entry_str_count (F.args_str_count_2 _ _) (gives_str_count z y t t') ⟨.int _,H,I.tok _,⟨_,rfl⟩,q⟩
theorem zgZ (l:List (Array Nat)):∀ acc:Array Nat,(l.foldl (· ++ ·) acc).toList=acc.toList++(l.map Array.toList).flatten:=by
 induction l with
 | nil=>intro acc;simp
 | cons x r ih=>intro acc;rw [List.foldl_cons,ih];simp
theorem zhO (hc:X.calm=true):CallR X (.builtin "all") (fun xs H Q=>∃ (a:Addr) (bs:List Bool),xs=[.ref a]/\SqL X.K H a (bs.map V.bl)/\Q (.bl (bs.all id)) H):=by
 intro pins s σ H xs us Q I r h
 obtain ⟨l,bs,rfl,hq,q⟩:=h
 obtain ⟨u,rfl,rx⟩:=ydy r
 cases rx
 obtain ⟨its,rv,pl,hz⟩:=I.list hq
 have hlt:l<s.heap.objs.size:=by obtain ⟨_,_,e,_⟩:=pl;exact Heap.lt_size e
 have hlen:its.length=bs.length:=by rw [<- rv.length,List.length_map]
 refine call_all_walk (wpAny_pyIter_list pl.isList ?_)
 refine ⟨s.heap.objs.size,[s.heap.objs.size,l],[s.heap.objs.size],its.toArray.size,_,_,fun i=>(bs[i]?).getD true,rfl,Walks.list (A:=X.A.in1) (I.ok.hd hc) _ l (Nat.ne_of_lt hlt) its.toArray,
  ⟨⟨_,Heap.get?_push_size _ rfl,rfl,rfl⟩,pl.isList.push _⟩,fun i v s' Q' E' hP hQ=>?_,fun h' tk hk=>?_⟩
 ·have hP':its[i]? = some v:=by simpa using hP
  have hi:i<its.length:=(List.getElem?_eq_some_iff.mp hP').1
  have hb:(bs.map V.bl)[i]? = some (V.bl (bs[i]'(by omega))):=by rw [List.getElem?_map,List.getElem?_eq_getElem (by omega)];rfl
  obtain ⟨u,hu,ru⟩:=rv.get hb
  rw [hP'] at hu
  cases hu
  cases ru
  have e:(bs[i]?).getD true=bs[i]'(by omega):=by rw [List.getElem?_eq_getElem (by omega)];rfl
  have hQ2:Q' ((bs[i]?).getD true) s' := hQ
  rw [e] at hQ2
  exact wpAny_truthy_bool hQ2
 ·have e:((List.range its.toArray.size).all fun i=>(bs[i]?).getD true)=bs.all id:=by
   rw [List.size_toArray,hlen,Bool.eq_iff_iff,List.all_eq_true,List.all_eq_true]
   constructor
   ·intro z c hc'
    obtain ⟨i,hi,rfl⟩:=List.getElem_of_mem hc'
    have:=z i (List.mem_range.mpr hi)
    rw [List.getElem?_eq_getElem hi] at this
    exact this
   ·intro z i hi
    have hi' := List.mem_range.mp hi
    rw [List.getElem?_eq_getElem hi']
    exact z _ (List.getElem_mem hi')
  rw [e]
  refine ⟨.bl _,H,I.kept (t' := tk) fun b o q=>?_,rfl,q⟩
  exact hk b o (fun hm=>by rw [List.mem_singleton.mp hm] at q;exact Nat.lt_irrefl _ (Heap.lt_size q)) (Heap.get?_push_of_some _ q)
end
end L2
namespace L2
open PySem PySem.Spec PyProof.Rows
section
variable {X:Cx}
theorem zhP:OpR X (binaryOp .FloorDiv) (rI (fun _ j=>0<j/\j<2 ^ 200) fun i j=>.int (i / j)):=opI fun i j _ _ _ _ _ hc q=>by
 obtain ⟨h1,h2⟩:=hc
 refine floordiv_int (by omega) (by rw [Int.fdiv_eq_ediv_of_nonneg i (by omega)];exact q) (.inl (PyProof.noPylong_of_log2 ?_))
 have h3:j.natAbs<2 ^ 200:=by omega
 have h4:j.natAbs.log2<200:=(Nat.log2_lt (by omega)).mpr h3
 omega
theorem zhQ:OpR X (binaryOp .Mult) (rI IntMulOk fun i j=>.int (i*j)):=opI fun _ _ _ _ _ _ _ hc q=>mul_int q hc
end
end L2
namespace L2
open PySem PySem.Spec PyProof.Rows
theorem ygI:bootBuiltins "int" = some (.type "int"):=by decide +kernel
theorem ziQ:bootBuiltins "bool" = some (.type "bool"):=by decide +kernel
theorem ygJ:bootBuiltins "str" = some (.type "str"):=by decide +kernel
end L2
namespace L2
open PySem PySem.Spec PyProof.Rows
theorem ObjOk.some {P:Program} {w:World} {H:Hp} {h:Heap} {a:Addr} {o:HO} (x:ObjOk P w H h a o):∃ ob,h.get? a=Option.some ob:=by
 cases o with
 | lst xs=>obtain ⟨_,_,_,_,e⟩:=x;exact ⟨_,e⟩
 | tup xs=>obtain ⟨_,_,_,o,e,_⟩:=x;exact ⟨o,e⟩
 | dK kvs=>obtain ⟨_,_,_,_,o,_,_,e,_⟩:=x;exact ⟨_,e⟩
 | dT kvs=>obtain ⟨_,_,_,_,o,_,_,e,_⟩:=x;exact ⟨_,e⟩
 | set S n=>obtain ⟨o,_,_,_,e,_⟩:=x;exact ⟨_,e⟩
 | ins C dx fs=>obtain ⟨_,_,_,e,_⟩:=x;exact ⟨_,e⟩
 | own y=>obtain ⟨_,e⟩:=x;exact ⟨_,e⟩
 | xd fs=>obtain ⟨_,⟨_,_,_,e,_⟩,_⟩:=x;exact ⟨_,e⟩
 | rng lo hi=>obtain ⟨_,_,_,e⟩:=x;exact ⟨_,e⟩
 | frz ob u=>obtain ⟨e,_⟩:=x;exact ⟨_,e⟩
 | tbl ps=>exact ⟨_,(show h.get? a=Option.some _ from x)⟩
 | met f y=>exact ⟨_,(show h.get? a=Option.some _ from x)⟩
 | ext φ=>obtain ⟨_,⟨_,e⟩,_⟩:=x;exact ⟨_,e⟩
def Firm (X:Cx) (pins:List (Addr×Obj)) (H:Hp) (h B:Heap):Prop :=
 ∀ b o,h.get? b=some o->b∉frs X.stack->((∃ u,H b=some u)\/(∃ o',X.s₀.heap.get? b=some o')\/∃ p∈X.pn++pins,p.1=b)->B.get? b=some o
section
variable {X:Cx} {pins:List (Addr×Obj)} {σ:St} {H:Hp} {s:Shared}
theorem Inv.nofr (I:Inv X pins σ H s) {b:Addr} {o:Obj} (e:X.s₀.heap.get? b=some o) (hb:b∉X.fs):b∉frs X.stack:=fun z=>by
 rcases List.mem_cons.mp (I.stkSub b z) with q | q
 ·exact Nat.ne_of_lt (Nat.lt_of_lt_of_le (Heap.lt_size e) I.ok.above) q
 ·exact hb q
theorem Inv.nofrT (I:Inv X pins σ H s) {b:Addr} {u:HO} (e:H b=some u):b∉frs X.stack:=fun z=>by
 have q:=I.stkFree b z
 rw [q] at e
 cases e
theorem Inv.nofrP (I:Inv X pins σ H s) {p:Addr×Obj} (hp:p∈X.pn++pins):p.1∉frs X.stack:=fun z=>by
 obtain ⟨_,_,ne,nf,_⟩:=I.pin p hp
 rcases List.mem_cons.mp (I.stkSub p.1 z) with q | q
 ·exact ne q
 ·exact nf q
theorem Inv.flown {B h':Heap} {t':Nat} (I:Inv X pins σ H s) (hex:X.ex=[]) (F:Firm X pins H s.heap B) (st:B.StaysIn h') (sm:s.heap.UpToSlots h'):Inv X pins σ H { s with heap:=h',toks:=t' }:=by
 have nx:∀ b,b∉X.ex:=fun b z=>by rw [hex] at z;cases z
 refine ⟨I.ok,I.os,I.bare,⟨fun b o e n hb hx=>?_,fun b o e n hb hx=>?_,I.base.free,fun b o e hx=>?_,I.base.tups,I.base.frzs,I.base.tbls⟩,?_,fun x c e=>?_,I.free,I.freeC,fun p hp=>?_,fun b u e=>?_,I.len⟩
 ·exact st b o (F b o (I.base.keep b o e n hb hx) (I.nofr e hb) (.inr (.inl ⟨o,e⟩)))
 ·obtain ⟨sl,q⟩:=I.base.slot b o e n hb hx
  obtain ⟨_,o',ho',hd⟩:=I.funs.mem hb
  rw [q] at ho'
  cases ho'
  obtain ⟨sl',q'⟩:=sm b _ q hd
  exact ⟨sl',q'⟩
 ·obtain ⟨o',q⟩:=I.base.there b o e hx
  by_cases hb:b∈X.fs
  ·obtain ⟨_,o'',ho'',hd⟩:=I.funs.mem hb
   rw [q] at ho''
   cases ho''
   obtain ⟨sl',q'⟩:=sm b _ q hd
   exact ⟨_,q'⟩
  ·exact ⟨o',st b o' (F b o' q (I.nofr e hb) (.inr (.inl ⟨o,e⟩)))⟩
 ·obtain ⟨m,hn,hl⟩:=I.loc
  refine ⟨m,sm.ns hn,fun i x v e1 e2 e3=>?_⟩
  obtain ⟨u,r,l⟩:=hl i x v e1 e2 e3
  refine ⟨u,r,?_⟩
  rcases l with l | ⟨k,c,e,o,ho,hd⟩
  ·exact .inl l
  ·obtain ⟨sl,q⟩:=sm c o ho fun vs z=>by rw [hd] at z;cases z
   exact .inr ⟨k,c,e,_,q,hd⟩
 ·obtain ⟨v,o,ho,hd⟩:=I.cell x c e
  obtain ⟨sl,q⟩:=sm c o ho fun vs z=>by rw [hd] at z;cases z
  exact ⟨v,_,q,hd⟩
 ·obtain ⟨e,n,ne,nf,d⟩:=I.pin p hp
  exact ⟨st _ _ (F _ _ e (I.nofrP hp) (.inr (.inr ⟨p,hp,rfl⟩))),n,ne,nf,d⟩
 ·refine (I.hok b u e).stay (fun c v hc q=>?_) (fun _ q=>q) fun _ _ q=>q
  rcases hc with z | z
  ·subst z
   exact st _ _ (F _ _ q (I.nofrT e) (.inl ⟨_,e⟩))
  ·exact st _ _ (F _ _ q (I.nofrT z) (.inl ⟨_,z⟩))
end
structure Arr (X:Cx) (pins:List (Addr×Obj)) (σ:St) (H:Hp) (a:Addr) (cls:Value) (s:Shared):Prop where
 inv:Inv X pins σ H s
 un:H a=none
 new:X.s₀.heap.get? a=none
 nl:a≠X.env.locals
 nc:∀ x c,X.env.cells.lookup x=some c->c≠a
 np:∀ p∈X.pn++pins,p.1≠a
 fly:∃ B a0,Firm X pins H s.heap B/\B.StaysIn s.heap/\B.get? a=none/\s.heap.FunFrames B X.stack /\
  ((∃ oe vs,s.heap.get? a=some oe/\oe.cls=cls/\oe.data = .fields vs/\vs[0]? = some a0/\vs[1]? = some .none)\/s.heap.TracedW B a cls a0)
def CXE (P:Program) (w:World):CXT:=fun outer H s E e s' => ∃ (a:Addr) (cls a0:Value) (H':Hp) (B:Heap),e = .ref a/\s'.os=s.os/\AllBare s'.gens/\Un (frs outer) [] H H' s.heap s'.heap/\HOk P w H' s'.heap /\
 Heap.FlyingW B outer a cls a0 s'.heap/\(∀ b o,s'.heap.get? b=some o->b∉frs outer->((∃ u,H' b=some u)\/∃ o',s.heap.get? b=some o')->B.get? b=some o)/\H' a=none/\s.heap.get? a=none/\E cls none H'
section
variable {X:Cx} {pins:List (Addr×Obj)} {σ:St} {H:Hp} {s:Shared}
theorem zhR {h':Heap} {e:Addr} {cls:Value} {args:List Value} {t':Nat} (I:Inv X pins σ H s) (hex:X.ex=[]) (hx:Heap.MadeExcOf s.heap h' e cls args):Arr X pins σ H e cls { s with heap:=h',toks:=t' }:=by
 have nx:∀ b,b∉X.ex:=fun b z=>by rw [hex] at z;cases z
 have none_of:∀ b o,s.heap.get? b=some o->b≠e:=fun b o q z=>by rw [z,hx.new] at q;cases q
 have eq_of:∀ b o o1,h'.get? b=some o->s.heap.get? b=some o1->o1=o:=fun b o o1 q q1=>by
  have z:=hx.keeps b o1 q1
  rw [q] at z
  exact (Option.some.inj z).symm
 obtain ⟨t,he,_,_⟩:=hx.there
 refine ⟨I.kept hx.keeps,?_,?_,fun z=>?_,fun x c q z=>?_,fun p hp z=>?_,PySem.W.hideAll s.heap (frs X.stack),.ref t,fun b o q nb alt=>?_,fun b o q=>hx.keeps b o (PySem.W.of_hideAll _ q),?_,?_,.inl ⟨_,_,he,rfl,rfl,rfl,rfl⟩⟩
 ·cases q:H e with
  | none=>rfl
  | some u =>
   obtain ⟨ob,z⟩:=(I.hok e u q).some
   exact absurd rfl (none_of e ob z)
 ·cases q:X.s₀.heap.get? e with
  | none=>rfl
  | some o =>
   obtain ⟨ob,z⟩:=I.base.there e o q (nx e)
   exact absurd rfl (none_of e ob z)
 ·obtain ⟨m,⟨o,_,_,ho,_⟩,_⟩:=I.loc
  exact none_of _ o ho z.symm
 ·obtain ⟨v,o,ho,_⟩:=I.cell x c q
  exact none_of _ o ho z
 ·exact none_of _ _ (I.pin p hp).1 z
 ·have there:∃ o1,s.heap.get? b=some o1:=by
   rcases alt with ⟨u,q'⟩ | ⟨o',q'⟩ | ⟨p,hp,rfl⟩
   ·exact (I.hok b u q').some
   ·exact I.base.there b o' q' (nx b)
   ·exact ⟨_,(I.pin p hp).1⟩
  obtain ⟨o1,q1⟩:=there
  rw [<- eq_of b o o1 q q1]
  exact PySem.W.hideAll_get _ q1 nb
 ·cases q:(PySem.W.hideAll s.heap (frs X.stack)).get? e with
  | none=>rfl
  | some o=>exact absurd rfl (none_of e o (PySem.W.of_hideAll _ q))
 ·refine (PySem.W.funFrames_hide I.stack fun env henv b hb=>List.mem_filterMap.mpr ⟨env,henv,hb⟩).of_keeps fun b o q _=>⟨o,hx.keeps b o q,rfl⟩
theorem zeG {E:XK} {e:Value} {s':Shared} (I:Inv X pins σ H s) (hex:X.ex=[]) (h:CXE X.prog X.w X.stack H s E e s'):∃ a cls H',e = .ref a/\Arr X pins σ H' a cls s'/\E cls none H' := by
 obtain ⟨a,cls,a0,H',B,rfl,os,bare,un,hok,⟨f1,f2,f3,f4⟩,ext,na,ns,q⟩:=h
 have nx:∀ b,b∉X.ex:=fun b z=>by rw [hex] at z;cases z
 have none_of:∀ b o,s.heap.get? b=some o->b≠a:=fun b o q z=>by rw [z,ns] at q;cases q
 refine ⟨a,cls,H',rfl,⟨I.call' (ch:=[]) os un hok bare (fun b z=>absurd z (by simp)),na,?_,fun z=>?_,fun x c q z=>?_,fun p hp z=>?_,B,a0,fun b o q nb alt=>?_,f1,f2,f3,.inr f4⟩,q⟩
 ·cases q:X.s₀.heap.get? a with
  | none=>rfl
  | some o =>
   obtain ⟨ob,z⟩:=I.base.there a o q (nx a)
   exact absurd rfl (none_of a ob z)
 ·obtain ⟨m,⟨o,_,_,ho,_⟩,_⟩:=I.loc
  exact none_of _ o ho z.symm
 ·obtain ⟨v,o,ho,_⟩:=I.cell x c q
  exact none_of _ o ho z
 ·exact none_of _ _ (I.pin p hp).1 z
 ·refine ext b o q nb ?_
  rcases alt with ⟨u,q'⟩ | ⟨o',q'⟩ | ⟨p,hp,rfl⟩
  ·exact .inl ⟨u,q'⟩
  ·exact .inr (I.base.there b o' q' (nx b))
  ·exact .inr ⟨_,(I.pin p hp).1⟩
theorem Arr.land {a:Addr} {cls:Value} {Q:Unit->Shared->Prop} {E:Value->Shared->Prop} {M:Model} {A:Around} (R:Arr X pins σ H a cls s) (hex:X.ex=[]) (hfr:A.frames=some X.stack) {outer:List Env} (hst:X.stack=X.env::outer) (hf:X.env.frame=some X.env.locals)
  (hQ:∀ h' B a0,Firm X pins H s.heap B->Heap.FlyingW B X.stack a cls a0 h'->s.heap.UpToSlots h'->Inv X pins σ H { s with heap:=h' }->Q () { s with heap:=h' }) :
  wpAny M A (noteFrame (.ref a) X.env) (fun _ s₂=>wpAny M A (setFlight (.ref a) none) Q E s₂) E s:=by
 obtain ⟨B,a0,fm,st,hb,ff,alt⟩:=R.fly
 have after:∀ h4,Heap.HeldW B X.stack a cls a0 X.env.locals h4->s.heap.UpToSlots h4->wpAny M A (setFlight (.ref a) none) Q E { s with heap:=h4 }:=fun h4 hh sm=>by
  refine wpAny_landsW (s:={ s with heap:=h4 }) hh fun h5 fl sm5=>?_
  have sm':s.heap.UpToSlots h5:=sm.trans sm5
  exact hQ h5 B a0 fm fl sm' (R.inv.flown (t' := s.toks) hex fm fl.1 sm')
 rw [hst] at hfr
 rw [hst] at ff
 rcases alt with ⟨oe,vs,he,hc,hd,h0,h1⟩ | tr
 ·subst hc
  have hsz:1<vs.size:=(Array.getElem?_eq_some_iff.mp h1).1
  unfold noteFrame
  simp only [hf]
  refine wpAny_bind (wpAny_field he hd h1 ?_)
  rw [if_neg (by decide)]
  refine wpAny_entryW hfr ff hf he st hb hd hsz h0 fun h4 hN=>?_
  obtain ⟨k1,k2,k3,k4⟩:=hN
  exact after h4 (by rw [hst];exact ⟨k1,hb,k2,k3⟩) k4
 ·exact wpAny_looks_onW hfr hf ⟨st,hb,ff,tr⟩ fun h4 hh sm=>after h4 (by rw [hst];exact hh) sm
theorem zec {P:Program} {w:World} {K:PySem.W.Frag} {mg:Str->Option Value} {base:Heap} {N:List Str} {qual:Str} {scope:Scope} {f:Addr} {cd:Value} {A:Around} {outer:List Env} {s0:Shared} {H0:Hp} {E:XK} {a:Addr} {cls:Value}
  (R:Arr (cxOf (CXE P w) P w K mg base N qual scope f cd A outer s0 H0 E) pins σ H a cls s) (q:E cls none H):(cxOf (CXE P w) P w K mg base N qual scope f cd A outer s0 H0 E).xe (.ref a) s:=by
 show wpAny _ _ (leaving _ _) _ _ s
 unfold leaving
 refine wpAny_bind (R.land (E:=fun e' s'' => CXE P w outer H0 s0 E e' s'') rfl R.inv.ok.frames rfl rfl fun h' B a0 fm fl sm I' => ?_)
 have I:=R.inv
 obtain ⟨k1,k2,⟨_,_,k3⟩,k4⟩:=fl
 refine ⟨a,cls,a0,H,B,rfl,I'.os,I'.bare,I'.base,I'.hok,⟨k1,k2,k3,k4⟩,fun b o e nb alt=>?_,R.un,R.new,q⟩
 have nstk:b∉frs (cxOf (CXE P w) P w K mg base N qual scope f cd A outer s0 H0 E).stack:=by
  rcases alt with ⟨u,z⟩ | ⟨o',z⟩
  ·exact I.nofrT z
  ·exact I.nofr z nb
 have there:∃ o1,s.heap.get? b=some o1:=by
  rcases alt with ⟨u,z⟩ | ⟨o',z⟩
  ·exact (I.hok b u z).some
  ·exact I.base.there b o' z (fun z=>absurd (show b∈([]:List Addr) from z) (by simp))
 obtain ⟨o1,q1⟩:=there
 have z:B.get? b=some o1:=fm b o1 q1 nstk (by
  rcases alt with ⟨u,z⟩ | ⟨o',z⟩
  ·exact .inl ⟨u,z⟩
  ·exact .inr (.inl ⟨o',z⟩))
 have z2:=k1 b o1 z
 rw [show (Heap.get? h' b)=some o from e] at z2
 cases z2
 exact z
end
def ydP (X:Cx) (Ex:St->XK):Prop:=∀ (pins:List (Addr×Obj)) (σ:St) (H:Hp) (s:Shared) (a:Addr) (cls:Value),Arr X pins σ H a cls s->Ex σ cls none H->X.xe (.ref a) s
def ydp (CX:CXT) (X:Cx) (Ex:St->XK):Prop:=∀ (pins:List (Addr×Obj)) (σ:St) (H:Hp) (s:Shared) (e:Value) (s':Shared),Inv X pins σ H s->CX X.stack H s (Ex σ) e s'->X.xe e s'
section
variable {P:Program} {w:World} {K:PySem.W.Frag} {mg:Str->Option Value} {base:Heap} {N:List Str} {qual:Str} {scope:Scope} {f:Addr} {cd:Value} {A:Around} {outer:List Env} {s0:Shared} {H0:Hp} {E:XK}
theorem zaK:ydP (cxOf (CXE P w) P w K mg base N qual scope f cd A outer s0 H0 E) (fun _=>E):=fun _ _ _ _ _ _ R q=>zec R q
theorem ziR:ygz (CXE P w) (cxOf (CXE P w) P w K mg base N qual scope f cd A outer s0 H0 E) E:=fun pins σ H s e s' I h=>by
 obtain ⟨a,cls,H',rfl,R,q⟩:=zeG (X:=cxOf (CXE P w) P w K mg base N qual scope f cd A outer s0 H0 E) I rfl h
 exact zec R q
end
section
variable {X:Cx} {x:Str} {C:Addr} {bm:List Value} {B newId initId:String} {np cpos pos:Pos} {e:Expr} {es:List Expr} {t:TA} {Ex:St->XK}
def ygK (cls:Value) (Ex:St->XK) (t:TA):TS:=fun _ σ H=>t σ H fun vs H1=>vs.length<=1000/\Ex σ cls none H1
theorem zhS (O:OwnCls x C bm newId X.mg X.base) (FB:ExcBaseFacts B newId initId bm) (hc:X.calm=true) (hex:X.ex=[]) (hr:ydP X Ex) (hg:Gl X x) (ha:PA X (e::es) t)
  (hdb:(x == ("__debug__" : Str))=false:=by decide) (he:starEach (e::es) X.env=(false,eval e X.env)::starEach es X.env:=by rfl) (hpl:(backTo cpos (starEach es X.env)).any (·.1)=false:=by rfl) :
  PS X (.Raise (some (.Call (.Name x np) (e::es) [] cpos)) none pos) (ygK (.ref C) Ex t):=by
 intro pins s σ H D I h
 obtain ⟨tl,NN,nm,q,bs,hdct,sn,sub,ab,col,dd,k0,k1,k2,k3,k5,mN,hC,hN,hni,T⟩:=O.obj
 refine wpAny_Raise_call_subT (C:=C) (nm:=nm) (q:=q) (N:=NN) (bs:=bs) (bm:=tl) (hdct:=hdct) (sn:=sn) (sub:=sub) (ab:=ab) (col:=col) (dd:=dd) (k0:=k0) (k1:=k1) (k2:=k2) (k3:=k3) (k5:=k5) FB (mN:=mN)
  (T.hasType FB.hasBase) (I.ok.hd hc) (by rw [he];show (false || (backTo cpos (starEach es X.env)).any (·.1))=false;rw [hpl];rfl) hni (zbV I hg O.bound ⟨rfl,?_⟩ hdb)
 have hA:=ha cpos pins s σ H _ I h
 rw [he] at hA ⊢
 refine Calls.evalArgs_plain (thn hA fun us s2 ⟨vs,H1,I1,r1,hl,q1⟩=>⟨rfl,?_,I1.bk _ _ hC,hN.keeps I1.bk,T.keeps I1.bk,fun h' a hm=>hr pins σ H1 _ a _ (zhR (t' := s2.toks) I1 hex hm) q1⟩)
 show us.length<=sizeLine
 rw [<- r1.length]
 exact Nat.le_trans hl (by decide)
end
section
variable {X:Cx} {CX:CXT} {k:Nat} {f C:Addr} {fd:FuncData} {ps:List Str} {sp:Sp} {dvs:List V} {ds:List Value} {Ex:St->XK} {x m:Str} {p pos apos:Pos} {e o:Expr} {es:List Expr} {ta:TE} {t:TA}
theorem zdM {pins:List (Addr×Obj)} {σ:St} {H:Hp} {s:Shared} {Q:VK} {us:List Value} {vs:List V} (F:FnOk X.prog X.w X.K X.mg X.base CX k f fd ps sp) (hr:Room k X.A) (hb:Binds X.K fd ps ds) (hd:Vals dvs ds) (hx:ydp CX X Ex)
  (I:Inv X pins σ H s) (r:Vals vs us) (h:sp (vs++dvs) H Q (Ex σ)):wpAny (model X.prog X.w) X.A (call (.ref f) us) (EP X pins σ Q) X.xe s:=by
 have r2:Vals (vs++dvs) (us++ds):=r.append hd
 have hl:(us++ds).length=ps.length:=by rw [<- r2.length];exact F.len _ _ _ _ h
 refine wpAny_call (codeAny_mono (F.run X.A X.stack s H ⟨us,[]⟩ (us++ds) (vs++dvs) Q (Ex σ) hr I.env0 (hb s us I.kIn hl) r2 h) fun r s' hq=>?_)
 cases r with
 | error e=>exact hx pins σ H s e s' I hq
 | ok fl =>
  cases fl with
  | ret u=>exact I.after hq
  | next=>exact False.elim hq
  | brk=>exact False.elim hq
  | cont=>exact False.elim hq
def ygL (sp:Sp) (dvs:List V) (Ex:St->XK) (t:TA):TE:=fun σ H Q=>t σ H fun vs H1=>sp (vs++dvs) H1 Q (Ex σ)
theorem zhT (F:FnOk X.prog X.w X.K X.mg X.base CX k f fd ps sp) (hr:Room k X.A) (hg:Gl X x) (hm:X.mg x=some (.ref f)) (hk:PySem.W.keepIn X.K (.ref f)=true) (hb:Binds X.K fd ps ds) (hd:Vals dvs ds) (hx:ydp CX X Ex)
  (ha:PA X (e::es) t) (hdb:(x == ("__debug__" : Str))=false:=by decide) (he:starEach (e::es) X.env=(false,eval e X.env)::starEach es X.env:=by rfl) (hpl:(backTo pos (starEach es X.env)).any (·.1)=false:=by rfl) :
  PE X (.Call (.Name x p) (e::es) [] pos) (ygL sp dvs Ex t):=by
 intro pins s σ H Q I h
 refine wpAny_Call_Name_kw (zbV I hg hm ?_ hdb)
 refine PySem.W.callWith_K (h₀:=X.base) I.ok.mod.kin hk (thn (ha pos pins s σ H _ I h) fun us s1 ⟨vs,H1,I1,r,q⟩=>⟨I1.kIn,?_⟩) he hpl
 exact zdM F hr hb hd hx I1 r q
def yft (C:Addr) (m:Str) (sp:Sp) (dvs:List V) (Ex:St->XK) (ta:TE) (t:TA):TE:=fun σ H Q=>ta σ H fun x H1=>∃ a dx fs,x = .ref a/\H1 a=some (.ins C dx fs)/\fs.lookup m=none /\
 t σ H1 fun vs H2=>sp (x::(vs++dvs)) H2 Q (Ex σ)
theorem zhU {pl:Sem Bool} (he:PE X o ta) (c:Cls X.K C) (hm:Meth X.K C m f) (F:FnOk X.prog X.w X.K X.mg X.base CX k f fd ps sp) (hr:Room k X.A) (hb:Binds X.K fd ps ds) (hd:Vals dvs ds) (hx:ydp CX X Ex) (ha:PA X (e::es) t)
  (hst:starEach (e::es) X.env=(false,eval e X.env)::starEach es X.env:=by rfl) (hpl:(backTo pos (starEach es X.env)).any (·.1)=false:=by rfl)
  (ht:eval (.Call (.Attribute o m apos) (e::es) [] pos) X.env=(do
   let ov <- eval o X.env
   standAt apos.atName
   let (f,first) <- holding [ov] (getMethod ov m pl)
   callWith pos f first (backTo pos (starEach (e::es) X.env)) (backToKw pos (keywordEach [] X.env))):=by rfl) :
  PE X (.Call (.Attribute o m apos) (e::es) [] pos) (yft C m sp dvs Ex ta t):=by
 intro pins s σ H Q I h
 refine PySem.W.methodCall_KW (pl:=pl) (thn (he pins s σ H _ I h) fun u s1 ⟨x,H1,I1,rx,a,dx,fs,ex,ea,l,q⟩=>?_) ht
 subst ex
 obtain rfl:u=Value.ref a:=rx
 refine zdt I1 ea c hm l ?_
 refine PySem.W.callWith_K (first:=[.ref a]) (h₀:=X.base) I.ok.mod.kin hm.kp (thn (ha pos pins s1 σ H1 _ I1 q) fun us s2 ⟨vs,H2,I2,r,q2⟩=>⟨I2.kIn,?_⟩) hst hpl
 exact zdM (us:=.ref a::us) (vs:=.ref a::vs) F hr hb hd hx I2 (.cons rfl r) q2
end
abbrev tryC (X:Cx) (pins:List (Addr×Obj)) (xe:Value->Shared->Prop):Cx:={ X with pn:=X.pn++pins,xe:=xe }
abbrev hdlC (X:Cx) (a:Addr):Cx:={ X with A:=X.A.mark (some (.ref a)),calm:=false,xe:=fun _ _=>False }
def excO (a:Addr) (cls:Value):HO:=.ext fun h=>∃ ob vs,h.get? a=some ob/\ob.cls=cls/\ob.data = .fields vs
section
variable {X:Cx} {pins pins':List (Addr×Obj)} {σ:St} {H:Hp} {s:Shared} {xe:Value->Shared->Prop}
theorem Cx.Ok.tryC (ok:X.Ok):(tryC X pins xe).Ok:=⟨ok.mod,ok.kind,ok.glob,ok.blt,ok.above,ok.inj,ok.has,ok.cab,ok.hd,ok.frames,ok.stk,ok.exf,ok.bs,ok.bsz,ok.noex,ok.exfs,ok.funs,ok.frf⟩
theorem Cx.Ok.untry (ok:(L2.tryC X pins xe).Ok):X.Ok:=⟨ok.mod,ok.kind,ok.glob,ok.blt,ok.above,ok.inj,ok.has,ok.cab,ok.hd,ok.frames,ok.stk,ok.exf,ok.bs,ok.bsz,ok.noex,ok.exfs,ok.funs,ok.frf⟩
theorem Cx.Ok.hdl (ok:X.Ok) (a:Addr):(hdlC X a).Ok:=⟨ok.mod,ok.kind,ok.glob,ok.blt,ok.above,ok.inj,ok.has,ok.cab,fun z=>(nomatch z),ok.frames,ok.stk,ok.exf,ok.bs,ok.bsz,ok.noex,ok.exfs,ok.funs,ok.frf⟩
theorem Inv.toTry (I:Inv X pins σ H s):Inv (tryC X pins xe) [] σ H s:=⟨I.ok.tryC,I.os,I.bare,I.base,I.loc,I.cell,I.free,I.freeC,fun p hp=>I.pin p (by simpa using hp),I.hok,I.len⟩
theorem Inv.untry (I:Inv (tryC X pins xe) pins' σ H s):Inv X pins σ H s:=⟨I.ok.untry,I.os,I.bare,I.base,I.loc,I.cell,I.free,I.freeC,fun p hp=>I.pin p (List.mem_append_left _ hp),I.hok,I.len⟩
theorem Inv.hdl (I:Inv X pins σ H s) (a:Addr):Inv (hdlC X a) pins σ H s:=⟨I.ok.hdl a,I.os,I.bare,I.base,I.loc,I.cell,I.free,I.freeC,I.pin,I.hok,I.len⟩
theorem Inv.unhdl {a:Addr} (I:Inv (hdlC X a) pins σ H s) (ok:X.Ok):Inv X pins σ H s:=⟨ok,I.os,I.bare,I.base,I.loc,I.cell,I.free,I.freeC,I.pin,I.hok,I.len⟩
theorem Arr.untry {a:Addr} {cls:Value} (R:Arr (tryC X pins xe) pins' σ H a cls s):Arr X pins σ H a cls s:=by
 obtain ⟨B,a0,fm,r⟩:=R.fly
 refine ⟨R.inv.untry,R.un,R.new,R.nl,R.nc,fun p hp=>R.np p (List.mem_append_left _ hp),B,a0,fun b o q nb alt=>fm b o q nb ?_,r⟩
 rcases alt with z | z | ⟨p,hp,e⟩
 ·exact .inl z
 ·exact .inr (.inl z)
 ·exact .inr (.inr ⟨p,List.mem_append_left _ hp,e⟩)
end
theorem zeH {M:Model} {h:Heap} {a:Addr} {ob:Obj} (e:h.get? a=some ob):PySem.W.Looks M h (typeOf (.ref a)) ob.cls:=(PySem.W.Looks.ld e).andThen .now
section
variable {X:Cx} {xc n:Str} {C:Addr} {i:Nat} {body suite:List Stmt} {b0:Stmt} {np hpos pos:Pos} {tb:(St->XK)->TS} {th:TS} {outer:List Env}
end
section
variable {P:Program} {w:World} {K:PySem.W.Frag} {mg:Str->Option Value} {base:Heap}
theorem Fun.okE {x qual:Str} {st:Stmt} {f:Addr} {fd:FuncData} {N ps:List Str} {k:Nat} {sp:Sp} (F:Fun K x qual st f fd) (S:FnScope N ps (yad st)) (len:∀ vs H Q E,sp vs H Q E->vs.length=ps.length)
  (hbody:∀ (cdv:Value) (A:Around) (outer:List Env) (s:Shared) (H:Hp) (vs:List V) (Q:VK) (E:XK),Room k (A.deeper (envOfC qual (yad st) s.heap.objs.size f cdv))->sp vs H Q E ->
   ∃ t,PSs (cxOf (CXE P w) P w K mg base N qual (yad st) f cdv A outer s H E) (yan st) t/\t { nx:=fun _ H' => Q .non H',rt:=Q } (start N vs) H):FnOk P w K mg base (CXE P w) (k+1) f fd ps sp:=by
 obtain ⟨oc,od,kV,doc,pm,an,cdv,ct,osl,rfl,lk,hcd⟩:=F.ex
 exact yhJ lk hcd S len fun A outer s H vs Q E hr hsp=>hbody cdv A outer s H vs Q E hr hsp
end
end L2
namespace L2
open PySem PySem.Spec PyProof.Rows
theorem zbo {K:PySem.W.Frag} {hp:Heap} {g:Str->Option Value} {nm:Str} {Ca:Addr} {bb:List Value} {nid:String} (Z:K.In hp) (hb:g nm=some (.ref Ca)) (ok:PySem.W.excIn K Ca bb nid=true):OwnCls nm Ca bb nid g hp:=by
 refine ⟨hb,?_⟩
 unfold PySem.W.excIn at ok
 split at ok
 ·rename_i dA cA sA hA
  split at ok
  ·rename_i D' tl w0 w1 w2 w3 bn w5 eM eS
   simp only [Bool.and_eq_true,beq_iff_eq,Bool.not_eq_true'] at ok
   obtain ⟨⟨⟨⟨⟨rfl,rfl⟩,e1⟩,e2⟩,e3⟩,e4⟩:=ok
   obtain ⟨f1,f2,f3,f4,f5,f6,f7,f8,f9,f10,f11⟩:=cA
   dsimp only at eM e1 e3 e4
   subst eM e1
   have eA:sA = #[w0,w1,w2,w3,some (.builtin bn),w5]:=by
    obtain ⟨ll⟩:=sA
    simp only at eS
    rw [eS]
   subst eA
   refine ⟨tl,f4,f1,f5,f2,f6,f7,f8,f9,f10,dA,w0,w1,w2,w3,w5,_,Z _ _ hA,.of_isNs (PySem.W.isNs_of_in Z e3),?_,PySem.W.tail_of_in Z e2⟩
   exact PySem.W.nsMap_none_of_in Z e3 e4
  ·cases ok
 ·cases ok
mutual
inductive DaV (K:PySem.W.Frag) (H:Hp):V->PyData->Prop
 | non:DaV K H .non .none
 | bl (b):DaV K H (.bl b) (.bool b)
 | int (i):DaV K H (.int i) (.int i)
 | str (x):DaV K H (.str x) (.str x)
 | lst {a xs ds}:SqL K H a xs->DaVs K H xs ds->DaV K H (.ref a) (.list ds)
 | tup {a xs ds}:SqT K H a xs->DaVs K H xs ds->DaV K H (.ref a) (.tuple ds)
inductive DaVs (K:PySem.W.Frag) (H:Hp):List V->List PyData->Prop
 | nil:DaVs K H [] []
 | cons {x xs d ds}:DaV K H x d->DaVs K H xs ds->DaVs K H (x::xs) (d::ds)
end
section
variable {X:Cx} {pins:List (Addr×Obj)} {σ:St} {H:Hp} {s:Shared}
mutual
theorem DaV.reads (I:Inv X pins σ H s):∀ {x:V} {d:PyData} {u:Value},DaV X.K H x d->RelV x u->∃ as,Reads s.heap u d as
 | _,_,_,.non,r=>by cases r;exact ⟨_,.none⟩
 | _,_,_,.bl b,r=>by cases r;exact ⟨_,.bool b⟩
 | _,_,_,.int i,r=>by obtain ⟨t,rfl⟩:=r;exact ⟨_,.int i t⟩
 | _,_,_,.str x,r=>by obtain ⟨t,rfl⟩:=r;exact ⟨_,.str x t⟩
 | _,_,_,.lst (a:=a) h1 h2,r=>by
  cases r
  obtain ⟨its,rv,⟨o,n,e1,e2,e3⟩,_⟩:=I.list h1
  obtain ⟨as,q⟩:=DaVs.reads I h2 rv
  exact ⟨_,.list (vs:=its.toArray) (n:=n) e1 (by first | exact e2.1 | exact e2) (by first | exact e2.2.2 | exact e2.2 | exact e3 | exact e3.2) (by simpa using q)⟩
 | _,_,_,.tup (a:=a) h1 h2,r=>by
  cases r
  obtain ⟨its,rv,⟨o,e1,e2,n,e3⟩,_⟩:=I.tuple h1
  obtain ⟨as,q⟩:=DaVs.reads I h2 rv
  exact ⟨_,.tuple (vs:=its.toArray) (n:=n) e1 e2 e3 (by simpa using q)⟩
theorem DaVs.reads (I:Inv X pins σ H s):∀ {xs:List V} {ds:List PyData} {us:List Value},DaVs X.K H xs ds->Vals xs us->∃ as,ReadsAll s.heap us ds as
 | _,_,_,.nil,r=>by cases r;exact ⟨_,.nil⟩
 | _,_,_,.cons h1 h2,r=>by
  cases r with
  | cons r1 r2 =>
   obtain ⟨as,q1⟩:=DaV.reads I h1 r1
   obtain ⟨bs,q2⟩:=DaVs.reads I h2 r2
   exact ⟨_,.cons q1 q2⟩
end
def rEqD (K:PySem.W.Frag):R2:=fun x y H Q=>∃ d e,DaV K H x d/\DaV K H y e/\d.canLay0=true/\e.canLay0=true/\d.depth<=60/\Q (.bl (PyData.eqv d e)) H
def rNeD (K:PySem.W.Frag):R2:=fun x y H Q=>∃ d e,DaV K H x d/\DaV K H y e/\d.canLay0=true/\e.canLay0=true/\d.depth<=60/\Q (.bl (!PyData.eqv d e)) H
theorem yfu (hu:X.A.units+64<cLine):OpR X (compareOp .Eq) (rEqD X.K):=by
 intro pins s σ H x y v u Q I rx ry h
 obtain ⟨d,e,h1,h2,c1,c2,dp,q⟩:=h
 obtain ⟨as,r1⟩:=h1.reads I rx
 obtain ⟨bs,r2⟩:=h2.reads I ry
 exact SeqAt.compareEq_reads r1 r2 c1 c2 (by have:=Nat.min_le_left d.depth e.depth;omega) ⟨.bl _,H,I,rfl,q⟩
theorem yfv (hu:X.A.units+64<cLine):OpR X (compareOp .NotEq) (rNeD X.K):=by
 intro pins s σ H x y v u Q I rx ry h
 obtain ⟨d,e,h1,h2,c1,c2,dp,q⟩:=h
 obtain ⟨as,r1⟩:=h1.reads I rx
 obtain ⟨bs,r2⟩:=h2.reads I ry
 exact SeqAt.compareNe_reads r1 r2 c1 c2 (by have:=Nat.min_le_left d.depth e.depth;omega) ⟨.bl _,H,I,rfl,q⟩
end
theorem hu64 {A:Around} {k:Nat} (hr:Room k A):A.units+64<cLine:=by
 have:=hr.un
 omega
def yhT (K:PySem.W.Frag):R2:=fun x y H Q=>∃ l b xs zs,x = .ref l/\y = .ref b/\SqL K H l xs/\SqL K H b zs/\xs.length+zs.length<=sizeLine/\∀ p,H p=none->Q (.ref p) (upd H p (.lst (xs++zs)))
theorem ziS {X:Cx}:OpR X (binaryOp .Add) (yhT X.K):=by
 intro pins s σ H x y v u Q I rx ry h
 obtain ⟨l,b,xs,zs,rfl,rfl,hH,hB,hz,q⟩:=h
 cases rx
 cases ry
 obtain ⟨its,r,⟨o,n,e1,e2,e3,e4⟩,z⟩:=I.list hH
 obtain ⟨its2,r2,⟨o2,n2,g1,g2,g3,g4⟩,z2⟩:=I.list hB
 obtain ⟨oc,od,oda,osl⟩:=o
 obtain ⟨oc2,od2,oda2,osl2⟩:=o2
 dsimp only at e2 e3 e4 g2 g3 g4
 subst e2 e3 e4 g2 g3 g4
 have l1:=r.length
 have l2:=r2.length
 refine concat_meets ⟨_,e1,rfl⟩ ⟨_,g1,rfl⟩ noFill_list_add seq_list_add PySem.F.slot_list_add PySem.F.entry_list_add (PySem.F.args_list_add_2 _ _) (list_addW l b its.toArray its2.toArray n n2 none none osl osl2 (by rw [List.size_toArray,List.size_toArray];omega)) ⟨e1,g1,?_⟩
 have ea:its.toArray++its2.toArray=(its++its2).toArray:=by simp
 rw [ea]
 exact ⟨.ref s.heap.objs.size,_,I.lnew (t' := s.toks) (r.append r2) (by rw [List.length_append];exact hz),rfl,q _ I.fresh⟩
end L2
namespace L2
open PySem PySem.Spec PyProof.Rows
section
variable {X:Cx} {pins:List (Addr×Obj)} {σ:St} {H:Hp} {s:Shared}
open Classical in
def isD (h:Heap) (d:PyData) (v:Value):Bool:=if q:∃ e as,e.canLay0=true/\Reads h v e as then PyData.eqv q.choose d else false
theorem yfw {h:Heap} {d e:PyData} {v:Value} {as:List Addr} (c:e.canLay0=true) (r:Reads h v e as):isD h d v=PyData.eqv e d:=by
 have q:∃ e as,e.canLay0=true/\Reads h v e as:=⟨e,as,c,r⟩
 unfold isD
 rw [dif_pos q]
 obtain ⟨as',c',r'⟩:=q.choose_spec
 have z:q.choose=e:=by first | exact (Reads.unique _ _ r' r).1 | exact (Reads.unique r' r).1 | exact Reads.unique _ _ _ _ _ c' r' r | exact PySem.SeqAt.Reads.unique _ _ _ _ _ c' r' r | exact PySem.Reads.unique _ _ _ _ _ c' r' r
 rw [z]
theorem zfy (I:Inv X pins σ H s):∀ {xs:List V} {ds:List PyData} {us:List Value},DaVs X.K H xs ds->Vals xs us->us.length=ds.length/\∀ (j:Nat) u d,us[j]? = some u->ds[j]? = some d->∃ as,Reads s.heap u d as
 | _,_,_,.nil,r=>by cases r;exact ⟨rfl,fun j u d e=>by cases e⟩
 | _,_,_,.cons h1 h2,r=>by
  cases r with
  | cons r1 r2 =>
   obtain ⟨l,q⟩:=zfy I h2 r2
   refine ⟨by rw [List.length_cons,List.length_cons,l],fun j u d e1 e2=>?_⟩
   cases j with
   | zero=>cases e1;cases e2;exact h1.reads I r1
   | succ j=>exact q j u d e1 e2
theorem zfz {h:Heap} {d:PyData}:∀ {us:List Value} {ds:List PyData},us.length=ds.length->(∀ (j:Nat) u e,us[j]? = some u->ds[j]? = some e->isD h d u=PyData.eqv e d)->us.any (isD h d)=ds.any fun e=>PyData.eqv e d
 | [],[],_,_=>rfl
 | u::us,e::ds,hl,hh=>by
  rw [List.any_cons,List.any_cons,hh 0 u e rfl rfl,zfz (us:=us) (ds:=ds) (Nat.succ.inj hl) fun j u' e' a b=>hh (j+1) u' e' a b]
end
theorem zfA:∀ {xs:List Str} {us:List Value},Vals (xs.map V.str) us->∃ l:List (Str×Tok),us=strValues l/\l.map (·.1)=xs
 | [],_,r=>by cases r;exact ⟨[],rfl,rfl⟩
 | x::xs,_,r=>by
  cases r with
  | cons r1 r2 =>
   obtain ⟨t,rfl⟩:=r1
   obtain ⟨l,e1,e2⟩:=zfA r2
   exact ⟨(x,t)::l,by rw [e1];rfl,by rw [List.map_cons,e2]⟩
theorem zgm:∀ (xs:List Str),(Builtin.Str.glued Str.empty xs).cps.toList=(xs.map fun x=>x.cps.toList).flatten:=by
 have all:∀ (xs:List Str) (acc:Array Nat),(xs.foldl (fun acc p=>acc++Str.empty.cps++p.cps) acc).toList=acc.toList++(xs.map fun x=>x.cps.toList).flatten:=by
  intro xs
  induction xs with
  | nil=>intro acc;simp
  | cons x r ih =>
   intro acc
   rw [List.foldl_cons,ih]
   have e:(Str.empty.cps) = #[]:=rfl
   simp [e]
 intro xs
 unfold Builtin.Str.glued
 cases xs with
 | nil=>rfl
 | cons x r=>simp only [List.drop_succ_cons,List.drop_zero,List.headD_cons];rw [all];simp
theorem zc9:∀ (xs:List Str) (a:Nat),xs.foldl (fun n x=>n+x.length+Str.empty.length) a=a+((xs.map fun x=>x.cps.toList).flatten).length
 | [],a=>by simp
 | x::r,a=>by
  rw [List.foldl_cons,zc9 r]
  have e1:Str.empty.length=0:=rfl
  have e2:x.length=x.cps.toList.length:=by simp [Str.length]
  rw [e1,e2,List.map_cons,List.flatten_cons,List.length_append]
  omega
def yhU (K:PySem.W.Frag):V->List V->Hp->VK->Prop:=fun x vs H Q=>∃ (l:Addr) (xs:List Str),x = .str Str.empty/\vs=[.ref l]/\SqL K H l (xs.map V.str)/\((xs.map fun x:Str=>x.cps.toList).flatten).length<=1000000/\∀ r:Str,r.cps.toList=(xs.map fun x:Str=>x.cps.toList).flatten->Q (.str r) H
theorem ziT {X:Cx}:MtR X "str.join" (yhU X.K):=by
 intro pins s σ H x vs v us Q I rx rv h
 obtain ⟨l,xs,rfl,rfl,hq,hz,q⟩:=h
 obtain ⟨t,rfl⟩:=rx
 obtain ⟨u,rfl,ru⟩:=ydy rv
 cases ru
 obtain ⟨its,r,pl,_⟩:=I.list hq
 obtain ⟨ll,rfl,e2⟩:=zfA r
 have hok:JoinOk Str.empty xs=true:=by
  unfold JoinOk
  rw [Bool.not_eq_true']
  first
   | (rw [List.foldl_toArray,zc9,Nat.zero_add];unfold Builtin.Str.tooLong;exact decide_eq_false (Nat.not_lt.mpr (Nat.le_trans hz (by decide))))
   | (unfold joinFit;rw [List.foldl_toArray,zc9,Nat.zero_add];unfold Builtin.Str.tooLong;exact decide_eq_false (Nat.not_lt.mpr (Nat.le_trans hz (by decide))))
 exact SC.join pl.isList e2 hok fun t' k=>⟨.str _,H,I.tok _,⟨_,rfl⟩,q _ (zgm xs)⟩
end L2
namespace L2
open PySem PySem.Spec PyProof.Rows
section
variable {X:Cx} {tg:Expr}
theorem zcY (ns:List Int):∀ k,k<=ns.length->preSum (fun i=>(ns[i]?).getD 0) k=(ns.take k).sum
 | 0,_=>by simp [preSum]
 | k+1,h=>by
  show preSum _ k+(ns[k]?).getD 0=_
  rw [zcY ns k (by omega),List.take_succ,List.sum_append]
  congr 1
  rw [List.getElem?_eq_getElem (by omega)]
  simp
theorem zhV (hc:X.calm=true):CallR X (.builtin "sum") (fun xs H Q=>∃ (a:Addr) (ns:List Int),xs=[.ref a]/\SqL X.K H a (ns.map V.int)/\Q (.int ns.sum) H):=by
 intro pins s σ H xs us Q I r h
 obtain ⟨l,bs,rfl,hq,q⟩:=h
 obtain ⟨u,rfl,rx⟩:=ydy r
 cases rx
 obtain ⟨its,rv,pl,hz⟩:=I.list hq
 have hlt:l<s.heap.objs.size:=by obtain ⟨_,_,e,_⟩:=pl;exact Heap.lt_size e
 have hlen:its.length=bs.length:=by rw [<- rv.length,List.length_map]
 refine call_sum_walkAnyS (wpAny_pyIter_list pl.isList ?_)
 refine ⟨s.heap.objs.size,[s.heap.objs.size,l],[s.heap.objs.size],_,its.toArray.size,_,_,fun i=>(bs[i]?).getD 0,rfl,(Walks.list (prog:=X.prog) (w:=X.w) (A:=X.A.in1) (I.ok.hd hc) s.heap.objs.size l (Nat.ne_of_lt hlt) its.toArray).toS,
  ⟨⟨_,Heap.get?_push_size _ rfl,rfl,rfl⟩,pl.isList.push _⟩,fun b hb=>?_,fun i v hP=>?_,fun s' t' hm=>?_⟩
 ·rcases List.mem_cons.mp hb with rfl | hb
  ·exact Heap.lt_size (Heap.get?_push_size _ rfl)
  ·obtain rfl:=List.mem_singleton.mp hb
   obtain ⟨_,_,e,_⟩:=pl
   exact Heap.lt_size (Heap.get?_push_of_some _ e)
 ·have hP':its[i]? = some v:=by simpa using hP
  have hi:i<its.length:=(List.getElem?_eq_some_iff.mp hP').1
  have hb:(bs.map V.int)[i]? = some (V.int (bs[i]'(by omega))):=by rw [List.getElem?_map,List.getElem?_eq_getElem (by omega)];rfl
  obtain ⟨u,hu,ru⟩:=rv.get hb
  rw [hP'] at hu
  cases hu
  obtain ⟨t,rfl⟩:=ru
  refine ⟨t,?_⟩
  show Value.int _ t=Value.int ((bs[i]?).getD 0) t
  rw [List.getElem?_eq_getElem (by omega)];rfl
 ·obtain ⟨h',g',d',tk',os'⟩:=s'
  have e1:g'=s.gens:=hm.gens
  have e2:d'=s.drawn:=hm.drawn
  have e3:os'=s.os:=hm.os
  subst e1 e2 e3
  have e:preSum (fun i=>(bs[i]?).getD 0) its.toArray.size=bs.sum:=by
   rw [List.size_toArray,hlen,zcY bs _ (Nat.le_refl _),List.take_of_length_le (Nat.le_refl _)]
  rw [e]
  refine ⟨.int _,H,I.kept (t' := tk') fun b o q=>?_,⟨_,rfl⟩,q⟩
  exact hm.heap b o (fun hb=>by rw [List.mem_singleton.mp hb] at q;exact Nat.lt_irrefl _ (Heap.lt_size q)) (Heap.get?_push_of_some _ q)
def Itr3 (lo c:Int) (n:Nat):It:=⟨fun i _=>i<n,fun i H x H' => H'=H/\x = .int (lo+i*c),fun i _=>n<=i⟩
theorem zfa {P:Program} {w:World} {K:PySem.W.Frag} {tg:Expr} (it:Addr) (lo c:Int) (n:Nat):Turn P w K tg (Itr3 lo c n) [it] it (fun i h=>IsRangeIter h it (lo+(i:Nat)*c) ((n:Int)-(i:Nat)) c) where
 mem:=by simp
 obj:=fun i h st b hb=>by
  have e:b=it:=by simpa using hb
  subst e
  exact ⟨_,st,fun v z=>by
   have z':Data.fields _=Data.cell v:=z
   cases z'⟩
 keep:=fun i h h' st k=>k it (by simp) _ st
 item:=by
  intro X hP hw hK hc i pins s σ H E I hf st hg
  subst hP hw hK
  obtain ⟨f0,f1,f2,f3,f4,f5⟩:=hf it (by simp)
  have W:=Walks.range (prog:=X.prog) (w:=X.w) (I.ok.hd hc) it lo c n
  refine W.item i s _ _ hg st fun v h' tk hv st' kk=>?_
  obtain ⟨t,rfl⟩:=hv
  have I1:Inv X pins σ H { s with heap:=h',toks:=tk }:=I.turned (fun b o hb e=>kk b o (by simpa using hb) e) f0 f1 f3 f4 f5
  exact ⟨_,rfl,yeI (s:={ s with heap:=h',toks:=tk }) (n := "range_iterator") st' rfl rfl (by decide) ⟨.int (lo+i*c),H,I1,⟨t,rfl⟩,⟨rfl,rfl⟩,st',fun b hb=>(hf b hb).1⟩⟩
 done:=by
  intro X hP hw hK hc i pins s σ H E I hf st hg
  subst hP hw hK
  obtain ⟨f0,f1,f2,f3,f4,f5⟩:=hf it (by simp)
  exact wpAny_pyNext_range_end (I.ok.hd hc) st (by have:n<=i:=hg;omega) fun h' eb=>⟨rfl,I.turned (t' := s.toks) (fun b o hb e=>eb b o hb e) f0 f1 f3 f4 f5⟩
 self:=fun _ _ _ _ _ st h=>wpAny_pyIter_rangeiter st h
theorem zg0 {a b c:Int} (hc:0<c):Builtin.Range.rangeSize a b c=(((if a<b then (b-a-1) / c+1 else 0:Int).toNat:Nat):Int):=by
 unfold Builtin.Range.rangeSize
 rw [if_pos hc]
 split
 ·have:0<=(b-a-1) / c:=Int.ediv_nonneg (by omega) (by omega)
  omega
 ·rfl
theorem zbW {x:Int} (h:x.natAbs<2 ^ 42):Builtin.Range.rangeFitsLong x=true:=by
 have h2:x.natAbs<4398046511104:=h
 simp only [Builtin.Range.rangeFitsLong,Bool.and_eq_true,decide_eq_true_eq]
 omega
theorem zg1 {a b c:Int} (ha:a.natAbs<2 ^ 40) (hb:b.natAbs<2 ^ 40) (hc:0<c):(Builtin.Range.rangeSize a b c).natAbs<2 ^ 42:=by
 have ha2:a.natAbs<1099511627776:=ha
 have hb2:b.natAbs<1099511627776:=hb
 show _<4398046511104
 unfold Builtin.Range.rangeSize
 rw [if_pos hc]
 split
 ·have h1:0<=(b-a-1) / c:=Int.ediv_nonneg (by omega) (by omega)
  have h2:(b-a-1) / c<=b-a-1:=Int.ediv_le_self _ (by omega)
  generalize (b-a-1) / c=d at *
  omega
 ·decide
theorem zgn {a b c:Int} (ha:a.natAbs<2 ^ 40) (hb:b.natAbs<2 ^ 40) (hc:0<c) (hc':c<2 ^ 20):Builtin.Range.small a b c=true:=by
 have l:(2:Nat) ^ 40<2 ^ 42:=by decide
 unfold Builtin.Range.small
 rw [zbW (Nat.lt_trans ha l),zbW (Nat.lt_trans hb l),zbW (x:=c) (by have h2:c<1048576:=hc';show _<4398046511104;omega),zbW (zg1 ha hb hc),if_pos hc,zbW (x:=b+(c-1)) (by have h2:c<1048576:=hc';have h3:b.natAbs<1099511627776:=hb;show _<4398046511104;omega)]
 simp
def yhV (ta:TA):TI:=fun σ H R=>ta σ H fun vs H1=>∃ i j c:Int,vs=[.int i,.int j,.int c]/\(i.natAbs<2 ^ 40/\j.natAbs<2 ^ 40/\0<c/\c<2 ^ 20)/\R (Itr3 i c (if i<j then (j-i-1) / c+1 else 0:Int).toNat) H1
theorem zg2 {pins:List (Addr×Obj)} {σ:St} {H:Hp} {s:Shared} {R:It->Hp->Prop} {E:Value->Shared->Prop} {lo hi c:Int} {t u v:Tok} {tk:Nat} (I:Inv X pins σ H s) (h1:lo.natAbs<2 ^ 40) (h2:hi.natAbs<2 ^ 40) (h3:0<c) (h4:c<2 ^ 20)
  (q:R (Itr3 lo c (if lo<hi then (hi-lo-1) / c+1 else 0:Int).toNat) H):wpAny (model X.prog X.w) X.A (pyIter (.ref s.heap.objs.size)) (PIE X pins σ tg R) E { s with heap:=s.heap.push { cls:=.type "range",data:=.fields #[.int lo t,.int hi u,.int c v] },toks:=tk }:=by
 refine wpAny_pyIter_range (IsRange.new ..) (zgn h1 h2 h3 h4) ?_
 have I1:Inv X pins σ H { s with heap:=s.heap.push { cls:=.type "range",data:=.fields #[.int lo t,.int hi u,.int c v] },toks:=tk }:=I.kept fun b o e=>Heap.get?_push_of_some _ e
 refine ⟨(s.heap.push { cls:=.type "range",data:=.fields #[.int lo t,.int hi u,.int c v] }).objs.size,[(s.heap.push { cls:=.type "range",data:=.fields #[.int lo t,.int hi u,.int c v] }).objs.size],_,_,H,rfl,
  I1.kept (t' := tk) fun b o e=>Heap.get?_push_of_some _ e,zfa _ lo c (if lo<hi then (hi-lo-1) / c+1 else 0:Int).toNat,?_,fun b hb=>?_,q⟩
 ·have e1:lo+((0:Nat):Int)*c=lo:=by simp
  have e2:(((if lo<hi then (hi-lo-1) / c+1 else 0:Int).toNat:Nat):Int)-((0:Nat):Int)=Builtin.Range.rangeSize lo hi c:=by rw [zg0 h3];omega
  show IsRangeIter _ _ (lo+((0:Nat):Int)*c) ((((if lo<hi then (hi-lo-1) / c+1 else 0:Int).toNat:Nat):Int)-((0:Nat):Int)) c
  rw [e1,e2]
  exact Heap.get?_push_size _ rfl
 ·have e:b=(s.heap.push { cls:=.type "range",data:=.fields #[.int lo t,.int hi u,.int c v] }).objs.size:=by simpa using hb
  subst e
  exact I1.fpOk (Nat.le_refl _) (I1.hok.fresh (Nat.le_refl _))
theorem zg3 {a b c:Expr} {ta:TA} {p pos:Pos} (hg:Gl X "range") (hm:X.mg "range" = none) (ha:PA X [a,b,c] ta) (hs:starEach [a,b,c] X.env=[(false,eval a X.env),(false,eval b X.env),(false,eval c X.env)]:=by rfl) (hs2:starEach [b,c] X.env=[(false,eval b X.env),(false,eval c X.env)]:=by rfl) :
  PI X tg (.Call (.Name "range" p) [a,b,c] [] pos) (yhV ta):=by
 intro pins s σ H R I h
 refine Call_ (yeq I hg hm boot_range (PyProof.Rows.callWith_type1 (thn (ha pos pins s σ H _ I h) fun us s1 ⟨vs,H1,I1,r1,q1⟩=>?_) (by rw [hs,hs2]) (by rw [hs2];rfl)))
 obtain ⟨i,j,c,e,⟨q1,q2,q3,q4⟩,q⟩:=q1
 subst e
 cases r1 with
 | cons r rr =>
  cases rr with
  | cons r' rr =>
   cases rr with
   | cons r'' rr =>
    cases rr
    obtain ⟨t,rfl⟩:=r
    obtain ⟨t',rfl⟩:=r'
    obtain ⟨t'',rfl⟩:=r''
    exact call_range_3 (by omega) (zg2 I1 q1 q2 q3 q4 q) (.inl (PyProof.noPylong_small (by omega)))
end
end L2
namespace L2
open PySem PySem.Spec PyProof.Rows
open PySem.Builtin PySem.Builtin.Str
section
variable {X:Cx}
def cutS (z:Str) (lo hi:Option Int):Str:=⟨((z.cps.toList.drop (HT.sIx z.cps.toList.length 0 lo)).take (HT.sIx z.cps.toList.length z.cps.toList.length hi-HT.sIx z.cps.toList.length 0 lo)).toArray⟩
theorem zbQ (n d:Nat) (i:Int):max 0 (min (if i<0 then i+(n:Int) else i) (n:Int))=((HT.sIx n d (some i):Nat):Int):=by
 show max 0 (min (if i<0 then i+(n:Int) else i) (n:Int))=(((if i<0 then (i+(n:Int)).toNat else min i.toNat n):Nat):Int)
 split<;>omega
theorem zb5 {a b:Int} {A B:Nat} (ha:a=A) (hb:b=B):sliceRange a b 1=(List.range (B-A)).map fun k=>A+k:=by
 subst ha hb
 unfold sliceRange
 simp only [show (1:Int) > 0 by decide,if_true]
 have:(if (A:Int)<(B:Int) then ((B:Int)-A+1-1) / 1 else 0).toNat=B-A:=by
  split<;>(try simp only [Int.ediv_one])<;>omega
 rw [this]
 apply List.map_congr_left
 intro k _
 omega
theorem zhW (xs:List Nat) (i k:Nat):(List.range k).filterMap (fun m=>xs[i+m]?)=(xs.drop i).take k:=by
 induction k generalizing i with
 | zero=>simp
 | succ k ih =>
  rw [List.range_succ_eq_map,List.filterMap_cons,List.filterMap_map]
  have e:((fun m=>xs[i+m]?) ∘ Nat.succ)=fun m=>xs[(i+1)+m]? := by
   funext m;show xs[i+(m+1)]? = _;congr 1;omega
  rw [e,ih (i+1)]
  cases h:xs[i]? with
  | none =>
   have hl:xs.length<=i:=List.getElem?_eq_none_iff.mp h
   simp only [Nat.add_zero,h]
   rw [List.drop_of_length_le (by omega),List.drop_of_length_le hl];simp
  | some v =>
   have hi:=(List.getElem?_eq_some_iff.mp h).1
   simp only [Nat.add_zero,h]
   rw [List.drop_eq_getElem_cons hi,List.take_succ_cons]
   congr 1
   exact (Option.some.inj ((List.getElem?_eq_getElem hi).symm.trans h)).symm
theorem zgo (n:Nat) (lo hi:Option Int):strSliceIndices lo hi 1 n=(List.range (HT.sIx n n hi-HT.sIx n 0 lo)).map fun k=>HT.sIx n 0 lo+k:=by
 cases lo with
 | none =>
  cases hi with
  | none=>exact zb5 rfl rfl
  | some j=>exact zb5 rfl (zbQ n n j)
 | some i =>
  cases hi with
  | none=>exact zb5 (zbQ n 0 i) rfl
  | some j=>exact zb5 (zbQ n 0 i) (zbQ n n j)
theorem zhX (z:Str) (lo hi:Option Int):Txt.slice z lo hi=cutS z lo hi:=by
 have hz:z.length=z.cps.toList.length:=by simp [Str.length]
 unfold Txt.slice cutS
 rw [hz,zgo,List.filterMap_map]
 have e:((fun x=>z.cps[x]?) ∘ fun k=>HT.sIx z.cps.toList.length 0 lo+k)=fun m=>z.cps.toList[HT.sIx z.cps.toList.length 0 lo+m]? := by
  funext m;simp
 rw [e,zhW]
 split
 ·rename_i hc
  simp only [beq_self_eq_true,Bool.true_and,beq_iff_eq,List.length_map,List.length_range] at hc
  have h1:HT.sIx z.cps.toList.length z.cps.toList.length hi<=z.cps.toList.length:=HT.sIx_le _ _ (Nat.le_refl _) _
  have h2:HT.sIx z.cps.toList.length 0 lo=0\/z.cps.toList.length=0:=by omega
  rw [hc]
  rcases h2 with h2 | h2
  ·rw [h2,List.drop_zero,List.take_of_length_le (Nat.le_refl _)]
  ·have:z.cps.toList=[]:=List.eq_nil_of_length_eq_zero h2
   have h3:z.cps = #[]:=by simpa using this
   simp [h3]
   cases z;simp_all
 ·rfl
theorem zdx {v:Value} {o:Option Int} (p:IsPart v o):∃ l:Option (Int×Tok),v=partValue l/\l.map (·.1)=o:=by
 cases p with
 | none=>exact ⟨none,rfl,rfl⟩
 | int i t=>exact ⟨some (i,t),rfl,rfl⟩
theorem ygM:SlR X (fun x lo hi H Q=>∃ z,x = .str z/\z.length<=sizeLine/\Q (.str (cutS z lo hi)) H):=by
 intro pins s σ H x v vl vu lo hi sl Q I rx hs pl pu h
 obtain ⟨z,rfl,hz,q⟩:=h
 obtain ⟨t,rfl⟩:=rx
 obtain ⟨l,rfl,rfl⟩:=zdx pl
 obtain ⟨u,rfl,rfl⟩:=zdx pu
 refine ⟨"str",_,F.slot_str_getitem.lookup,typeIs_str _ _ _,?_⟩
 refine wpAny_getItem_str_slice (l:=l) (u:=u) (st:=none) hs rfl ?_
 refine post_val_or_str ⟨Nat.le_trans (Txt.slice_le z (l.map (·.1)) (u.map (·.1))) hz,fun t' k=>?_⟩
 have e:=zhX z (l.map (·.1)) (u.map (·.1))
 refine ⟨.str (cutS z (l.map (·.1)) (u.map (·.1))),H,I.tok _,⟨t',?_⟩,q⟩
 rw [<- e];rfl
def revS (z:Str):Str:=⟨z.cps.toList.reverse.toArray⟩
def yf8 (r r' r'':R2) (ta tb tc td:TE):TE:=fun σ H Q=>ta σ H fun x H1=>tb σ H1 fun y H2=>r x y H2 fun z H3=>∃ k,z = .bl k /\
 (if k=true then tc σ H3 fun w' H4=>r' y w' H4 fun z2 H5=>∃ k2,z2 = .bl k2/\(if k2=true then td σ H5 fun v' H6=>r'' w' v' H6 Q else Q (.bl false) H5) else Q (.bl false) H3)
theorem zg4 {a b c d:Expr} {ta tb tc td:TE} {pos:Pos} {op op' op'':CmpOp} {r r' r'':R2} (ho:OpR X (compareOp op) r) (ho':OpR X (compareOp op') r') (ho'':OpR X (compareOp op'') r'') (ha:PE X a ta) (hb:PE X b tb) (hc:PE X c tc) (hd:PE X d td)
  (hm:lastMarks [op,op',op''] [b,c,d]=false:=by with_unfolding_all rfl):PT X (.Compare a [op,op',op''] [b,c,d] pos) (ye9 (yf8 r r' r'' ta tb tc td)):=by
 intro pins s σ H Q I h
 refine isTrue_chain (thn (ha pins s σ H _ I h) fun v s1 ⟨x,H1,I1,r1,q1⟩=>test_link (thn (hb pins s1 σ H1 _ I1 q1) fun u s2 ⟨y,H2,I2,r2,q2⟩ =>
  thn (ho pins s2 σ H2 x y v u _ I2 r1 r2 q2) fun d s3 ⟨z,H3,I3,r3,k,e,q3⟩=>?_)) hm
 subst e
 cases r3
 refine wpAny_truthy_bool ?_
 cases k with
 | false =>
  obtain ⟨k',e',q'⟩:=q3
  cases e'
  exact ite_ff ⟨H3,I3,q'⟩
 | true =>
  refine ite_tt (test_link (thn (hc pins s3 σ H3 _ I3 q3) fun w' s4 ⟨z',H4,I4,r4,q4⟩=>thn (ho' pins s4 σ H4 y z' u w' _ I4 r2 r4 q4) fun d' s5 ⟨z2,H5,I5,r5,k2,e2,q5⟩=>?_))
  subst e2
  cases r5
  refine wpAny_truthy_bool ?_
  cases k2 with
  | false =>
   obtain ⟨k',e',q'⟩:=q5
   cases e'
   exact ite_ff ⟨H5,I5,q'⟩
  | true =>
   refine ite_tt (test_last (thn (hd pins s5 σ H5 _ I5 q5) fun w2 s6 ⟨z3,H6,I6,r6,q6⟩=>thn (ho'' pins s6 σ H6 z' z3 w' w2 _ I6 r4 r6 q6) fun d2 s7 ⟨z4,H7,I7,r7,k3,e3,q7⟩=>?_))
   subst e3
   cases r7
   exact wpAny_truthy_bool ⟨H7,I7,q7⟩
def repS (z:Str) (n:Nat):Str:=⟨((List.replicate n z.cps.toList).flatten).toArray⟩
theorem ziU {z:Str} {n:Int} (h2:2<=n) (hz:1<=z.length):Txt.mul z n=repS z n.toNat:=by
 unfold Txt.mul repS
 rw [if_neg (by omega),if_neg (by simp;omega)]
 have:=zgZ (List.replicate n.toNat z.cps) #[]
 rw [List.map_replicate] at this
 have e:(List.replicate n.toNat z.cps).foldl (· ++ ·) #[]=((List.replicate n.toNat z.cps.toList).flatten).toArray:=by
  apply Array.toList_inj.mp
  rw [this];simp
 rw [e]
end
end L2
namespace L2
open PySem PySem.Spec PyProof.Rows
def ya3 (X:Cx) (pins:List (Addr×Obj)) (x₁ x₂:Str) (jf:List (Nat×Str)) (scope:Scope) (cl:List (Str×Addr)) (s:Shared) (H:Hp) (fp:List Addr):Cx where
 prog:=X.prog
 w:=X.w
 K:=X.K
 mg:=X.mg
 base:=X.base
 A:=X.A
 N:=x₁::x₂::jf.map (·.2)
 s₀:=s
 H₀:=H
 env:=compEnvC scope cl s.heap.objs.size X.env
 outer:=X.stack
 stack:=X.stack
 ex:=fp
 fn:=fun _=>false
 calm:=X.calm
 pn:=X.pn++pins
 xe:=fun _ _=>False
def ybh (v v2:Option V) (js:List (Nat×Str)) (σ:St):St:=v::v2::js.map fun j=>(σ[j.1]?).join
def yeu (K:PySem.W.Frag) (jf:List (Nat×Str)) (wi:TI) (tc:TT) (te:TE):TE:=fun σ H Q=>wi σ H fun J H1=>∀ D,H1 D=none->∃ W:Nat->Nat->List V->Hp->Prop,(∃ m,W 0 m [] (upd H1 D (.lst []))) /\
 ∀ i m ys H2,W i m ys H2->H2 D=some (.lst ys)/\((J.stop i H2/\Q (.ref D) H2)\/(J.go i H2/\ys.length<sizeLine/\∀ x H3,J.yld i H2 x H3->∃ a u v,x = .ref a/\SqT K H3 a [u,v]/\tc (ybh (some u) (some v) jf σ) H3 fun b H5 =>
  if b=true then te (ybh (some u) (some v) jf σ) H5 fun w H6=>H6 D=some (.lst ys)/\∃ m',m'<m/\W (i+1) m' (ys++[w]) (upd H6 D (.lst (ys++[w]))) else ∃ m',m'<m/\W (i+1) m' ys H5))
section
variable {X:Cx} {pins:List (Addr×Obj)} {σ:St} {H:Hp} {s:Shared} {x₁ x₂:Str} {jf:List (Nat×Str)} {scope:Scope} {fp:List Addr}
theorem Inv.block2 {h1:Heap} {tk:Nat} (I:Inv X pins σ H s) (hf:∀ b∈fp,FpOk X pins H b) (hlt:∀ b∈fp,b<s.heap.objs.size) (hjf:∀ p∈jf,X.N[p.1]? = some p.2) (hjl:∀ p∈jf,scope.names.lookup p.2=some .free) (hkind:scope.kind = .function)
  (hcell:∀ y∈scope.names,y.2 ≠ .cell) (hfr:∀ y∈scope.names,y.2 = .free->X.env.kindOf y.1=some .cell\/X.env.kindOf y.1=some .free)
  (hn:h1.Ns s.heap.objs.size (fun _=>none)) (hk:∀ b o,s.heap.get? b=some o->h1.get? b=some o) :
  Inv (ya3 X pins x₁ x₂ jf scope (yav X.env scope.names []) s H fp) [] (ybh none none jf σ) H { s with heap:=h1,toks:=tk }:=by
 have hsome:∀ y∈scope.names,y.2 = .free->(X.env.cells.lookup y.1).isSome=true:=fun y hy hyf=>Option.isSome_iff_exists.mpr (I.ok.has y.1 (hfr y hy hyf))
 have sub:∀ y c,(yav X.env scope.names []).lookup y=some c->X.env.cells.lookup y=some c:=zbJ hsome (fun y c e=>by simp at e)
 have hsz:=I.sz
 have inE:∀ b,b∈(ya3 X pins x₁ x₂ jf scope (yav X.env scope.names []) s H fp).ex->b∈fp:=fun b z=>z
 have stk:∀ b∈frs X.stack,b<s.heap.objs.size:=fun b hb=>by
  obtain ⟨_,o,ho,_⟩:=I.stack.mem hb
  exact Heap.lt_size ho
 refine ⟨⟨I.ok.mod,hkind,I.ok.glob,I.ok.blt,Nat.le_refl _,fun y z c e1 e2=>I.ok.inj y z c (sub y c e1) (sub z c e2),fun y hy=>?_,fun y c hfn _=>(by cases hfn),I.ok.hd,I.ok.frames,.inl rfl,fun b hb=>?_,fun b o e=>I.bs b o e,Nat.le_trans I.ok.bsz hsz,fun b o e z=>?_,fun b hb z=>?_,I.stack,I.stkFree⟩,
  rfl,I.bare,Un.kept hk,⟨_,hn,fun i y v e1 e2 e3=>?_⟩,fun y c e=>?_,I.hok.fresh (Nat.le_refl _),fun y c e=>I.freeC y c (sub y c e),fun p hp=>?_,I.hok.kept hk,?_⟩
 ·have hy':(relabel scope X.env).names.lookup y=some .cell\/(relabel scope X.env).names.lookup y=some .free:=hy
  have mem:(y,NameKind.free)∈scope.names:=by
   rcases hy' with q | q
   ·rcases zaB (env:=X.env) q with z | z
    ·exact absurd rfl (hcell _ (zas z))
    ·exact zas z.2
   ·rcases zaB (env:=X.env) q with z | z
    ·exact zas z
    ·exact zas z.2
  exact Option.isSome_iff_exists.mp (zbK (.inl mem))
 ·exact ⟨Nat.ne_of_lt (hlt b hb),fun y c e=>(hf b hb).2.2.2.2.1 y c (sub y c e)⟩
 ·rcases (hf b z).2.2.2.1 with q | q
  ·exact I.ok.noex b o e q
  ·exact absurd (Nat.lt_of_lt_of_le (Heap.lt_size e) (Nat.le_trans I.ok.bsz q)) (Nat.lt_irrefl _)
 ·rcases List.mem_cons.mp (I.stkSub b z) with q | q
  ·exact (hf b hb).2.1 q
  ·exact (hf b hb).2.2.1 q
 ·have e1':(x₁::x₂::jf.map (·.2))[i]? = some y:=e1
  unfold ybh at e2
  cases i with
  | zero=>cases e2
  | succ i=>cases i with
   | zero=>cases e2
   | succ i =>
   rw [List.getElem?_cons_succ,List.getElem?_cons_succ,List.getElem?_map] at e1' e2
   cases q:jf[i]? with
   | none=>rw [q] at e2;cases e2
   | some p =>
    rw [q] at e1' e2
    have ey:p.2=y:=Option.some.inj e1'
    have ev:(σ[p.1]?).join=some v:=Option.some.inj e2
    have hp:p∈jf:=List.mem_of_getElem? q
    have eσ:σ[p.1]? = some (some v):=by
     cases z:σ[p.1]? with
     | none=>rw [z] at ev;cases ev
     | some r=>rw [z] at ev;rw [show r=some v from ev]
    have hfree:scope.names.lookup y=some .free:=by rw [<- ey];exact hjl p hp
    have mem:=zas hfree
    have kX:=hfr _ mem rfl
    obtain ⟨m,hnX,hl⟩:=I.loc
    obtain ⟨u,ru,lk⟩:=hl p.1 y v (by rw [<- ey];exact hjf p hp) eσ (by
     rcases kX with z | z
     ·exact .inr (.inl z)
     ·exact .inr (.inr z))
    refine ⟨u,ru,.inr ⟨?_,?_⟩⟩
    ·have e3':Vis (relabel scope X.env) y:=e3
     rcases e3' with z | z | z
     ·exfalso
      rcases zaB (env:=X.env) z with q | q
      ·rw [hfree] at q;cases q
      ·cases q.1
     ·exact .inl z
     ·exact .inr z
    ·rcases lk with ⟨z,_⟩ | ⟨_,c,hc,hcell'⟩
     ·exfalso
      rcases kX with q | q
      ·rw [show X.env.kindOf y=some .cell from q] at z;cases z
      ·rw [show X.env.kindOf y=some .free from q] at z;cases z
     ·obtain ⟨c',hc'⟩:=Option.isSome_iff_exists.mp (zbK (env:=X.env) (acc:=[]) (.inl mem))
      have e:=sub y c' hc'
      rw [hc] at e
      cases e
      obtain ⟨o,ho,hd⟩:=hcell'
      exact ⟨c,hc',o,hk c o ho,hd⟩
 ·obtain ⟨v,o,ho,hd⟩:=I.cell y c (sub y c e)
  exact ⟨v,o,hk c o ho,hd⟩
 ·have hp':p∈X.pn++pins:=by simpa [ya3] using hp
  obtain ⟨e,n,ne,nf,d⟩:=I.pin p hp'
  refine ⟨hk _ _ e,n,Nat.ne_of_lt (Heap.lt_size e),fun z=>?_,d⟩
  rcases List.mem_cons.mp (I.stkSub p.1 z) with q | q
  ·exact ne q
  ·exact nf q
 ·unfold ybh
  show _=(x₁::x₂::jf.map (·.2)).length
  simp
end
section
variable {X:Cx} {x₁ x₂:Str} {px p1 p2:Pos} {kk:Nat} {jf:List (Nat×Str)} {scope:Scope} {iter elt:Expr} {ifs:List Expr} {pos:Pos} {wi:TI} {tc:TT} {te:TE}
theorem zg5 (hcalm:X.calm=true) (hi:PI X (.Tuple [.Name x₁ p1,.Name x₂ p2] kk px) iter wi) (hc:∀ pins cl s H fp,PTs (ya3 X pins x₁ x₂ jf scope cl s H fp) ifs tc) (he:∀ pins cl s H fp,PE (ya3 X pins x₁ x₂ jf scope cl s H fp) elt te)
  (hN:(x₁::x₂::jf.map (·.2)).Nodup) (hx:scope.names.lookup x₁=some .local) (hx2:scope.names.lookup x₂=some .local) (hjf:∀ p∈jf,X.N[p.1]? = some p.2) (hjl:∀ p∈jf,scope.names.lookup p.2=some .free) (hkind:scope.kind = .function)
  (hcell:∀ y∈scope.names,y.2 ≠ .cell) (hfr:∀ y∈scope.names,y.2 = .free->X.env.kindOf y.1=some .cell\/X.env.kindOf y.1=some .free)
  (hnames:∀ y∈scope.names,y.2 = .local->scope.names.lookup y.1=some .local) {use:Option (Value->Sem Unit)} {Qf:Value->Shared->Prop} {cpos:Pos}
  {pins:List (Addr×Obj)} {σ:St} {H:Hp} {s:Shared} {Q:VK} (I:Inv X pins σ H s) (h:yeu X.K jf wi tc te σ H Q)
  (fin:∀ D C s6 H6 m6,Inv X pins σ H6 s6->Q (.ref D) H6->FpOk X pins H6 C->s6.heap.Ns C m6->compPost (model X.prog X.w) X.A X.xe use Qf (.ref D) C (.ok .next) s6) (hs:∀ x,foldedSetIterable iter X.env x=pure x) :
  wpAny (model X.prog X.w) X.A (comprehension (.ListComp elt [⟨.Tuple [.Name x₁ p1,.Name x₂ p2] kk px,iter,ifs,0⟩] scope pos) scope X.env cpos (newList []) false (eval iter X.env) use) Qf X.xe s:=by
 have hsome:∀ y∈scope.names,y.2 = .free->(X.env.cells.lookup y.1).isSome=true:=fun y hy hyf=>Option.isSome_iff_exists.mpr (I.ok.has y.1 (hfr y hy hyf))
 refine wpAny_comprehension_free (use:=use) rfl hs (zdw hsome) hkind hnames (thn (hi pins s σ H _ I h) fun xv s1 h1=>thn h1 fun itv s2 h2=>?_)
 obtain ⟨it,fp,tn,J,H2,e,I2,T,st2,f2,h⟩:=h2
 subst e
 refine wpAny_newObj_type (wpAny_newFunctionEnv hcell (by intro y hy;simp at hy) (fun h₁ hns₁ hsb₁=>?_) hkind)
 have hD0:H2 s2.heap.objs.size=none:=I2.hok.fresh (Nat.le_refl _)
 obtain ⟨W,⟨m0,w0⟩,step⟩:=h s2.heap.objs.size hD0
 dsimp only at hns₁ hsb₁ ⊢
 have I3:Inv X pins σ (upd H2 s2.heap.objs.size (.lst [])) { s2 with heap:=s2.heap.push { cls:=.type "list",dict:=none,data:=.seq ([]:List Value).toArray } } :=
  I2.laid (t' := s2.toks) (fun b u q=>Heap.get?_push_of_some _ q) (Nat.le_refl _) ⟨Nat.zero_le _,[],0,.nil,Heap.get?_push_size _ rfl⟩
 generalize hH3:s2.heap.push { cls:=.type "list",dict:=none,data:=.seq ([]:List Value).toArray }=hp3 at hns₁ hsb₁ I3 ⊢
 have hsz3:hp3.objs.size=s2.heap.objs.size+1:=by rw [<- hH3,Heap.size_push]
 have k23:∀ b o,s2.heap.get? b=some o->hp3.get? b=some o:=fun b o q=>by rw [<- hH3];exact Heap.get?_push_of_some _ q
 have flt:∀ b∈fp,b<s2.heap.objs.size:=fun b hb=>by
  obtain ⟨o,q,_⟩:=T.obj 0 _ st2 b hb
  exact Heap.lt_size q
 have f3:∀ b∈fp,FpOk X pins (upd H2 s2.heap.objs.size (.lst [])) b:=fun b hb=>by
  obtain ⟨g0,g⟩:=f2 b hb
  exact ⟨by rw [yaN (Nat.ne_of_lt (flt b hb))];exact g0,g⟩
 have kC:∀ b o,hp3.get? b=some o->h₁.get? b=some o:=fun b o q=>(hsb₁.2 b (Nat.ne_of_lt (Heap.lt_size q))).trans (Heap.get?_push_of_some _ q)
 have B0:=I3.block2 (x₁:=x₁) (x₂:=x₂) (jf:=jf) (scope:=scope) (fp:=fp) (h1:=h₁) (tk:=s2.toks+([]:List (Str×Value)).length) f3 (fun b hb=>by show b<hp3.objs.size;rw [hsz3];exact Nat.lt_succ_of_lt (flt b hb)) hjf hjl hkind hcell hfr (by simpa using hns₁) kC
 have st4:tn 0 h₁:=T.keep _ _ _ st2 fun b _ o q=>kC b o (k23 b o q)
 have w0' := w0
 have stat:∀ {H':Hp},(∀ b∈fp,H' b=none)->∀ b∈fp,FpOk (ya3 X pins x₁ x₂ jf scope (yav X.env scope.names []) { s2 with heap:=hp3 } (upd H2 s2.heap.objs.size (.lst [])) fp) [] H' b:=fun hn b hb=>by
  obtain ⟨_,g1,g2,g3,g4,g5⟩:=f2 b hb
  refine ⟨hn b hb,Nat.ne_of_lt (by show b<hp3.objs.size;rw [hsz3];exact Nat.lt_succ_of_lt (flt b hb)),fun z=>?_,.inl hb,fun y c q=>g4 y c (zbJ hsome (fun y c e=>by simp at e) y c q),fun p hp=>g5 p (by simpa [ya3] using hp)⟩
  rcases List.mem_cons.mp (I2.stkSub b z) with q | q
  ·exact g1 q
  ·exact g2 q
 have loop:codeAny (model X.prog X.w) X.A (.compLoop (.ListComp elt [⟨.Tuple [.Name x₁ p1,.Name x₂ p2] kk px,iter,ifs,0⟩] scope pos) 0 (.ref it) (.ref s2.heap.objs.size) (compEnvC scope (yav X.env scope.names []) hp3.objs.size X.env))
   (compPost (model X.prog X.w) X.A X.xe use Qf (.ref s2.heap.objs.size) hp3.objs.size) { s2 with heap:=h₁,toks:=s2.toks+([]:List (Str×Value)).length }:=by
  refine zcq (fun n s' => ∃ i ys H',Inv (ya3 X pins x₁ x₂ jf scope (yav X.env scope.names []) { s2 with heap:=hp3 } (upd H2 s2.heap.objs.size (.lst [])) fp) [] (ybh none none jf σ) H' s'/\tn i s'.heap/\(∀ b∈fp,H' b=none)/\W i n ys H') ?_ m0
   ⟨0,[],_,B0,st4,fun b hb=>(f3 b hb).1,w0⟩
  rintro n s5 ⟨i,ys,H5,I5,st5,fr5,w5⟩
  obtain ⟨hD5,alt⟩:=step i n ys H5 w5
  rcases alt with ⟨stop,q5⟩ | ⟨go,hlen,next⟩
  ·refine wpAny_mono (T.done (ya3 X pins x₁ x₂ jf scope (yav X.env scope.names []) { s2 with heap:=hp3 } (upd H2 s2.heap.objs.size (.lst [])) fp) rfl rfl rfl hcalm i [] s5 _ H5 (fun _ _=>False) I5 (stat fr5) st5 stop) (fun r s6 ⟨hr,I6⟩=>?_) fun _ _ z=>z
   subst hr
   obtain ⟨m6,hn6,_⟩:=id I6.loc
   refine fin _ _ s6 H5 m6 ?_ q5 (I3.fpOk (Nat.le_refl _) I6.free) hn6
   refine I3.call' (ch:=fp) I6.os I6.base I6.hok I6.bare (fun b hb=>?_)
   obtain ⟨_,g1,g2,g3,g4,g5⟩:=f2 b hb
   exact ⟨g3,g1,g4,g5⟩
  ·refine wpAny_mono (T.item (ya3 X pins x₁ x₂ jf scope (yav X.env scope.names []) { s2 with heap:=hp3 } (upd H2 s2.heap.objs.size (.lst [])) fp) rfl rfl rfl hcalm i [] s5 _ H5 (fun _ _=>False) I5 (stat fr5) st5 go) (fun r s6 ⟨u,hr,h6⟩=>?_) fun _ _ z=>z
   subst hr
   refine wpAny_mono h6 (fun _ s7 ⟨x,H7,I7,r7,y7,st7,fr7⟩=>?_) fun _ _ z=>z
   have I7' := I7.pinned (stat fr7) (T.obj _ _ st7)
   have hloc:Loc (ya3 X pins x₁ x₂ jf scope (yav X.env scope.names []) { s2 with heap:=hp3 } (upd H2 s2.heap.objs.size (.lst [])) fp).env.scope x₁:=.inl (lookup_relabel_local hx)
   have hloc2:Loc (ya3 X pins x₁ x₂ jf scope (yav X.env scope.names []) { s2 with heap:=hp3 } (upd H2 s2.heap.objs.size (.lst [])) fp).env.scope x₂:=.inl (lookup_relabel_local hx2)
   obtain ⟨a8,u1,u2,rfl,sq8,q8⟩:=next x H7 y7
   have PGt:PG (ya3 X pins x₁ x₂ jf scope (yav X.env scope.names []) { s2 with heap:=hp3 } (upd H2 s2.heap.objs.size (.lst [])) fp) (.Tuple [.Name x₁ p1,.Name x₂ p2] kk px) (gTup X.K 2 (ye8 (yeg 0) (ye8 (yeg 1) gNil))) :=
    yfn hcalm (zc6 (zcI hN rfl hloc (.inr (lookup_relabel_local hx))) (zc6 (zcI hN rfl hloc2 (.inr (lookup_relabel_local hx2))) zfq))
   refine wpAny_mono (PGt ([]++ybY fp s7.heap) s7 _ H7 (.ref a8) _ (fun σ' H' => σ'=ybh (some u1) (some u2) jf σ/\H7=H') I7' r7 ⟨a8,[u1,u2],rfl,sq8,rfl,u1,[u2],rfl,u2,[],rfl,rfl,rfl,rfl⟩) (fun _ s8 ⟨σ8,H8,I8,e8,e8'⟩=>?_) fun _ _ z=>z
   subst e8 e8'
   have I8':Inv (ya3 X pins x₁ x₂ jf scope (yav X.env scope.names []) { s2 with heap:=hp3 } (upd H2 s2.heap.objs.size (.lst [])) fp) ([]++ybY fp s7.heap) (ybh (some u1) (some u2) jf σ) H7 s8:=I8
   have again:∀ {s9:Shared} {H9:Hp} {zs:List V} {m':Nat},Inv (ya3 X pins x₁ x₂ jf scope (yav X.env scope.names []) { s2 with heap:=hp3 } (upd H2 s2.heap.objs.size (.lst [])) fp) ([]++ybY fp s7.heap) (ybh (some u1) (some u2) jf σ) H9 s9->m'<n->W (i+1) m' zs H9 ->
     ∃ m,m<n/\∃ i ys H',Inv (ya3 X pins x₁ x₂ jf scope (yav X.env scope.names []) { s2 with heap:=hp3 } (upd H2 s2.heap.objs.size (.lst [])) fp) [] (ybh none none jf σ) H' s9/\tn i s9.heap/\(∀ b∈fp,H' b=none)/\W i m ys H' := fun {s9 H9 zs m'} I9 hm w9=>by
    refine ⟨m',hm,i+1,zs,H9,I9.unpinned.weak (by simp [ybh]) (fun j v e=>?_),T.keep _ _ _ st7 fun b hb o e=>(I9.pin (b,o) (List.mem_append_right _ (List.mem_append_right _ (zaZ hb e)))).1,fun b hb=>?_,w9⟩
    ·cases j with
     | zero=>simp [ybh] at e
     | succ j=>cases j with
      | zero=>simp [ybh] at e
      | succ j=>simpa [ybh] using e
    ·obtain ⟨o,e,d⟩:=T.obj _ _ st7 b hb
     exact (I9.pin (b,o) (List.mem_append_right _ (List.mem_append_right _ (zaZ hb e)))).2.1
   refine wpAny_mono (hc pins _ _ _ fp ([]++ybY fp s7.heap) s8 _ H7 _ I8' q8) (fun ok s9 ⟨H9,I9,q9⟩=>?_) fun _ _ z=>z
   cases ok with
   | false =>
    rw [if_neg Bool.false_ne_true] at q9 ⊢
    obtain ⟨m',hm,w9⟩:=q9
    exact again I9 hm w9
   | true =>
    rw [if_pos rfl] at q9 ⊢
    refine wpAny_mono (he pins _ _ _ fp ([]++ybY fp s7.heap) s9 _ H9 _ I9 q9) (fun y s10 ⟨v,H10,I10,r10,hD10,m',hm,w10⟩=>?_) fun _ _ z=>z
    refine wpAny_mono (zcp (X:=(ya3 X pins x₁ x₂ jf scope (yav X.env scope.names []) { s2 with heap:=hp3 } (upd H2 s2.heap.objs.size (.lst [])) fp)) ([]++ybY fp s7.heap) s10 (ybh (some u1) (some u2) jf σ) H10 (.ref s2.heap.objs.size) [v] (.ref s2.heap.objs.size) [y] (fun _ H' => H'=upd H10 s2.heap.objs.size (.lst (ys++[v]))) I10 rfl (.cons r10 .nil) ⟨_,ys,v,rfl,rfl,hD10,hlen,rfl⟩)
     (fun _ s11 ⟨_,H11,I11,_,e11⟩=>?_) fun _ _ z=>z
    subst e11
    exact again I11 hm w10
 exact codeAny_compStart_list loop (T.self _ 0 _ _ _ st4 loop)
theorem zhY (hcalm:X.calm=true) (hi:PI X (.Tuple [.Name x₁ p1,.Name x₂ p2] kk px) iter wi) (hc:∀ pins cl s H fp,PTs (ya3 X pins x₁ x₂ jf scope cl s H fp) ifs tc) (he:∀ pins cl s H fp,PE (ya3 X pins x₁ x₂ jf scope cl s H fp) elt te)
  (hN:(x₁::x₂::jf.map (·.2)).Nodup) (hx:scope.names.lookup x₁=some .local) (hx2:scope.names.lookup x₂=some .local) (hjf:∀ p∈jf,X.N[p.1]? = some p.2) (hjl:∀ p∈jf,scope.names.lookup p.2=some .free) (hkind:scope.kind = .function)
  (hcell:∀ y∈scope.names,y.2 ≠ .cell) (hfr:∀ y∈scope.names,y.2 = .free->X.env.kindOf y.1=some .cell\/X.env.kindOf y.1=some .free)
  (hnames:∀ y∈scope.names,y.2 = .local->scope.names.lookup y.1=some .local) (hs:∀ x,foldedSetIterable iter X.env x=pure x:=by intro _;rfl) :
  PE X (.ListComp elt [⟨.Tuple [.Name x₁ p1,.Name x₂ p2] kk px,iter,ifs,0⟩] scope pos) (yeu X.K jf wi tc te):=by
 intro pins s σ H Q I h
 rw [eval_ListComp]
 refine zg5 hcalm hi hc he hN hx hx2 hjf hjl hkind hcell hfr hnames (use:=none) (Qf:=EP X pins σ Q) I h (fun D C s6 H6 m6 I6 q6 f6 n6=>?_) hs
 refine ⟨m6,n6,fun h' hs' => ⟨.ref D,H6,?_,rfl,q6⟩⟩
 exact I6.turnedL (fp:=[C]) (t' := s6.toks) (fun b o hb q=>(hs'.2 b (fun z=>hb (by simp [z]))).trans q) (fun b hb=>by
  have e:b=C:=by simpa using hb
  subst e
  exact f6)
end
section
variable {X:Cx}
end
end L2
namespace L2
open PySem PySem.Spec PyProof.Rows
open PySem.Builtin PySem.Builtin.Str
section
variable {X:Cx}
theorem zhZ (z:Str) (n:Int):Txt.mul z n=repS z n.toNat:=by
 by_cases h2:2<=n/\1<=z.length
 ·exact ziU h2.1 h2.2
 ·unfold Txt.mul
  by_cases h1:n<1
  ·rw [if_pos h1,show n.toNat=0 by omega];rfl
  ·rw [if_neg h1,if_pos (by simp;omega)]
   by_cases hz:z.length=0
   ·have e:z.cps.toList=[]:=List.length_eq_zero_iff.mp (by simpa [Str.length] using hz)
    cases z
    simp only [repS,Str.mk.injEq] at *
    rw [e]
    apply Array.toList_inj.mp
    simp [e]
   ·rw [show n.toNat=1 by omega]
    cases z
    simp [repS]
theorem zgp:OpR X (binaryOp .Mult) (fun x y H Q=>∃ z n,x = .str z/\y = .int n/\n.natAbs<2 ^ 40/\z.length*n.toNat<=1000000/\Q (.str (repS z n.toNat)) H):=by
 intro pins s σ H x y v u Q I rx ry h
 obtain ⟨z,n,rfl,rfl,hb,hl,q⟩:=h
 obtain ⟨t,rfl⟩:=rx
 obtain ⟨t',rfl⟩:=ry
 have hb2:n.natAbs<1099511627776:=hb
 refine SB.mul ⟨?_,fun h1 _=>?_,fun _ _=>?_⟩ fun t2 k=>⟨.str (repS z n.toNat),H,I.tok _,⟨t2,by rw [zhZ]⟩,q⟩
 ·simp;omega
 ·intro hc
  have n0:(n:Int)=(n.toNat:Int):=by omega
  have h1:n*(z.length:Int)<=1000000:=by
   rw [n0,<- Int.natCast_mul,Nat.mul_comm];exact Int.ofNat_le.mpr hl
  have h3:(2 ^ 63-1:Int) / n<z.length:=hc
  have h4:(2 ^ 63-1:Int)<z.length*n:=Int.lt_mul_of_ediv_lt (by omega) h3
  rw [Int.mul_comm] at h4
  have:(9223372036854775807:Int)<n*z.length:=h4
  omega
 ·exact decide_eq_false (Nat.not_lt.mpr (Nat.le_trans hl (by decide)))
end
section
variable {prog:Program} {w:World} {A:Around} {E:Value->Shared->Prop} {s:Shared}
end
section
variable {X:Cx} {pos:Pos}
end
end L2
namespace L2
open PySem PySem.Spec PyProof.Rows
open PySem.Builtin PySem.Builtin.Str
section
variable {X:Cx} {tg:Expr}
theorem zh0:MtR X "str.upper" (fun x vs H Q=>∃ z,x = .str z/\vs=[]/\(Txt.upper z).length<=sizeLine/\Q (.str (Txt.upper z)) H):=by
 intro pins s σ H x vs v us Q I rx rv h
 obtain ⟨z,rfl,rfl,hl,q⟩:=h
 obtain ⟨t,rfl⟩:=rx
 cases rv
 exact call_gives F.slot_str_upper (typeIs_str s z t) F.entry_str_upper (F.args_str_upper_1 _) (gives_str_upper z t (decide_eq_false (Nat.not_lt.mpr hl))) ⟨hl,.str _,H,I.tok _,⟨_,rfl⟩,q⟩
end
end L2
namespace Sm
open PySem L2
inductive AV where
 | non | bl (b:Bool) | int (i:Int) | str (x:Str)
 | tup (xs:List AV)
 | fl (xs:List AV)
 | ref (n:Nat)
 | exc (c:Nat)
 deriving Inhabited
inductive AO where
 | lst (xs:List AV)
 | dct (t:Bool) (kvs:List (AV×AV))
 | ins (c:Nat) (fs:List (Option AV))
abbrev AH:=List AO
abbrev En:=List (Option AV)
inductive Out (α:Type) where
 | ok (a:α) (h:AH)
 | ex (c:Nat) (h:AH)
 | bad
@[simp] def Out.bind {α β:Type} (o:Out α) (f:α->AH->Out β):Out β :=
 match o with
 | .ok a h=>f a h
 | .ex c h=>.ex c h
 | .bad=>.bad
inductive OutS where
 | nx (e:En) (h:AH)
 | rt (v:AV) (h:AH)
 | bk (e:En) (h:AH)
 | ct (e:En) (h:AH)
 | ex (c:Nat) (e:En) (h:AH)
 | bad
abbrev SE:=En->AH->Out AV
abbrev SB:=En->AH->Out Bool
abbrev SL:=En->AH->Out (List AV)
abbrev SS:=En->AH->OutS
abbrev Fn:=List AV->AH->Out AV
@[simp] def Out.go {α:Type} (o:Out α) (e:En) (f:α->AH->OutS):OutS :=
 match o with
 | .ok a h=>f a h
 | .ex c h=>.ex c e h
 | .bad=>.bad
structure Tb where
 K:PySem.W.Frag
 cls:Nat->Option Addr
 exc:Nat->Option Addr
 fields:Nat->List Str
 nd:∀ c,(fields c).Nodup
 few:∀ c,(fields c).length<=500
def KL (K:PySem.W.Frag) (a:Addr) (xs:List V):Prop:=∃ (o:Obj) (its:Array Value) (n:Nat),K.lookup a=some o/\o.cls = .type "list" /\ o.dict=none/\o.data = .seq its n/\its.size<=sizeLine/\Vals xs its.toList
structure Ix where
 refs:List Addr
 priv:List Addr
def Ix.all (ι:Ix):List Addr:=ι.refs++ι.priv
mutual
inductive RV (T:Tb) (ι:Ix) (H:Hp):AV->V->Prop
 | non:RV T ι H .non .non
 | bl (b:Bool):RV T ι H (.bl b) (.bl b)
 | int (i:Int):RV T ι H (.int i) (.int i)
 | str {x:Str} (n:x.length<=sizeLine) (o:x.cps.all (· < 0x110000)=true):RV T ι H (.str x) (.str x)
 | tup {xs:List AV} {us:List V} {a:Addr} (n:a∉ι.all) (h:H a=some (.tup us)) (r:RVs T ι H xs us):RV T ι H (.tup xs) (.ref a)
 | fl {xs:List AV} {us:List V} {a:Addr} (n:a∉ι.all) (h:Rd H a (.lst us)) (r:RVs T ι H xs us):RV T ι H (.fl xs) (.ref a)
 | kfl {xs:List AV} {us:List V} {a:Addr} (h:KL T.K a us) (r:RVs T ι H xs us):RV T ι H (.fl xs) (.ref a)
 | ref {k:Nat} {a:Addr} (h:ι.refs[k]? = some a):RV T ι H (.ref k) (.ref a)
 | exc {c:Nat} {C a:Addr} (n:a∉ι.all) (h:T.exc c=some C) (q:H a=some (excO a (.ref C))):RV T ι H (.exc c) (.ref a)
inductive RVs (T:Tb) (ι:Ix) (H:Hp):List AV->List V->Prop
 | nil:RVs T ι H [] []
 | cons {x:AV} {u:V} {xs:List AV} {us:List V} (r:RV T ι H x u) (rs:RVs T ι H xs us):RVs T ι H (x::xs) (u::us)
end
structure Grow (ι:Ix) (H:Hp) (ι':Ix) (H':Hp):Prop where
 pre:∃ n,ι'.refs=ι.refs++n/\∀ a∈n,H a=none
 priv:ι'.priv=ι.priv
 keep:∀ a o,a∉ι.refs->H a=some o->H' a=some o
 live:∀ a∈ι.all,H' a≠none
theorem zeI:∀ {l:List Addr} {i j:Nat} {a:Addr},l.Nodup->l[i]? = some a->l[j]? = some a->i=j
 | [],_,_,_,_,e,_=>by simp at e
 | x::l,0,0,_,_,_,_=>rfl
 | x::l,0,j+1,a,n,e,f=>by
  simp at e f;subst e
  exact absurd (List.mem_of_getElem? f) (List.nodup_cons.mp n).1
 | x::l,i+1,0,a,n,e,f=>by
  simp at e f;subst f
  exact absurd (List.mem_of_getElem? e) (List.nodup_cons.mp n).1
 | x::l,i+1,j+1,a,n,e,f=>by
  simp at e f
  rw [zeI (List.nodup_cons.mp n).2 e f]
theorem Ix.nr {ι:Ix} {a:Addr} (h:a∉ι.all):a∉ι.refs:=fun z=>h (List.mem_append_left _ z)
theorem Ix.np {ι:Ix} {a:Addr} (h:a∉ι.all):a∉ι.priv:=fun z=>h (List.mem_append_right _ z)
theorem Grow.refl {ι:Ix} {H:Hp} (l:∀ a∈ι.all,H a≠none):Grow ι H ι H:=⟨⟨[],by simp,by simp⟩,rfl,fun _ _ _ e=>e,l⟩
theorem Grow.at {ι ι':Ix} {H H':Hp} (g:Grow ι H ι' H') {k:Nat} {a:Addr} (h:ι.refs[k]? = some a):ι'.refs[k]? = some a:=by
 obtain ⟨n,e,_⟩:=g.pre
 rw [e,List.getElem?_append_left (List.getElem?_eq_some_iff.mp h).1]
 exact h
theorem Grow.outR {ι ι':Ix} {H H':Hp} (g:Grow ι H ι' H') {a:Addr} {o:HO} (n:a∉ι.refs) (e:H a=some o):a∉ι'.refs:=fun z=>by
 obtain ⟨m,e',hm⟩:=g.pre
 rw [e'] at z
 rcases List.mem_append.mp z with z | z
 ·exact n z
 ·rw [hm a z] at e;cases e
theorem Grow.out {ι ι':Ix} {H H':Hp} (g:Grow ι H ι' H') {a:Addr} {o:HO} (n:a∉ι.all) (e:H a=some o):a∉ι'.all:=fun z=>by
 rcases List.mem_append.mp z with z | z
 ·exact g.outR (Ix.nr n) e z
 ·rw [g.priv] at z;exact Ix.np n z
theorem Grow.trans {ι ι' ι'':Ix} {H H' H'':Hp} (g:Grow ι H ι' H') (k:Grow ι' H' ι'' H''):Grow ι H ι'' H'' := by
 obtain ⟨n,e1,hn⟩:=g.pre
 obtain ⟨m,e2,hm⟩:=k.pre
 refine ⟨⟨n++m,by rw [e2,e1];simp,fun a ha=>?_⟩,k.priv.trans g.priv,fun a o na e=>k.keep a o (g.outR na e) (g.keep a o na e),fun a ha=>k.live a ?_⟩
 ·rcases List.mem_append.mp ha with z | z
  ·exact hn a z
  ·have q:=hm a z
   by_cases hi:a∈ι.refs
   ·exact absurd q (g.live a (List.mem_append_left _ hi))
   ·cases e:H a with
    | none=>rfl
    | some o=>rw [g.keep a o hi e] at q;cases q
 ·rcases List.mem_append.mp ha with z | z
  ·exact List.mem_append_left _ (by rw [e1];exact List.mem_append_left _ z)
  ·exact List.mem_append_right _ (by rw [g.priv];exact z)
structure Ext (ι:Ix) (H:Hp) (ι':Ix) (H':Hp):Prop where
 at_:∀ {k:Nat} {a:Addr},ι.refs[k]? = some a->ι'.refs[k]? = some a
 keep:∀ a o,a∉ι.all->H a=some o->H' a=some o
 out:∀ a o,a∉ι.all->H a=some o->a∉ι'.all
theorem Grow.ext {ι ι':Ix} {H H':Hp} (g:Grow ι H ι' H'):Ext ι H ι' H' := ⟨g.at,fun a o n e=>g.keep a o (Ix.nr n) e,fun a o n e=>g.out n e⟩
theorem Ext.trans {ι ι' ι'':Ix} {H H' H'':Hp} (g:Ext ι H ι' H') (k:Ext ι' H' ι'' H''):Ext ι H ι'' H'' :=
 ⟨fun e=>k.at_ (g.at_ e),fun a o n e=>k.keep a o (g.out a o n e) (g.keep a o n e),fun a o n e=>k.out a o (g.out a o n e) (g.keep a o n e)⟩
theorem zfB {ι ι':Ix} {H H':Hp} (g:Ext ι H ι' H') {a:Addr} {u:HO} (n:a∉ι.all) (r:Rd H a u):Rd H' a u:=by
 rcases r with r | ⟨o,r⟩
 ·exact .inl (g.keep a _ n r)
 ·exact .inr ⟨o,g.keep a _ n r⟩
theorem ygN {ι ι':Ix} {H H':Hp} (g:Ext ι H ι' H') {a:Addr} {u:HO} (n:a∉ι.all) (r:Rd H a u):a∉ι'.all:=by
 rcases r with r | ⟨o,r⟩
 ·exact g.out _ _ n r
 ·exact g.out _ _ n r
mutual
theorem RV.ext {T:Tb} {ι ι':Ix} {H H':Hp} (g:Ext ι H ι' H'):∀ {x:AV} {u:V},RV T ι H x u->RV T ι' H' x u
 | _,_,.non=>.non
 | _,_,.bl b=>.bl b
 | _,_,.int i=>.int i
 | _,_,.str n o=>.str n o
 | _,_,.tup n h r=>.tup (g.out _ _ n h) (g.keep _ _ n h) (RVs.ext g r)
 | _,_,.fl n h r=>.fl (ygN g n h) (zfB g n h) (RVs.ext g r)
 | _,_,.kfl h r=>.kfl h (RVs.ext g r)
 | _,_,.ref h=>.ref (g.at_ h)
 | _,_,.exc n h q=>.exc (g.out _ _ n q) h (g.keep _ _ n q)
theorem RVs.ext {T:Tb} {ι ι':Ix} {H H':Hp} (g:Ext ι H ι' H'):∀ {xs:List AV} {us:List V},RVs T ι H xs us->RVs T ι' H' xs us
 | _,_,.nil=>.nil
 | _,_,.cons r rs=>.cons (RV.ext g r) (RVs.ext g rs)
end
theorem RV.mono {T:Tb} {ι ι':Ix} {H H':Hp} (g:Grow ι H ι' H') {x:AV} {u:V} (r:RV T ι H x u):RV T ι' H' x u:=r.ext g.ext
theorem RVs.mono {T:Tb} {ι ι':Ix} {H H':Hp} (g:Grow ι H ι' H') {xs:List AV} {us:List V} (r:RVs T ι H xs us):RVs T ι' H' xs us:=r.ext g.ext
section
variable {T:Tb} {ι:Ix} {H:Hp}
theorem RVs.length:∀ {xs:List AV} {us:List V},RVs T ι H xs us->xs.length=us.length
 | _,_,.nil=>rfl
 | _,_,.cons _ rs=>by simp [RVs.length rs]
theorem RVs.get:∀ {xs:List AV} {us:List V} {i:Nat} {x:AV},RVs T ι H xs us->xs[i]? = some x->∃ u,us[i]? = some u/\RV T ι H x u
 | _,_,_,_,.nil,e=>by simp at e
 | _,_,0,_,.cons r _,e=>by simp at e;subst e;exact ⟨_,rfl,r⟩
 | _,_,i+1,x,.cons _ t,e=>by
  obtain ⟨u,h1,h2⟩:=RVs.get (i:=i) (x:=x) t (by simpa using e)
  exact ⟨u,by simpa using h1,h2⟩
theorem RVs.append:∀ {xs ys:List AV} {us ws:List V},RVs T ι H xs us->RVs T ι H ys ws->RVs T ι H (xs++ys) (us++ws)
 | _,_,_,_,.nil,s=>s
 | _,_,_,_,.cons r t,s=>.cons r (RVs.append t s)
theorem RVs.set {x:AV} {u:V} (r:RV T ι H x u):∀ {xs:List AV} {us:List V} (i:Nat),RVs T ι H xs us->RVs T ι H (xs.set i x) (us.set i u)
 | _,_,_,.nil=>.nil
 | _,_,0,.cons _ t=>.cons r t
 | _,_,i+1,.cons q t=>.cons q (RVs.set r i t)
theorem RVs.take:∀ {xs:List AV} {us:List V} (n:Nat),RVs T ι H xs us->RVs T ι H (xs.take n) (us.take n)
 | _,_,0,_=>by simpa using RVs.nil
 | _,_,_+1,.nil=>.nil
 | _,_,n+1,.cons r t=>.cons r (RVs.take n t)
theorem RVs.drop:∀ {xs:List AV} {us:List V} (n:Nat),RVs T ι H xs us->RVs T ι H (xs.drop n) (us.drop n)
 | _,_,0,r=>r
 | _,_,_+1,.nil=>.nil
 | _,_,n+1,.cons _ t=>RVs.drop n t
end
def kA:Key->AV
 | .inl i=>.int i
 | .inr x=>.str x
def OR (T:Tb) (ι:Ix) (H:Hp):AO->HO->Prop
 | .lst xs,o=>∃ us,o = .lst us/\RVs T ι H xs us
 | .dct false kvs,o=>∃ kus:List (Key×V),o = .dK kus/\Paired (fun (p:AV×AV) (q:Key×V)=>p.1=kA q.1/\RV T ι H p.2 q.2) kvs kus
 | .dct true kvs,o=>∃ kus:List (List Key×V),o = .dT kus/\Paired (fun (p:AV×AV) (q:List Key×V)=>p.1 = .tup (q.1.map kA)/\RV T ι H p.2 q.2) kvs kus
 | .ins c fs,o=>∃ C dx fus,T.cls c=some C/\o = .ins C dx fus/\(fus.map (·.1)).Nodup/\(∀ p∈fus,p.1∈T.fields c)/\fs.length=(T.fields c).length /\
   ∀ (i:Nat) (v:AV),fs[i]? = some (some v)->∃ f u,(T.fields c)[i]? = some f/\fus.lookup f=some u/\RV T ι H v u
theorem OR.mono {T:Tb} {ι ι':Ix} {H H':Hp} (g:Grow ι H ι' H') {o:AO} {u:HO} (h:OR T ι H o u):OR T ι' H' o u:=by
 cases o with
 | lst xs=>obtain ⟨us,e,r⟩:=h;exact ⟨us,e,r.mono g⟩
 | dct t kvs =>
  cases t with
  | false=>obtain ⟨us,e,r⟩:=h;exact ⟨us,e,Paired.mapP r fun _ _ ⟨a,b⟩=>⟨a,b.mono g⟩⟩
  | true=>obtain ⟨us,e,r⟩:=h;exact ⟨us,e,Paired.mapP r fun _ _ ⟨a,b⟩=>⟨a,b.mono g⟩⟩
 | ins c fs =>
  obtain ⟨C,dx,fus,a,b,n,w,l,r⟩:=h
  refine ⟨C,dx,fus,a,b,n,w,l,fun i v e=>?_⟩
  obtain ⟨f,u,e1,e2,q⟩:=r i v e
  exact ⟨f,u,e1,e2,q.mono g⟩
structure Sim (T:Tb) (ι:Ix) (h:AH) (H:Hp):Prop where
 len:ι.refs.length=h.length
 nd:ι.refs.Nodup
 plive:∀ a∈ι.priv,H a≠none
 obj:∀ (i:Nat) (o:AO) (a:Addr),h[i]? = some o->ι.refs[i]? = some a->∃ u,H a=some u/\OR T ι H o u
section
variable {T:Tb} {ι:Ix} {h:AH} {H:Hp}
theorem Sim.live (S:Sim T ι h H):∀ a∈ι.all,H a≠none:=fun a ha z=>by
 rcases List.mem_append.mp ha with ha | ha
 ·obtain ⟨i,hi⟩:=List.mem_iff_getElem?.mp ha
  have hl:i<h.length:=by rw [<- S.len];exact (List.getElem?_eq_some_iff.mp hi).1
  obtain ⟨u,e,_⟩:=S.obj i h[i] a (by simp [hl]) hi
  rw [z] at e;cases e
 ·exact S.plive a ha z
theorem Sim.refl (S:Sim T ι h H):Grow ι H ι H:=.refl S.live
theorem Sim.fresh (S:Sim T ι h H) {p:Addr} (n:H p=none):p∉ι.all:=fun z=>S.live p z n
theorem Sim.still (S:Sim T ι h H) {H':Hp} (g:Grow ι H ι H') (k:∀ a∈ι.refs,H' a=H a):Sim T ι h H' :=
 ⟨S.len,S.nd,fun a ha=>g.live a (List.mem_append_right _ ha),fun i o a e1 e2=>by
  obtain ⟨u,e,r⟩:=S.obj i o a e1 e2
  exact ⟨u,by rw [k a (List.mem_of_getElem? e2)];exact e,r.mono g⟩⟩
theorem Sim.growNew (S:Sim T ι h H) {p:Addr} {o:HO} (n:H p=none):Grow ι H ι (upd H p o) :=
 ⟨⟨[],by simp,by simp⟩,rfl,fun a u _ e=>by rw [yaN (zax e n)];exact e,fun a ha=>by
  rw [yaN (show a≠p from fun z=>S.fresh n (z▸ha))];exact S.live a ha⟩
theorem Sim.new (S:Sim T ι h H) {p:Addr} {o:HO} (n:H p=none):Sim T ι h (upd H p o) :=
 S.still (S.growNew n) fun a ha=>yaN fun z=>S.fresh n (z▸List.mem_append_left _ ha)
def Ix.add (ι:Ix) (p:Addr):Ix:=⟨ι.refs++[p],ι.priv⟩
theorem Sim.growAdd (S:Sim T ι h H) {p:Addr} {u:HO} (n:H p=none):Grow ι H (ι.add p) (upd H p u) :=
 ⟨⟨[p],rfl,fun a ha=>by have e:a=p:=(by simpa using ha);rw [e];exact n⟩,rfl,(S.growNew n).keep,(S.growNew n).live⟩
theorem Sim.add (S:Sim T ι h H) {p:Addr} {u:HO} {o:AO} (n:H p=none) (r:OR T (ι.add p) (upd H p u) o u):Sim T (ι.add p) (h++[o]) (upd H p u):=by
 refine ⟨by simp [Ix.add,S.len],?_,fun a ha=>(S.growNew n).live a (List.mem_append_right _ ha),fun i o' a e1 e2=>?_⟩
 ·show (ι.refs++[p]).Nodup
  rw [List.nodup_append]
  exact ⟨S.nd,by simp,fun a ha b hb z=>by have e:b=p:=(by simpa using hb);subst e;subst z;exact S.fresh n (List.mem_append_left _ ha)⟩
 ·replace e2:(ι.refs++[p])[i]? = some a:=e2
  by_cases hi:i<h.length
  ·rw [List.getElem?_append_left hi] at e1
   rw [List.getElem?_append_left (by rw [S.len];exact hi)] at e2
   obtain ⟨v,e,q⟩:=S.obj i o' a e1 e2
   exact ⟨v,by rw [yaN (zax e n)];exact e,q.mono (S.growAdd n)⟩
  ·have e3:i=h.length:=by
    have:=(List.getElem?_eq_some_iff.mp e1).1
    simp at this;omega
   subst e3
   rw [List.getElem?_append_right (Nat.le_refl _)] at e1
   rw [List.getElem?_append_right (by rw [S.len];exact Nat.le_refl _),S.len] at e2
   simp at e1 e2
   subst e1 e2
   exact ⟨u,zav,r⟩
theorem Sim.addAt (S:Sim T ι h H) {p:Addr}:(ι.add p).refs[h.length]? = some p:=by
 show (ι.refs++[p])[h.length]? = some p
 rw [<- S.len];simp
theorem Sim.growSet (S:Sim T ι h H) {i:Nat} {a:Addr} {u:HO} (e:ι.refs[i]? = some a):Grow ι H ι (upd H a u) :=
 ⟨⟨[],by simp,by simp⟩,rfl,fun b o nb q=>by rw [yaN (show b≠a from fun z=>nb (by rw [z];exact List.mem_of_getElem? e))];exact q,fun b hb=>by
  by_cases z:b=a
  ·subst z;rw [zav];simp
  ·rw [yaN z];exact S.live b hb⟩
theorem Sim.set (S:Sim T ι h H) {i:Nat} {a:Addr} {u:HO} {o:AO} (e:ι.refs[i]? = some a) (r:OR T ι (upd H a u) o u):Sim T ι (h.set i o) (upd H a u):=by
 refine ⟨by simp [S.len],S.nd,fun b hb=>(S.growSet e).live b (List.mem_append_right _ hb),fun j o' b e1 e2=>?_⟩
 by_cases hj:j=i
 ·subst hj
  rw [e] at e2;cases e2
  have hl:j<h.length:=by rw [<- S.len];exact (List.getElem?_eq_some_iff.mp e).1
  rw [List.getElem?_set_self hl] at e1;cases e1
  exact ⟨u,zav,r⟩
 ·rw [List.getElem?_set_ne (Ne.symm hj)] at e1
  obtain ⟨v,q,r'⟩:=S.obj j o' b e1 e2
  have ne:b≠a:=fun z=>hj (by
   subst z
   exact zeI S.nd e2 e)
  exact ⟨v,by rw [yaN ne];exact q,r'.mono (S.growSet e)⟩
end
def Ix.hide (ι:Ix) (D:Addr):Ix:=⟨ι.refs,D::ι.priv⟩
theorem Ix.hide_all {ι:Ix} {D a:Addr}:a∉(ι.hide D).all ↔ a∉ι.all/\a≠D:=by
 unfold Ix.all Ix.hide
 simp only [List.mem_append,List.mem_cons]
 constructor
 ·intro h;exact ⟨fun z=>h (z.elim .inl fun z=>.inr (.inr z)),fun z=>h (.inr (.inl z))⟩
 ·rintro ⟨h1,h2⟩ (z | z | z)
  ·exact h1 (.inl z)
  ·exact h2 z
  ·exact h1 (.inr z)
section
variable {T:Tb} {ι:Ix} {H:Hp} {D:Addr}
theorem Ext.hide {o:HO} (hn:H D=none):Ext ι H (ι.hide D) (upd H D o):=⟨fun e=>e,fun a u n e=>by rw [yaN (zax e hn)];exact e,fun a u n e=>Ix.hide_all.mpr ⟨n,zax e hn⟩⟩
theorem Ext.poke {o:HO}:Ext (ι.hide D) H (ι.hide D) (upd H D o):=⟨fun e=>e,fun a u n e=>by rw [yaN (Ix.hide_all.mp n).2];exact e,fun a u n e=>n⟩
theorem Ext.show:Ext (ι.hide D) H ι H:=⟨fun e=>e,fun a u n e=>e,fun a u n e=>(Ix.hide_all.mp n).1⟩
theorem OR.ext {ι ι':Ix} {H H':Hp} (g:Ext ι H ι' H') {o:AO} {u:HO} (h:OR T ι H o u):OR T ι' H' o u:=by
 cases o with
 | lst xs=>obtain ⟨us,e,r⟩:=h;exact ⟨us,e,r.ext g⟩
 | dct t kvs =>
  cases t with
  | false=>obtain ⟨us,e,r⟩:=h;exact ⟨us,e,Paired.mapP r fun _ _ ⟨a,b⟩=>⟨a,b.ext g⟩⟩
  | true=>obtain ⟨us,e,r⟩:=h;exact ⟨us,e,Paired.mapP r fun _ _ ⟨a,b⟩=>⟨a,b.ext g⟩⟩
 | ins c fs =>
  obtain ⟨C,dx,fus,a,b,n,w,l,r⟩:=h
  refine ⟨C,dx,fus,a,b,n,w,l,fun i v e=>?_⟩
  obtain ⟨f,u,e1,e2,q⟩:=r i v e
  exact ⟨f,u,e1,e2,q.ext g⟩
theorem Sim.hide {h:AH} {o:HO} (S:Sim T ι h H) (hn:H D=none):Sim T (ι.hide D) h (upd H D o) :=
 ⟨S.len,S.nd,fun a ha=>by
  rcases List.mem_cons.mp ha with rfl | ha
  ·rw [zav];simp
  ·rw [yaN (show a≠D from fun z=>S.plive a ha (z▸hn))];exact S.plive a ha,fun i o' a e1 e2=>by
  obtain ⟨u,e,r⟩:=S.obj i o' a e1 e2
  exact ⟨u,by rw [yaN (zax e hn)];exact e,r.ext (Ext.hide hn)⟩⟩
theorem Sim.poke {h:AH} {o:HO} (S:Sim T (ι.hide D) h H) (hr:D∉ι.refs):Sim T (ι.hide D) h (upd H D o) :=
 ⟨S.len,S.nd,fun a ha=>by
  by_cases z:a=D
  ·subst z;rw [zav];simp
  ·rw [yaN z];exact S.plive a ha,fun i o' a e1 e2=>by
  obtain ⟨u,e,r⟩:=S.obj i o' a e1 e2
  have ne:a≠D:=fun z=>hr (z▸List.mem_of_getElem? e2)
  exact ⟨u,by rw [yaN ne];exact e,r.ext Ext.poke⟩⟩
theorem Sim.show {h:AH} (S:Sim T (ι.hide D) h H):Sim T ι h H :=
 ⟨S.len,S.nd,fun a ha=>S.plive a (List.mem_cons_of_mem _ ha),fun i o' a e1 e2=>by
  obtain ⟨u,e,r⟩:=S.obj i o' a e1 e2
  exact ⟨u,e,r.ext Ext.show⟩⟩
end
def ER (T:Tb) (ι:Ix) (H:Hp) (e:En) (σ:St):Prop:=e.length=σ.length/\∀ (i:Nat) (v:AV),e[i]? = some (some v)->∃ u,σ[i]? = some (some u)/\RV T ι H v u
theorem ER.mono {T:Tb} {ι ι':Ix} {H H':Hp} {e:En} {σ:St} (r:ER T ι H e σ) (g:Grow ι H ι' H'):ER T ι' H' e σ :=
 ⟨r.1,fun i v q=>let ⟨u,a,b⟩:=r.2 i v q;⟨u,a,b.mono g⟩⟩
theorem ER.ext {T:Tb} {ι ι':Ix} {H H':Hp} {e:En} {σ:St} (r:ER T ι H e σ) (g:Ext ι H ι' H'):ER T ι' H' e σ :=
 ⟨r.1,fun i v q=>let ⟨u,a,b⟩:=r.2 i v q;⟨u,a,b.ext g⟩⟩
theorem ER.set {T:Tb} {ι:Ix} {H:Hp} {e:En} {σ:St} (r:ER T ι H e σ) {v:AV} {u:V} (q:RV T ι H v u) (i:Nat):ER T ι H (e.set i (some v)) (σ.set i (some u)):=by
 refine ⟨by simp [r.1],fun j w z=>?_⟩
 by_cases hj:j=i
 ·subst hj
  by_cases hl:j<e.length
  ·rw [List.getElem?_set_self hl] at z;cases z
   exact ⟨u,by rw [List.getElem?_set_self (by rw [<- r.1];exact hl)],q⟩
  ·rw [List.getElem?_eq_none (by simpa using hl)] at z;cases z
 ·rw [List.getElem?_set_ne (Ne.symm hj)] at z ⊢
  exact r.2 j w z
def Post {α β:Type} (T:Tb) (ι:Ix) (H:Hp) (E:XK) (R:Ix->Hp->α->β->Prop) (o:Out α) (Q:β->Hp->Prop):Prop :=
 match o with
 | .ok v h' => ∀ ι' H' u,Grow ι H ι' H'->Sim T ι' h' H'->R ι' H' v u->Q u H'
 | .ex c h' => ∀ ι' H' C,Grow ι H ι' H'->Sim T ι' h' H'->T.exc c=some C->E (.ref C) none H'
 | .bad=>False
def PostS (T:Tb) (ι:Ix) (H:Hp) (E:St->XK) (o:OutS) (D:Ends):Prop :=
 match o with
 | .nx e h' => ∀ ι' H' σ',Grow ι H ι' H'->Sim T ι' h' H'->ER T ι' H' e σ'->D.nx σ' H'
 | .bk e h' => ∀ ι' H' σ',Grow ι H ι' H'->Sim T ι' h' H'->ER T ι' H' e σ'->D.bk σ' H'
 | .ct e h' => ∀ ι' H' σ',Grow ι H ι' H'->Sim T ι' h' H'->ER T ι' H' e σ'->D.ct σ' H'
 | .rt v h' => ∀ ι' H' u,Grow ι H ι' H'->Sim T ι' h' H'->RV T ι' H' v u->D.rt u H'
 | .ex c e h' => ∀ ι' H' σ' C,Grow ι H ι' H'->Sim T ι' h' H'->ER T ι' H' e σ'->T.exc c=some C->E σ' (.ref C) none H'
 | .bad=>False
abbrev REq {α:Type}:Ix->Hp->α->α->Prop:=fun _ _ a b=>a=b
section
variable {T:Tb} {ι ι':Ix} {h:AH} {H H':Hp} {α β γ δ:Type} {E:XK} {R:Ix->Hp->α->β->Prop} {R':Ix->Hp->γ->δ->Prop}
theorem Post.shift {o:Out α} {Q:β->Hp->Prop} (p:Post T ι H E R o Q) (g:Grow ι H ι' H'):Post T ι' H' E R o Q:=by
 cases o with
 | ok v h' => exact fun i2 H2 u g2=>p i2 H2 u (g.trans g2)
 | ex c h' => exact fun i2 H2 C g2=>p i2 H2 C (g.trans g2)
 | bad=>exact p
theorem Post.bind {o:Out α} {f:α->AH->Out γ} {Q:δ->Hp->Prop} {Q1:β->Hp->Prop} (p:Post T ι H E R' (o.bind f) Q)
  (k:∀ v h' ι' H' u,Grow ι H ι' H'->Sim T ι' h' H'->R ι' H' v u->Post T ι' H' E R' (f v h') Q->Q1 u H'):Post T ι H E R o Q1:=by
 cases o with
 | ok v h' => exact fun i2 H2 u g S r=>k v h' i2 H2 u g S r (Post.shift p g)
 | ex c h' => exact p
 | bad=>exact p
theorem Post.now {v:α} {u:β} {Q:β->Hp->Prop} (p:Post T ι H E R (.ok v h) Q) (S:Sim T ι h H) (r:R ι H v u):Q u H:=p ι H u S.refl S r
theorem PostS.shift {E:St->XK} {o:OutS} {D:Ends} (p:PostS T ι H E o D) (g:Grow ι H ι' H'):PostS T ι' H' E o D:=by
 cases o with
 | nx e h' => exact fun i2 H2 u g2=>p i2 H2 u (g.trans g2)
 | bk e h' => exact fun i2 H2 u g2=>p i2 H2 u (g.trans g2)
 | ct e h' => exact fun i2 H2 u g2=>p i2 H2 u (g.trans g2)
 | rt v h' => exact fun i2 H2 u g2=>p i2 H2 u (g.trans g2)
 | ex c e h' => exact fun i2 H2 u C g2=>p i2 H2 u C (g.trans g2)
 | bad=>exact p
theorem PostS.go {E:St->XK} {o:Out α} {en:En} {σ:St} {f:α->AH->OutS} {D:Ends} {Q1:β->Hp->Prop} (p:PostS T ι H E (o.go en f) D) (er:ER T ι H en σ)
  (k:∀ v h' ι' H' u,Grow ι H ι' H'->Sim T ι' h' H'->R ι' H' v u->PostS T ι' H' E (f v h') D->Q1 u H'):Post T ι H (E σ) R o Q1:=by
 cases o with
 | ok v h' => exact fun i2 H2 u g S r=>k v h' i2 H2 u g S r (PostS.shift p g)
 | ex c h' => exact fun i2 H2 C g S e=>p i2 H2 σ C g S (er.mono g) e
 | bad=>exact p
end
def tE (T:Tb) (E:St->XK) (a:SE):TE:=fun σ H Q=>∃ ι h en,Sim T ι h H/\ER T ι H en σ/\Post T ι H (E σ) (RV T) (a en h) Q
def tT (T:Tb) (E:St->XK) (a:SB):TT:=fun σ H Q=>∃ ι h en,Sim T ι h H/\ER T ι H en σ/\Post T ι H (E σ) REq (a en h) Q
def tA (T:Tb) (E:St->XK) (a:SL):TA:=fun σ H Q=>∃ ι h en,Sim T ι h H/\ER T ι H en σ/\Post T ι H (E σ) (RVs T) (a en h) Q
def tS (T:Tb) (E:St->XK) (b:SS):TS:=fun D σ H=>∃ ι h en,Sim T ι h H/\ER T ι H en σ/\PostS T ι H E (b en h) D
abbrev PEA (T:Tb) (E:St->XK) (X:Cx) (e:Expr) (a:SE):Prop:=PE X e (tE T E a)
abbrev PTA (T:Tb) (E:St->XK) (X:Cx) (e:Expr) (a:SB):Prop:=PT X e (tT T E a)
abbrev PWA (T:Tb) (E:St->XK) (X:Cx) (e:Expr) (a:SB):Prop:=PW X e (tT T E a)
abbrev PAA (T:Tb) (E:St->XK) (X:Cx) (es:List Expr) (a:SL):Prop:=PA X es (tA T E a)
abbrev PSA (T:Tb) (E:St->XK) (X:Cx) (st:Stmt) (b:SS):Prop:=PS X st (tS T E b)
abbrev PSsA (T:Tb) (E:St->XK) (X:Cx) (sts:List Stmt) (b:SS):Prop:=PSs X sts (tS T E b)
theorem yaY {X:Cx} {e:Expr} {t t':TE} (h:PE X e t) (k:∀ σ H Q,t' σ H Q->t σ H Q):PE X e t' := fun pins s σ H Q I q=>h pins s σ H Q I (k σ H Q q)
theorem yeb {X:Cx} {e:Expr} {t t':TT} (h:PT X e t) (k:∀ σ H Q,t' σ H Q->t σ H Q):PT X e t' := fun pins s σ H Q I q=>h pins s σ H Q I (k σ H Q q)
theorem ygO {X:Cx} {e:Expr} {t t':TT} (h:PW X e t) (k:∀ σ H Q,t' σ H Q->t σ H Q):PW X e t' := fun w pins s σ H Q I q=>h w pins s σ H Q I (k σ H Q q)
theorem yfx {X:Cx} {e:List Expr} {t t':TA} (h:PA X e t) (k:∀ σ H Q,t' σ H Q->t σ H Q):PA X e t' := fun p pins s σ H Q I q=>h p pins s σ H Q I (k σ H Q q)
theorem ycu {X:Cx} {e:Stmt} {t t':TS} (h:PS X e t) (k:∀ D σ H,t' D σ H->t D σ H):PS X e t' := fun pins s σ H D I q=>h pins s σ H D I (k D σ H q)
theorem zfC {X:Cx} {e:List Stmt} {t t':TS} (h:PSs X e t) (k:∀ D σ H,t' D σ H->t D σ H):PSs X e t' := fun pins s σ H D I q=>h pins s σ H D I (k D σ H q)
theorem yfy {X:Cx} {st:Stmt} {t:TS} (h:PS X.nox st t):PS X st t:=fun pins s σ H D I hw=>by
 refine wpAny_mono (h pins s σ H D (I.wish _) hw) (fun f s' q=>SP.unwish q) fun _ _ z=>z.elim
end Sm
namespace Sm
open PySem L2
instance:DecidableEq AV:=fun _ _=>Classical.propDecidable _
@[simp] def sVar (i:Nat):SE:=fun en h=>match en[i]? with
 | some (some v)=>.ok v h
 | _=>.bad
@[simp] def sLit (v:AV):SE:=fun _ h=>.ok v h
abbrev F1:=AV->AH->Out AV
abbrev F2:=AV->AV->AH->Out AV
@[simp] def sOp1 (f:F1) (a:SE):SE:=fun en h=>(a en h).bind f
@[simp] def sOp2 (f:F2) (a b:SE):SE:=fun en h=>(a en h).bind fun x h1=>(b en h1).bind fun y h2=>f x y h2
@[simp] def sNil:SL:=fun _ h=>.ok [] h
@[simp] def yab (a:SE) (r:SL):SL:=fun en h=>(a en h).bind fun x h1=>(r en h1).bind fun xs h2=>.ok (x::xs) h2
@[simp] def yaf (F:Fn) (as:SL):SE:=fun en h=>(as en h).bind F
@[simp] def sTup (as:SL):SE:=fun en h=>(as en h).bind fun xs h1=>if xs.length<=1000 then .ok (.tup xs) h1 else .bad
@[simp] def sLst (as:SL):SE:=fun en h=>(as en h).bind fun xs h1=>if xs.length<=1000 then .ok (.fl xs) h1 else .bad
@[simp] def ycd (as:SL):SE:=fun en h=>(as en h).bind fun xs h1=>if xs.length<=1000 then .ok (.ref h1.length) (h1++[.lst xs]) else .bad
@[simp] def yfW (t:Bool):SE:=fun _ h=>.ok (.ref h.length) (h++[.dct t []])
@[simp] def yin (v:AV) (h:AH):Option (List AV):=match v with
 | .tup xs=>some xs
 | .fl xs=>some xs
 | .ref n=>match h[n]? with
  | some (.lst xs)=>some xs
  | _=>none
 | _=>none
@[simp] def yby (v:AV) (h:AH):Option (List AV):=match v with
 | .fl xs=>some xs
 | .ref n=>match h[n]? with
  | some (.lst xs)=>some xs
  | _=>none
 | _=>none
@[simp] def fAdd:F2:=fun x y h=>match x,y with
 | .int i,.int j=>.ok (.int (i+j)) h
 | .str i,.str j=>if i.length+j.length<=sizeLine then .ok (.str (i++j)) h else .bad
 | .tup xs,.tup ys=>if xs≠[]/\xs.length+ys.length<=sizeLine then .ok (.tup (xs++ys)) h else .bad
 | x,y=>match yby x h,yby y h with
  | some xs,some ys=>if xs.length+ys.length<=sizeLine then .ok (.fl (xs++ys)) h else .bad
  | _,_=>.bad
@[simp] def fSub:F2:=fun x y h=>match x,y with
 | .int i,.int j=>.ok (.int (i-j)) h
 | _,_=>.bad
@[simp] def fMul:F2:=fun x y h=>match x,y with
 | .int i,.int j=>if (i.natAbs<2 ^ 64\/j.natAbs<2 ^ 64)\/(i.natAbs<2 ^ 4000/\j.natAbs<2 ^ 4000) then .ok (.int (i*j)) h else .bad
 | _,_=>.bad
@[simp] def fDiv:F2:=fun x y h=>match x,y with
 | .int i,.int j=>if 0<j/\j.natAbs<2 ^ 200 then .ok (.int (i / j)) h else .bad
 | _,_=>.bad
@[simp] def fMod:F2:=fun x y h=>match x,y with
 | .int i,.int j=>if 0<j then .ok (.int (i % j)) h else .bad
 | _,_=>.bad
@[simp] def fPow:F2:=fun x y h=>match x,y with
 | .int i,.int j=>if 0<=j/\j<=1000000/\i.natAbs<2 ^ 64 then .ok (.int (i ^ j.toNat)) h else .bad
 | _,_=>.bad
@[simp] def fNeg:F1:=fun x h=>match x with
 | .int i=>.ok (.int (-i)) h
 | _=>.bad
def toDs (f:AV->Option PyData):List AV->Option (List PyData)
 | []=>some []
 | x::xs=>match f x,toDs f xs with
  | some d,some ds=>some (d::ds)
  | _,_=>none
def toD:Nat->AH->AV->Option PyData
 | 0,_,v=>match v with
  | .non=>some .none
  | .bl b=>some (.bool b)
  | .int i=>some (.int i)
  | .str x=>some (.str x)
  | _=>none
 | n+1,h,v=>match v with
  | .non=>some .none
  | .bl b=>some (.bool b)
  | .int i=>some (.int i)
  | .str x=>some (.str x)
  | .tup xs=>(toDs (toD n h) xs).map .tuple
  | .fl xs=>(toDs (toD n h) xs).map .list
  | .ref k=>match h[k]? with
   | some (.lst xs)=>(toDs (toD n h) xs).map .list
   | _=>none
  | .exc _=>none
@[simp] def eqA (x y:AV) (h:AH):Option Bool:=match x,y with
 | .int i,.int j=>some (decide (i=j))
 | .str i,.str j=>some (decide (i=j))
 | .bl i,.bl j=>some (decide (i=j))
 | .non,.non=>some true
 | x,y=>match toD 8 h x,toD 8 h y with
  | some d,some e=>some (PyData.eqv d e)
  | _,_=>none
@[simp] def fEq:F2:=fun x y h=>match eqA x y h with
 | some b=>.ok (.bl b) h
 | none=>.bad
@[simp] def fNe:F2:=fun x y h=>match eqA x y h with
 | some b=>.ok (.bl (!b)) h
 | none=>.bad
@[simp] def fLt:F2:=fun x y h=>match x,y with
 | .int i,.int j=>.ok (.bl (decide (i<j))) h
 | .str i,.str j=>.ok (.bl (decide (i.cps.toList<j.cps.toList))) h
 | _,_=>.bad
@[simp] def fLe:F2:=fun x y h=>match x,y with
 | .int i,.int j=>.ok (.bl (decide (i<=j))) h
 | .str i,.str j=>.ok (.bl (!decide (j.cps.toList<i.cps.toList))) h
 | _,_=>.bad
@[simp] def fGt:F2:=fun x y h=>match x,y with
 | .int i,.int j=>.ok (.bl (decide (j<i))) h
 | _,_=>.bad
@[simp] def fGe:F2:=fun x y h=>match x,y with
 | .int i,.int j=>.ok (.bl (decide (j<=i))) h
 | _,_=>.bad
@[simp] def truA (v:AV) (h:AH):Option Bool:=match v with
 | .non=>some false
 | .bl b=>some b
 | .int i=>some (i != 0)
 | .str y=>some ((y.length:Int) != 0)
 | .tup xs=>some (!xs.isEmpty)
 | .fl xs=>some (!xs.isEmpty)
 | .ref n=>match h[n]? with
  | some (.lst xs)=>some (!xs.isEmpty)
  | some (.dct false kvs)=>some (!kvs.isEmpty)
  | _=>none
 | _=>none
@[simp] def ydI (a:SE):SB:=fun en h=>(a en h).bind fun v h1=>match truA v h1 with
 | some b=>.ok b h1
 | none=>.bad
@[simp] def yas (a:SE):SB:=fun en h=>(a en h).bind fun v h1=>match v with
 | .bl b=>.ok b h1
 | _=>.bad
@[simp] def sOr (a b:SB):SB:=fun en h=>(a en h).bind fun x h1=>if x=true then .ok true h1 else b en h1
@[simp] def sNot (a:SB):SB:=fun en h=>(a en h).bind fun x h1=>.ok (!x) h1
@[simp] def yeh (a b:SE):SE:=fun en h=>(a en h).bind fun v h1=>match v with
 | .bl k=>if k=true then b en h1 else .ok (.bl false) h1
 | _=>.bad
@[simp] def sOrV (a b:SE):SE:=fun en h=>(a en h).bind fun v h1=>match v with
 | .bl k=>if k=true then .ok (.bl true) h1 else b en h1
 | _=>.bad
@[simp] def yfX (a:SE):SE:=fun en h=>(a en h).bind fun v h1=>match v with
 | .bl b=>.ok (.bl (!b)) h1
 | _=>.bad
@[simp] def ycK (f f':F2) (a b c:SE):SE:=fun en h=>(a en h).bind fun x h1=>(b en h1).bind fun y h2=>(f x y h2).bind fun z h3=>match z with
 | .bl k=>if k=true then (c en h3).bind fun w h4=>f' y w h4 else .ok (.bl false) h3
 | _=>.bad
@[simp] def yaC:SS:=fun en h=>.nx en h
@[simp] def sSeq (a b:SS):SS:=fun en h=>match a en h with
 | .nx e h' => b e h'
 | o=>o
@[simp] def yfY:SS:=fun en h=>.ct en h
@[simp] def yaO (a:SE):SS:=fun en h=>(a en h).go en fun _ h' => .nx en h'
@[simp] def sRet (a:SE):SS:=fun en h=>(a en h).go en fun v h' => .rt v h'
@[simp] def sIf (c:SB) (a b:SS):SS:=fun en h=>(c en h).go en fun x h' => if x=true then a en h' else b en h'
@[simp] def sSet (i:Nat) (a:SE):SS:=fun en h=>(a en h).go en fun v h' => .nx (en.set i (some v)) h'
def yci (c:SB) (b:SS):Nat->SS
 | 0=>fun _ _=>.bad
 | n+1=>fun en h=>match c en h with
  | .ok true h1=>(match b en h1 with
   | .nx e2 h2=>yci c b n e2 h2
   | .ct e2 h2=>yci c b n e2 h2
   | .bk e2 h2=>.nx e2 h2
   | .rt v h2=>.rt v h2
   | _=>.bad)
  | .ok false h1=>.nx en h1
  | _=>.bad
abbrev SI:=En->AH->Out (List AV×Option Nat)
@[simp] def ybQ (w:Option Nat) (xs:List AV) (h:AH):Bool:=match w with
 | none=>true
 | some n=>match h[n]? with
  | some (.lst ys)=>decide (ys=xs)
  | _=>false
inductive Tg where
 | nm (i:Nat)
 | tup (is:List Nat)
@[simp] def yeS:List Nat->List AV->En->Option En
 | [],[],en=>some en
 | i::is,x::xs,en=>yeS is xs (en.set i (some x))
 | _,_,_=>none
@[simp] def setT (t:Tg) (v:AV) (en:En):Option En:=match t,v with
 | .nm i,v=>some (en.set i (some v))
 | .tup is,.tup xs=>yeS is xs en
 | _,_=>none
def ycv (w:Option Nat) (all:List AV) (t:Tg) (b:SS):List AV->SS
 | []=>fun en h=>if ybQ w all h=true then .nx en h else .bad
 | x::xs=>fun en h=>if ybQ w all h=true then
   (match setT t x en with
   | some e1=>(match b e1 h with
    | .nx e2 h2=>ycv w all t b xs e2 h2
    | .ct e2 h2=>ycv w all t b xs e2 h2
    | .bk e2 h2=>.nx e2 h2
    | .rt v h2=>.rt v h2
    | _=>.bad)
   | none=>.bad) else .bad
@[simp] def sFor (it:SI) (t:Tg) (b:SS):SS:=fun en h=>match it en h with
 | .ok (xs,w) h1=>ycv w xs t b xs en h1
 | _=>.bad
@[simp] def iVal (a:SE):SI:=fun en h=>(a en h).bind fun v h1=>match v with
 | .fl xs=>.ok (xs,none) h1
 | .tup xs=>.ok (xs,none) h1
 | .str z=>.ok (z.cps.toList.map (fun c=>.str ⟨#[c]⟩),none) h1
 | .ref n=>match h1[n]? with
  | some (.lst xs)=>.ok (xs,some n) h1
  | _=>.bad
 | _=>.bad
@[simp] def ybz (a:SE):SI:=fun en h=>(a en h).bind fun v h1=>match v with
 | .fl xs=>.ok (xs,none) h1
 | .tup xs=>.ok (xs,none) h1
 | .ref n=>match h1[n]? with
  | some (.lst xs)=>.ok (xs,some n) h1
  | _=>.bad
 | _=>.bad
def yaW (lo:Int):Nat->List AV
 | 0=>[]
 | n+1=>.int lo::yaW (lo+1) n
@[simp] def yba (a:SE):SI:=fun en h=>(a en h).bind fun v h1=>match v with
 | .int j=>if j.natAbs<2 ^ 62 then .ok (yaW 0 j.toNat,none) h1 else .bad
 | _=>.bad
def yeT (k:Nat):List AV->List AV
 | []=>[]
 | x::xs=>.tup [.int k,x]::yeT (k+1) xs
@[simp] def yio (a:SE):SI:=fun en h=>(a en h).bind fun v h1=>match v with
 | .fl xs=>.ok (yeT 0 xs,none) h1
 | _=>.bad
def yaV (js:List Nat) (en:En) (w:Option Nat) (all:List AV) (c:SB) (e:SE):List AV->List AV->AH->Out (List AV)
 | [],ys,h=>if ybQ w all h=true then .ok ys h else .bad
 | x::xs,ys,h=>if ybQ w all h=true/\ys.length<sizeLine then
   (match c (some x::js.map fun j=>(en[j]?).join) h with
   | .ok true h1=>(match e (some x::js.map fun j=>(en[j]?).join) h1 with
    | .ok v h2=>yaV js en w all c e xs (ys++[v]) h2
    | _=>.bad)
   | .ok false h1=>yaV js en w all c e xs ys h1
   | _=>.bad) else .bad
@[simp] def sYes:SB:=fun _ h=>.ok true h
@[simp] def ybn (js:List Nat) (it:SI) (c:SB) (e:SE):SE:=fun en h=>match it en h with
 | .ok (xs,w) h1=>(match yaV js en w xs c e xs [] h1 with
  | .ok ys h2=>.ok (.fl ys) h2
  | _=>.bad)
 | _=>.bad
@[simp] def mkFn (n m:Nat) (b:SS):Fn:=fun args h =>
 if args.length=n then
  match b (args.map some++List.replicate (m-n) none) h with
  | .nx _ h' => .ok .non h'
  | .rt v h' => .ok v h'
  | .ex c _ h' => .ex c h'
  | _=>.bad
 else .bad
@[simp] def yam (c:Nat) (F:Fn) (o:SE) (as:SL):SE:=fun en h=>(o en h).bind fun x h1=>match x with
 | .ref n=>match h1[n]? with
  | some (.ins c' _)=>if c'=c then (as en h1).bind fun xs h2=>F (x::xs) h2 else .bad
  | _=>.bad
 | _=>.bad
@[simp] def yeL (c k:Nat) (F:Fn) (as:SL):SE:=fun en h=>(as en h).bind fun xs h1=>match F (.ref h1.length::xs) (h1++[.ins c (List.replicate k none)]) with
 | .ok .non h2=>.ok (.ref h1.length) h2
 | .ex c h2=>.ex c h2
 | _=>.bad
@[simp] def sFld (c i:Nat) (o:SE):SE:=fun en h=>(o en h).bind fun x h1=>match x with
 | .ref n=>match h1[n]? with
  | some (.ins c' fs)=>if c'=c then (match fs[i]? with | some (some v)=>.ok v h1 | _=>.bad) else .bad
  | _=>.bad
 | _=>.bad
@[simp] def ycT (c i:Nat) (o v:SE):SS:=fun en h=>(v en h).go en fun y h1=>(o en h1).go en fun x h2=>match x with
 | .ref n=>match h2[n]? with
  | some (.ins c' fs)=>if c'=c then .nx en (h2.set n (.ins c (fs.set i (some y)))) else .bad
  | _=>.bad
 | _=>.bad
@[simp] def ycj (c:Nat) (as:SL):SS:=fun en h=>(as en h).go en fun xs h1=>if xs.length<=1000 then .ex c en h1 else .bad
@[simp] def keyOf? (v:AV):Option Key:=match v with
 | .int i=>some (.inl i)
 | .str x=>some (.inr x)
 | _=>none
@[simp] def keysOf? : List AV->Option (List Key)
 | []=>some []
 | v::r=>match keyOf? v,keysOf? r with
  | some k,some ks=>some (k::ks)
  | _,_=>none
@[simp] def ydJ (t:Bool) (v:AV):Bool:=match t,v with
 | false,v=>(keyOf? v).isSome
 | true,.tup xs=>(keysOf? xs).isSome
 | true,_=>false
def valA (kvs:List (AV×AV)) (k:AV):Option AV:=(kvs.find? fun p=>decide (p.1=k)).map (·.2)
def putA (kvs:List (AV×AV)) (k v:AV):List (AV×AV) :=
 if kvs.any (fun p=>decide (p.1=k)) then kvs.map fun p=>if p.1=k then (p.1,v) else p else kvs++[(k,v)]
@[simp] def fIx:F2:=fun x y h=>match x,y with
 | .str z,.int i=>match atI z.cps.toList i with
  | some c=>.ok (.str ⟨#[c]⟩) h
  | none=>.bad
 | .tup xs,.int i=>match atI xs i with
  | some v=>.ok v h
  | none=>.bad
 | .fl xs,.int i=>match atI xs i with
  | some v=>.ok v h
  | none=>.bad
 | .ref n,y=>match h[n]? with
  | some (.lst xs)=>match y with
   | .int i=>match atI xs i with
    | some v=>.ok v h
    | none=>.bad
   | _=>.bad
  | some (.dct t kvs)=>if ydJ t y then (match valA kvs y with | some v=>.ok v h | none=>.bad) else .bad
  | _=>.bad
 | _,_=>.bad
@[simp] def yev (o i v:SE):SS:=fun en h=>(v en h).go en fun z h1=>(o en h1).go en fun x h2=>(i en h2).go en fun y h3=>match x with
 | .ref n=>match h3[n]? with
  | some (.lst xs)=>match y with
   | .int k=>match ixN xs.length k with
    | some j=>.nx en (h3.set n (.lst (xs.set j z)))
    | none=>.bad
   | _=>.bad
  | some (.dct t kvs)=>if ydJ t y=true/\kvs.length<sizeLine then .nx en (h3.set n (.dct t (putA kvs y z))) else .bad
  | _=>.bad
 | _=>.bad
@[simp] def inA (x y:AV) (h:AH):Option Bool:=match x,y with
 | .str i,.str j=>some (!(Builtin.Str.occurrences j i 0 j.length 1).isEmpty)
 | x,.ref n=>match h[n]? with
  | some (.dct t kvs)=>if ydJ t x then some (valA kvs x).isSome else none
  | some (.lst xs)=>match toD 8 h x,toDs (toD 8 h) xs with
   | some d,some ds=>some (ds.any fun e=>PyData.eqv e d)
   | _,_=>none
  | _=>none
 | x,.fl xs=>match toD 8 h x,toDs (toD 8 h) xs with
  | some d,some ds=>some (ds.any fun e=>PyData.eqv e d)
  | _,_=>none
 | x,.tup xs=>match toD 8 h x,toDs (toD 8 h) xs with
  | some d,some ds=>some (ds.any fun e=>PyData.eqv e d)
  | _,_=>none
 | _,_=>none
@[simp] def yeU:F2:=fun x y h=>match inA x y h with
 | some b=>.ok (.bl (!b)) h
 | none=>.bad
@[simp] def fLen:Fn:=fun args h=>match args with
 | [.str x]=>.ok (.int x.length) h
 | [.tup xs]=>.ok (.int xs.length) h
 | [.fl xs]=>.ok (.int xs.length) h
 | [.ref n]=>match h[n]? with
  | some (.lst xs)=>.ok (.int xs.length) h
  | some (.dct false kvs)=>.ok (.int kvs.length) h
  | _=>.bad
 | _=>.bad
@[simp] def fAbs:Fn:=fun args h=>match args with
 | [.int i]=>.ok (.int (if i<0 then -i else i)) h
 | _=>.bad
@[simp] def yb6:Fn:=fun args h=>match args with
 | [.int i,.int j]=>.ok (.int (if j > i then j else i)) h
 | _=>.bad
@[simp] def ycq:Fn:=fun args h=>match args with
 | [.int i,.int j]=>.ok (.int (if j<i then j else i)) h
 | _=>.bad
@[simp] def yd3:List AV->Option (List Bool)
 | []=>some []
 | .bl b::r=>(yd3 r).map (b :: ·)
 | _::_=>none
@[simp] def fAll:Fn:=fun args h=>match args with
 | [.fl xs]=>match yd3 xs with
  | some bs=>.ok (.bl (bs.all id)) h
  | none=>.bad
 | _=>.bad
@[simp] def tyN (v:AV) (h:AH):Option String:=match v with
 | .non=>some "NoneType"
 | .bl _=>some "bool"
 | .int _=>some "int"
 | .str _=>some "str"
 | .tup _=>some "tuple"
 | .fl _=>some "list"
 | .ref n=>match h[n]? with
  | some (.lst _)=>some "list"
  | some (.dct _ _)=>some "dict"
  | _=>none
 | .exc _=>none
@[simp] def sIsB (t:String) (a:SE):SE:=fun en h=>(a en h).bind fun v h1=>match tyN v h1 with
 | some n=>.ok (.bl (n == t || (t == "int" && n == "bool"))) h1
 | none=>.bad
abbrev FM:=AV->List AV->AH->Out AV
@[simp] def yaB (v:AV) (h:AH):Bool:=(yby v h).isSome
@[simp] def yei (v:AV) (_:AH):Bool:=match v with
 | .str _=>true
 | _=>false
@[simp] def sBM (chk:AV->AH->Bool) (f:FM) (o:SE) (as:SL):SE:=fun en h=>(o en h).bind fun x h1=>if chk x h1=true then (as en h1).bind fun xs h2=>f x xs h2 else .bad
@[simp] def sBM0 (chk:AV->AH->Bool) (f:FM) (o:SE):SE:=fun en h=>(o en h).bind fun x h1=>if chk x h1=true then f x [] h1 else .bad
@[simp] def yaD:FM:=fun x vs h=>match x,vs with
 | .ref n,[y]=>match h[n]? with
  | some (.lst xs)=>if xs.length<sizeLine then .ok .non (h.set n (.lst (xs++[y]))) else .bad
  | _=>.bad
 | _,_=>.bad
@[simp] def mPop:FM:=fun x vs h=>match x,vs with
 | .ref n,[]=>match h[n]? with
  | some (.lst xs)=>match xs[xs.length-1]? with
   | some y=>.ok y (h.set n (.lst xs.dropLast))
   | none=>.bad
  | _=>.bad
 | _,_=>.bad
def yfZ (d:PyData):List PyData->Nat->Option Nat
 | [],_=>none
 | e::r,k=>if PyData.eqv e d=true then some k else yfZ d r (k+1)
@[simp] def yik:FM:=fun x vs h=>match vs with
 | [y]=>match yby x h with
  | some xs=>match toD 8 h y,toDs (toD 8 h) xs with
   | some d,some ds=>match yfZ d ds 0 with
    | some k=>.ok (.int k) h
    | none=>.bad
   | _,_=>.bad
  | none=>.bad
 | _=>.bad
@[simp] def yeF:FM:=fun x vs h=>match x,vs with
 | .str z,[.str y]=>.ok (.int ((Builtin.Str.occurrences z y 0 z.length (z.length+1)).length:Nat)) h
 | _,_=>.bad
@[simp] def yd4:List AV->Option (List Str)
 | []=>some []
 | .str x::r=>(yd4 r).map (x :: ·)
 | _::_=>none
@[simp] def ydz:FM:=fun x vs h=>match x,vs with
 | .str z,[y]=>if z=Str.empty then (match yby y h with
  | some xs=>match yd4 xs with
   | some zs=>if ((zs.map fun x:Str=>x.cps.toList).flatten).length<=1000000 then .ok (.str ⟨((zs.map fun x:Str=>x.cps.toList).flatten).toArray⟩) h else .bad
   | none=>.bad
  | none=>.bad) else .bad
 | _,_=>.bad
def cutA {α:Type} (xs:List α) (lo hi:Option Int):List α:=(xs.drop (HT.sIx xs.length 0 lo)).take (HT.sIx xs.length xs.length hi-HT.sIx xs.length 0 lo)
end Sm
namespace Sm
open PySem L2
structure CA (T:Tb) (E:St->XK) (X:Cx):Prop where
 hK:X.K=T.K
 pass:ydp (CXE X.prog X.w) X E
abbrev EN:St->XK:=fun _=>E0
theorem CA.nox {T:Tb} {E:St->XK} {X:Cx} (c:CA T E X):CA T EN X.nox:=⟨c.hK,fun _ _ _ _ _ _ _ h=>by
 obtain ⟨_,_,_,_,_,_,_,_,_,_,_,_,_,_,q⟩:=h
 exact q.elim⟩
theorem CA.never {T:Tb} {X:Cx} (hK:X.K=T.K):CA T EN X:=⟨hK,fun _ _ _ _ _ _ _ h=>by
 obtain ⟨_,_,_,_,_,_,_,_,_,_,_,_,_,_,q⟩:=h
 exact q.elim⟩
section
variable {T:Tb} {ι:Ix} {h:AH} {H:Hp}
theorem ybM {x:AV} {u:V} {xs:List AV} (S:Sim T ι h H) (r:RV T ι H x u) (e:yby x h=some xs):∃ a us,u = .ref a/\SqL T.K H a us/\RVs T ι H xs us:=by
 unfold yby at e
 cases r with
 | fl n q r=>cases e;exact ⟨_,_,rfl,.inl q,r⟩
 | kfl q r=>cases e;exact ⟨_,_,rfl,.inr q,r⟩
 | @ref k a q =>
  dsimp only at e
  split at e
  ·rename_i ys hk
   cases e
   obtain ⟨u,e1,us,rfl,r⟩:=S.obj k _ a hk q
   exact ⟨a,us,rfl,.inl (.inl e1),r⟩
  ·cases e
 | _=>cases e
theorem ydG {u:V} {xs:List AV} (r:RV T ι H (.tup xs) u):∃ a us,u = .ref a/\SqT T.K H a us/\RVs T ι H xs us:=by
 cases r with
 | tup n q r=>exact ⟨_,_,rfl,.of q,r⟩
theorem ya9 {u:V} {x:Str} (r:RV T ι H (.str x) u):u = .str x/\x.length<=sizeLine/\x.cps.all (· < 0x110000)=true:=by
 cases r with
 | str n o=>exact ⟨rfl,n,o⟩
theorem yaI {u:V} {i:Int} (r:RV T ι H (.int i) u):u = .int i:=by cases r;rfl
theorem ycU {u:V} {i:Bool} (r:RV T ι H (.bl i) u):u = .bl i:=by cases r;rfl
theorem yeV {u:V} (r:RV T ι H .non u):u = .non:=by cases r;rfl
theorem yew {us:List V} {xs:List AV} {p:Addr} {E:XK} {Q:VK} (S:Sim T ι h H) (r:RVs T ι H xs us) (n:H p=none) (q:Post T ι H E (RV T) (.ok (.fl xs) h) Q):Q (.ref p) (upd H p (.lst us)) :=
 q ι _ _ (S.growNew n) (S.new n) (.fl (S.fresh n) (.inl zav) (r.mono (S.growNew n)))
theorem zdN {us:List V} {xs:List AV} {p:Addr} {E:XK} {Q:VK} (S:Sim T ι h H) (r:RVs T ι H xs us) (n:H p=none) (q:Post T ι H E (RV T) (.ok (.tup xs) h) Q):Q (.ref p) (upd H p (.tup us)) :=
 q ι _ _ (S.growNew n) (S.new n) (.tup (S.fresh n) zav (r.mono (S.growNew n)))
theorem ziV {us:List V} {xs:List AV} {p:Addr} {E:XK} {Q:VK} (S:Sim T ι h H) (r:RVs T ι H xs us) (n:H p=none) (q:Post T ι H E (RV T) (.ok (.ref h.length) (h++[.lst xs])) Q):Q (.ref p) (upd H p (.lst us)) :=
 q _ _ _ (S.growAdd n) (S.add n ⟨us,rfl,r.mono (S.growAdd n)⟩) (.ref S.addAt)
end
section
variable {T:Tb} {E:St->XK} {X:Cx} {pos:Pos}
theorem yaa (i:Nat) {x:Str} {p:Pos} (hN:X.N[i]? = some x:=by rfl) (hv:Vis X.env.scope x:=by first | exact Or.inl rfl | exact Or.inr (Or.inl rfl) | exact Or.inr (Or.inr rfl)) (hd:(x == ("__debug__" : Str))=false:=by decide)
  (hcd:(x == ("__classdict__" : Str))=false:=by decide):PEA T E X (.Name x p) (sVar i) :=
 yaY (pv i hN hv hd hcd) fun σ H Q ⟨ι,h,en,S,er,q⟩=>by
  unfold sVar at q
  split at q
  ·rename_i v hv
   obtain ⟨u,e,r⟩:=er.2 i v hv
   exact ⟨u,e,q.now S r⟩
  ·exact q.elim
theorem yae {i j p}:PEA T E X (.Constant (.int i) j p) (sLit (.int i)):=yaY yge fun σ H Q ⟨ι,h,en,S,er,q⟩=>q.now S (.int i)
theorem r_bl {i j p}:PEA T E X (.Constant (.bool i) j p) (sLit (.bl i)):=yaY yhu fun σ H Q ⟨ι,h,en,S,er,q⟩=>q.now S (.bl i)
theorem yaX {x j p} (n:x.length<=sizeLine:=by decide +kernel) (o:x.cps.all (· < 0x110000)=true:=by decide +kernel):PEA T E X (.Constant (.str x) j p) (sLit (.str x)):=yaY ygf fun σ H Q ⟨ι,h,en,S,er,q⟩=>q.now S (.str n o)
theorem ziW {x:Str} {i:Int} {t:Tok} {p:Pos} (hg:Gl X x) (hm:X.mg x=some (.int i t)) (hd:(x == ("__debug__" : Str))=false:=by decide):PEA T E X (.Name x p) (sLit (.int i)) :=
 yaY (zit (v:=.int i) hg hm ⟨t,rfl⟩ hd) fun σ H Q ⟨ι,h,en,S,er,q⟩=>q.now S (.int i)
def OpS (T:Tb) (f:F2) (r:R2):Prop:=∀ (ι:Ix) (h:AH) (H:Hp) (x y:AV) (u w:V) (E:XK) (Q:VK),Sim T ι h H->RV T ι H x u->RV T ι H y w->Post T ι H E (RV T) (f x y h) Q->r u w H Q
def Op (T:Tb) (X:Cx) (g:Value->Value->Sem Value) (f:F2):Prop:=∃ r,OpR X g r/\OpS T f r
variable {a b c:Expr} {sa sb sc:SE}
theorem two {f:F2} {r:R2} (hs:OpS T f r) {σ:St} {H:Hp} {Q:VK} (q:tE T E (sOp2 f sa sb) σ H Q):tOp r (tE T E sa) (tE T E sb) σ H Q:=by
 obtain ⟨ι,h,en,S,er,q⟩:=q
 refine ⟨ι,h,en,S,er,q.bind fun x h1 ι1 H1 u g1 S1 r1 q1=>⟨ι1,h1,en,S1,er.mono g1,q1.bind fun y h2 ι2 H2 w g2 S2 r2 q2=>?_⟩⟩
 exact hs ι2 h2 H2 x y u w _ Q S2 (r1.mono g2) r2 q2
theorem yaj {op:Operator} {f:F2} (ho:Op T X (binaryOp op) f) (ha:PEA T E X a sa) (hb:PEA T E X b sb):PEA T E X (.BinOp a op b pos) (sOp2 f sa sb):=by
 obtain ⟨r,h1,h2⟩:=ho
 exact yaY (yhE h1 ha hb) fun σ H Q q=>two h2 q
theorem ziX {i j:Str} (hi:i.cps.all (· < 0x110000)=true) (hj:j.cps.all (· < 0x110000)=true):(i++j).cps.all (· < 0x110000)=true:=by
 show (i.cps++j.cps).all _=true
 rw [Array.all_append,hi,hj];rfl
theorem zfb (i j:Str):(i++j).length=i.length+j.length:=by
 show (i.cps++j.cps).size=_
 rw [Array.size_append];rfl
theorem yaR (hK:X.K=T.K):Op T X (binaryOp .Add) fAdd:=by
 refine ⟨_,op_add.or (zgd.or (ziF.or ziS)),fun ι h H x y u w E Q S rx ry p=>?_⟩
 unfold fAdd at p
 split at p
 ·rw [yaI rx,yaI ry]
  exact .inl ⟨_,_,rfl,rfl,p.now S (.int _)⟩
 ·split at p
  ·rename_i hz
   obtain ⟨rfl,_,o1⟩:=ya9 rx
   obtain ⟨rfl,_,o2⟩:=ya9 ry
   exact .inr (.inl ⟨_,_,rfl,rfl,hz,p.now S (.str (by rw [zfb];exact hz) (ziX o1 o2))⟩)
  ·exact p.elim
 ·split at p
  ·rename_i hz
   obtain ⟨a,us,rfl,q1,r1⟩:=ydG rx
   obtain ⟨b,ws,rfl,q2,r2⟩:=ydG ry
   refine .inr (.inr (.inl ⟨a,b,us,ws,rfl,rfl,hK▸q1,hK▸q2,fun z=>hz.1 ?_,by rw [<- r1.length,<- r2.length];exact hz.2,fun z=>?_,fun _ l n=>zdN S (r1.append r2) n p⟩))
   ·subst z;cases r1;rfl
   ·subst z;cases r2
    rw [List.append_nil] at p
    exact p.now S rx
  ·exact p.elim
 ·split at p
  ·split at p
   ·rename_i e1 e2 hz
    obtain ⟨a,us,rfl,q1,r1⟩:=ybM S rx e1
    obtain ⟨b,ws,rfl,q2,r2⟩:=ybM S ry e2
    exact .inr (.inr (.inr ⟨a,b,us,ws,rfl,rfl,hK▸q1,hK▸q2,by rw [<- r1.length,<- r2.length];exact hz,fun l n=>yew S (r1.append r2) n p⟩))
   ·exact p.elim
  ·exact p.elim
theorem ybf:Op T X (binaryOp .Sub) fSub:=by
 refine ⟨_,ygr,fun ι h H x y u w E Q S rx ry p=>?_⟩
 unfold fSub at p
 split at p
 ·rw [yaI rx,yaI ry]
  exact ⟨_,_,rfl,rfl,p.now S (.int _)⟩
 ·exact p.elim
theorem zfD {i:Int} (h:i.natAbs<2 ^ 4000):Builtin.Int.intBits i<=2 ^ 20:=by
 unfold Builtin.Int.intBits
 split
 ·exact Nat.zero_le _
 ·rename_i hz
  have h0:i.natAbs≠0:=fun z=>hz (by simpa using z)
  have:i.natAbs.log2<4000:=(Nat.log2_lt h0).mpr h
  exact Nat.le_trans (by omega:i.natAbs.log2+1<=4001) (by decide)
theorem yb7:Op T X (binaryOp .Mult) fMul:=by
 refine ⟨_,zhQ,fun ι h H x y u w E Q S rx ry p=>?_⟩
 unfold fMul at p
 split at p
 ·split at p
  ·rename_i hz
   rw [yaI rx,yaI ry]
   exact ⟨_,_,rfl,rfl,hz.elim (fun z=>CMul.ok (z.elim (fun z=>.inl ⟨by omega,by omega⟩) (fun z=>.inr ⟨by omega,by omega⟩))) (fun z=>.of_bits (zfD z.1) (zfD z.2)),p.now S (.int _)⟩
  ·exact p.elim
 ·exact p.elim
theorem yej:Op T X (binaryOp .FloorDiv) fDiv:=by
 refine ⟨_,zhP,fun ι h H x y u w E Q S rx ry p=>?_⟩
 unfold fDiv at p
 split at p
 ·split at p
  ·rename_i hz
   rw [yaI rx,yaI ry]
   exact ⟨_,_,rfl,rfl,⟨hz.1,by omega⟩,p.now S (.int _)⟩
  ·exact p.elim
 ·exact p.elim
theorem ydW:Op T X (binaryOp .Mod) fMod:=by
 refine ⟨_,ygs,fun ι h H x y u w E Q S rx ry p=>?_⟩
 unfold fMod at p
 split at p
 ·split at p
  ·rename_i hz
   rw [yaI rx,yaI ry]
   exact ⟨_,_,rfl,rfl,hz,p.now S (.int _)⟩
  ·exact p.elim
 ·exact p.elim
theorem ydA:Op T X (binaryOp .Pow) fPow:=by
 refine ⟨_,ygt,fun ι h H x y u w E Q S rx ry p=>?_⟩
 unfold fPow at p
 split at p
 ·split at p
  ·rename_i hz
   rw [yaI rx,yaI ry]
   exact ⟨_,_,rfl,rfl,hz,p.now S (.int _)⟩
  ·exact p.elim
 ·exact p.elim
theorem ydK (ha:PEA T E X a sa):PEA T E X (.UnaryOp .USub a pos) (sOp1 fNeg sa) :=
 yaY (yhF ygu ha) fun σ H Q ⟨ι,h,en,S,er,q⟩=>⟨ι,h,en,S,er,q.bind fun x h1 ι1 H1 u g1 S1 r1 q1=>by
  unfold fNeg at q1
  split at q1
  ·rw [yaI r1]
   exact ⟨_,rfl,q1.now S1 (.int _)⟩
  ·exact q1.elim⟩
theorem zg6 {ds:List PyData} (h:∀ d∈ds,d.canLay0=true):PyData.canLayAll0 ds=true:=by
 induction ds with
 | nil=>rfl
 | cons d r ih=>show (d.canLay0 && PyData.canLayAll0 r)=true;rw [h d (by simp),ih fun e he=>h e (by simp [he])];rfl
theorem zfc {n:Nat} {ds:List PyData} (h:∀ d∈ds,d.depth<=n):PyData.depthAll ds<=n:=by
 induction ds with
 | nil=>exact Nat.zero_le _
 | cons d r ih=>show max d.depth (PyData.depthAll r)<=n;have:=h d (by simp);have:=ih fun e he=>h e (by simp [he]);omega
section
variable {ι:Ix} {h:AH} {H:Hp}
theorem zbX {f:AV->Option PyData} {n:Nat} (hf:∀ {x:AV} {u:V} {d:PyData},RV T ι H x u->f x=some d->DaV T.K H u d/\d.canLay0=true/\d.depth<=n) :
  ∀ {xs:List AV} {us:List V} {ds:List PyData},RVs T ι H xs us->toDs f xs=some ds->DaVs T.K H us ds/\∀ d∈ds,d.canLay0=true/\d.depth<=n
 | _,_,ds,.nil,e=>by cases e;exact ⟨.nil,by simp⟩
 | _,_,ds,.cons (x:=x) (xs:=xs) r rs,e=>by
  unfold toDs at e
  split at e
  ·rename_i d ds' e1 e2
   cases e
   obtain ⟨q1,q2⟩:=hf r e1
   obtain ⟨q3,q4⟩:=zbX hf rs e2
   refine ⟨.cons q1 q3,fun d hd=>?_⟩
   rcases List.mem_cons.mp hd with rfl | hd
   ·exact q2
   ·exact q4 d hd
  ·cases e
theorem ydh (S:Sim T ι h H):∀ (n:Nat) {x:AV} {u:V} {d:PyData},RV T ι H x u->toD n h x=some d->DaV T.K H u d/\d.canLay0=true/\d.depth<=n
 | 0,x,u,d,r,e=>by
  unfold toD at e
  cases r with
  | non=>cases e;exact ⟨.non,rfl,Nat.le_refl _⟩
  | bl b=>cases e;exact ⟨.bl b,rfl,Nat.le_refl _⟩
  | int b=>cases e;exact ⟨.int b,rfl,Nat.le_refl _⟩
  | str a b=>cases e;exact ⟨.str _,b,Nat.le_refl _⟩
  | _=>cases e
 | n+1,x,u,d,r,e=>by
  unfold toD at e
  have many:∀ {xs:List AV} {us:List V} {ds:List PyData},RVs T ι H xs us->toDs (toD n h) xs=some ds->DaVs T.K H us ds/\∀ d∈ds,d.canLay0=true/\d.depth<=n:=fun r e=>zbX (fun r e=>ydh S n r e) r e
  have fin:∀ {ds:List PyData},(∀ d∈ds,d.canLay0=true/\d.depth<=n)->PyData.canLayAll0 ds=true/\PyData.depthAll ds+1<=n+1:=fun q=>⟨zg6 fun d hd=>(q d hd).1,Nat.succ_le_succ (zfc fun d hd=>(q d hd).2)⟩
  cases r with
  | non=>cases e;exact ⟨.non,rfl,Nat.zero_le _⟩
  | bl b=>cases e;exact ⟨.bl b,rfl,Nat.zero_le _⟩
  | int b=>cases e;exact ⟨.int b,rfl,Nat.zero_le _⟩
  | str a b=>cases e;exact ⟨.str _,b,Nat.zero_le _⟩
  | tup k q r =>
   obtain ⟨ds,e1,rfl⟩:=Option.map_eq_some_iff.mp e
   obtain ⟨q1,q2⟩:=many r e1
   exact ⟨.tup (.of q) q1,fin q2⟩
  | fl k q r =>
   obtain ⟨ds,e1,rfl⟩:=Option.map_eq_some_iff.mp e
   obtain ⟨q1,q2⟩:=many r e1
   exact ⟨.lst (.inl q) q1,fin q2⟩
  | kfl q r =>
   obtain ⟨ds,e1,rfl⟩:=Option.map_eq_some_iff.mp e
   obtain ⟨q1,q2⟩:=many r e1
   exact ⟨.lst (.inr q) q1,fin q2⟩
  | @ref k a q =>
   dsimp only at e
   split at e
   ·rename_i ys hk
    obtain ⟨ds,e1,rfl⟩:=Option.map_eq_some_iff.mp e
    obtain ⟨u,e2,us,rfl,r⟩:=S.obj k _ a hk q
    obtain ⟨q1,q2⟩:=many r e1
    exact ⟨.lst (.inl (.inl e2)) q1,fin q2⟩
   ·cases e
  | exc _ _ _=>cases e
end
theorem ygP {i j:Int}:decide (V.int i=V.int j)=decide (i=j):=by rw [Bool.eq_iff_iff];simp
theorem ygQ {i j:Str}:decide (V.str i=V.str j)=decide (i=j):=by rw [Bool.eq_iff_iff];simp
theorem yhW {i j:Bool}:decide (V.bl i=V.bl j)=decide (i=j):=by rw [Bool.eq_iff_iff];simp
theorem zfE {r:R2} {neg:Bool} (ho:OpR X g r) (h1:∀ x y H Q,(scal x y=true/\Q (.bl (if neg then !decide (x=y) else decide (x=y))) H)->r x y H Q)
  (h2:∀ x y H Q,(∃ d e,DaV T.K H x d/\DaV T.K H y e/\d.canLay0=true/\e.canLay0=true/\d.depth<=60/\Q (.bl (if neg then !PyData.eqv d e else PyData.eqv d e)) H)->r x y H Q) :
  OpS T (fun x y h=>match eqA x y h with | some b=>.ok (.bl (if neg then !b else b)) h | none=>.bad) r:=by
 intro ι h H x y u w E Q S rx ry p
 dsimp only at p
 cases hb:eqA x y h with
 | none=>rw [hb] at p;exact p.elim
 | some b =>
  rw [hb] at p
  dsimp only at p
  unfold eqA at hb
  split at hb
  ·cases hb
   rw [yaI rx,yaI ry]
   exact h1 _ _ _ _ ⟨rfl,by rw [ygP];exact p.now S (.bl _)⟩
  ·cases hb
   obtain ⟨rfl,_⟩:=ya9 rx
   obtain ⟨rfl,_⟩:=ya9 ry
   exact h1 _ _ _ _ ⟨rfl,by rw [ygQ];exact p.now S (.bl _)⟩
  ·cases hb
   rw [ycU rx,ycU ry]
   exact h1 _ _ _ _ ⟨rfl,by rw [yhW];exact p.now S (.bl _)⟩
  ·cases hb
   rw [yeV rx,yeV ry]
   exact h1 _ _ _ _ ⟨rfl,by rw [show decide (V.non=V.non)=true from rfl];exact p.now S (.bl _)⟩
  ·split at hb
   ·rename_i d e e1 e2
    cases hb
    obtain ⟨q1,q2,q3⟩:=ydh S 8 rx e1
    obtain ⟨q4,q5,q6⟩:=ydh S 8 ry e2
    exact h2 _ _ _ _ ⟨d,e,q1,q4,q2,q5,by omega,p.now S (.bl _)⟩
   ·cases hb
theorem o_eq (hK:X.K=T.K) (hu:X.A.units+64<cLine):Op T X (compareOp .Eq) fEq :=
 ⟨_,op_eq.or (yfu hu),zfE (neg:=false) (op_eq.or (yfu hu)) (fun _ _ _ _ q=>.inl q) fun _ _ _ _ q=>.inr (hK▸q)⟩
theorem o_ne (hK:X.K=T.K) (hu:X.A.units+64<cLine):Op T X (compareOp .NotEq) fNe :=
 ⟨_,op_ne.or (yfv hu),zfE (neg:=true) (op_ne.or (yfv hu)) (fun _ _ _ _ q=>.inl q) fun _ _ _ _ q=>.inr (hK▸q)⟩
theorem o_lt:Op T X (compareOp .Lt) fLt:=by
 refine ⟨_,op_lt.or zgK,fun ι h H x y u w E Q S rx ry p=>?_⟩
 unfold fLt at p
 split at p
 ·rw [yaI rx,yaI ry]
  exact .inl ⟨_,_,rfl,rfl,p.now S (.bl _)⟩
 ·obtain ⟨rfl,_⟩:=ya9 rx
  obtain ⟨rfl,_⟩:=ya9 ry
  exact .inr ⟨_,_,rfl,rfl,p.now S (.bl _)⟩
 ·exact p.elim
theorem o_le:Op T X (compareOp .LtE) fLe:=by
 refine ⟨_,op_le.or zgY,fun ι h H x y u w E Q S rx ry p=>?_⟩
 unfold fLe at p
 split at p
 ·rw [yaI rx,yaI ry]
  exact .inl ⟨_,_,rfl,rfl,p.now S (.bl _)⟩
 ·obtain ⟨rfl,_⟩:=ya9 rx
  obtain ⟨rfl,_⟩:=ya9 ry
  exact .inr ⟨_,_,rfl,rfl,p.now S (.bl _)⟩
 ·exact p.elim
theorem o_gt:Op T X (compareOp .Gt) fGt:=by
 refine ⟨_,yhG,fun ι h H x y u w E Q S rx ry p=>?_⟩
 unfold fGt at p
 split at p
 ·rw [yaI rx,yaI ry]
  exact ⟨_,_,rfl,rfl,p.now S (.bl _)⟩
 ·exact p.elim
theorem o_ge:Op T X (compareOp .GtE) fGe:=by
 refine ⟨_,yhH,fun ι h H x y u w E Q S rx ry p=>?_⟩
 unfold fGe at p
 split at p
 ·rw [yaI rx,yaI ry]
  exact ⟨_,_,rfl,rfl,p.now S (.bl _)⟩
 ·exact p.elim
theorem yeM {op:CmpOp} {f:F2} (ho:Op T X (compareOp op) f) (ha:PEA T E X a sa) (hb:PEA T E X b sb) (hm:behindInMarks op b=false):PEA T E X (.Compare a [op] [b] pos) (sOp2 f sa sb):=by
 obtain ⟨r,h1,h2⟩:=ho
 exact yaY (ziy h1 ha hb hm) fun σ H Q q=>two h2 q
theorem yax {op:CmpOp} {f:F2} (ho:Op T X (compareOp op) f) (ha:PEA T E X a sa) (hb:PEA T E X b sb) (hm:behindInMarks op b=false):PTA T E X (.Compare a [op] [b] pos) (yas (sOp2 f sa sb)):=by
 obtain ⟨r,h1,h2⟩:=ho
 refine yeb (ziz h1 ha hb hm) fun σ H Q q=>two (E:=E) (Q:=fun x H' => ∃ k,x=V.bl k/\Q k H') h2 ?_
 obtain ⟨ι,h,en,S,er,q⟩:=q
 refine ⟨ι,h,en,S,er,q.bind fun x h1 ι1 H1 u g1 S1 r1 q1=>?_⟩
 split at q1
 ·rw [ycU r1]
  exact ⟨_,rfl,q1.now S1 rfl⟩
 ·exact q1.elim
theorem yf0 {f f':F2} {r r':R2} (hs:OpS T f r) (hs':OpS T f' r') {σ:St} {H:Hp} {Q:VK} (q:tE T E (ycK f f' sa sb sc) σ H Q):yeR r r' (tE T E sa) (tE T E sb) (tE T E sc) σ H Q:=by
 obtain ⟨ι,h,en,S,er,q⟩:=q
 refine ⟨ι,h,en,S,er,q.bind fun x h1 ι1 H1 u g1 S1 r1 q1=>⟨ι1,h1,en,S1,er.mono g1,q1.bind fun y h2 ι2 H2 w g2 S2 r2 q2=>?_⟩⟩
 refine hs ι2 h2 H2 x y u w (E σ) _ S2 (r1.mono g2) r2 (q2.bind fun z h3 ι3 H3 k g3 S3 r3 q3=>?_)
 split at q3
 ·rename_i kk
  rw [ycU r3]
  refine ⟨kk,rfl,?_⟩
  by_cases hkk:kk=true
  ·rw [if_pos hkk] at q3 ⊢
   refine ⟨ι3,h3,en,S3,er.mono (g1.trans (g2.trans g3)),q3.bind fun v h4 ι4 H4 j g4 S4 r4 q4=>?_⟩
   exact hs' ι4 h4 H4 y v w j _ Q S4 (r2.mono (g3.trans g4)) r4 q4
  ·rw [if_neg hkk] at q3 ⊢
   exact q3.now S3 (.bl _)
 ·exact q3.elim
theorem zdO {op op':CmpOp} {f f':F2} (ho:Op T X (compareOp op) f) (ho':Op T X (compareOp op') f') (ha:PEA T E X a sa) (hb:PEA T E X b sb) (hc:PEA T E X c sc) (hm:lastMarks [op,op'] [b,c]=false:=by with_unfolding_all rfl) :
  PEA T E X (.Compare a [op,op'] [b,c] pos) (ycK f f' sa sb sc):=by
 obtain ⟨r,h1,h2⟩:=ho
 obtain ⟨r',h1',h2'⟩:=ho'
 exact yaY (zhy h1 h1' ha hb hc hm) fun σ H Q q=>yf0 h2 h2' q
theorem zeJ {op op':CmpOp} {f f':F2} (ho:Op T X (compareOp op) f) (ho':Op T X (compareOp op') f') (ha:PEA T E X a sa) (hb:PEA T E X b sb) (hc:PEA T E X c sc) (hm:lastMarks [op,op'] [b,c]=false:=by with_unfolding_all rfl) :
  PTA T E X (.Compare a [op,op'] [b,c] pos) (yas (ycK f f' sa sb sc)):=by
 obtain ⟨r,h1,h2⟩:=ho
 obtain ⟨r',h1',h2'⟩:=ho'
 refine yeb (zhz h1 h1' ha hb hc hm) fun σ H Q q=>yf0 (E:=E) (Q:=fun x H' => ∃ k,x=V.bl k/\Q k H') h2 h2' ?_
 obtain ⟨ι,h,en,S,er,q⟩:=q
 refine ⟨ι,h,en,S,er,q.bind fun x h1 ι1 H1 u g1 S1 r1 q1=>?_⟩
 split at q1
 ·rw [ycU r1]
  exact ⟨_,rfl,q1.now S1 rfl⟩
 ·exact q1.elim
theorem ygR {ι:Ix} {h:AH} {H:Hp} {v:AV} {u:V} {k:Bool} (S:Sim T ι h H) (r:RV T ι H v u) (e:truA v h=some k):TruV T.K u H k:=by
 unfold truA at e
 cases r with
 | non=>cases e;rfl
 | bl b=>cases e;rfl
 | int b=>cases e;rfl
 | str n o=>cases e;exact ⟨n,rfl⟩
 | tup n q r=>cases e;exact .inr (.inl ⟨_,.of q,by cases r<;>rfl⟩)
 | fl n q r=>cases e;exact .inl ⟨_,.inl q,by cases r<;>rfl⟩
 | kfl q r=>cases e;exact .inl ⟨_,.inr q,by cases r<;>rfl⟩
 | @ref n a q =>
  dsimp only at e
  split at e
  ·rename_i xs hk
   cases e
   obtain ⟨u,e1,us,rfl,r⟩:=S.obj n _ a hk q
   exact .inl ⟨us,.inl (.inl e1),by cases r<;>rfl⟩
  ·rename_i xs hk
   cases e
   obtain ⟨u,e1,us,rfl,r⟩:=S.obj n _ a hk q
   exact .inr (.inr ⟨us,e1,by cases r<;>rfl⟩)
  ·cases e
 | exc _ _ _=>cases e
theorem zaU (hK:X.K=T.K) (ha:PEA T E X a sa) (he:∀ whole,isTrue a X.env whole=(do let v <- whole;standAt a.pos;holding [v] (truthy v)):=by intro _;rfl):PTA T E X a (ydI sa) :=
 yeb (zhA ha he) fun σ H Q ⟨ι,h,en,S,er,q⟩=>⟨ι,h,en,S,er,q.bind fun x h1 ι1 H1 u g1 S1 r1 q1=>by
  split at q1
  ·rename_i b hb
   exact ⟨b,hK▸ygR S1 r1 hb,q1.now S1 rfl⟩
  ·exact q1.elim⟩
variable {ca cb:SB} {rest:List Expr}
theorem ydi (ha:PTA T E X a ca):PTA T E X (.UnaryOp .Not a pos) (sNot ca) :=
 yeb (ygh ha) fun σ H Q ⟨ι,h,en,S,er,q⟩=>⟨ι,h,en,S,er,q.bind fun x h1 ι1 H1 u g1 S1 r1 q1=>by subst r1;exact q1.now S1 rfl⟩
theorem rt_w (h:PWA T E X a ca):PTA T E X a ca:=PW.pt h
theorem yeW (ha:PTA T E X a ca):PWA T E X (.BoolOp .Or [a] pos) ca:=ygg ha
theorem yfb (ha:PTA T E X a ca) (hb:PWA T E X (.BoolOp .Or (b::rest) pos) cb):PWA T E X (.BoolOp .Or (a::b::rest) pos) (sOr ca cb) :=
 ygO (yhv ha hb) fun σ H Q ⟨ι,h,en,S,er,q⟩=>⟨ι,h,en,S,er,q.bind fun x h1 ι1 H1 u g1 S1 r1 q1=>by
  subst r1
  by_cases hx:x=true
  ·rw [if_pos hx] at q1 ⊢
   exact q1.now S1 rfl
  ·rw [if_neg hx] at q1 ⊢
   exact ⟨ι1,h1,en,S1,er.mono g1,q1⟩⟩
theorem yek {op} (h:PEA T E X a sa):PEA T E X (.BoolOp op [a] pos) sa:=ygi h
theorem yex (ha:PEA T E X a sa) (hb:PEA T E X (.BoolOp .And (b::rest) pos) sb):PEA T E X (.BoolOp .And (a::b::rest) pos) (yeh sa sb) :=
 yaY (ygj ha hb) fun σ H Q ⟨ι,h,en,S,er,q⟩=>⟨ι,h,en,S,er,q.bind fun x h1 ι1 H1 u g1 S1 r1 q1=>by
  split at q1
  ·rename_i kk
   rw [ycU r1]
   refine ⟨kk,rfl,?_⟩
   by_cases hkk:kk=true
   ·rw [if_pos hkk] at q1 ⊢
    exact ⟨ι1,h1,en,S1,er.mono g1,q1⟩
   ·rw [if_neg hkk] at q1 ⊢
    exact q1.now S1 (.bl _)
  ·exact q1.elim⟩
theorem r_or (ha:PEA T E X a sa) (hb:PEA T E X (.BoolOp .Or (b::rest) pos) sb):PEA T E X (.BoolOp .Or (a::b::rest) pos) (sOrV sa sb) :=
 yaY (yhy ha hb) fun σ H Q ⟨ι,h,en,S,er,q⟩=>⟨ι,h,en,S,er,q.bind fun x h1 ι1 H1 u g1 S1 r1 q1=>by
  split at q1
  ·rename_i kk
   rw [ycU r1]
   refine ⟨kk,rfl,?_⟩
   by_cases hkk:kk=true
   ·rw [if_pos hkk] at q1 ⊢
    exact q1.now S1 (.bl _)
   ·rw [if_neg hkk] at q1 ⊢
    exact ⟨ι1,h1,en,S1,er.mono g1,q1⟩
  ·exact q1.elim⟩
theorem yhX (ha:PEA T E X a sa):PEA T E X (.UnaryOp .Not a pos) (yfX sa) :=
 yaY (ygk ha) fun σ H Q ⟨ι,h,en,S,er,q⟩=>⟨ι,h,en,S,er,q.bind fun x h1 ι1 H1 u g1 S1 r1 q1=>by
  split at q1
  ·rw [ycU r1]
   exact ⟨_,rfl,q1.now S1 (.bl _)⟩
  ·exact q1.elim⟩
variable {es:List Expr} {as:SL}
theorem yac:PAA T E X [] sNil:=yfx yfq fun σ H Q ⟨ι,h,en,S,er,q⟩=>q.now S .nil
theorem zaa (ha:PEA T E X a sa) (hr:PAA T E X es as) (hs:starEach (a::es) X.env=(false,eval a X.env)::starEach es X.env:=by rfl):PAA T E X (a::es) (yab sa as) :=
 yfx (zdK ha hr hs) fun σ H Q ⟨ι,h,en,S,er,q⟩=>⟨ι,h,en,S,er,q.bind fun x h1 ι1 H1 u g1 S1 r1 q1=>⟨ι1,h1,en,S1,er.mono g1,q1.bind fun xs h2 ι2 H2 us g2 S2 r2 q2=>q2.now S2 (.cons (r1.mono g2) r2)⟩⟩
theorem ydB {k} (h:PAA T E X es as):PEA T E X (.Tuple es k pos) (sTup as) :=
 yaY (ygy h) fun σ H Q ⟨ι,h,en,S,er,q⟩=>⟨ι,h,en,S,er,q.bind fun xs h1 ι1 H1 us g1 S1 r1 q1=>by
  split at q1
  ·rename_i hl
   exact ⟨by rw [<- r1.length];exact Nat.le_trans hl (by decide),fun p n=>zdN S1 r1 n q1⟩
  ·exact q1.elim⟩
theorem yeN (h:PAA T E X es as):PEA T E X (.List es pos) (sLst as) :=
 yaY (yfr h) fun σ H Q ⟨ι,h,en,S,er,q⟩=>⟨ι,h,en,S,er,q.bind fun xs h1 ι1 H1 us g1 S1 r1 q1=>by
  split at q1
  ·rename_i hl
   exact ⟨by rw [<- r1.length];exact Nat.le_trans hl (by decide),fun p n=>yew S1 r1 n q1⟩
  ·exact q1.elim⟩
theorem ybN (h:PAA T E X es as):PEA T E X (.List es pos) (ycd as) :=
 yaY (yfr h) fun σ H Q ⟨ι,h,en,S,er,q⟩=>⟨ι,h,en,S,er,q.bind fun xs h1 ι1 H1 us g1 S1 r1 q1=>by
  split at q1
  ·rename_i hl
   exact ⟨by rw [<- r1.length];exact Nat.le_trans hl (by decide),fun p n=>ziV S1 r1 n q1⟩
  ·exact q1.elim⟩
theorem ziY:PEA T E X (.Dict [] [] pos) (yfW true) :=
 yaY zhK fun σ H Q ⟨ι,h,en,S,er,q⟩ p n=>q _ _ _ (S.growAdd n) (S.add n ⟨[],rfl,.nil⟩) (.ref S.addAt)
end
end Sm
namespace Sm
open PySem L2
section
variable {T:Tb} {E:St->XK} {X:Cx} {pos:Pos} {a b:Expr} {sa sb:SE} {ca:SB} {st:Stmt} {sts ss1 ss2:List Stmt} {s1 s2:SS}
theorem yar:PSsA T E X [] yaC:=zfC ziv fun D σ H ⟨ι,h,en,S,er,q⟩=>q ι H σ S.refl S er
theorem zab (h1:PSA T E X st s1) (h2:PSsA T E X sts s2):PSsA T E X (st::sts) (sSeq s1 s2) :=
 zfC (zhv h1 h2) fun D σ H ⟨ι,h,en,S,er,q⟩=>by
  refine ⟨ι,h,en,S,er,?_⟩
  unfold sSeq at q
  cases e:s1 en h with
  | nx e1 h1 =>
   rw [e] at q
   exact fun ι' H' σ' g S' er' => ⟨ι',h1,e1,S',er',q.shift g⟩
  | rt v h1=>rw [e] at q;exact q
  | bk e1 h1=>rw [e] at q;exact q
  | ct e1 h1=>rw [e] at q;exact q
  | ex c e1 h1=>rw [e] at q;exact q
  | bad=>rw [e] at q;exact q
theorem yag (h1:PSA T E X st s1):PSsA T E X [st] s1:=ziw h1
theorem zgq:PSA T E X (.Continue pos) yfY:=ycu ze8 fun D σ H ⟨ι,h,en,S,er,q⟩=>q ι H σ S.refl S er
theorem yaF (ha:PEA T E X a sa) (hs:swapsWith a none pos.line X.env=pure false:=by rfl):PSA T E X (.Expr a pos) (yaO sa) :=
 ycu (zix ha hs) fun D σ H ⟨ι,h,en,S,er,q⟩=>⟨ι,h,en,S,er,q.go er fun v h1 ι1 H1 u g1 S1 r1 q1=>q1 ι1 H1 σ S1.refl S1 (er.mono g1)⟩
theorem yap (ha:PEA T E X a sa):PSA T E X (.Return (some a) pos) (sRet sa) :=
 ycu (ygl ha) fun D σ H ⟨ι,h,en,S,er,q⟩=>⟨ι,h,en,S,er,q.go er fun v h1 ι1 H1 u g1 S1 r1 q1=>q1 ι1 H1 u S1.refl S1 r1⟩
theorem r_if (hc:PTA T E X a ca) (h1:PSsA T E X ss1 s1) (h2:PSsA T E X ss2 s2):PSA T E X (.If a ss1 ss2 pos) (sIf ca s1 s2) :=
 ycu (yhC hc h1 h2) fun D σ H ⟨ι,h,en,S,er,q⟩=>⟨ι,h,en,S,er,q.go er fun x h1 ι1 H1 u g1 S1 r1 q1=>by
  subst r1
  by_cases hx:x=true
  ·rw [if_pos hx] at q1 ⊢
   exact ⟨ι1,h1,en,S1,er.mono g1,q1⟩
  ·rw [if_neg hx] at q1 ⊢
   exact ⟨ι1,h1,en,S1,er.mono g1,q1⟩⟩
theorem yfz {σ:St} {H:Hp} {D:Ends} {i:Nat} (q:tS T E (sSet i sa) D σ H):tAsg (tE T E sa) (yeg i) D σ H:=by
 obtain ⟨ι,h,en,S,er,q⟩:=q
 exact ⟨ι,h,en,S,er,q.go er fun v h1 ι1 H1 u g1 S1 r1 q1=>q1 ι1 H1 _ S1.refl S1 ((er.mono g1).set r1 i)⟩
theorem yak {i:Nat} {x:Str} {p':Pos} (hN:X.N.Nodup) (ha:PEA T E X a sa) (hi:X.N[i]? = some x:=by rfl) (hx:Loc X.env.scope x:=by first | exact Or.inl rfl | exact Or.inr rfl) (hs:swapsWith a (some (.Name x p')) pos.line X.env=pure false:=by rfl)
  (hf:X.fn x=true\/X.env.scope.names.lookup x=some .local:=by first | exact .inl rfl | exact .inr rfl | assumption):PSA T E X (.Assign [.Name x p'] a pos) (sSet i sa) :=
 ycu (ygo hN hi hx ha hs hf) fun D σ H q=>yfz q
theorem ziZ (n:Nat) (hc:PTA T EN X.nox a ca) (hb:PSsA T EN X.nox sts s1):PSA T E X (.While a sts [] pos) (yci ca s1 n) :=
 ycu (yfy (zhw PassesOwn.never hc hb)) fun D σ H ⟨ι,h,en,S,er,q⟩=>by
  refine ⟨fun m σ H=>∃ ι h en,Sim T ι h H/\ER T ι H en σ/\PostS T ι H E (yci ca s1 m en h) D,⟨n,ι,h,en,S,er,q⟩,?_⟩
  rintro m σ H ⟨ι,h,en,S,er,q⟩
  cases m with
  | zero=>exact (show False from q).elim
  | succ m =>
   unfold yci at q
   refine ⟨ι,h,en,S,er,?_⟩
   cases e:ca en h with
   | bad=>rw [e] at q;exact q
   | ex c h1=>rw [e] at q;exact (show False from q).elim
   | ok x h1 =>
    rw [e] at q
    intro ι1 H1 u g1 S1 r1
    subst r1
    have q1:=PostS.shift q g1
    cases x with
    | true =>
     rw [if_pos rfl]
     refine ⟨fun σ H=>∃ ι h en,Sim T ι h H/\ER T ι H en σ/\PostS T ι H E (yci ca s1 m en h) D,fun σ' H' w=>⟨m,Nat.lt_succ_self m,w⟩,ι1,h1,en,S1,er.mono g1,?_⟩
     dsimp only at q1
     cases e2:s1 en h1 with
     | nx e3 h3=>rw [e2] at q1;exact fun ι2 H2 σ2 g2 S2 er2=>⟨ι2,h3,e3,S2,er2,q1.shift g2⟩
     | ct e3 h3=>rw [e2] at q1;exact fun ι2 H2 σ2 g2 S2 er2=>⟨ι2,h3,e3,S2,er2,q1.shift g2⟩
     | bk e3 h3=>rw [e2] at q1;exact q1
     | rt v h3=>rw [e2] at q1;exact q1
     | ex c e3 h3=>rw [e2] at q1;exact (show False from q1).elim
     | bad=>rw [e2] at q1;exact q1
    | false =>
     rw [if_neg Bool.false_ne_true]
     exact q1 ι1 H1 σ S1.refl S1 (er.mono g1)
theorem zed {ι:Ix} {H:Hp}:∀ {is:List Nat} {xs:List AV} {us:List V} {en e:En} {σ:St},RVs T ι H xs us->ER T ι H en σ->yeS is xs en=some e->ER T ι H e ((is.zip us).foldl (fun σ p=>σ.set p.1 (some p.2)) σ)/\us.length=is.length
 | [],_,_,en,e,σ,.nil,er,q=>by cases q;exact ⟨er,rfl⟩
 | i::is,_,_,en,e,σ,.cons r rs,er,q=>by
  obtain ⟨h1,h2⟩:=zed (is:=is) rs (er.set r i) q
  exact ⟨h1,by simp [h2]⟩
 | [],_,_,en,e,σ,.cons r rs,er,q=>by cases q
 | i::is,_,_,en,e,σ,.nil,er,q=>by cases q
def PGA (T:Tb) (X:Cx) (tg:Expr) (t:Tg):Prop:=∃ g,PG X tg g/\∀ {ι:Ix} {h:AH} {H:Hp} {en e:En} {σ:St} {v:AV} {u:V} {Q:St->Hp->Prop},Sim T ι h H->ER T ι H en σ->RV T ι H v u->setT t v en=some e ->
 (∀ σ',ER T ι H e σ'->Q σ' H)->g u σ H Q
theorem za0 {i:Nat} {x:Str} (hN:X.N.Nodup) (hi:X.N[i]? = some x:=by rfl) (hx:Loc X.env.scope x:=by first | exact Or.inl rfl | exact Or.inr rfl) (hf:X.fn x=true\/X.env.scope.names.lookup x=some .local:=by first | exact .inl rfl | exact .inr rfl | assumption) :
  PGA T X (.Name x pos) (.nm i):=⟨_,zcI hN hi hx hf,fun S er r e k=>by cases e;exact k _ (er.set r i)⟩
def PGsA (X:Cx) (es:List Expr) (is:List Nat):Prop:=PGs X es (fun vs σ H Q=>vs.length=is.length/\Q ((is.zip vs).foldl (fun σ p=>σ.set p.1 (some p.2)) σ) H)
theorem zfF {X:Cx} {es:List Expr} {t t':TGs} (h:PGs X es t) (k:∀ vs σ H Q,t' vs σ H Q->t vs σ H Q):PGs X es t' := fun pins s σ H vs us Q I r q=>h pins s σ H vs us Q I r (k vs σ H Q q)
theorem zdP:PGsA X [] []:=zfF zfq fun vs σ H Q ⟨l,q⟩=>by
 cases vs with
 | nil=>exact ⟨rfl,q⟩
 | cons=>cases l
theorem zbp {i:Nat} {is:List Nat} {x:Str} {p:Pos} {es:List Expr} (hN:X.N.Nodup) (hr:PGsA X es is) (hi:X.N[i]? = some x:=by rfl) (hx:Loc X.env.scope x:=by first | exact Or.inl rfl | exact Or.inr rfl)
  (hf:X.fn x=true\/X.env.scope.names.lookup x=some .local:=by first | exact .inl rfl | exact .inr rfl | assumption) (hs:(assignEach (.Name x p::es) X.env).map (·.2)=assign (.Name x p) X.env::(assignEach es X.env).map (·.2):=by rfl):PGsA X (.Name x p::es) (i::is) :=
 zfF (zc6 (zcI hN hi hx hf) hr hs) fun vs σ H Q ⟨l,q⟩=>by
  cases vs with
  | nil=>cases l
  | cons v r=>exact ⟨v,r,rfl,Nat.succ.inj l,q⟩
theorem yeX {es:List Expr} {is:List Nat} {k:Nat} (hK:X.K=T.K) (hc:X.calm=true) (h:PGsA X es is) (hn:(assignEach es X.env).length=is.length:=by rfl) (hst:(assignEach es X.env).findIdx? (·.1)=none:=by rfl):PGA T X (.Tuple es k pos) (.tup is) :=
 ⟨_,yfn hc h hn hst,fun {ι h H en e σ v u Q} S er r q k=>by
  unfold setT at q
  split at q
  ·rename_i hh;cases hh
  ·rename_i hh
   cases hh
   obtain ⟨a,us,rfl,q1,r1⟩:=ydG r
   obtain ⟨h1,h2⟩:=zed r1 er q
   exact ⟨a,us,rfl,hK▸q1,h2,h2,k _ h1⟩
  ·cases q⟩
structure ItR (T:Tb) (J:It) (ι:Ix) (H:Hp) (xs:List AV) (w:Option Nat):Prop where
 go:∀ (i:Nat) (ι':Ix) (h':AH) (H':Hp) (x:AV),Ext ι H ι' H'->Sim T ι' h' H'->ybQ w xs h'=true->xs[i]? = some x->J.go i H'/\∀ u H2,J.yld i H' u H2->Grow ι' H' ι' H2/\Sim T ι' h' H2/\RV T ι' H2 x u
 stop:∀ (i:Nat) (ι':Ix) (h':AH) (H':Hp),Ext ι H ι' H'->Sim T ι' h' H'->ybQ w xs h'=true->xs.length<=i->J.stop i H'
def tI (T:Tb) (it:SI):TI:=fun σ H R=>∃ ι h en,Sim T ι h H/\ER T ι H en σ/\match it en h with
 | .ok (xs,w) h' => ∀ ι' H' J,Grow ι H ι' H'->Sim T ι' h' H'->ItR T J ι' H' xs w->R J H'
 | _=>False
abbrev PIA (T:Tb) (X:Cx) (tg iter:Expr) (it:SI):Prop:=PI X tg iter (tI T it)
theorem yey {X:Cx} {tg iter:Expr} {t t':TI} (h:PI X tg iter t) (k:∀ σ H R,t' σ H R->t σ H R):PI X tg iter t' := fun pins s σ H R I q=>h pins s σ H R I (k σ H R q)
theorem PI.or {X:Cx} {tg iter:Expr} {t t':TI} (h:PI X tg iter t) (h':PI X tg iter t'):PI X tg iter (fun σ H R=>t σ H R\/t' σ H R):=fun pins s σ H R I q=>q.elim (h pins s σ H R I) (h' pins s σ H R I)
theorem yfA {ι:Ix} {H:Hp} {a:Addr} {us:List V} {xs:List AV} {K:PySem.W.Frag} (keep:∀ (ι':Ix) (H':Hp),Ext ι H ι' H'->SqL K H' a us) (r:RVs T ι H xs us):ItR T (Itl K a) ι H xs none:=by
 constructor
 ·intro i ι' h' H' x g S _ e
  obtain ⟨u,e1,r1⟩:=(r.ext g).get e
  refine ⟨⟨us,u,keep ι' H' g,e1⟩,?_⟩
  rintro u2 H2 ⟨rfl,y⟩
  have z:=y us (keep ι' _ g)
  rw [e1] at z;cases z
  exact ⟨S.refl,S,r1⟩
 ·intro i ι' h' H' g S _ hl
  exact ⟨us,keep ι' H' g,by rw [<- r.length];exact hl⟩
theorem ygS {ι:Ix} {H:Hp} {a:Addr} {us:List V} {xs:List AV} {K:PySem.W.Frag} (keep:∀ (ι':Ix) (H':Hp),Ext ι H ι' H'->SqT K H' a us) (r:RVs T ι H xs us):ItR T (Itt K a) ι H xs none:=by
 constructor
 ·intro i ι' h' H' x g S _ e
  obtain ⟨u,e1,r1⟩:=(r.ext g).get e
  refine ⟨⟨us,u,keep ι' H' g,e1⟩,?_⟩
  rintro u2 H2 ⟨rfl,y⟩
  have z:=y us (keep ι' _ g)
  rw [e1] at z;cases z
  exact ⟨S.refl,S,r1⟩
 ·intro i ι' h' H' g S _ hl
  exact ⟨us,keep ι' H' g,by rw [<- r.length];exact hl⟩
theorem zi0 {ι:Ix} {H:Hp} {a:Addr} {n:Nat} {xs:List AV} {K:PySem.W.Frag} (e:ι.refs[n]? = some a):ItR T (Itl K a) ι H xs (some n):=by
 have at_:∀ {ι':Ix} {h':AH} {H':Hp},Ext ι H ι' H'->Sim T ι' h' H'->ybQ (some n) xs h'=true->∃ us,H' a=some (.lst us)/\RVs T ι' H' xs us:=fun {ι' h' H'} g S l=>by
  unfold ybQ at l
  dsimp only at l
  split at l
  ·rename_i ys hy
   have z:=of_decide_eq_true l
   subst z
   obtain ⟨u,e1,us,rfl,r⟩:=S.obj n _ a hy (g.at_ e)
   exact ⟨us,e1,r⟩
  ·cases l
 constructor
 ·intro i ι' h' H' x g S l e
  obtain ⟨us,e0,r⟩:=at_ g S l
  obtain ⟨u,e1,r1⟩:=r.get e
  refine ⟨⟨us,u,.of e0,e1⟩,?_⟩
  rintro u2 H2 ⟨rfl,y⟩
  have z:=y us (.of e0)
  rw [e1] at z;cases z
  exact ⟨S.refl,S,r1⟩
 ·intro i ι' h' H' g S l hl
  obtain ⟨us,e0,r⟩:=at_ g S l
  exact ⟨us,.of e0,by rw [<- r.length];exact hl⟩
theorem zi1 {ι:Ix} {H:Hp} {x:Str} (o:x.cps.all (· < 0x110000)=true):ItR T (Its x) ι H (x.cps.toList.map fun c=>.str ⟨#[c]⟩) none:=by
 constructor
 ·intro i ι' h' H' y g S _ e
  rw [List.getElem?_map] at e
  obtain ⟨c,e1,rfl⟩:=Option.map_eq_some_iff.mp e
  have hi:i<x.cps.size:=by
   have:=(List.getElem?_eq_some_iff.mp e1).1
   simpa using this
  refine ⟨hi,?_⟩
  rintro u H2 ⟨rfl,c',e2,rfl⟩
  have z:x.cps[i]? = some c:=by simpa using e1
  rw [e2] at z;cases z
  refine ⟨S.refl,S,.str (show 1<=sizeLine by decide) ?_⟩
  have m:=Array.mem_of_getElem? e2
  have:=Array.all_eq_true_iff_forall_mem.mp o _ m
  simpa using this
 ·intro i ι' h' H' g S _ hl
  show x.cps.size<=i
  simpa using hl
theorem zgr (n:Nat):∀ (lo:Int) (i:Nat),(yaW lo n)[i]? = if i<n then some (.int (lo+i)) else none:=by
 induction n with
 | zero=>intro lo i;simp [yaW]
 | succ n ih =>
  intro lo i
  cases i with
  | zero=>simp [yaW]
  | succ i =>
   show (yaW (lo+1) n)[i]? = _
   rw [ih]
   by_cases h:i<n
   ·rw [if_pos h,if_pos (by omega)]
    congr 2
    show lo+1+(i:Int)=lo+((i+1:Nat):Int)
    omega
   ·rw [if_neg h,if_neg (by omega)]
theorem zet (n:Nat):∀ lo:Int,(yaW lo n).length=n:=by
 induction n with
 | zero=>intro lo;rfl
 | succ n ih=>intro lo;show (yaW (lo+1) n).length+1=n+1;rw [ih]
theorem zg7 {ι:Ix} {H:Hp} {lo:Int} {n:Nat}:ItR T (Itr lo n) ι H (yaW lo n) none:=by
 constructor
 ·intro i ι' h' H' y g S _ e
  rw [zgr] at e
  split at e
  ·rename_i hi
   cases e
   refine ⟨hi,?_⟩
   rintro u H2 ⟨rfl,rfl⟩
   exact ⟨S.refl,S,.int _⟩
  ·cases e
 ·intro i ι' h' H' g S _ hl
  rw [zet] at hl
  exact hl
theorem yhY {ι:Ix} {H:Hp} {a:Addr} {us:List V} (n:a∉ι.all) (h:Rd H a (.lst us)):∀ (ι':Ix) (H':Hp),Ext ι H ι' H'->SqL T.K H' a us:=fun _ _ g=>.inl (zfB g n h)
theorem yhZ {ι:Ix} {H:Hp} {a:Addr} {us:List V} (n:a∉ι.all) (h:H a=some (.tup us)):∀ (ι':Ix) (H':Hp),Ext ι H ι' H'->SqT T.K H' a us:=fun _ _ g=>.of (g.keep _ _ n h)
theorem yfB {K K':PySem.W.Frag} {H:Hp} {a:Addr} {us:List V} (e:K=K') (h:SqL K' H a us):SqL K H a us:=e▸h
theorem yeO {σ:St} {H:Hp} {R:It->Hp->Prop} {ι:Ix} {h h1:AH} {en:En} {v:AV} {xs:List AV} {w:Option Nat} (hK:X.K=T.K) (S:Sim T ι h H) (er:ER T ι H en σ) (e:sa en h = .ok v h1) (hv:(v = .fl xs/\w=none)\/∃ n,v = .ref n/\h1[n]? = some (.lst xs)/\w=some n)
  (q:∀ ι' H' J,Grow ι H ι' H'->Sim T ι' h1 H'->ItR T J ι' H' xs w->R J H'):yfS X.K (tE T E sa) σ H R:=by
 refine ⟨ι,h,en,S,er,?_⟩
 rw [e]
 intro ι1 H1 u g1 S1 r1
 rcases hv with ⟨rfl,rfl⟩ | ⟨n,rfl,hn,rfl⟩
 ·cases r1 with
  | fl n hr rs=>exact ⟨_,rfl,⟨_,yfB hK (.inl hr)⟩,q ι1 H1 _ g1 S1 (hK▸yfA (yhY n hr) rs)⟩
  | kfl hr rs=>exact ⟨_,rfl,⟨_,yfB hK (.inr hr)⟩,q ι1 H1 _ g1 S1 (hK▸yfA (fun _ _ _=>.inr hr) rs)⟩
 ·cases r1 with
  | ref hr =>
   obtain ⟨u,e1,us,rfl,rs⟩:=S1.obj n _ _ hn hr
   exact ⟨_,rfl,⟨_,.of e1⟩,q ι1 H1 _ g1 S1 (zi0 hr)⟩
theorem yf1 {σ:St} {H:Hp} {R:It->Hp->Prop} {ι:Ix} {h h1:AH} {en:En} {xs:List AV} (hK:X.K=T.K) (S:Sim T ι h H) (er:ER T ι H en σ) (e:sa en h = .ok (.tup xs) h1)
  (q:∀ ι' H' J,Grow ι H ι' H'->Sim T ι' h1 H'->ItR T J ι' H' xs none->R J H'):iTup X.K (tE T E sa) σ H R:=by
 refine ⟨ι,h,en,S,er,?_⟩
 rw [e]
 intro ι1 H1 u g1 S1 r1
 cases r1 with
 | tup n hr rs=>exact ⟨_,rfl,⟨_,.of hr⟩,q ι1 H1 _ g1 S1 (hK▸ygS (yhZ n hr) rs)⟩
theorem zbY {tg:Expr} (hK:X.K=T.K) (ha:PEA T E X a sa):PIA T X tg a (ybz sa) :=
 yey (PI.or (zfr ha) (yfo ha)) fun σ H R ⟨ι,h,en,S,er,q⟩=>by
  unfold ybz at q
  cases e:sa en h with
  | bad=>rw [e] at q;exact q.elim
  | ex c h1=>rw [e] at q;exact q.elim
  | ok v h1 =>
   rw [e] at q
   cases v with
   | fl xs=>exact .inl (yeO hK S er e (.inl ⟨rfl,rfl⟩) q)
   | tup xs=>exact .inr (yf1 hK S er e q)
   | ref n =>
    dsimp only [Out.bind] at q
    cases e2:h1[n]? with
    | none=>rw [e2] at q;exact q.elim
    | some o =>
     rw [e2] at q
     cases o with
     | lst xs=>exact .inl (yeO hK S er e (.inr ⟨n,rfl,e2,rfl⟩) q)
     | _=>exact q.elim
   | _=>exact q.elim
theorem yd5 {y:Str} {py:Pos} (hK:X.K=T.K) (ha:PEA T E X a sa):PIA T X (.Name y py) a (iVal sa) :=
 yey (PI.or (zfr ha) (PI.or (yfo ha) (ygH ha))) fun σ H R ⟨ι,h,en,S,er,q⟩=>by
  unfold iVal at q
  cases e:sa en h with
  | bad=>rw [e] at q;exact q.elim
  | ex c h1=>rw [e] at q;exact q.elim
  | ok v h1 =>
   rw [e] at q
   cases v with
   | fl xs=>exact .inl (yeO hK S er e (.inl ⟨rfl,rfl⟩) q)
   | tup xs=>exact .inr (.inl (yf1 hK S er e q))
   | str z =>
    refine .inr (.inr ⟨ι,h,en,S,er,?_⟩)
    rw [e]
    intro ι1 H1 u g1 S1 r1
    obtain ⟨rfl,_,o⟩:=ya9 r1
    exact ⟨_,rfl,q ι1 H1 _ g1 S1 (zi1 o)⟩
   | ref n =>
    dsimp only [Out.bind] at q
    cases e2:h1[n]? with
    | none=>rw [e2] at q;exact q.elim
    | some o =>
     rw [e2] at q
     cases o with
     | lst xs=>exact .inl (yeO hK S er e (.inr ⟨n,rfl,e2,rfl⟩) q)
     | _=>exact q.elim
   | _=>exact q.elim
theorem za9 {tg:Expr} {p:Pos} (hg:Gl X "range") (hm:X.mg "range" = none) (ha:PEA T E X a sa) (hs:starEach [a] X.env=[(false,eval a X.env)]:=by rfl):PIA T X tg (.Call (.Name "range" p) [a] [] pos) (yba sa) :=
 yey (zgI hg hm (zaa ha yac hs) hs) fun σ H R ⟨ι,h,en,S,er,q⟩=>by
  unfold yba at q
  refine ⟨ι,h,en,S,er,?_⟩
  unfold yab
  cases e:sa en h with
  | bad=>rw [e] at q;exact q
  | ex c h1=>rw [e] at q;exact q.elim
  | ok v h1 =>
   rw [e] at q
   intro ι1 H1 u g1 S1 r1
   dsimp only [Out.bind] at q
   cases v with
   | int j =>
    dsimp only at q
    split at q
    ·rename_i hx
     split at hx
     ·rename_i hb
      cases hx
      cases r1 with
      | cons r r' =>
       cases r'
       rw [yaI r]
       exact ⟨j,rfl,by omega,by omega,q ι1 H1 _ g1 S1 zg7⟩
     ·cases hx
    ·exact q.elim
   | _=>exact q.elim
theorem zcr {α:Type} {xs:List α} {i:Nat} (h:i<xs.length):xs.drop i=xs[i]::xs.drop (i+1):=by simp
theorem yc7 {tg iter:Expr} {it:SI} {t:Tg} (hc:X.calm=true) (hi:PIA T X.nox tg iter it) (hg:PGA T X.nox tg t) (hb:PSsA T EN X.nox sts s1) (hs:∀ x,foldedSetIterable iter X.nox.env x=pure x:=by intro _;rfl) :
  PSA T E X (.For tg iter sts [] pos) (sFor it t s1):=by
 obtain ⟨g,hg1,hg2⟩:=hg
 refine ycu (yfy (ygq PassesOwn.never hc hi hg1 hb hs)) fun D σ H ⟨ι,h,en,S,er,q⟩=>⟨ι,h,en,S,er,?_⟩
 unfold sFor at q
 cases e:it en h with
 | bad=>rw [e] at q;exact q
 | ex c h1=>rw [e] at q;exact q
 | ok p h1 =>
  obtain ⟨xs,w⟩:=p
  rw [e] at q
  intro ι1 H1 J g1 S1 IR
  refine ⟨fun i m σ H=>m=xs.length-i/\i<=xs.length/\∃ ι' h' en',Grow ι1 H1 ι' H/\Sim T ι' h' H/\ER T ι' H en' σ/\PostS T ι' H E (ycv w xs t s1 (xs.drop i) en' h') D,
   ⟨xs.length,by simp,Nat.zero_le _,ι1,h1,en,S1.refl,S1,er.mono g1,PostS.shift q g1⟩,?_⟩
  rintro i m σ H ⟨rfl,hi,ι',h',en',g',S',er',q'⟩
  by_cases hl:i<xs.length
  ·rw [zcr hl] at q'
   unfold ycv at q'
   split at q'
   ·rename_i hlive
    obtain ⟨go,yld⟩:=IR.go i ι' h' H xs[i] g'.ext S' hlive (by simp [hl])
    refine .inr ⟨go,fun σ H=>∃ ι' h' en',Grow ι1 H1 ι' H/\Sim T ι' h' H/\ER T ι' H en' σ/\PostS T ι' H E (ycv w xs t s1 (xs.drop (i+1)) en' h') D,
     fun σ' H' w' => ⟨xs.length-(i+1),by omega,rfl,hl,w'⟩,fun x H' y=>?_⟩
    obtain ⟨g2,S2,r2⟩:=yld x H' y
    split at q'
    ·rename_i e1 he1
     refine hg2 S2 (er'.mono g2) r2 he1 fun σ' er2=>⟨ι',h',e1,S2,er2,?_⟩
     have q2:=PostS.shift q' g2
     cases e2:s1 e1 h' with
     | nx e3 h3=>rw [e2] at q2;exact fun ι3 H3 σ3 g3 S3 er3=>⟨ι3,h3,e3,g'.trans (g2.trans g3),S3,er3,q2.shift g3⟩
     | ct e3 h3=>rw [e2] at q2;exact fun ι3 H3 σ3 g3 S3 er3=>⟨ι3,h3,e3,g'.trans (g2.trans g3),S3,er3,q2.shift g3⟩
     | bk e3 h3=>rw [e2] at q2;exact q2
     | rt v h3=>rw [e2] at q2;exact q2
     | ex c e3 h3=>rw [e2] at q2;exact (show False from q2).elim
     | bad=>rw [e2] at q2;exact q2
    ·exact (show False from q').elim
   ·exact (show False from q').elim
  ·have ei:i=xs.length:=by omega
   subst ei
   rw [List.drop_length] at q'
   unfold ycv at q'
   split at q'
   ·rename_i hlive
    exact .inl ⟨IR.stop _ ι' h' H g'.ext S' hlive (Nat.le_refl _),q' ι' H σ S'.refl S' er'⟩
   ·exact (show False from q').elim
theorem ER.comp {ι:Ix} {H:Hp} {en:En} {σ:St} {x:AV} {u:V} {jf:List (Nat×Str)} (er:ER T ι H en σ) (r:RV T ι H x u):ER T ι H (some x::(jf.map (·.1)).map fun j=>(en[j]?).join) (ybL (some u) jf σ):=by
 refine ⟨by simp [ybL],fun i v e=>?_⟩
 cases i with
 | zero=>simp at e;subst e;exact ⟨u,rfl,r⟩
 | succ i =>
  simp only [List.getElem?_cons_succ,List.getElem?_map] at e
  unfold ybL
  simp only [List.getElem?_cons_succ,List.getElem?_map]
  cases e1:jf[i]? with
  | none=>rw [e1] at e;cases e
  | some j =>
   rw [e1] at e
   simp only [Option.map_some,Option.some.injEq] at e
   have e2:en[j.1]? = some (some v):=by
    cases e3:en[j.1]? with
    | none=>rw [e3] at e;cases e
    | some o=>rw [e3] at e;exact congrArg some e
   obtain ⟨u',e4,r'⟩:=er.2 j.1 v e2
   exact ⟨u',by simp [e4],r'⟩
theorem zi2 {jf:List (Nat×Str)} {it:SI} {cc:SB} {ce:SE} {σ:St} {H:Hp} {Q:VK} {ι:Ix} {h:AH} {en:En} (S:Sim T ι h H) (er:ER T ι H en σ)
  (q:match it en h with | .ok (xs,w) h1=>(match yaV (jf.map (·.1)) en w xs cc ce xs [] h1 with | .ok ys h2=>∀ ι' H' D vs,Grow ι H ι' H'->Sim T (ι'.hide D) h2 H'->RVs T (ι'.hide D) H' ys vs->H' D=some (.lst vs)->D∉ι'.all->(∀ n,ι'.refs=ι.refs++n->∀ a∈n++[D],H a=none)->Q (.ref D) H' | _=>False) | _=>False) :
  yet jf (tI T it) (tT T EN cc) (tE T EN ce) σ H Q:=by
 refine ⟨ι,h,en,S,er,?_⟩
 cases e:it en h with
 | bad=>rw [e] at q;exact q
 | ex c h1=>rw [e] at q;exact q
 | ok p h1 =>
  obtain ⟨xs,w⟩:=p
  rw [e] at q
  dsimp only at q
  intro ι1 H1 J g1 S1 IR D hD
  refine ⟨fun i m ys H2=>m=xs.length-i/\i<=xs.length/\H2 D=some (.lst ys)/\∃ ι' h' vs,Grow ι1 H1 ι' H2/\Ext ι1 H1 (ι'.hide D) H2/\Sim T (ι'.hide D) h' H2/\ER T (ι'.hide D) H2 en σ/\RVs T (ι'.hide D) H2 vs ys/\D∉ι'.refs /\
   (match yaV (jf.map (·.1)) en w xs cc ce (xs.drop i) vs h' with | .ok ys h2=>∀ ι' H' D vs,Grow ι H ι' H'->Sim T (ι'.hide D) h2 H'->RVs T (ι'.hide D) H' ys vs->H' D=some (.lst vs)->D∉ι'.all->(∀ n,ι'.refs=ι.refs++n->∀ a∈n++[D],H a=none)->Q (.ref D) H' | _=>False),?_,?_⟩
  ·exact ⟨xs.length,by simp,Nat.zero_le _,zav,ι1,h1,[],S1.growNew hD,Ext.hide hD,S1.hide hD,(er.mono g1).ext (Ext.hide hD),.nil,fun z=>S1.fresh hD (List.mem_append_left _ z),q⟩
  ·rintro i m ys H2 ⟨rfl,hi,hH2,ι',h',vs,g',x',S',er',rv',nD',q'⟩
   refine ⟨hH2,?_⟩
   by_cases hl:i<xs.length
   ·rw [zcr hl] at q'
    unfold yaV at q'
    by_cases hs:ybQ w xs h'=true/\vs.length<sizeLine
    ·rw [if_pos hs] at q'
     obtain ⟨hs1,hs2⟩:=hs
     obtain ⟨go,yld⟩:=IR.go i _ h' H2 xs[i] x' S' hs1 (by simp [hl])
     refine .inr ⟨go,by rw [<- rv'.length];exact hs2,fun x H3 y=>?_⟩
     obtain ⟨g3,S3,r3⟩:=yld x H3 y
     have er3:=er'.mono g3
     refine ⟨ι'.hide D,h',_,S3,ER.comp er3 r3,?_⟩
     cases ec:cc (some xs[i]::(jf.map (·.1)).map fun j=>(en[j]?).join) h' with
     | bad=>rw [ec] at q';exact q'
     | ex c h5=>rw [ec] at q';exact q'.elim
     | ok bb h5 =>
      rw [ec] at q'
      intro ι5 H5 b5 g5 S5 r5
      subst r5
      have g35:=g3.trans g5
      have hD5:H5 D=some (.lst ys):=g35.keep D _ nD' hH2
      have eι:ι5=Ix.hide ⟨ι5.refs,ι'.priv⟩ D:=by
       have:=g5.priv
       cases ι5
       simp only at this
       subst this
       rfl
      have nD5:D∉ι5.refs:=g35.outR nD' hH2
      have gG5:Grow ι1 H1 ⟨ι5.refs,ι'.priv⟩ H5:=by
       obtain ⟨n,en1,hn⟩:=g'.pre
       obtain ⟨k,ek,hk⟩:=g35.pre
       refine ⟨⟨n++k,?_,fun a ha=>?_⟩,g'.priv,fun a o na ea=>?_,fun a ha=>?_⟩
       ·show ι5.refs=_;rw [ek];show ι'.refs++k=_;rw [en1];simp
       ·rcases List.mem_append.mp ha with z | z
        ·exact hn a z
        ·have z2:=hk a z
         by_cases hr:a∈ι1.refs
         ·exact absurd z2 (g'.live a (List.mem_append_left _ hr))
         ·cases e9:H1 a with
          | none=>rfl
          | some o=>rw [g'.keep a o hr e9] at z2;cases z2
       ·exact g35.keep a o (g'.outR na ea) (g'.keep a o na ea)
       ·have:a∈(ι'.hide D).all:=by
         rcases List.mem_append.mp ha with z | z
         ·exact List.mem_append_left _ (by show a∈ι'.refs;rw [en1];exact List.mem_append_left _ z)
         ·exact List.mem_append_right _ (List.mem_cons_of_mem _ (by rw [g'.priv];exact z))
        exact g35.live a this
      have x5:Ext ι1 H1 (Ix.hide ⟨ι5.refs,ι'.priv⟩ D) H5:=eι▸x'.trans g35.ext
      have er5:=er3.mono g5
      have rv5:=(rv'.mono g35)
      cases bb with
      | false =>
       rw [if_neg Bool.false_ne_true]
       refine ⟨xs.length-(i+1),by omega,rfl,hl,hD5,⟨ι5.refs,ι'.priv⟩,h5,vs,gG5,x5,eι▸S5,eι▸er5,eι▸rv5,nD5,q'⟩
      | true =>
       rw [if_pos rfl]
       refine ⟨ι5,h5,_,S5,(ER.comp er3 r3).mono g5,?_⟩
       dsimp only at q'
       cases ee:ce (some xs[i]::(jf.map (·.1)).map fun j=>(en[j]?).join) h5 with
       | bad=>rw [ee] at q';exact q'
       | ex c h6=>rw [ee] at q';exact q'.elim
       | ok v h6 =>
        rw [ee] at q'
        intro ι6 H6 u6 g6 S6 r6
        have g56:=g6
        have hD6:H6 D=some (.lst ys):=g56.keep D _ nD5 hD5
        have eι6:ι6=Ix.hide ⟨ι6.refs,ι'.priv⟩ D:=by
         have h1:=g6.priv
         have h2:=g5.priv
         rw [h2] at h1
         cases ι6
         simp only at h1
         subst h1
         rfl
        have nD6:D∉ι6.refs:=g56.outR nD5 hD5
        have gG6:Grow ι1 H1 ⟨ι6.refs,ι'.priv⟩ (upd H6 D (.lst (ys++[u6]))):=by
         obtain ⟨n,en1,hn⟩:=gG5.pre
         obtain ⟨k,ek,hk⟩:=g56.pre
         have hD1:∀ a o,H1 a=some o->a≠D:=fun a o ea=>zax ea hD
         refine ⟨⟨n++k,?_,fun a ha=>?_⟩,g'.priv,fun a o na ea=>?_,fun a ha=>?_⟩
         ·show ι6.refs=_;rw [ek];have z:ι5.refs=ι1.refs++n:=en1;rw [z];simp
         ·rcases List.mem_append.mp ha with z | z
          ·exact hn a z
          ·have z2:=hk a z
           by_cases hr:a∈ι1.refs
           ·exact absurd z2 (gG5.live a (List.mem_append_left _ hr))
           ·cases e9:H1 a with
            | none=>rfl
            | some o=>rw [gG5.keep a o hr e9] at z2;cases z2
         ·rw [yaN (hD1 a o ea)]
          exact g56.keep a o (gG5.outR na ea) (gG5.keep a o na ea)
         ·by_cases zD:a=D
          ·subst zD;rw [zav];simp
          ·rw [yaN zD]
           have:a∈ι5.all:=by
            rcases List.mem_append.mp ha with z | z
            ·exact List.mem_append_left _ (by have z':ι5.refs=ι1.refs++n:=en1;rw [z'];exact List.mem_append_left _ z)
            ·rw [eι];exact List.mem_append_right _ (List.mem_cons_of_mem _ (by show a∈ι'.priv;rw [g'.priv];exact z))
           exact g56.live a this
        refine ⟨hD6,xs.length-(i+1),by omega,rfl,hl,zav,⟨ι6.refs,ι'.priv⟩,h6,vs++[v],gG6,?_,?_,?_,?_,nD6,q'⟩
        ·exact (eι6▸(x'.trans (g35.ext.trans g6.ext))).trans Ext.poke
        ·exact Sim.poke (eι6▸S6) nD6
        ·exact ER.ext (eι6▸er5.mono g6) Ext.poke
        ·have:RVs T ι6 H6 (vs++[v]) (ys++[u6]):=(rv5.mono g6).append (.cons r6 .nil)
         exact RVs.ext Ext.poke (eι6▸this)
    ·rw [if_neg hs] at q';exact q'.elim
   ·have ei:i=xs.length:=by omega
    subst ei
    rw [List.drop_length] at q'
    unfold yaV at q'
    by_cases hs:ybQ w xs h'=true
    ·rw [if_pos hs] at q'
     have hp:D∉ι'.priv:=fun z=>by rw [g'.priv] at z;exact S1.plive D z hD
     refine .inl ⟨IR.stop _ _ h' H2 x' S' hs (Nat.le_refl _),q' ι' H2 D ys (g1.trans g') S' rv' hH2 (fun z=>(List.mem_append.mp z).elim nD' hp) fun n en1 a ha=>?_⟩
     obtain ⟨k,ek,hk⟩:=(g1.trans g').pre
     have:n=k:=List.append_cancel_left (en1.symm.trans ek)
     subst this
     rcases List.mem_append.mp ha with z | z
     ·exact hk a z
     ·have z':a=D:=by simpa using z
      subst z'
      cases e9:H a with
      | none=>rfl
      | some o =>
       by_cases hr:a∈ι.refs
       ·have z1:a∈ι1.refs:=by
         obtain ⟨k1,ek1,_⟩:=g1.pre
         rw [ek1];exact List.mem_append_left _ hr
        exact absurd hD (S1.live a (List.mem_append_left _ z1))
       ·rw [g1.keep a o hr e9] at hD;cases hD
    ·rw [if_neg hs] at q';exact q'.elim
end
end Sm
namespace Sm
open PySem PySem.Spec L2
section
variable {T:Tb} {E:St->XK} {X:Cx} {pos px:Pos} {iter elt:Expr} {ifs:List Expr} {scope:Scope} {x₁:Str} {jf:List (Nat×Str)} {it:SI} {cc:SB} {ce:SE}
theorem zfG {σ:St} {H:Hp} {Q:VK} (q:tE T E (ybn (jf.map (·.1)) it cc ce) σ H Q):yet jf (tI T it) (tT T EN cc) (tE T EN ce) σ H Q:=by
 obtain ⟨ι,h,en,S,er,q⟩:=q
 refine zi2 S er ?_
 unfold ybn at q
 cases e:it en h with
 | bad=>rw [e] at q;exact q
 | ex c h1=>rw [e] at q;exact q.elim
 | ok p h1 =>
  obtain ⟨xs,w⟩:=p
  rw [e] at q
  dsimp only at q ⊢
  cases e2:yaV (jf.map (·.1)) en w xs cc ce xs [] h1 with
  | bad=>rw [e2] at q;exact q
  | ex c h1=>rw [e2] at q;exact q.elim
  | ok ys h2 =>
   rw [e2] at q
   exact fun ι' H' D vs g S' r hD nD _=>q ι' H' _ g S'.show (.fl nD (.inl hD) (r.ext Ext.show))
theorem zbE:PTs X [] (tT T E sYes):=fun pins s σ H Q I ⟨ι,h,en,S,er,q⟩=>ziM pins s σ H Q I (q.now S rfl)
theorem zi3 {c:Expr} (hc:PTA T E X c cc):PTs X [c] (tT T E cc):=ziN hc
structure CompOk (X:Cx) (x₁:Str) (jf:List (Nat×Str)) (scope:Scope):Prop where
 hN:(x₁::jf.map (·.2)).Nodup
 hx:scope.names.lookup x₁=some .local
 hjf:∀ p∈jf,X.N[p.1]? = some p.2
 hjl:∀ p∈jf,scope.names.lookup p.2=some .free
 hkind:scope.kind = .function
 hcell:∀ y∈scope.names,y.2 ≠ .cell
 hfr:∀ y∈scope.names,y.2 = .free->X.env.kindOf y.1=some .cell\/X.env.kindOf y.1=some .free
 hnames:∀ y∈scope.names,y.2 = .local->scope.names.lookup y.1=some .local
theorem yeY (C:CompOk X x₁ jf scope) (hcalm:X.calm=true) (hi:PIA T X (.Name x₁ px) iter it) (hc:∀ pins cl s H fp,PTs (ya6 X pins x₁ jf scope cl s H fp) ifs (tT T EN cc)) (he:∀ pins cl s H fp,PEA T EN (ya6 X pins x₁ jf scope cl s H fp) elt ce)
  (hs:∀ x,foldedSetIterable iter X.env x=pure x:=by intro _;rfl):PEA T E X (.ListComp elt [⟨.Name x₁ px,iter,ifs,0⟩] scope pos) (ybn (jf.map (·.1)) it cc ce) :=
 yaY (ziO hcalm hi hc he C.hN C.hx C.hjf C.hjl C.hkind C.hcell C.hfr C.hnames hs) fun _ _ _ q=>zfG q
theorem zfH {y:Str} {py spos:Pos} {i:Nat} (C:CompOk X x₁ jf scope) (hcalm:X.calm=true) (hi:PIA T X (.Name x₁ px) iter it) (hc:∀ pins cl s H fp,PTs (ya6 X pins x₁ jf scope cl s H fp) ifs (tT T EN cc)) (he:∀ pins cl s H fp,PEA T EN (ya6 X pins x₁ jf scope cl s H fp) elt ce)
  (hNX:X.N.Nodup) (hi':X.N[i]? = some y:=by rfl) (hy:X.env.scope.names.lookup y=some .local:=by rfl) (hsw:swapsWith (.ListComp elt [⟨.Name x₁ px,iter,ifs,0⟩] scope pos) (some (.Name y py)) spos.line X.env=pure true:=by rfl) (hs:∀ x,foldedSetIterable iter X.env x=pure x:=by intro _;rfl) :
  PSA T E X (.Assign [.Name y py] (.ListComp elt [⟨.Name x₁ px,iter,ifs,0⟩] scope pos) spos) (sSet i (ybn (jf.map (·.1)) it cc ce)) :=
 ycu (ziP hcalm hi hc he C.hN C.hx C.hjf C.hjl C.hkind C.hcell C.hfr C.hnames hNX hi' hy hsw hs) fun D σ H q=>zfG (yfz q)
end
def spA (T:Tb) (F:Fn):Sp:=fun vs H Q E=>∃ ι h args,Sim T ι h H/\RVs T ι H args vs/\Post T ι H E (RV T) (F args h) Q
def yh0 (F:Fn) (n:Nat):Prop:=∀ args h,args.length≠n->F args h = .bad
theorem zdy (n m:Nat) (b:SS):yh0 (mkFn n m b) n:=fun args h hl=>by
 unfold mkFn
 rw [if_neg hl]
theorem okA {P:Program} {w:World} {K:PySem.W.Frag} {mg:Str->Option Value} {base:Heap} {T:Tb} {x qual:Str} {st:Stmt} {f:Addr} {fd:FuncData} {N ps:List Str} {k:Nat} {b:SS} (F:Fun K x qual st f fd) (hK:K=T.K) (S:FnScope N ps (yad st))
  (hbody:∀ (cdv:Value) (A:Around) (outer:List Env) (s:Shared) (H:Hp) (E:XK),Room k (A.deeper (PyProof.Rows.envOfC qual (yad st) s.heap.objs.size f cdv))->CA T (fun _=>E) (cxOf (CXE P w) P w K mg base N qual (yad st) f cdv A outer s H E) ->
   PSsA T (fun _=>E) (cxOf (CXE P w) P w K mg base N qual (yad st) f cdv A outer s H E) (yan st) b):FnOk P w K mg base (CXE P w) (k+1) f fd ps (spA T (mkFn ps.length N.length b)):=by
 refine F.okE S (fun vs H Q E h=>?_) (fun cdv A outer s H vs Q E hr h=>?_)
 ·obtain ⟨ι,h,args,_,r,q⟩:=h
  by_cases hl:args.length=ps.length
  ·rw [<- hl,r.length]
  ·rw [zdy _ _ _ args h hl] at q;exact q.elim
 ·obtain ⟨ι,h,args,Si,r,q⟩:=h
  refine ⟨_,hbody cdv A outer s H E hr ⟨hK,ziR⟩,ι,h,args.map some++List.replicate (N.length-ps.length) none,Si,?_,?_⟩
  ·by_cases hl:args.length=ps.length
   ·refine ⟨by simp [L2.start,r.length,<- hl],fun i v e=>?_⟩
    unfold L2.start
    by_cases hi:i<args.length
    ·rw [List.getElem?_append_left (by simpa using hi),List.getElem?_map] at e
     rw [List.getElem?_append_left (by simpa [<- r.length] using hi),List.getElem?_map]
     obtain ⟨x,e1,e2⟩:=Option.map_eq_some_iff.mp e
     cases e2
     obtain ⟨u,e3,r3⟩:=r.get e1
     exact ⟨u,by rw [e3];rfl,r3⟩
    ·rw [List.getElem?_append_right (by simpa using hi),List.getElem?_replicate] at e
     split at e
     ·cases e
     ·cases e
   ·rw [zdy _ _ _ args h hl] at q;exact q.elim
  ·unfold mkFn at q
   split at q
   ·split at q
    ·rename_i e1 h1 he
     rw [he]
     exact fun ι' H' σ' g S' er=>q ι' H' _ g S' .non
    ·rename_i v h1 he
     rw [he]
     exact q
    ·rename_i c e1 h1 he
     rw [he]
     exact fun ι' H' σ' C g S' er ec=>q ι' H' C g S' ec
    ·exact q.elim
   ·exact q.elim
structure GF (P:Program) (w:World) (T:Tb) (mg:Str->Option Value) (base:Heap) (k:Nat) (x:Str) (F:Fn):Prop where
 ex:∃ f fd ps,mg x=some (.ref f)/\PySem.W.keepIn T.K (.ref f)=true/\Binds T.K fd ps []/\FnOk P w T.K mg base (CXE P w) k f fd ps (spA T F)
structure GM (P:Program) (w:World) (T:Tb) (mg:Str->Option Value) (base:Heap) (k:Nat) (c:Nat) (m:Str) (F:Fn):Prop where
 ex:∃ C f fd ps,T.cls c=some C/\Cls T.K C/\Meth T.K C m f/\Binds T.K fd ps []/\FnOk P w T.K mg base (CXE P w) k f fd ps (spA T F)
 no:m∉T.fields c
section
variable {T:Tb} {E:St->XK} {X:Cx} {pos p apos:Pos} {e o a:Expr} {es:List Expr} {x m:Str} {F:Fn} {k c:Nat} {as:SL} {so sa:SE}
theorem yai (hK:X.K=T.K) (C:CA T E X) (G:GF X.prog X.w T X.mg X.base k x F) (hr:Room k X.A) (hg:Gl X x) (ha:PAA T E X (e::es) as) (hdb:(x == ("__debug__" : Str))=false:=by decide)
  (he:starEach (e::es) X.env=(false,eval e X.env)::starEach es X.env:=by rfl) (hpl:(backTo pos (starEach es X.env)).any (·.1)=false:=by rfl):PEA T E X (.Call (.Name x p) (e::es) [] pos) (yaf F as):=by
 obtain ⟨f,fd,ps,h1,h2,h3,h4⟩:=G.ex
 refine yaY (zhT (Ex:=E) (dvs:=[]) (hK▸h4) hr hg h1 (hK▸h2) (hK▸h3) .nil C.pass ha hdb he hpl) fun σ H Q ⟨ι,h,en,S,er,q⟩=>⟨ι,h,en,S,er,q.bind fun xs h1 ι1 H1 us g1 S1 r1 q1=>?_⟩
 rw [List.append_nil]
 exact ⟨ι1,h1,xs,S1,r1,q1⟩
theorem zfI {C:Addr} {σ:St} {H:Hp} {Q:VK} (hc:T.cls c=some C) (no:m∉T.fields c) (q:tE T E (yam c F so as) σ H Q):yft C m (spA T F) [] E (tE T E so) (tA T E as) σ H Q:=by
 obtain ⟨ι,h,en,S,er,q⟩:=q
 refine ⟨ι,h,en,S,er,q.bind fun x h1 ι1 H1 u g1 S1 r1 q1=>?_⟩
 split at q1
 ·rename_i n
  split at q1
  ·rename_i c' fs hn
   split at q1
   ·rename_i ec
    subst ec
    cases r1 with
    | @ref _ a hr =>
     obtain ⟨o,e1,C',dx,fus,hC,rfl,nd,hw,hl,_⟩:=S1.obj n _ a hn hr
     rw [hc] at hC;cases hC
     refine ⟨a,dx,fus,rfl,e1,?_,ι1,h1,en,S1,er.mono g1,q1.bind fun xs h2 ι2 H2 us g2 S2 r2 q2=>?_⟩
     ·cases e:fus.lookup m with
      | none=>rfl
      | some v =>
       have:=PySem.mem_of_lookup e
       exact absurd (hw _ this) no
     ·rw [List.append_nil]
      exact ⟨ι2,h2,.ref n::xs,S2,.cons (.ref (g2.at hr)) r2,q2⟩
   ·exact q1.elim
  ·exact q1.elim
 ·exact q1.elim
theorem yal {pl:Sem Bool} (hK:X.K=T.K) (CC:CA T E X) (G:GM X.prog X.w T X.mg X.base k c m F) (hr:Room k X.A) (ho:PEA T E X o so) (ha:PAA T E X (e::es) as)
  (hst:starEach (e::es) X.env=(false,eval e X.env)::starEach es X.env:=by rfl) (hpl:(backTo pos (starEach es X.env)).any (·.1)=false:=by rfl)
  (ht:eval (.Call (.Attribute o m apos) (e::es) [] pos) X.env=(do
   let ov <- eval o X.env
   standAt apos.atName
   let (f,first) <- holding [ov] (getMethod ov m pl)
   callWith pos f first (backTo pos (starEach (e::es) X.env)) (backToKw pos (keywordEach [] X.env))):=by rfl):PEA T E X (.Call (.Attribute o m apos) (e::es) [] pos) (yam c F so as):=by
 obtain ⟨C,f,fd,ps,h1,h2,h3,h4,h5⟩:=G.ex
 exact yaY (zhU (Ex:=E) (dvs:=[]) (pl:=pl) ho (hK▸h2) (hK▸h3) (hK▸h5) hr (hK▸h4) .nil CC.pass ha hst hpl ht) fun σ H Q q=>zfI h1 G.no q
theorem zbZ {pl:Sem Bool} (hK:X.K=T.K) (CC:CA T E X) (G:GM X.prog X.w T X.mg X.base k c m F) (hr:Room k X.A) (ho:PEA T E X o so)
  (ht:eval (.Call (.Attribute o m apos) [] [] pos) X.env=(do
   let ov <- eval o X.env
   standAt apos.atName
   let (f,first) <- holding [ov] (getMethod ov m pl)
   callWith pos f first (backTo pos (starEach [] X.env)) (backToKw pos (keywordEach [] X.env))):=by rfl):PEA T E X (.Call (.Attribute o m apos) [] [] pos) (yam c F so sNil):=by
 obtain ⟨C,f,fd,ps,h1,h2,h3,h4,h5⟩:=G.ex
 intro pins s σ H Q I q
 have q' := zfI (C:=C) h1 G.no q
 refine PySem.W.methodCall_KW (pl:=pl) (thn (ho pins s σ H _ I q') fun u s1 ⟨x,H1,I1,rx,a,dx,fs,ex,ea,l,q⟩=>?_) ht
 subst ex
 obtain rfl:u=Value.ref a:=rx
 refine zdt I1 ea (hK▸h2) (hK▸h3) l ?_
 obtain ⟨ι,h,en,S,er,q⟩:=q
 refine PySem.W.callWith_K0 (first:=[.ref a]) I1.kIn (hK▸h3.kp) (zdM (dvs:=[]) (us:=[.ref a]) (vs:=[.ref a]) (hK▸h5) hr (hK▸h4) .nil CC.pass I1 (.cons rfl .nil) (q.now S .nil))
structure CF (T:Tb) (c:Nat):Prop where
 ex:∃ C,T.cls c=some C/\Cls T.K C/\∀ f∈T.fields c,NoAttr T.K C f
structure GK (P:Program) (w:World) (T:Tb) (mg:Str->Option Value) (base:Heap) (k:Nat) (c:Nat) (x:Str) (F:Fn):Prop where
 ex:∃ C f fd ps,T.cls c=some C/\mg x=some (.ref C)/\Mk T.K C f/\Binds T.K fd ps []/\FnOk P w T.K mg base (CXE P w) k f fd ps (spA T F)
theorem zg8 {CX:CXT} {C f:Addr} {fd:FuncData} {ps:List Str} {sp:Sp} {dvs:List V} {ds:List Value} {pins:List (Addr×Obj)} {σ:St} {H:Hp} {s:Shared} {Q:VK} {us:List Value} {vs:List V} (M:Mk X.K C f) (F:FnOk X.prog X.w X.K X.mg X.base CX k f fd ps sp) (hr:Room (k+1) X.A) (hb:Binds X.K fd ps ds) (hd:Vals dvs ds)
  (hx:ydp CX X E) (I:L2.Inv X pins σ H s) (r:Vals vs us)
  (h:∀ x dx,H x=none->H dx=none->dx≠x->sp (.ref x::(vs++dvs)) (upd (upd H dx (.own x)) x (.ins C dx [])) (fun v H2=>v = .non/\Q (.ref x) H2) (E σ)) :
  wpAny (model X.prog X.w) X.A (call (.ref C) us) (EP X pins σ Q) X.xe s:=by
 have hq:=h (s.heap.objs.size+1) s.heap.objs.size (I.hok.fresh (Nat.le_succ _)) (I.hok.fresh (Nat.le_refl _)) (Nat.ne_of_lt (Nat.lt_succ_self _))
 have I2:=Inv.made (C:=C) I
 have r2:Vals (V.ref (s.heap.objs.size+1)::(vs++dvs)) (Value.ref (s.heap.objs.size+1)::(us++ds)):=.cons rfl (r.append hd)
 have hl:(Value.ref (s.heap.objs.size+1)::us++ds).length=ps.length:=by
  have e:=r2.length
  rw [F.len _ _ _ _ hq] at e
  exact e.symm
 refine wpAny_call (zhD (f:=f) I.kIn M.makes M.init (beq_iff_eq.mp M.fn) (codeAny_mono (F.run _ X.stack _ _ ⟨Value.ref (s.heap.objs.size+1)::us,[]⟩ (Value.ref (s.heap.objs.size+1)::(us++ds)) _ _ (E σ) (hr.make C us [])
  (I2.env0.make C us []) (hb _ (Value.ref (s.heap.objs.size+1)::us) I2.kIn hl) r2 hq) fun r s' hq' => ?_))
 cases r with
 | error e=>exact hx pins σ _ _ e s' I2 hq'
 | ok fl =>
  cases fl with
  | ret u =>
   obtain ⟨v,H',I3,rv,ev,q3⟩:=I2.after hq'
   subst ev
   exact ⟨rv,⟨V.ref (s.heap.objs.size+1),H',I3,rfl,q3⟩⟩
  | next=>exact False.elim hq'
  | brk=>exact False.elim hq'
  | cont=>exact False.elim hq'
theorem zi4 {C:Addr} {xs:List AV} {us:List V} {H:Hp} {Q:VK} {ι:Ix} {h:AH} {E:XK} {n:Nat} (hc:T.cls c=some C) (hn:(T.fields c).length=n) (S:Sim T ι h H) (r:RVs T ι H xs us)
  (q:Post T ι H E (RV T) (match F (.ref h.length::xs) (h++[.ins c (List.replicate n none)]) with | .ok .non h2=>Out.ok (AV.ref h.length) h2 | .ex c h2=>.ex c h2 | _=>.bad) Q) :
  ∀ x dx,H x=none->H dx=none->dx≠x->spA T F (.ref x::us) (upd (upd H dx (.own x)) x (.ins C dx [])) (fun v H2=>v = .non/\Q (.ref x) H2) E:=by
 intro x dx nx ndx ne
 have nx':(upd H dx (.own x)) x=none:=by rw [yaN (Ne.symm ne)];exact nx
 have S1:=S.new (o:=.own x) ndx
 have g1:=S.growNew (o:=.own x) ndx
 have g2:=S1.growAdd (u:=.ins C dx []) nx'
 have S2:Sim T (ι.add x) (h++[.ins c (List.replicate n none)]) (upd (upd H dx (.own x)) x (.ins C dx [])):=S1.add nx' ⟨C,dx,[],hc,rfl,by simp,by simp,by simp [hn],fun i v e=>by
  rw [List.getElem?_replicate] at e
  split at e
  ·cases e
  ·cases e⟩
 refine ⟨ι.add x,_,.ref h.length::xs,S2,.cons (.ref S.addAt) (r.mono (g1.trans g2)),?_⟩
 have q2:=q.shift (g1.trans g2)
 cases e:F (.ref h.length::xs) (h++[.ins c (List.replicate n none)]) with
 | bad=>rw [e] at q2;exact q2
 | ex c' h2=>rw [e] at q2;exact q2
 | ok v h2 =>
  rw [e] at q2
  cases v with
  | non=>exact fun ι' H' u g S' r' => ⟨yeV r',q2 ι' H' _ g S' (.ref (g.at S.addAt))⟩
  | _=>exact (show False from q2).elim
theorem zi5 {n:Nat} (hK:X.K=T.K) (CC:CA T E X) (G:GK X.prog X.w T X.mg X.base k c x F) (hr:Room (k+1) X.A) (hg:Gl X x) (hn:(T.fields c).length=n:=by rfl) (hdb:(x == ("__debug__" : Str))=false:=by decide):PEA T E X (.Call (.Name x p) [] [] pos) (yeL c n F sNil):=by
 obtain ⟨C,f,fd,ps,h1,h2,h3,h4,h5⟩:=G.ex
 intro pins s σ H Q I ⟨ι,h,en,S,er,q⟩
 refine wpAny_Call_Name_kw (zbV I hg h2 ?_ hdb)
 have M:Mk X.K C f:=hK▸h3
 exact PySem.W.callWith_K0 I.kIn M.kp (zg8 (us:=[]) (vs:=[]) (dvs:=[]) M (hK▸h5) hr (hK▸h4) .nil CC.pass I .nil (zi4 h1 hn S .nil q))
theorem yaP {i:Nat} {f:Str} (hK:X.K=T.K) (CFc:CF T c) (ho:PEA T E X o so) (hf:(T.fields c)[i]? = some f:=by rfl) (hb:attributeBase o f X.env (eval o X.env)=eval o X.env:=by rfl):PEA T E X (.Attribute o f pos) (Sm.sFld c i so):=by
 obtain ⟨C,hC,hcl,hna⟩:=CFc.ex
 refine yaY (ygw ho hb) fun σ H Q ⟨ι,h,en,S,er,q⟩=>⟨ι,h,en,S,er,q.bind fun x h1 ι1 H1 u g1 S1 r1 q1=>?_⟩
 split at q1
 ·rename_i n
  split at q1
  ·rename_i c' fs hn
   split at q1
   ·rename_i ec
    subst ec
    split at q1
    ·rename_i v hv
     cases r1 with
     | @ref _ a hr =>
      obtain ⟨o,e1,C',dx,fus,hC',rfl,nd,hw,hl,hr2⟩:=S1.obj n _ a hn hr
      rw [hC] at hC';cases hC'
      obtain ⟨f',u,e2,e3,r3⟩:=hr2 i v hv
      rw [hf] at e2;cases e2
      exact ⟨a,_,dx,fus,u,rfl,e1,hK▸hcl,hK▸hna f (List.mem_of_getElem? hf),e3,q1.now S1 r3⟩
    ·exact q1.elim
   ·exact q1.elim
  ·exact q1.elim
 ·exact q1.elim
theorem zee (f:Str) (v:V):∀ {fs:List (Str×V)},(fs.map (·.1)).Nodup->((putF f v fs).map (·.1)).Nodup/\∀ g,g∈(putF f v fs).map (·.1)->g=f\/g∈fs.map (·.1)
 | [],_=>by simp [putF]
 | (g,x)::r,n=>by
  obtain ⟨n1,n2⟩:=List.nodup_cons.mp (show (g::r.map (·.1)).Nodup from n)
  unfold putF
  split
  ·rename_i e
   subst e
   exact ⟨n,fun k hk=>.inr hk⟩
  ·rename_i e
   obtain ⟨h1,h2⟩:=zee f v (fs:=r) n2
   refine ⟨List.nodup_cons.mpr ⟨fun z=>?_,h1⟩,fun k hk=>?_⟩
   ·rcases h2 g z with z | z
    ·exact e z
    ·exact n1 z
   ·rcases List.mem_cons.mp hk with z | z
    ·exact .inr (by rw [z];simp)
    ·rcases h2 k z with z | z
     ·exact .inl z
     ·exact .inr (List.mem_cons_of_mem _ z)
theorem zeK:∀ {l m:List Str},l.Nodup->(∀ x∈l,x∈m)->l.length<=m.length
 | [],m,_,_=>Nat.zero_le _
 | x::l,m,n,h=>by
  obtain ⟨n1,n2⟩:=List.nodup_cons.mp n
  have hx:=h x (by simp)
  have:=zeK (l:=l) (m:=m.erase x) n2 fun y hy=>by
   have ne:y≠x:=fun z=>n1 (z▸hy)
   exact (List.mem_erase_of_ne ne).mpr (h y (by simp [hy]))
  rw [List.length_erase_of_mem hx] at this
  have:0<m.length:=List.length_pos_of_mem hx
  simp only [List.length_cons]
  omega
theorem zaV {i:Nat} {f:Str} {p':Pos} (hK:X.K=T.K) (CFc:CF T c) (ho:PEA T E X o so) (ha:PEA T E X a sa) (hf:(T.fields c)[i]? = some f:=by rfl) (hs:swapsWith a (some (.Attribute o f p')) pos.line X.env=pure false:=by rfl) :
  PSA T E X (.Assign [.Attribute o f p'] a pos) (ycT c i so sa):=by
 obtain ⟨C,hC,hcl,hna⟩:=CFc.ex
 refine ycu (ygx ho ha hs) fun D σ H ⟨ι,h,en,S,er,q⟩=>⟨ι,h,en,S,er,q.go er fun y h1 ι1 H1 v g1 S1 r1 q1=>⟨ι1,h1,en,S1,er.mono g1,q1.go (er.mono g1) fun x h2 ι2 H2 u g2 S2 r2 q2=>?_⟩⟩
 split at q2
 ·rename_i n
  split at q2
  ·rename_i c' fs hn
   split at q2
   ·rename_i ec
    subst ec
    cases r2 with
    | @ref _ a hr =>
     obtain ⟨o,e1,C',dx,fus,hC',rfl,nd,hw,hl,hr2⟩:=S2.obj n _ a hn hr
     rw [hC] at hC';cases hC'
     have hmem:f∈T.fields c' := List.mem_of_getElem? hf
     have hlen:fus.length<1000:=by
      have:=zeK nd (m:=T.fields c') (fun x hx=>by
       obtain ⟨p,hp,rfl⟩:=List.mem_map.mp hx
       exact hw p hp)
      have:=T.few c'
      rw [List.length_map] at *
      omega
     obtain ⟨k1,k2⟩:=zee f v nd
     have g3:=S2.growSet (u:=.ins C dx (putF f v fus)) hr
     refine ⟨a,C,dx,fus,rfl,e1,hK▸hcl,hK▸hna f hmem,hlen,q2 ι2 _ σ g3 (S2.set hr ⟨C,dx,putF f v fus,hC,rfl,k1,fun p hp=>?_,by simp [hl],fun j w hj=>?_⟩) (er.mono (g1.trans (g2.trans g3)))⟩
     ·rcases k2 p.1 (List.mem_map.mpr ⟨p,hp,rfl⟩) with z | z
      ·rw [z];exact hmem
      ·obtain ⟨p',hp',e⟩:=List.mem_map.mp z
       rw [<- e];exact hw p' hp'
     ·by_cases hji:j=i
      ·subst hji
       have hjl:j<fs.length:=by
        have:=(List.getElem?_eq_some_iff.mp hj).1
        simpa using this
       rw [List.getElem?_set_self hjl] at hj
       cases hj
       exact ⟨f,v,hf,by rw [zbs,if_pos rfl],r1.mono (g2.trans g3)⟩
      ·rw [List.getElem?_set_ne (Ne.symm hji)] at hj
       obtain ⟨f',u,e2,e3,r3⟩:=hr2 j w hj
       have ne:f'≠f:=fun z=>hji (zc4 (T.nd c') e2 (z▸hf))
       exact ⟨f',u,e2,by rw [zbs,if_neg ne];exact e3,r3.mono g3⟩
   ·exact (show False from q2).elim
  ·exact (show False from q2).elim
 ·exact (show False from q2).elim
end
end Sm
namespace Sm
open PySem PySem.Spec L2
theorem yfc {T:Tb} {ι:Ix} {H:Hp} {k:Key} {u:V} (r:RV T ι H (kA k) u):u=kV k:=by
 cases k with
 | inl i=>exact yaI r
 | inr x=>exact (ya9 r).1
theorem yeZ {k j:Key} (e:kA k=kA j):k=j:=by
 cases k<;>cases j<;>simp [kA] at e<;>simp [e]
theorem zdQ:∀ {ks js:List Key},ks.map kA=js.map kA->ks=js
 | [],[],_=>rfl
 | [],_::_,e=>by simp at e
 | _::_,[],e=>by simp at e
 | k::ks,j::js,e=>by
  simp only [List.map_cons,List.cons.injEq] at e
  rw [yeZ e.1,zdQ e.2]
theorem yfC {T:Tb} {ι:Ix} {H:Hp}:∀ {ks:List Key} {us:List V},RVs T ι H (ks.map kA) us->us=ks.map kV
 | [],_,.nil=>rfl
 | k::ks,_,.cons r rs=>by rw [yfc r,yfC rs];rfl
theorem zb6 {v:AV} {k:Key} (e:keyOf? v=some k):v=kA k:=by
 unfold keyOf? at e
 split at e<;>cases e<;>rfl
theorem zbt:∀ {vs:List AV} {ks:List Key},keysOf? vs=some ks->vs=ks.map kA
 | [],_,e=>by cases e;rfl
 | v::vs,ks,e=>by
  unfold keysOf? at e
  split at e
  ·rename_i k ks' e1 e2
   cases e
   rw [zb6 e1,zbt e2];rfl
  ·cases e
theorem yez {κ:Type} [DecidableEq κ] {T:Tb} {ι:Ix} {H:Hp} {f:κ->AV} (hf:∀ {a b},f a=f b->a=b) {k:κ}:∀ {kvs:List (AV×AV)} {kus:List (κ×V)},Paired (fun (p:AV×AV) (q:κ×V)=>p.1=f q.1/\RV T ι H p.2 q.2) kvs kus ->
  (valA kvs (f k)=none/\valV kus k=none)\/∃ v u,valA kvs (f k)=some v/\valV kus k=some u/\RV T ι H v u
 | _,_,.nil=>.inl ⟨rfl,rfl⟩
 | (a,v)::kvs,(j,u)::kus,.cons ⟨e,r⟩ rs=>by
  by_cases h:j=k
  ·subst h
   replace e:a=f j:=e
   subst e
   exact .inr ⟨v,u,by simp [valA],zb4 rfl,r⟩
  ·have h' : ¬ a=f k:=fun z=>h (hf (e.symm.trans z))
   rcases yez hf rs (k:=k) with ⟨h1,h2⟩ | ⟨v',u',h1,h2,h3⟩
   ·refine .inl ⟨?_,by rw [zbI h];exact h2⟩
    unfold valA at h1 ⊢
    rw [List.find?_cons,decide_eq_false h']
    exact h1
   ·refine .inr ⟨v',u',?_,by rw [zbI h];exact h2,h3⟩
    unfold valA at h1 ⊢
    rw [List.find?_cons,decide_eq_false h']
    exact h1
theorem zfJ {kvs:List (AV×AV)} {k:AV}:(kvs.any fun p=>decide (p.1=k))=(valA kvs k).isSome:=by
 induction kvs with
 | nil=>rfl
 | cons p r ih =>
  unfold valA at ih ⊢
  rw [List.any_cons,List.find?_cons,ih]
  cases h:decide (p.1=k)<;>simp
theorem yfD {κ:Type} [DecidableEq κ] {T:Tb} {ι:Ix} {H:Hp} {f:κ->AV} (hf:∀ {a b},f a=f b->a=b) {k:κ} {v:AV} {u:V} (rv:RV T ι H v u) {kvs:List (AV×AV)} {kus:List (κ×V)} (r:Paired (fun (p:AV×AV) (q:κ×V)=>p.1=f q.1/\RV T ι H p.2 q.2) kvs kus) :
  Paired (fun (p:AV×AV) (q:κ×V)=>p.1=f q.1/\RV T ι H p.2 q.2) (putA kvs (f k) v) (putK kus k u):=by
 have e:(kvs.any fun p=>decide (p.1=f k))=kus.any fun kv=>decide (kv.1=k):=by
  rw [zfJ,zc8]
  rcases yez hf r (k:=k) with ⟨h1,h2⟩ | ⟨v',u',h1,h2,h3⟩
  ·rw [h1,h2];rfl
  ·rw [h1,h2];rfl
 unfold putA putK
 rw [e]
 by_cases h:(kus.any fun kv=>decide (kv.1=k))=true
 ·rw [if_pos h,if_pos h]
  clear e h
  induction r with
  | nil=>exact .nil
  | cons p rs ih =>
   rename_i a b l1 l2
   refine .cons ?_ ih
   obtain ⟨e1,r1⟩:=p
   dsimp only
   by_cases hk:b.1=k
   ·rw [if_pos hk,if_pos (by rw [e1,hk])]
    exact ⟨e1,rv⟩
   ·rw [if_neg hk,if_neg (fun z=>hk (hf (e1.symm.trans z)))]
    exact ⟨e1,r1⟩
 ·rw [if_neg h,if_neg h]
  have app:∀ {l1:List (AV×AV)} {l2:List (κ×V)},Paired (fun (p:AV×AV) (q:κ×V)=>p.1=f q.1/\RV T ι H p.2 q.2) l1 l2->Paired (fun (p:AV×AV) (q:κ×V)=>p.1=f q.1/\RV T ι H p.2 q.2) (l1++[(f k,v)]) (l2++[(k,u)]):=fun z=>by
   induction z with
   | nil=>exact .cons ⟨rfl,rv⟩ .nil
   | cons p _ ih=>exact .cons p ih
  exact app r
section
variable {T:Tb} {ι:Ix} {h:AH} {H:Hp}
theorem keyT {xs:List AV} {u:V} {ks:List Key} (r:RV T ι H (.tup xs) u) (e:keysOf? xs=some ks):∃ b,u = .ref b/\KTup H b ks:=by
 have:=zbt e
 subst this
 cases r with
 | tup n q r=>exact ⟨_,rfl,.of (by rw [<- yfC r];exact q)⟩
theorem zfK {n:Nat} {t:Bool} {kvs:List (AV×AV)} {y:AV} {a:Addr} {w:V} (S:Sim T ι h H) (hn:h[n]? = some (.dct t kvs)) (hr:ι.refs[n]? = some a) (ry:RV T ι H y w) (hk:ydJ t y=true) :
  ∃ o,DGet H a w o/\((valA kvs y=none/\o=none)\/∃ v u,valA kvs y=some v/\o=some u/\RV T ι H v u):=by
 obtain ⟨ob,e1,r⟩:=S.obj n _ a hn hr
 cases t with
 | false =>
  obtain ⟨kus,rfl,r⟩:=r
  have hk':(keyOf? y).isSome=true:=hk
  obtain ⟨k,ek⟩:=Option.isSome_iff_exists.mp hk'
  have:=zb6 ek
  subst this
  rw [yfc ry]
  refine ⟨valV kus k,.k e1,?_⟩
  rcases yez yeZ r (k:=k) with ⟨h1,h2⟩ | ⟨v',u',h1,h2,h3⟩
  ·exact .inl ⟨h1,h2⟩
  ·exact .inr ⟨v',u',h1,h2,h3⟩
 | true =>
  obtain ⟨kus,rfl,r⟩:=r
  unfold ydJ at hk
  split at hk
  ·rename_i hh;cases hh
  ·rename_i xs hh
   obtain ⟨ks,ek⟩:=Option.isSome_iff_exists.mp hk
   obtain ⟨b,rfl,hb⟩:=keyT ry ek
   have:=zbt ek
   subst this
   refine ⟨valV kus ks,.t e1 hb,?_⟩
   rcases yez (f:=fun ks:List Key=>AV.tup (ks.map kA)) (fun e=>zdQ (by injection e)) r (k:=ks) with ⟨h1,h2⟩ | ⟨v',u',h1,h2,h3⟩
   ·exact .inl ⟨h1,h2⟩
   ·exact .inr ⟨v',u',h1,h2,h3⟩
  ·cases hk
theorem zi6 {n:Nat} {t:Bool} {kvs:List (AV×AV)} {y z:AV} {a:Addr} {w u:V} (S:Sim T ι h H) (hn:h[n]? = some (.dct t kvs)) (hr:ι.refs[n]? = some a) (ry:RV T ι H y w) (rz:RV T ι H z u) (hk:ydJ t y=true) (hl:kvs.length<sizeLine) :
  ∃ H',DPut H a w u H'/\Grow ι H ι H'/\Sim T ι (h.set n (.dct t (putA kvs y z))) H' := by
 obtain ⟨ob,e1,r⟩:=S.obj n _ a hn hr
 cases t with
 | false =>
  obtain ⟨kus,rfl,r⟩:=r
  have hk':(keyOf? y).isSome=true:=hk
  obtain ⟨k,ek⟩:=Option.isSome_iff_exists.mp hk'
  have:=zb6 ek
  subst this
  rw [yfc ry]
  have g:=S.growSet (u:=.dK (putK kus k u)) hr
  exact ⟨_,.k e1 (by rw [<- Paired.length r];exact hl),g,S.set hr ⟨_,rfl,yfD yeZ (rz.mono g) (Paired.mapP r fun _ _ ⟨p,q⟩=>⟨p,q.mono g⟩)⟩⟩
 | true =>
  obtain ⟨kus,rfl,r⟩:=r
  unfold ydJ at hk
  split at hk
  ·rename_i hh;cases hh
  ·rename_i xs hh
   obtain ⟨ks,ek⟩:=Option.isSome_iff_exists.mp hk
   obtain ⟨b,rfl,hb⟩:=keyT ry ek
   have:=zbt ek
   subst this
   have g:=S.growSet (u:=.dT (putK kus ks u)) hr
   exact ⟨_,.t e1 hb (by rw [<- Paired.length r];exact hl),g,S.set hr ⟨_,rfl,yfD (f:=fun ks:List Key=>AV.tup (ks.map kA)) (fun e=>zdQ (by injection e)) (rz.mono g) (Paired.mapP r fun _ _ ⟨p,q⟩=>⟨p,q.mono g⟩)⟩⟩
  ·cases hk
theorem RVs.atI {xs:List AV} {us:List V} {i:Int} {v:AV} (r:RVs T ι H xs us) (e:atI xs i=some v):∃ u,L2.atI us i=some u/\RV T ι H v u:=by
 unfold L2.atI at e ⊢
 rw [<- r.length]
 obtain ⟨j,e1,e2⟩:=Option.bind_eq_some_iff.mp e
 obtain ⟨u,e3,r3⟩:=r.get e2
 exact ⟨u,by rw [e1];exact e3,r3⟩
end
section
variable {T:Tb} {E:St->XK} {X:Cx} {pos:Pos} {a b c:Expr} {sa sb sc:SE}
theorem yh1 {e:Expr} {t t':TE} (h:PE X e t) (h':PE X e t'):PE X e (fun σ H Q=>t σ H Q\/t' σ H Q):=fun pins s σ H Q I q=>q.elim (h pins s σ H Q I) (h' pins s σ H Q I)
theorem yh2 {e:Stmt} {t t':TS} (h:PS X e t) (h':PS X e t'):PS X e (fun D σ H=>t D σ H\/t' D σ H):=fun pins s σ H Q I q=>q.elim (h pins s σ H Q I) (h' pins s σ H Q I)
theorem r_ix (hK:X.K=T.K) (hu:X.A.units+64<cLine) (ha:PEA T E X a sa) (hb:PEA T E X b sb) (hs:ye7 b:=by exact fun _ _=>rfl):PEA T E X (.Subscript a b pos) (sOp2 fIx sa sb):=by
 refine yaY (yh1 (yhL ygB ha hb hs) (ziK (Nat.lt_of_le_of_lt (Nat.add_le_add_left (by decide:1<=64) _) hu) ha hb hs)) fun σ H Q q=>?_
 obtain ⟨ι,h,en,S,er,q⟩:=q
 have left:(∀ x h1 y h2,sa en h = .ok x h1->sb en h1 = .ok y h2->∀ n t kvs,x = .ref n->h2[n]? = some (.dct t kvs)->False)->tOp (rIx X.K) (tE T E sa) (tE T E sb) σ H Q:=fun no=>by
  refine ⟨ι,h,en,S,er,?_⟩
  unfold sOp2 at q
  cases e1:sa en h with
  | bad=>rw [e1] at q;exact q
  | ex c h1=>rw [e1] at q;exact q
  | ok x h1 =>
   rw [e1] at q
   intro ι1 H1 u g1 S1 r1
   refine ⟨ι1,h1,en,S1,er.mono g1,?_⟩
   dsimp only [Out.bind] at q
   cases e2:sb en h1 with
   | bad=>rw [e2] at q;exact q
   | ex c h2=>rw [e2] at q;exact Post.shift (R:=RV T) (o:=.ex c h2) q g1
   | ok y h2 =>
    rw [e2] at q
    intro ι2 H2 w g2 S2 r2
    have q2:=Post.shift q (g1.trans g2)
    have r1' := r1.mono g2
    dsimp only at q2
    unfold fIx at q2
    split at q2
    ·rename_i z i
     split at q2
     ·rename_i cc hc
      obtain ⟨rfl,zl,zo⟩:=ya9 r1'
      rw [yaI r2]
      refine .inr (.inr ⟨z,i,cc,rfl,rfl,zl,hc,q2.now S2 (.str (show 1<=sizeLine by decide) ?_)⟩)
      obtain ⟨j,_,e3,_⟩:=zcK hc
      have m:cc∈z.cps:=by
       have:=List.mem_of_getElem? e3
       simpa using this
      have:=Array.all_eq_true_iff_forall_mem.mp zo _ m
      simpa using this
     ·exact q2.elim
    ·rename_i xs i
     split at q2
     ·rename_i v hv
      obtain ⟨b,us,rfl,sq,rs⟩:=ydG r1'
      obtain ⟨u2,e3,r3⟩:=rs.atI hv
      rw [yaI r2]
      exact .inr (.inl ⟨b,us,i,u2,rfl,rfl,hK▸sq,e3,q2.now S2 r3⟩)
     ·exact q2.elim
    ·rename_i xs i
     split at q2
     ·rename_i v hv
      obtain ⟨b,us,rfl,sq,rs⟩:=ybM S2 r1' rfl
      obtain ⟨u2,e3,r3⟩:=rs.atI hv
      rw [yaI r2]
      exact .inl ⟨b,us,i,u2,rfl,rfl,hK▸sq,e3,q2.now S2 r3⟩
     ·exact q2.elim
    ·rename_i n
     split at q2
     ·rename_i xs hn
      split at q2
      ·rename_i i
       split at q2
       ·rename_i v hv
        obtain ⟨b,us,rfl,sq,rs⟩:=ybM (xs:=xs) S2 r1' (by simp [yby,hn])
        obtain ⟨u2,e3,r3⟩:=rs.atI hv
        rw [yaI r2]
        exact .inl ⟨b,us,i,u2,rfl,rfl,hK▸sq,e3,q2.now S2 r3⟩
       ·exact q2.elim
      ·exact q2.elim
     ·rename_i t kvs hn
      exact (no _ h1 _ h2 e1 e2 n t kvs rfl hn).elim
     ·exact q2.elim
    ·exact q2.elim
 by_cases dd:∃ x h1 y h2,sa en h = .ok x h1/\sb en h1 = .ok y h2/\∃ n t kvs,x = .ref n/\h2[n]? = some (.dct t kvs)
 ·obtain ⟨x,h1,y,h2,e1,e2,n,t,kvs,rfl,hn⟩:=dd
  refine .inr ⟨ι,h,en,S,er,?_⟩
  unfold sOp2 at q
  rw [e1] at q ⊢
  intro ι1 H1 u g1 S1 r1
  refine ⟨ι1,h1,en,S1,er.mono g1,?_⟩
  dsimp only [Out.bind] at q
  rw [e2] at q ⊢
  intro ι2 H2 w g2 S2 r2
  have q2:=Post.shift q (g1.trans g2)
  have r1' := r1.mono g2
  dsimp only at q2
  unfold fIx at q2
  simp only [hn] at q2
  split at q2
  ·rename_i hk
   cases r1' with
   | @ref _ ad hr =>
    obtain ⟨o,dg,alt⟩:=zfK S2 hn hr r2 hk
    rcases alt with ⟨v1,rfl⟩ | ⟨v,u,v1,rfl,r3⟩
    ·rw [v1] at q2;exact q2.elim
    ·rw [v1] at q2
     exact ⟨ad,u,rfl,dg,q2.now S2 r3⟩
  ·exact q2.elim
 ·exact .inl (left fun x h1 y h2 e1 e2 n t kvs e3 e4=>dd ⟨x,h1,y,h2,e1,e2,n,t,kvs,e3,e4⟩)
theorem zfL {p':Pos} (hu:X.A.units+64<cLine) (ho:PEA T E X a sa) (hi:PEA T E X b sb) (hv:PEA T E X c sc) (hs:swapsWith c (some (.Subscript a b p')) pos.line X.env=pure false:=by rfl) (hs':swapsWithSole [.Subscript a b p'] c pos.line X.env=pure false:=by rfl) (hw:swappedStores [.Subscript a b p'] c X.env=pure none:=by rfl)
  (h1:(assignEach [.Subscript a b p'] X.env).map (·.2)=[assign (.Subscript a b p') X.env]:=by rfl)
  (has:∀ v,assign (.Subscript a b p') X.env v=(do
   let ov <- holding [v] (eval a X.env)
   let iv <- holding [v,ov] (eval b X.env)
   standAt p'
   holding [v,ov,iv] (setItem ov iv v)
   release [v,ov,iv] []):=by intro _;rfl):PSA T E X (.Assign [.Subscript a b p'] c pos) (yev sa sb sc):=by
 refine ycu (yh2 (ygn hv (ygm ho hi zhH has) hs' hw h1) (ziL (Nat.lt_of_le_of_lt (Nat.add_le_add_left (by decide:1<=64) _) hu) ho hi hv hs)) fun D σ H q=>?_
 obtain ⟨ι,h,en,S,er,q⟩:=q
 unfold yev at q
 by_cases dd:∃ z h1 x h2 y h3,sc en h = .ok z h1/\sa en h1 = .ok x h2/\sb en h2 = .ok y h3/\∃ n t kvs,x = .ref n/\h3[n]? = some (.dct t kvs)
 ·obtain ⟨z,h1,x,h2,y,h3,e1,e2,e3,n,t,kvs,rfl,hn⟩:=dd
  refine .inr ⟨ι,h,en,S,er,?_⟩
  rw [e1] at q ⊢
  intro ι1 H1 u g1 S1 r1
  refine ⟨ι1,h1,en,S1,er.mono g1,?_⟩
  dsimp only [Out.go] at q
  rw [e2] at q ⊢
  intro ι2 H2 w g2 S2 r2
  refine ⟨ι2,h2,en,S2,er.mono (g1.trans g2),?_⟩
  dsimp only at q
  rw [e3] at q ⊢
  intro ι3 H3 j g3 S3 r3
  have q2:=PostS.shift q (g1.trans (g2.trans g3))
  simp only [hn] at q2
  split at q2
  ·rename_i hk
   cases (r2.mono g3) with
   | @ref _ ad hr =>
    obtain ⟨H4,dp,g4,S4⟩:=zi6 S3 hn hr r3 (r1.mono (g2.trans g3)) hk.1 hk.2
    exact ⟨ad,H4,rfl,dp,q2 ι3 H4 σ g4 S4 (er.mono (g1.trans (g2.trans (g3.trans g4))))⟩
  ·exact q2.elim
 ·refine .inl ⟨ι,h,en,S,er,?_⟩
  cases e1:sc en h with
  | bad=>rw [e1] at q;exact q
  | ex cc h1=>rw [e1] at q;exact fun i2 H2 C g S e=>q i2 H2 σ C g S (er.mono g) e
  | ok z h1 =>
   rw [e1] at q
   intro ι1 H1 u g1 S1 r1
   refine ⟨ι1,h1,en,S1,er.mono g1,?_⟩
   dsimp only [Out.go] at q
   cases e2:sa en h1 with
   | bad=>rw [e2] at q;exact q
   | ex cc h2=>rw [e2] at q;exact fun i2 H2 C g S e=>q i2 H2 σ C (g1.trans g) S (er.mono (g1.trans g)) e
   | ok x h2 =>
    rw [e2] at q
    intro ι2 H2 w g2 S2 r2
    refine ⟨ι2,h2,en,S2,er.mono (g1.trans g2),?_⟩
    dsimp only at q
    cases e3:sb en h2 with
    | bad=>rw [e3] at q;exact q
    | ex cc h3=>rw [e3] at q;exact fun i2 H2 C g S e=>q i2 H2 σ C (g1.trans (g2.trans g)) S (er.mono (g1.trans (g2.trans g))) e
    | ok y h3 =>
     rw [e3] at q
     intro ι3 H3 j g3 S3 r3
     have q2:=PostS.shift q (g1.trans (g2.trans g3))
     dsimp only at q2
     split at q2
     ·rename_i n
      split at q2
      ·rename_i xs hn
       split at q2
       ·rename_i k
        split at q2
        ·rename_i jj hj
         cases (r2.mono g3) with
         | @ref _ ad hr =>
          obtain ⟨o,e4,us,rfl,rs⟩:=S3.obj n _ ad hn hr
          have g4:=S3.growSet (u:=.lst (us.set jj u)) hr
          rw [yaI r3]
          exact ⟨ad,us,k,jj,rfl,rfl,e4,by rw [<- rs.length];exact hj,q2 ι3 _ σ g4 (S3.set hr ⟨_,rfl,RVs.set (r1.mono (g2.trans (g3.trans g4))) jj (rs.mono g4)⟩) (er.mono (g1.trans (g2.trans (g3.trans g4))))⟩
        ·exact q2.elim
       ·exact q2.elim
      ·rename_i t kvs hn
       exact (dd ⟨_,h1,_,h2,_,h3,e1,e2,e3,n,t,kvs,rfl,hn⟩).elim
      ·exact q2.elim
     ·exact q2.elim
theorem zi7 {g:Value->Value->Sem Value} {r:R2} {neg:Bool} (hK:X.K=T.K)
  (h1:∀ (i j:Str) H Q,Q (V.bl (if neg then !(!(Builtin.Str.occurrences j i 0 j.length 1).isEmpty) else !(Builtin.Str.occurrences j i 0 j.length 1).isEmpty)) H->r (.str i) (.str j) H Q)
  (h2:∀ x y H Q p xs d ds,y=V.ref p->SqL T.K H p xs->DaV T.K H x d->DaVs T.K H xs ds->d.canLay0=true->(∀ e∈ds,e.canLay0=true/\e.depth<=30)->Q (V.bl (if neg then !(ds.any fun e=>PyData.eqv e d) else ds.any fun e=>PyData.eqv e d)) H->r x y H Q)
  (h2t:∀ x y H Q p xs d ds,y=V.ref p->SqT T.K H p xs->DaV T.K H x d->DaVs T.K H xs ds->d.canLay0=true->(∀ e∈ds,e.canLay0=true/\e.depth<=30)->Q (V.bl (if neg then !(ds.any fun e=>PyData.eqv e d) else ds.any fun e=>PyData.eqv e d)) H->r x y H Q)
  (h3:∀ (y:V) (a:Addr) o H Q,DGet H a y o->Q (V.bl (if neg then !o.isSome else o.isSome)) H->r y (.ref a) H Q) :
  OpS T (fun x y h=>match inA x y h with | some b=>.ok (.bl (if neg then !b else b)) h | none=>.bad) r:=by
 intro ι h H x y u w E Q S rx ry p
 dsimp only at p
 cases hb:inA x y h with
 | none=>rw [hb] at p;exact p.elim
 | some b =>
  rw [hb] at p
  dsimp only at p
  unfold inA at hb
  split at hb
  ·cases hb
   obtain ⟨rfl,_⟩:=ya9 rx
   obtain ⟨rfl,_⟩:=ya9 ry
   exact h1 _ _ _ _ (p.now S (.bl _))
  ·rename_i n
   split at hb
   ·rename_i t kvs hn
    split at hb
    ·rename_i hk
     cases hb
     cases ry with
     | @ref _ ad hr =>
      obtain ⟨o,dg,alt⟩:=zfK S hn hr rx hk
      refine h3 u ad o H Q dg ?_
      rcases alt with ⟨v1,rfl⟩ | ⟨v,u',v1,rfl,r3⟩
      ·rw [v1] at p;exact p.now S (.bl _)
      ·rw [v1] at p;exact p.now S (.bl _)
    ·cases hb
   ·rename_i xs hn
    split at hb
    ·rename_i d ds e1 e2
     cases hb
     obtain ⟨a,us,rfl,sq,rs⟩:=ybM (xs:=xs) S ry (by simp [yby,hn])
     obtain ⟨q1,q2,q3⟩:=ydh S 8 rx e1
     obtain ⟨q4,q5⟩:=zbX (n:=8) (fun r e=>ydh S 8 r e) rs e2
     exact h2 _ _ _ _ a us d ds rfl sq q1 q4 q2 (fun e he=>⟨(q5 e he).1,by have:=(q5 e he).2;omega⟩) (p.now S (.bl _))
    ·cases hb
   ·cases hb
  ·rename_i xs
   split at hb
   ·rename_i d ds e1 e2
    cases hb
    obtain ⟨a,us,rfl,sq,rs⟩:=ybM S ry rfl
    obtain ⟨q1,q2,q3⟩:=ydh S 8 rx e1
    obtain ⟨q4,q5⟩:=zbX (n:=8) (fun r e=>ydh S 8 r e) rs e2
    exact h2 _ _ _ _ a us d ds rfl sq q1 q4 q2 (fun e he=>⟨(q5 e he).1,by have:=(q5 e he).2;omega⟩) (p.now S (.bl _))
   ·cases hb
  ·rename_i xs
   split at hb
   ·rename_i d ds e1 e2
    cases hb
    obtain ⟨a,us,rfl,sq,rs⟩:=ydG ry
    obtain ⟨q1,q2,q3⟩:=ydh S 8 rx e1
    obtain ⟨q4,q5⟩:=zbX (n:=8) (fun r e=>ydh S 8 r e) rs e2
    exact h2t _ _ _ _ a us d ds rfl sq q1 q4 q2 (fun e he=>⟨(q5 e he).1,by have:=(q5 e he).2;omega⟩) (p.now S (.bl _))
   ·cases hb
  ·cases hb
end
end Sm
namespace L2
open PySem PySem.Spec PyProof.Rows
section
variable {X:Cx} {pins:List (Addr×Obj)} {σ:St} {H:Hp} {s:Shared}
theorem zef (I:Inv X pins σ H s) (hu:X.A.units+64<cLine) {xs:List V} {ds:List PyData} {its:List Value} {d:PyData} {v:Value} {as:List Addr} (ra:Reads s.heap v d as) (hds:DaVs X.K H xs ds) (r:Vals xs its) (cd:d.canLay0=true) (cds:∀ e∈ds,e.canLay0=true/\e.depth<=30) :
  (∀ y,y∈its.toArray->SeqAt.EqAt X.A.in1 s y v (isD s.heap d y))/\its.toArray.any (isD s.heap d)=ds.any fun e=>PyData.eqv e d:=by
 obtain ⟨hl,hat⟩:=zfy I hds r
 constructor
 ·intro y hy
  have hy':y∈its:=by simpa using hy
  obtain ⟨j,hj⟩:=List.getElem?_of_mem hy'
  have hlt:=(List.getElem?_eq_some_iff.mp hj).1
  have hdj:ds[j]? = some (ds[j]'(by omega)):=List.getElem?_eq_getElem (by omega)
  obtain ⟨bs,rb⟩:=hat j _ _ hj hdj
  have cj:=cds _ (List.mem_of_getElem? hdj)
  rw [yfw cj.1 rb]
  exact SeqAt.eqAt_reads _ _ _ _ _ _ _ _ rb ra cj.1 cd (by
   have:=Nat.min_le_left (ds[j]'(by omega)).depth d.depth
   show X.A.units+1+_<cLine
   omega)
 ·rw [<- Array.any_toList]
  refine zfz hl fun j u e h1 h2=>?_
  obtain ⟨bs,rb⟩:=hat j _ _ h1 h2
  exact yfw (cds _ (List.mem_of_getElem? h2)).1 rb
def yf9 (K:PySem.W.Frag):R2:=fun x y H Q=>∃ p xs d ds,y = .ref p/\SqL K H p xs/\DaV K H x d/\DaVs K H xs ds/\d.canLay0=true/\(∀ e∈ds,e.canLay0=true/\e.depth<=30)/\Q (.bl (!(ds.any fun e=>PyData.eqv e d))) H
def yfQ (K:PySem.W.Frag):R2:=fun x y H Q=>∃ p xs d ds,y = .ref p/\SqT K H p xs/\DaV K H x d/\DaVs K H xs ds/\d.canLay0=true/\(∀ e∈ds,e.canLay0=true/\e.depth<=30)/\Q (.bl (!(ds.any fun e=>PyData.eqv e d))) H
theorem zg9 (hu:X.A.units+64<cLine):OpR X (compareOp .NotIn) (yf9 X.K):=by
 intro pins s σ H x y v u Q I rx ry h
 obtain ⟨p,xs,d,ds,rfl,hq,hd,hds,cd,cds,q⟩:=h
 cases ry
 obtain ⟨its,r,pl,hz⟩:=I.list hq
 obtain ⟨as,ra⟩:=hd.reads I rx
 obtain ⟨h1,h2⟩:=zef I hu ra hds r cd cds
 exact SeqAt.notIn_listAt (isD s.heap d) pl.isList h1 ⟨.bl _,H,I,rfl,by rw [h2];exact q⟩
theorem zgs (hu:X.A.units+64<cLine):OpR X (compareOp .NotIn) (yfQ X.K):=by
 intro pins s σ H x y v u Q I rx ry h
 obtain ⟨p,xs,d,ds,rfl,hq,hd,hds,cd,cds,q⟩:=h
 cases ry
 obtain ⟨its,r,pl,hz⟩:=I.tuple hq
 obtain ⟨as,ra⟩:=hd.reads I rx
 obtain ⟨h1,h2⟩:=zef I hu ra hds r cd cds
 exact SeqAt.notIn_tupleAt (isD s.heap d) pl h1 ⟨.bl _,H,I,rfl,by rw [h2];exact q⟩
theorem zeL (hu:X.A.units+64<cLine):OpR X (compareOp .NotIn) (fun x y H Q=>∃ a o,y = .ref a/\DGet H a x o/\Q (.bl (!o.isSome)) H):=by
 intro pins s σ H x y v u Q I rx ry h
 obtain ⟨a,o,rfl,g,q⟩:=h
 cases ry
 exact ziI (Nat.lt_of_le_of_lt (Nat.add_le_add_left (by decide:1<=64) _) hu) I g rx fun s' I' => ⟨.bl _,H,I',rfl,q⟩
end
end L2
namespace Sm
open PySem PySem.Spec L2
section
variable {T:Tb} {E:St->XK} {X:Cx}
theorem zfM (hK:X.K=T.K) (hu:X.A.units+64<cLine):Op T X (compareOp .NotIn) yeU:=by
 refine ⟨_,zeB.or ((zg9 hu).or ((zgs hu).or (zeL hu))),zi7 (neg:=true) (g:=compareOp .NotIn) hK ?_ ?_ ?_ ?_⟩
 ·exact fun i j H Q q=>.inl ⟨i,j,rfl,rfl,q⟩
 ·exact fun x y H Q p xs d ds e1 e2 e3 e4 e5 e6 q=>.inr (.inl ⟨p,xs,d,ds,e1,hK▸e2,hK▸e3,hK▸e4,e5,e6,q⟩)
 ·exact fun x y H Q p xs d ds e1 e2 e3 e4 e5 e6 q=>.inr (.inr (.inl ⟨p,xs,d,ds,e1,hK▸e2,hK▸e3,hK▸e4,e5,e6,q⟩))
 ·exact fun y a o H Q g q=>.inr (.inr (.inr ⟨a,o,rfl,g,q⟩))
end
end Sm
namespace Sm
open PySem PySem.Spec L2
abbrev ErrC (x:Str) (C:Addr) (mg:Str->Option Value) (base:Heap):Prop:=PyProof.Rows.OwnCls x C [.type "ValueError",.type "Exception",.type "BaseException",.type "object"] "ValueError.__new__" mg base
structure GX (T:Tb) (mg:Str->Option Value) (base:Heap) (c:Nat) (x:Str):Prop where
 ex:∃ C,T.exc c=some C/\ErrC x C mg base
section
variable {T:Tb} {E:St->XK} {X:Cx} {pos np cpos:Pos} {e:Expr} {es:List Expr} {x:Str} {c:Nat} {as:SL}
theorem zaL (G:GX T X.mg X.base c x) (hr:ydP X E) (hg:Gl X x) (ha:PAA T E X (e::es) as) (hc:X.calm=true:=by rfl) (hex:X.ex=[]:=by rfl)
  (hdb:(x == ("__debug__" : Str))=false:=by decide) (he:starEach (e::es) X.env=(false,eval e X.env)::starEach es X.env:=by rfl) (hpl:(backTo cpos (starEach es X.env)).any (·.1)=false:=by rfl) :
  PSA T E X (.Raise (some (.Call (.Name x np) (e::es) [] cpos)) none pos) (ycj c as):=by
 obtain ⟨C,h1,O⟩:=G.ex
 refine ycu (zhS O PySem.F.excBase_ValueError hc hex hr hg ha hdb he hpl) fun D σ H ⟨ι,h,en,S,er,q⟩=>⟨ι,h,en,S,er,q.go er fun xs h1' ι1 H1 us g1 S1 r1 q1=>?_⟩
 split at q1
 ·rename_i hl
  exact ⟨by rw [<- r1.length];exact hl,q1 ι1 H1 σ C S1.refl S1 (er.mono g1) h1⟩
 ·exact q1.elim
end
def ydC (T:Tb) (f:Fn) (r:List V->Hp->VK->Prop):Prop:=∀ (ι:Ix) (h:AH) (H:Hp) (xs:List AV) (us:List V) (E:XK) (Q:VK),Sim T ι h H->RVs T ι H xs us->Post T ι H E (RV T) (f xs h) Q->r us H Q
section
variable {T:Tb} {E:St->XK} {X:Cx} {pos p:Pos} {e a:Expr} {es:List Expr} {x:Str} {as:SL} {sa:SE}
theorem yh3 {f:Fn} {r:List V->Hp->VK->Prop} (hs:ydC T f r) {σ:St} {H:Hp} {Q:VK} (q:tE T E (yaf f as) σ H Q):tCB r (tA T E as) σ H Q:=by
 obtain ⟨ι,h,en,S,er,q⟩:=q
 exact ⟨ι,h,en,S,er,q.bind fun xs h1 ι1 H1 us g1 S1 r1 q1=>hs ι1 h1 H1 xs us _ Q S1 r1 q1⟩
theorem r_bi {id:String} {f:Fn} (hc:∃ r,CallR X (.builtin id) r/\ydC T f r) (hg:Gl X x) (hm:X.mg x=none) (hv:bootBuiltins x=some (.builtin id)) (ha:PAA T E X (e::es) as) (hn:x ≠ "__name__" := by decide) (hdb:(x == ("__debug__" : Str))=false:=by decide)
  (he:starEach (e::es) X.env=(false,eval e X.env)::starEach es X.env:=by rfl) (hpl:(backTo pos (starEach es X.env)).any (·.1)=false:=by rfl):PEA T E X (.Call (.Name x p) (e::es) [] pos) (yaf f as):=by
 obtain ⟨r,h1,h2⟩:=hc
 exact yaY (zez h1 hg hm hv ha hn hdb he hpl) fun σ H Q q=>yh3 h2 q
theorem b_len (hK:X.K=T.K):∃ r,CallR X (.builtin "len") r/\ydC T fLen r:=by
 refine ⟨_,zeD.or (zeC.or zgW),fun ι h H xs us E Q S r q=>?_⟩
 unfold fLen at q
 split at q
 ·cases r with
  | cons r r' =>
   cases r'
   obtain ⟨rfl,n,_⟩:=ya9 r
   exact .inl ⟨_,rfl,n,q.now S (.int _)⟩
 ·cases r with
  | cons r r' =>
   cases r'
   obtain ⟨a,us,rfl,sq,rs⟩:=ydG r
   exact .inr (.inl ⟨a,us,rfl,.inr (hK▸sq),by rw [<- rs.length];exact q.now S (.int _)⟩)
 ·cases r with
  | cons r r' =>
   cases r'
   obtain ⟨a,us,rfl,sq,rs⟩:=ybM S r rfl
   exact .inr (.inl ⟨a,us,rfl,.inl (hK▸sq),by rw [<- rs.length];exact q.now S (.int _)⟩)
 ·rename_i n
  cases r with
  | cons r r' =>
   cases r'
   split at q
   ·rename_i xs hn
    obtain ⟨a,us,rfl,sq,rs⟩:=ybM (xs:=xs) S r (by simp [yby,hn])
    exact .inr (.inl ⟨a,us,rfl,.inl (hK▸sq),by rw [<- rs.length];exact q.now S (.int _)⟩)
   ·rename_i kvs hn
    cases r with
    | @ref _ ad hr =>
     obtain ⟨o,e1,kus,rfl,rs⟩:=S.obj n _ ad hn hr
     exact .inr (.inr ⟨ad,kus,rfl,e1,by rw [<- Paired.length rs];exact q.now S (.int _)⟩)
   ·exact q.elim
 ·exact q.elim
theorem b_abs:∃ r,CallR X (.builtin "abs") r/\ydC T fAbs r:=by
 refine ⟨_,zhB,fun ι h H xs us E Q S r q=>?_⟩
 unfold fAbs at q
 split at q
 ·cases r with
  | cons r r' => cases r';rw [yaI r];exact ⟨_,rfl,q.now S (.int _)⟩
 ·exact q.elim
theorem yeA (hc:X.calm=true:=by rfl):∃ r,CallR X (.builtin "max") r/\ydC T yb6 r:=by
 refine ⟨_,zgL hc,fun ι h H xs us E Q S r q=>?_⟩
 unfold yb6 at q
 split at q
 ·cases r with
  | cons r r' => cases r' with
   | cons r1 r2=>cases r2;rw [yaI r,yaI r1];exact ⟨_,_,rfl,q.now S (.int _)⟩
 ·exact q.elim
theorem ye0 (hc:X.calm=true:=by rfl):∃ r,CallR X (.builtin "min") r/\ydC T ycq r:=by
 refine ⟨_,zgM hc,fun ι h H xs us E Q S r q=>?_⟩
 unfold ycq at q
 split at q
 ·cases r with
  | cons r r' => cases r' with
   | cons r1 r2=>cases r2;rw [yaI r,yaI r1];exact ⟨_,_,rfl,q.now S (.int _)⟩
 ·exact q.elim
theorem zeM {ι:Ix} {H:Hp}:∀ {xs:List AV} {us:List V} {bs:List Bool},RVs T ι H xs us->yd3 xs=some bs->us=bs.map V.bl
 | _,_,_,.nil,e=>by cases e;rfl
 | _,_,bs,.cons (x:=x) r rs,e=>by
  unfold yd3 at e
  split at e
  ·rename_i hh;cases hh
  ·rename_i b r' hh
   cases hh
   obtain ⟨bs',e1,rfl⟩:=Option.map_eq_some_iff.mp e
   rw [ycU r,zeM rs e1];rfl
  ·cases e
theorem b_all (hK:X.K=T.K) (hc:X.calm=true:=by rfl):∃ r,CallR X (.builtin "all") r/\ydC T fAll r:=by
 refine ⟨_,zhO hc,fun ι h H xs us E Q S r q=>?_⟩
 unfold fAll at q
 split at q
 ·split at q
  ·rename_i bs hb
   cases r with
   | cons r r' =>
    cases r'
    obtain ⟨a,us,rfl,sq,rs⟩:=ybM S r rfl
    rw [zeM rs hb] at sq
    exact ⟨a,bs,rfl,hK▸sq,q.now S (.bl _)⟩
  ·exact q.elim
 ·exact q.elim
abbrev tys:List String:=["NoneType", "bool", "int", "str", "list", "tuple", "dict"]
theorem yfE (K:PySem.W.Frag):∀ n∈tys,∀ t∈tys,PySem.W.kitOne K (.type n) (.type t)=some (n == t || (t == "int" && n == "bool")):=by
 intro n hn t ht
 simp only [tys,List.mem_cons,List.not_mem_nil,or_false] at hn ht
 rcases hn with rfl | rfl | rfl | rfl | rfl | rfl | rfl<;>rcases ht with rfl | rfl | rfl | rfl | rfl | rfl | rfl<;>rfl
theorem zha {c:V} {cv:Value} (rc:∀ u,RelV c u->u=cv) :
  CallR X (.builtin "isinstance") (fun xs H Q=>∃ a us r,xs=[.ref a,c]/\SqL X.K H a us/\PySem.W.kitOne X.K (.type "list") cv=some r/\Q (.bl r) H):=by
 intro pins s σ H xs us Q I r h
 obtain ⟨a,ws,k,rfl,sq,hk,q⟩:=h
 obtain ⟨u,w',rfl,rx,ry⟩:=yeJ r
 obtain rfl:=rc _ ry
 obtain rfl:u=Value.ref a:=rx
 obtain ⟨its,_,⟨o,n,e1,e2,_⟩,_⟩:=I.list sq
 exact PySem.W.kia_one PySem.W.kitx_list I.kIn ⟨_,e1,e2⟩ hk (fun z=>nomatch z) fun tk=>⟨.bl k,H,I.tok _,rfl,q⟩
theorem yh4 {ι:Ix} {h:AH} {H:Hp} {v:AV} {u:V} {n:String} (S:Sim T ι h H) (r:RV T ι H v u) (e:tyN v h=some n):(TyOf T.K H u (.type n)\/(n = "list" /\ ∃ a us,u = .ref a/\SqL T.K H a us))/\n∈tys:=by
 unfold tyN at e
 cases r with
 | non=>cases e;exact ⟨.inl .non,by decide⟩
 | bl b=>cases e;exact ⟨.inl (.bl b),by decide⟩
 | int b=>cases e;exact ⟨.inl (.int b),by decide⟩
 | str n o=>cases e;exact ⟨.inl (.str _),by decide⟩
 | tup n q r=>cases e;exact ⟨.inl (.tup q),by decide⟩
 | fl n q r=>cases e;exact ⟨.inr ⟨rfl,_,_,rfl,.inl q⟩,by decide⟩
 | kfl q r=>cases e;exact ⟨.inr ⟨rfl,_,_,rfl,.inr q⟩,by decide⟩
 | @ref k a q =>
  dsimp only at e
  split at e
  ·rename_i xs hn
   cases e
   obtain ⟨o,e1,us,rfl,rs⟩:=S.obj k _ a hn q
   exact ⟨.inl (.lst e1),by decide⟩
  ·rename_i t kvs hn
   cases e
   obtain ⟨o,e1,r⟩:=S.obj k _ a hn q
   cases t with
   | false=>obtain ⟨kus,rfl,rs⟩:=r;exact ⟨.inl (.dK e1),by decide⟩
   | true=>obtain ⟨kus,rfl,rs⟩:=r;exact ⟨.inl (.dT e1),by decide⟩
  ·cases e
 | exc _ _ _=>cases e
theorem yfd {t:Str} {id:String} {p2:Pos} (hK:X.K=T.K) (hg:Gl X "isinstance") (hm:X.mg "isinstance" = none) (ha:PEA T E X a sa) (hgt:Gl X t) (hmt:X.mg t=none) (hvt:bootBuiltins t=some (.type id)) (hid:id∈tys) (hnt:t ≠ "__name__" := by decide) (hdt:(t == ("__debug__" : Str))=false:=by decide)
  (he:starEach [a,.Name t p2] X.env=(false,eval a X.env)::starEach [.Name t p2] X.env:=by rfl):PEA T E X (.Call (.Name "isinstance" p) [a,.Name t p2] [] pos) (sIsB id sa):=by
 refine yaY (zez ((zhN (X:=X) (yfV id)).or (zha (X:=X) (yfV id))) hg hm PyProof.Rows.boot_isinstance (zdK ha (zdK (ziu (v:=.ty id) hgt hmt hvt rfl hnt hdt) yfq) he) (he:=he)) fun σ H Q ⟨ι,h,en,S,er,q⟩=>⟨ι,h,en,S,er,q.bind fun v h1 ι1 H1 u g1 S1 r1 q1=>?_⟩
 split at q1
 ·rename_i n hn
  obtain ⟨ty,hmem⟩:=yh4 S1 r1 hn
  rcases ty with ty | ⟨rfl,ad,us,rfl,sq⟩
  ·exact .inl ⟨u,.type n,_,rfl,hK▸ty,yfE _ n hmem id hid,q1.now S1 (.bl _)⟩
  ·exact .inr ⟨ad,us,_,rfl,hK▸sq,yfE _ _ hmem id hid,q1.now S1 (.bl _)⟩
 ·exact q1.elim
def MtS (T:Tb) (f:FM) (r:V->List V->Hp->VK->Prop):Prop:=∀ (ι:Ix) (h:AH) (H:Hp) (x:AV) (xs:List AV) (u:V) (us:List V) (E:XK) (Q:VK),Sim T ι h H->RV T ι H x u->RVs T ι H xs us->Post T ι H E (RV T) (f x xs h) Q->r u us H Q
def ChkS (T:Tb) (chk:AV->AH->Bool) (n:String):Prop:=∀ (ι:Ix) (h:AH) (H:Hp) (x:AV) (u:V),Sim T ι h H->RV T ι H x u->chk x h=true->tyV T.K n u H
theorem zao:ChkS T yaB "list" := fun ι h H x u S r e=>by
 obtain ⟨xs,e1⟩:=Option.isSome_iff_exists.mp e
 obtain ⟨a,us,rfl,sq,rs⟩:=ybM S r e1
 exact .inl ⟨rfl,us,sq⟩
theorem zcL:ChkS T yei "str" := fun ι h H x u S r e=>by
 unfold yei at e
 split at e
 ·obtain ⟨rfl,_⟩:=ya9 r;rfl
 ·cases e
variable {o:Expr} {so:SE} {name:Str} {apos:Pos} {chk:AV->AH->Bool} {f:FM} {tn id:String}
theorem r_bm (hK:X.K=T.K) (pa:PlainAttrs tn) (slot:Slot tn name id) (hty:typeOf (.builtin id)=pure (.type "method_descriptor")) (hm:∃ r,MtR X id r/\MtS T f r) (hc:ChkS T chk tn) (ho:PEA T E X o so) (ha:PAA T E X (e::es) as)
  (hbase:attributeBase o name X.env (eval o X.env)=eval o X.env:=by rfl)
  (hfew:((backTo pos (starEach (e::es) X.env)).all (fun x=>!x.1) && (backToKw pos (keywordEach [] X.env)).all (fun x=>x.1.isSome)
   && decide ((e::es).length+([]:List Keyword).length+(if ([]:List Keyword).isEmpty then 0 else 1)<30))=true:=by rfl)
  (hline:(apos.endLine == pos.line)=true:=by rfl) (hs:starEach (e::es) X.env=(false,eval e X.env)::starEach es X.env:=by rfl) (hplain:(backTo pos (starEach es X.env)).any (·.1)=false:=by rfl) :
  PEA T E X (.Call (.Attribute o name apos) (e::es) [] pos) (sBM chk f so as):=by
 obtain ⟨r,h1,h2⟩:=hm
 refine yaY (yhN pa slot hty h1 ho ha hbase hfew hline hs hplain) fun σ H Q ⟨ι,h,en,S,er,q⟩=>⟨ι,h,en,S,er,q.bind fun x h1 ι1 H1 u g1 S1 r1 q1=>?_⟩
 by_cases hx:chk x h1=true
 ·rw [if_pos hx] at q1
  exact ⟨hK▸hc ι1 h1 H1 x u S1 r1 hx,ι1,h1,en,S1,er.mono g1,q1.bind fun xs h2' ι2 H2 us g2 S2 r2 q2=>h2 ι2 h2' H2 x xs u us _ Q S2 (r1.mono g2) r2 q2⟩
 ·rw [if_neg hx] at q1;exact q1.elim
theorem yf2 (hK:X.K=T.K) (pa:PlainAttrs tn) (slot:Slot tn name id) (hty:typeOf (.builtin id)=pure (.type "method_descriptor")) (hm:∃ r,MtR X id r/\MtS T f r) (hc:ChkS T chk tn) (ho:PEA T E X o so)
  (hbase:attributeBase o name X.env (eval o X.env)=eval o X.env:=by rfl) (hline:(apos.endLine == pos.line)=true:=by rfl):PEA T E X (.Call (.Attribute o name apos) [] [] pos) (sBM0 chk f so):=by
 obtain ⟨r,h1,h2⟩:=hm
 refine yaY (ygC pa slot hty h1 ho hbase hline) fun σ H Q ⟨ι,h,en,S,er,q⟩=>⟨ι,h,en,S,er,q.bind fun x h1 ι1 H1 u g1 S1 r1 q1=>?_⟩
 by_cases hx:chk x h1=true
 ·rw [if_pos hx] at q1
  exact ⟨hK▸hc ι1 h1 H1 x u S1 r1 hx,h2 ι1 h1 H1 x [] u [] _ Q S1 r1 .nil q1⟩
 ·rw [if_neg hx] at q1;exact q1.elim
theorem zam:∃ r,MtR X "list.append" r/\MtS T yaD r:=by
 refine ⟨_,zcp,fun ι h H x xs u us E Q S rx rs q=>?_⟩
 unfold yaD at q
 split at q
 ·rename_i n y
  split at q
  ·rename_i ys hn
   split at q
   ·rename_i hl
    cases rx with
    | @ref _ ad hr =>
     cases rs with
     | @cons _ uu _ _ r r' =>
      cases r'
      obtain ⟨o,e1,ws,rfl,rw_⟩:=S.obj n _ ad hn hr
      have g:=S.growSet (u:=.lst (ws++[uu])) hr
      exact ⟨ad,ws,_,rfl,rfl,e1,by rw [<- rw_.length];exact hl,q ι _ _ g (S.set hr ⟨_,rfl,(rw_.mono g).append (.cons (r.mono g) .nil)⟩) .non⟩
   ·exact q.elim
  ·exact q.elim
 ·exact q.elim
theorem yh5:∃ r,MtR X "list.pop" r/\MtS T mPop r:=by
 refine ⟨_,ygD,fun ι h H x xs u us E Q S rx rs q=>?_⟩
 unfold mPop at q
 split at q
 ·rename_i n
  split at q
  ·rename_i ys hn
   split at q
   ·rename_i y hy
    cases rx with
    | @ref _ ad hr =>
     cases rs
     obtain ⟨o,e1,ws,rfl,rw_⟩:=S.obj n _ ad hn hr
     have g:=S.growSet (u:=.lst ws.dropLast) hr
     obtain ⟨v,e2,r2⟩:=rw_.get hy
     refine ⟨ad,ws,v,rfl,rfl,e1,by rw [<- rw_.length];exact e2,q ι _ _ g (S.set hr ⟨_,rfl,?_⟩) (r2.mono g)⟩
     have z:=(rw_.mono g).take (ys.length-1)
     have e3:ys.take (ys.length-1)=ys.dropLast:=List.dropLast_eq_take.symm
     have e4:ws.take (ys.length-1)=ws.dropLast:=by rw [rw_.length];exact List.dropLast_eq_take.symm
     rw [e3,e4] at z
     exact z
   ·exact q.elim
  ·exact q.elim
 ·exact q.elim
theorem zh1:∃ r,MtR X "str.count" r/\MtS T yeF r:=by
 refine ⟨_,zeF,fun ι h H x xs u us E Q S rx rs q=>?_⟩
 unfold yeF at q
 split at q
 ·cases rs with
  | cons r r' =>
   cases r'
   obtain ⟨rfl,_⟩:=ya9 rx
   obtain ⟨rfl,_⟩:=ya9 r
   exact ⟨_,_,rfl,rfl,q.now S (.int _)⟩
 ·exact q.elim
theorem zfN {ι:Ix} {H:Hp}:∀ {xs:List AV} {us:List V} {zs:List Str},RVs T ι H xs us->yd4 xs=some zs->us=zs.map V.str/\∀ z∈zs,z.cps.all (· < 0x110000)=true
 | _,_,_,.nil,e=>by cases e;exact ⟨rfl,by simp⟩
 | _,_,zs,.cons (x:=x) r rs,e=>by
  unfold yd4 at e
  split at e
  ·rename_i hh;cases hh
  ·rename_i b r' hh
   cases hh
   obtain ⟨zs',e1,rfl⟩:=Option.map_eq_some_iff.mp e
   obtain ⟨rfl,_,o⟩:=ya9 r
   obtain ⟨h1,h2⟩:=zfN rs e1
   refine ⟨by rw [h1];rfl,fun z hz=>?_⟩
   rcases List.mem_cons.mp hz with rfl | hz
   ·exact o
   ·exact h2 z hz
  ·cases e
theorem yfF (hK:X.K=T.K):∃ r,MtR X "str.join" r/\MtS T ydz r:=by
 refine ⟨_,ziT,fun ι h H x xs u us E Q S rx rs q=>?_⟩
 unfold ydz at q
 split at q
 ·rename_i z y
  split at q
  ·rename_i hz
   subst hz
   split at q
   ·rename_i ys hy
    split at q
    ·rename_i zs hzs
     split at q
     ·rename_i hl
      cases rs with
      | cons r r' =>
       cases r'
       obtain ⟨rfl,_⟩:=ya9 rx
       obtain ⟨a,ws,rfl,sq,rw_⟩:=ybM S r hy
       obtain ⟨h1,h2⟩:=zfN rw_ hzs
       subst h1
       refine ⟨a,zs,rfl,rfl,hK▸sq,hl,fun rr hrr=>?_⟩
       have e:rr=⟨((zs.map fun x:Str=>x.cps.toList).flatten).toArray⟩:=by
        cases rr
        simp only [Str.mk.injEq]
        rw [<- hrr]
       rw [e]
       refine q.now S (.str ?_ ?_)
       ·show ((zs.map fun x:Str=>x.cps.toList).flatten).toArray.size<=sizeLine
        rw [List.size_toArray]
        exact Nat.le_trans hl (by decide)
       ·rw [Array.all_eq_true_iff_forall_mem]
        intro c hc
        simp only [List.mem_toArray,List.mem_flatten,List.mem_map] at hc
        obtain ⟨l,⟨zz,hz1,rfl⟩,hc2⟩:=hc
        exact Array.all_eq_true_iff_forall_mem.mp (h2 zz hz1) c (by simpa using hc2)
     ·exact q.elim
    ·exact q.elim
   ·exact q.elim
  ·exact q.elim
 ·exact q.elim
end
end Sm
namespace Sm
open PySem PySem.Spec L2
theorem Out.bind_assoc {α β γ:Type} (o:Out α) (f:α->AH->Out β) (g:β->AH->Out γ):(o.bind f).bind g=o.bind fun a h=>(f a h).bind g:=by cases o<;>rfl
section
variable {T:Tb} {E:St->XK} {X:Cx} {pos p2:Pos} {a b:Expr} {sa sb:SE}
def tO (T:Tb) (E:St->XK):Option SE->TO
 | none=>ye6
 | some s=>yfT (tE T E s)
abbrev POA (T:Tb) (E:St->XK) (X:Cx) (e:Option Expr) (s:Option SE):Prop:=PO X e (tO T E s)
theorem zbq:POA T E X none none:=ziD
theorem zaG (h:PEA T E X a sa):POA T E X (some a) (some sa):=ziE h
@[simp] def yeP (s:Option SE):En->AH->Out (Option Int):=fun en h=>match s with
 | none=>.ok none h
 | some l=>(l en h).bind fun v h2=>match v with | .int i=>.ok (some i) h2 | _=>.bad
theorem zfO {s:Option SE} {σ:St} {H:Hp} {ι:Ix} {h:AH} {en:En} {γ δ:Type} {R':Ix->Hp->γ->δ->Prop} {Q0:δ->Hp->Prop} {f:Option Int->AH->Out γ} {Q:Option Int->Hp->Prop} (S:Sim T ι h H) (er:ER T ι H en σ) (q:Post T ι H (E σ) R' ((yeP s en h).bind f) Q0)
  (k:∀ l h' ι' H',Grow ι H ι' H'->Sim T ι' h' H'->Post T ι' H' (E σ) R' (f l h') Q0->Q l H'):tO T E s σ H Q:=by
 cases s with
 | none=>exact k none h ι H S.refl S q
 | some l =>
  refine ⟨ι,h,en,S,er,?_⟩
  unfold yeP at q
  dsimp only at q
  rw [Out.bind_assoc] at q
  refine q.bind fun v h1 ι1 H1 u g1 S1 r1 q1=>?_
  split at q1
  ·rw [yaI r1]
   exact ⟨_,rfl,k _ _ ι1 H1 g1 S1 q1⟩
  ·exact q1.elim
@[simp] def ybg (x:AV) (l u:Option Int) (h:AH):Out AV:=match x with
 | .fl xs=>.ok (.fl (cutA xs l u)) h
 | .str z=>.ok (.str (cutS z l u)) h
 | .tup xs=>if ¬ (HT.sIx xs.length 0 l=0/\HT.sIx xs.length xs.length u=xs.length) then .ok (.tup (cutA xs l u)) h else .bad
 | .ref n=>match h[n]? with
  | some (.lst xs)=>.ok (.fl (cutA xs l u)) h
  | _=>.bad
 | _=>.bad
@[simp] def sCut (a:SE) (lo hi:Option SE):SE:=fun en h=>(a en h).bind fun x h1=>(yeP lo en h1).bind fun l h2=>(yeP hi en h2).bind fun u h3=>ybg x l u h3
theorem RVs.cut {ι:Ix} {H:Hp} {xs:List AV} {us:List V} {lo hi:Option Int} (r:RVs T ι H xs us):RVs T ι H (cutA xs lo hi) (cutV us lo hi):=by
 unfold cutA cutV
 rw [<- r.length]
 exact (r.drop _).take _
theorem ygT {ι:Ix} {H:Hp} {z:Str} {l u:Option Int} (hz:z.length<=sizeLine) (hc:z.cps.all (· < 0x110000)=true):RV T ι H (.str (cutS z l u)) (.str (cutS z l u)):=by
 refine .str ?_ ?_
 ·refine Nat.le_trans ?_ hz
  simp [cutS,Str.length];omega
 ·simp only [cutS,List.all_toArray,List.all_eq_true]
  intro c h
  have hm:c∈z.cps.toList:=List.mem_of_mem_drop (List.mem_of_mem_take h)
  exact (Array.all_eq_true_iff_forall_mem.mp hc) c (by simpa using hm)
theorem zaT {lo hi:Option Expr} {sl sh:Option SE} (hK:X.K=T.K) (ha:PEA T E X a sa) (hl:POA T E X lo sl) (hh:POA T E X hi sh):PEA T E X (.Subscript a (.Slice lo hi none p2) pos) (sCut sa sl sh):=by
 refine yaY (zhF (ziH.or (sl_tup.or ygM)) ha hl hh) fun σ H Q ⟨ι,h,en,S,er,q⟩=>⟨ι,h,en,S,er,q.bind fun x h1 ι1 H1 u g1 S1 r1 q1=>?_⟩
 refine zfO (E:=E) S1 (er.mono g1) q1 fun l h2 ι2 H2 g2 S2 q2=>zfO (E:=E) S2 (er.mono (g1.trans g2)) q2 fun w h3 ι3 H3 g3 S3 q3=>?_
 have r3:=r1.mono (g2.trans g3)
 unfold ybg at q3
 split at q3
 ·obtain ⟨ad,us,rfl,sq,rs⟩:=ybM S3 r3 rfl
  exact .inl ⟨ad,us,rfl,hK▸sq,fun p n=>yew S3 rs.cut n q3⟩
 ·obtain ⟨rfl,hz,hc⟩:=ya9 r3
  exact .inr (.inr ⟨_,rfl,hz,q3.now S3 (ygT hz hc)⟩)
 ·rename_i xs
  split at q3
  ·rename_i hz
   obtain ⟨ad,us,rfl,sq,rs⟩:=ydG r3
   exact .inr (.inl ⟨ad,us,rfl,hK▸sq,by rw [<- rs.length];exact hz,fun p n=>zdN S3 rs.cut n q3⟩)
  ·exact q3.elim
 ·split at q3
  ·rename_i xs hn
   obtain ⟨ad,us,rfl,sq,rs⟩:=ybM (xs:=xs) S3 r3 (by simp [yby,hn])
   exact .inl ⟨ad,us,rfl,hK▸sq,fun p n=>yew S3 rs.cut n q3⟩
  ·exact q3.elim
 ·exact q3.elim
theorem r_gI {x:Str} {i:Int} {p:Pos} (hg:Gl X x) (hm:∃ t,X.mg x=some (.int i t)) (hd:(x == ("__debug__" : Str))=false:=by decide):PEA T E X (.Name x p) (sLit (.int i)):=by
 obtain ⟨t,hm⟩:=hm
 exact ziW hg hm hd
end
def DG (K:PySem.W.Frag) (mg:Str->Option Value) (x:Str) (st:Stmt) (ps:List Str):Prop:=∃ f fd,mg x=some (.ref f)/\PySem.W.keepIn K (.ref f)=true/\Binds K fd ps []/\Fun K x x st f fd
end Sm
namespace Sm
open PySem PySem.Spec L2
def yeG (N:List Str) (sc:Scope) (x₁:Str) (jf:List (Nat×Str)) (scope:Scope):Bool :=
 decide (x₁::jf.map (·.2)).Nodup && (scope.names.lookup x₁ == some .local) && jf.all (fun p=>N[p.1]? == some p.2) && jf.all (fun p=>scope.names.lookup p.2 == some .free) && (scope.kind == .function) &&
 scope.names.all (fun y=>y.2 != .cell) && scope.names.all (fun y=>y.2 != .free || sc.names.lookup y.1 == some .cell || sc.names.lookup y.1 == some .free) && scope.names.all (fun y=>y.2 != .local || scope.names.lookup y.1 == some .local)
theorem zba {X:Cx} {N:List Str} {sc scope:Scope} {x₁:Str} {jf:List (Nat×Str)} (hN:X.N=N) (hk:∀ x,X.env.kindOf x=sc.names.lookup x) (h:yeG N sc x₁ jf scope=true):CompOk X x₁ jf scope:=by
 unfold yeG at h
 simp only [Bool.and_eq_true,decide_eq_true_eq,List.all_eq_true,beq_iff_eq,bne_iff_ne,Bool.or_eq_true] at h
 obtain ⟨⟨⟨⟨⟨⟨⟨h1,h2⟩,h3⟩,h4⟩,h5⟩,h6⟩,h7⟩,h8⟩:=h
 refine ⟨h1,h2,fun p hp=>by rw [hN];exact h3 p hp,h4,h5,fun y hy=>h6 y hy,fun y hy e=>?_,fun y hy e=>?_⟩
 ·rw [hk]
  rcases h7 y hy with (z | z) | z
  ·exact absurd e z
  ·exact .inl z
  ·exact .inr z
 ·rcases h8 y hy with z | z
  ·exact absurd e z
  ·exact z
end Sm
namespace Sm
open PySem PySem.Spec L2
theorem zdR {T:Tb} {ι:Ix} {H:Hp}:∀ ns:List Int,RVs T ι H (ns.map AV.int) (ns.map V.int)
 | []=>.nil
 | n::ns=>.cons (.int n) (zdR ns)
theorem sim0 {T:Tb} {H:Hp}:Sim T ⟨[],[]⟩ [] H:=⟨rfl,List.nodup_nil,(fun _ z=>nomatch z),(fun i o a e=>by simp at e)⟩
def spL (K:PySem.W.Frag):Sp:=fun vs H Q _=>∃ (a:Addr) (ns:List Int),vs=[.ref a]/\SqL K H a (ns.map V.int)/\ns.length<=63/\∀ H',Q (.bl true) H'
theorem zi8 {T:Tb} {F:Fn} (ht:∀ ns:List Int,ns.length<=63->∃ h',F [.fl (ns.map AV.int)] [] = .ok (.bl true) h'):∀ vs H Q E,spL T.K vs H Q E->spA T F vs H Q E:=by
 rintro vs H Q E ⟨a,ns,rfl,hs,hl,q⟩
 obtain ⟨h',e⟩:=ht ns hl
 refine ⟨⟨[],[]⟩,[],[.fl (ns.map AV.int)],sim0,.cons ?_ .nil,?_⟩
 ·rcases hs with hs | hs
  ·exact .fl (by simp [Ix.all]) hs (zdR ns)
  ·exact .kfl hs (zdR ns)
 ·rw [e]
  intro ι' H' u g S r
  rw [ycU r]
  exact q H'
theorem zhb {P:Program} {w:World} {outer:List Env} {H:Hp} {s s':Shared} {e:Value} (h:CXE P w outer H s (fun _ _ _=>False) e s'):False:=by
 obtain ⟨_,_,_,_,_,_,_,_,_,_,_,_,_,_,q⟩:=h
 exact q
end Sm
namespace Sm
open PySem PySem.Spec L2
@[simp] def yec:List AV->Option (List Int)
 | []=>some []
 | .int i::r=>(yec r).map (i :: ·)
 | _=>none
@[simp] def fSum:Fn:=fun args h=>match args with
 | [.fl xs]=>match yec xs with
  | some ns=>.ok (.int ns.sum) h
  | none=>.bad
 | _=>.bad
@[simp] def ycV (a b c:SE):SI:=fun en h=>(a en h).bind fun v h1=>(b en h1).bind fun w h2=>(c en h2).bind fun z h3=>match v,w,z with
 | .int i,.int j,.int k=>if i.natAbs<2 ^ 40/\j.natAbs<2 ^ 40/\0<k/\k<2 ^ 20 then .ok ((List.range (if i<j then (j-i-1) / k+1 else 0:Int).toNat).map (fun m:Nat=>.int (i+m*k)),none) h3 else .bad
 | _,_,_=>.bad
@[simp] def fIsB:F2:=fun x y h=>match x,y with
 | .bl a,.bl b=>.ok (.bl (a == b)) h
 | _,_=>.bad
@[simp] def yeH (f f' f'':F2) (a b c d:SE):SE:=fun en h=>(a en h).bind fun x h1=>(b en h1).bind fun y h2=>(f x y h2).bind fun z h3=>match z with
 | .bl k=>if k=true then (c en h3).bind fun w h4=>(f' y w h4).bind fun z2 h5=>(match z2 with
  | .bl k2=>if k2=true then (d en h5).bind fun v h6=>f'' w v h6 else .ok (.bl false) h5
  | _=>.bad) else .ok (.bl false) h3
 | _=>.bad
section
variable {T:Tb} {E:St->XK} {X:Cx} {pos p:Pos} {e a b c:Expr} {sa sb sc:SE}
theorem zcM {ι:Ix} {H:Hp}:∀ {xs:List AV} {us:List V} {bs:List Int},RVs T ι H xs us->yec xs=some bs->us=bs.map V.int
 | _,_,_,.nil,e=>by cases e;rfl
 | _,_,bs,.cons (x:=x) r rs,e=>by
  unfold yec at e
  split at e
  ·rename_i hh;cases hh
  ·rename_i b r' hh
   cases hh
   obtain ⟨bs',e1,rfl⟩:=Option.map_eq_some_iff.mp e
   rw [yaI r,zcM rs e1];rfl
  ·cases e
theorem b_sum (hK:X.K=T.K) (hc:X.calm=true:=by rfl):∃ r,CallR X (.builtin "sum") r/\ydC T fSum r:=by
 refine ⟨_,zhV hc,fun ι h H xs us E Q S r q=>?_⟩
 unfold fSum at q
 split at q
 ·split at q
  ·rename_i bs hb
   cases r with
   | cons r r' =>
    cases r'
    obtain ⟨a,us,rfl,sq,rs⟩:=ybM S r rfl
    rw [zcM rs hb] at sq
    exact ⟨a,bs,rfl,hK▸sq,q.now S (.int _)⟩
  ·exact q.elim
 ·exact q.elim
theorem zgt {ι:Ix} {H:Hp} {lo c:Int} {n:Nat}:ItR T (Itr3 lo c n) ι H ((List.range n).map (fun m:Nat=>AV.int (lo+m*c))) none:=by
 constructor
 ·intro i ι' h' H' y g S _ e
  rw [List.getElem?_map] at e
  obtain ⟨m,e1,rfl⟩:=Option.map_eq_some_iff.mp e
  have hi:i<n:=by
   have:=(List.getElem?_eq_some_iff.mp e1).1
   simpa using this
  rw [List.getElem?_range hi] at e1
  cases e1
  refine ⟨hi,?_⟩
  rintro u H2 ⟨rfl,rfl⟩
  exact ⟨S.refl,S,.int _⟩
 ·intro i ι' h' H' g S _ hl
  have hl':n<=i:=by simpa using hl
  exact hl'
theorem zeg {tg:Expr} {p:Pos} (hg:Gl X "range") (hm:X.mg "range" = none) (ha:PEA T E X a sa) (hb:PEA T E X b sb) (hc:PEA T E X c sc) (hs:starEach [a,b,c] X.env=[(false,eval a X.env),(false,eval b X.env),(false,eval c X.env)]:=by rfl) (hs2:starEach [b,c] X.env=[(false,eval b X.env),(false,eval c X.env)]:=by rfl) (hs3:starEach [c] X.env=[(false,eval c X.env)]:=by rfl) :
  PIA T X tg (.Call (.Name "range" p) [a,b,c] [] pos) (ycV sa sb sc) :=
 yey (zg3 hg hm (zaa ha (zaa hb (zaa hc yac hs3) (by rw [hs2,hs3])) (by rw [hs,hs2])) hs hs2) fun σ H R ⟨ι,h,en,S,er,q⟩=>by
  unfold ycV at q
  refine ⟨ι,h,en,S,er,?_⟩
  unfold yab
  cases e:sa en h with
  | bad=>rw [e] at q;exact q
  | ex c h1=>rw [e] at q;exact q.elim
  | ok v h1 =>
   rw [e] at q
   dsimp only [Out.bind] at q ⊢
   cases e':sb en h1 with
   | bad=>rw [e'] at q;exact q
   | ex c h1=>rw [e'] at q;exact q.elim
   | ok v' h2 =>
    rw [e'] at q
    dsimp only at q ⊢
    cases e'':sc en h2 with
    | bad=>rw [e''] at q;exact q
    | ex c h1=>rw [e''] at q;exact q.elim
    | ok v'' h3 =>
     rw [e''] at q
     dsimp only at q
     intro ι1 H1 u g1 S1 r1
     split at q
     ·rename_i hx
      split at hx
      ·split at hx
       ·rename_i hb
        cases hx
        cases r1 with
        | cons r r' =>
         cases r' with
         | cons r2 r3 =>
          cases r3 with
          | cons r4 r5 =>
           cases r5
           rw [yaI r,yaI r2,yaI r4]
           exact ⟨_,_,_,rfl,hb,q ι1 H1 _ g1 S1 zgt⟩
       ·cases hx
      ·cases hx
     ·exact q.elim
theorem ydR {sts:List Stmt} {E:St->XK}:PSsA T E X sts (fun _ _=>.bad):=fun pins s σ H D I ⟨ι,h,en,S,er,q⟩=>q.elim
theorem yil {ι:Ix} {H:Hp} {z:Str} (hz:z.length<=sizeLine) (hc:z.cps.all (· < 0x110000)=true):RV T ι H (.str (revS z)) (.str (revS z)):=by
 refine .str ?_ ?_
 ·refine Nat.le_trans ?_ hz
  simp [revS,Str.length]
 ·simp only [revS,List.all_toArray,List.all_eq_true,List.mem_reverse]
  intro c h
  exact (Array.all_eq_true_iff_forall_mem.mp hc) c (by simpa using h)
theorem zhc {d:Expr} {sd:SE} {op op' op'':CmpOp} {f f' f'':F2} (ho:Op T X (compareOp op) f) (ho':Op T X (compareOp op') f') (ho'':Op T X (compareOp op'') f'') (ha:PEA T E X a sa) (hb:PEA T E X b sb) (hc:PEA T E X c sc) (hd:PEA T E X d sd) (hm:lastMarks [op,op',op''] [b,c,d]=false:=by with_unfolding_all rfl) :
  PTA T E X (.Compare a [op,op',op''] [b,c,d] pos) (yas (yeH f f' f'' sa sb sc sd)):=by
 obtain ⟨r,h1,hs⟩:=ho
 obtain ⟨r',h1',hs'⟩:=ho'
 obtain ⟨r'',h1'',hs''⟩:=ho''
 refine yeb (zg4 h1 h1' h1'' ha hb hc hd hm) fun σ H Q q=>?_
 obtain ⟨ι,h,en,S,er,q⟩:=q
 unfold yas yeH at q
 rw [Out.bind_assoc] at q
 refine ⟨ι,h,en,S,er,q.bind fun x h1 ι1 H1 u g1 S1 r1 q1=>?_⟩
 rw [Out.bind_assoc] at q1
 refine ⟨ι1,h1,en,S1,er.mono g1,q1.bind fun y h2 ι2 H2 w g2 S2 r2 q2=>?_⟩
 rw [Out.bind_assoc] at q2
 refine hs ι2 h2 H2 x y u w (E σ) _ S2 (r1.mono g2) r2 (q2.bind fun z h3 ι3 H3 k g3 S3 r3 q3=>?_)
 split at q3
 ·rename_i kk
  rw [ycU r3]
  refine ⟨kk,rfl,?_⟩
  by_cases hkk:kk=true
  ·rw [if_pos hkk] at q3 ⊢
   rw [Out.bind_assoc] at q3
   refine ⟨ι3,h3,en,S3,er.mono (g1.trans (g2.trans g3)),q3.bind fun v h4 ι4 H4 j g4 S4 r4 q4=>?_⟩
   rw [Out.bind_assoc] at q4
   refine hs' ι4 h4 H4 y v w j (E σ) _ S4 (r2.mono (g3.trans g4)) r4 (q4.bind fun z2 h5 ι5 H5 k5 g5 S5 r5 q5=>?_)
   split at q5
   ·rename_i k2
    rw [ycU r5]
    refine ⟨k2,rfl,?_⟩
    by_cases hk2:k2=true
    ·rw [if_pos hk2] at q5 ⊢
     rw [Out.bind_assoc] at q5
     refine ⟨ι5,h5,en,S5,er.mono (g1.trans (g2.trans (g3.trans (g4.trans g5)))),q5.bind fun v6 h6 ι6 H6 j6 g6 S6 r6 q6=>?_⟩
     refine hs'' ι6 h6 H6 v v6 j j6 (E σ) _ S6 (r4.mono (g5.trans g6)) r6 (q6.bind fun z7 h7 ι7 H7 k7 g7 S7 r7 q7=>?_)
     split at q7
     ·rw [ycU r7];exact ⟨_,rfl,q7.now S7 rfl⟩
     ·exact q7.elim
    ·rw [if_neg hk2] at q5 ⊢
     exact ⟨false,rfl,q5.now S5 rfl⟩
   ·exact q5.elim
  ·rw [if_neg hkk] at q3 ⊢
   exact ⟨false,rfl,q3.now S3 rfl⟩
 ·exact q3.elim
end
theorem el1:∀ {us:List Value},us.length=1->∃ a:Value,us=[a]
 | [a],_=>⟨a,rfl⟩
theorem el2:∀ {us:List Value},us.length=2->∃ a b:Value,us=[a,b]
 | [a,b],_=>⟨a,b,rfl⟩
theorem el3:∀ {us:List Value},us.length=3->∃ a b c:Value,us=[a,b,c]
 | [a,b,c],_=>⟨a,b,c,rfl⟩
theorem el4:∀ {us:List Value},us.length=4->∃ a b c d:Value,us=[a,b,c,d]
 | [a,b,c,d],_=>⟨a,b,c,d,rfl⟩
theorem el6:∀ {us:List Value},us.length=6->∃ a b c d e f:Value,us=[a,b,c,d,e,f]
 | [a,b,c,d,e,f],_=>⟨a,b,c,d,e,f,rfl⟩
@[simp] def yel:FM:=fun x vs h=>match x,vs with
 | .ref n,[.ref k]=>match h[n]?,h[k]? with
  | some (.lst xs),some (.lst ys)=>if xs.length+ys.length<=sizeLine then .ok .non (h.set n (.lst (xs++ys))) else .bad
  | _,_=>.bad
 | _,_=>.bad
theorem ygU {T:Tb} {X:Cx}:∃ r,MtR X "list.extend" r/\MtS T yel r:=by
 refine ⟨_,zgR,fun ι h H x xs u us E Q S rx rs q=>?_⟩
 unfold yel at q
 split at q
 ·rename_i n k
  split at q
  ·rename_i ys zs hn hk
   split at q
   ·rename_i hl
    cases rx with
    | @ref _ ad hr =>
     cases rs with
     | @cons _ uu _ _ r r' =>
      cases r'
      cases r with
      | @ref _ bd hb =>
       obtain ⟨o,e1,ws,rfl,rw_⟩:=S.obj n _ ad hn hr
       obtain ⟨o2,e2,ws2,rfl,rw2⟩:=S.obj k _ bd hk hb
       have g:=S.growSet (u:=.lst (ws++ws2)) hr
       exact ⟨ad,bd,ws,ws2,rfl,rfl,e1,e2,by rw [<- rw_.length,<- rw2.length];exact hl,q ι _ _ g (S.set hr ⟨_,rfl,(rw_.mono g).append (rw2.mono g)⟩) .non⟩
   ·exact q.elim
  ·exact q.elim
 ·exact q.elim
theorem ygV {T:Tb} {ι:Ix} {H:Hp} {z:Str} {n:Nat} (hl:z.length*n<=1000000) (hc:z.cps.all (· < 0x110000)=true):RV T ι H (.str (repS z n)) (.str (repS z n)):=by
 refine .str ?_ ?_
 ·refine Nat.le_trans ?_ (Nat.le_trans hl (by decide))
  simp [repS,Str.length,Nat.mul_comm]
 ·simp only [repS,List.all_toArray,List.all_eq_true,List.mem_flatten,List.mem_replicate]
  rintro c ⟨l,⟨_,rfl⟩,hm⟩
  exact (Array.all_eq_true_iff_forall_mem.mp hc) c (by simpa using hm)
def yeB:Nat:=100000000
end Sm
namespace Sm
open PySem PySem.Spec L2
def un2 {α:Type} (c:En->AH->Out α):En->AH->Out α:=fun en h=>match en with
 | some (.tup [y,z])::r=>c (some y::some z::r) h
 | _=>.bad
theorem ygW {α:Type} (c:En->AH->Out α) (x:AV):(∃ y z,x = .tup [y,z])\/∀ r h,un2 c (some x::r) h = .bad:=by
 match x with
 | .tup [y,z]=>exact .inl ⟨y,z,rfl⟩
 | .tup []=>exact .inr fun _ _=>rfl
 | .tup [_]=>exact .inr fun _ _=>rfl
 | .tup (_::_::_::_)=>exact .inr fun _ _=>rfl
 | .non=>exact .inr fun _ _=>rfl
 | .exc _=>exact .inr fun _ _=>rfl
 | .bl _=>exact .inr fun _ _=>rfl
 | .int _=>exact .inr fun _ _=>rfl
 | .str _=>exact .inr fun _ _=>rfl
 | .fl _=>exact .inr fun _ _=>rfl
 | .ref _=>exact .inr fun _ _=>rfl
@[simp] theorem yim {α:Type} (c:En->AH->Out α) (y z:AV) (r:En) (h:AH):un2 c (some (.tup [y,z])::r) h=c (some y::some z::r) h:=rfl
@[simp] def ydj (js:List Nat) (it:SI) (c:SB) (e:SE):SE:=ybn js it (un2 c) (un2 e)
section
variable {T:Tb} {E:St->XK} {X:Cx} {pos px p1 p2:Pos} {kk:Nat} {iter elt:Expr} {ifs:List Expr} {scope:Scope} {x₁ x₂:Str} {jf:List (Nat×Str)} {it:SI} {cc:SB} {ce:SE}
theorem ER.comp2 {ι:Ix} {H:Hp} {en:En} {σ:St} {x y:AV} {u v:V} {jf:List (Nat×Str)} (er:ER T ι H en σ) (r:RV T ι H x u) (r2:RV T ι H y v):ER T ι H (some x::some y::(jf.map (·.1)).map fun j=>(en[j]?).join) (ybh (some u) (some v) jf σ):=by
 obtain ⟨h1,h2⟩:=ER.comp (jf:=jf) er r2
 refine ⟨by simp [ybh],fun i v e=>?_⟩
 cases i with
 | zero=>simp at e;subst e;exact ⟨u,rfl,r⟩
 | succ i=>exact h2 i v (by simpa using e)
theorem zh2 {jf:List (Nat×Str)} {it:SI} {cc:SB} {ce:SE} {σ:St} {H:Hp} {Q:VK} {ι:Ix} {h:AH} {en:En} (S:Sim T ι h H) (er:ER T ι H en σ)
  (q:match it en h with | .ok (xs,w) h1=>(match yaV (jf.map (·.1)) en w xs (un2 cc) (un2 ce) xs [] h1 with | .ok ys h2=>∀ ι' H' D vs,Grow ι H ι' H'->Sim T (ι'.hide D) h2 H'->RVs T (ι'.hide D) H' ys vs->H' D=some (.lst vs)->D∉ι'.all->(∀ n,ι'.refs=ι.refs++n->∀ a∈n++[D],H a=none)->Q (.ref D) H' | _=>False) | _=>False) :
  yeu T.K jf (tI T it) (tT T EN cc) (tE T EN ce) σ H Q:=by
 refine ⟨ι,h,en,S,er,?_⟩
 cases e:it en h with
 | bad=>rw [e] at q;exact q
 | ex c h1=>rw [e] at q;exact q
 | ok p h1 =>
  obtain ⟨xs,w⟩:=p
  rw [e] at q
  dsimp only at q
  intro ι1 H1 J g1 S1 IR D hD
  refine ⟨fun i m ys H2=>m=xs.length-i/\i<=xs.length/\H2 D=some (.lst ys)/\∃ ι' h' vs,Grow ι1 H1 ι' H2/\Ext ι1 H1 (ι'.hide D) H2/\Sim T (ι'.hide D) h' H2/\ER T (ι'.hide D) H2 en σ/\RVs T (ι'.hide D) H2 vs ys/\D∉ι'.refs /\
   (match yaV (jf.map (·.1)) en w xs (un2 cc) (un2 ce) (xs.drop i) vs h' with | .ok ys h2=>∀ ι' H' D vs,Grow ι H ι' H'->Sim T (ι'.hide D) h2 H'->RVs T (ι'.hide D) H' ys vs->H' D=some (.lst vs)->D∉ι'.all->(∀ n,ι'.refs=ι.refs++n->∀ a∈n++[D],H a=none)->Q (.ref D) H' | _=>False),?_,?_⟩
  ·exact ⟨xs.length,by simp,Nat.zero_le _,zav,ι1,h1,[],S1.growNew hD,Ext.hide hD,S1.hide hD,(er.mono g1).ext (Ext.hide hD),.nil,fun z=>S1.fresh hD (List.mem_append_left _ z),q⟩
  ·rintro i m ys H2 ⟨rfl,hi,hH2,ι',h',vs,g',x',S',er',rv',nD',q'⟩
   refine ⟨hH2,?_⟩
   by_cases hl:i<xs.length
   ·rw [zcr hl] at q'
    unfold yaV at q'
    by_cases hs:ybQ w xs h'=true/\vs.length<sizeLine
    ·rw [if_pos hs] at q'
     obtain ⟨hs1,hs2⟩:=hs
     obtain ⟨go,yld⟩:=IR.go i _ h' H2 xs[i] x' S' hs1 (by simp [hl])
     refine .inr ⟨go,by rw [<- rv'.length];exact hs2,fun x H3 y=>?_⟩
     obtain ⟨g3,S3,r3⟩:=yld x H3 y
     have er3:=er'.mono g3
     obtain ⟨y1,y2,exi⟩:∃ y1 y2,xs[i] = .tup [y1,y2]:=by
      rcases ygW cc xs[i] with z | z
      ·exact z
      ·rw [z] at q';exact q'.elim
     rw [exi] at r3
     simp only [exi,un2] at q'
     obtain ⟨aa,us,rfl,sq,rss⟩:=ydG r3
     cases rss with
     | cons rA rB' => cases rB' with
       | cons rB rN =>
     cases rN
     refine ⟨aa,_,_,rfl,sq,ι'.hide D,h',_,S3,ER.comp2 er3 rA rB,?_⟩
     cases ec:cc (some y1::some y2::(jf.map (·.1)).map fun j=>(en[j]?).join) h' with
     | bad=>rw [ec] at q';exact q'
     | ex c h5=>rw [ec] at q';exact q'.elim
     | ok bb h5 =>
      rw [ec] at q'
      intro ι5 H5 b5 g5 S5 r5
      subst r5
      have g35:=g3.trans g5
      have hD5:H5 D=some (.lst ys):=g35.keep D _ nD' hH2
      have eι:ι5=Ix.hide ⟨ι5.refs,ι'.priv⟩ D:=by
       have:=g5.priv
       cases ι5
       simp only at this
       subst this
       rfl
      have nD5:D∉ι5.refs:=g35.outR nD' hH2
      have gG5:Grow ι1 H1 ⟨ι5.refs,ι'.priv⟩ H5:=by
       obtain ⟨n,en1,hn⟩:=g'.pre
       obtain ⟨k,ek,hk⟩:=g35.pre
       refine ⟨⟨n++k,?_,fun a ha=>?_⟩,g'.priv,fun a o na ea=>?_,fun a ha=>?_⟩
       ·show ι5.refs=_;rw [ek];show ι'.refs++k=_;rw [en1];simp
       ·rcases List.mem_append.mp ha with z | z
        ·exact hn a z
        ·have z2:=hk a z
         by_cases hr:a∈ι1.refs
         ·exact absurd z2 (g'.live a (List.mem_append_left _ hr))
         ·cases e9:H1 a with
          | none=>rfl
          | some o=>rw [g'.keep a o hr e9] at z2;cases z2
       ·exact g35.keep a o (g'.outR na ea) (g'.keep a o na ea)
       ·have:a∈(ι'.hide D).all:=by
         rcases List.mem_append.mp ha with z | z
         ·exact List.mem_append_left _ (by show a∈ι'.refs;rw [en1];exact List.mem_append_left _ z)
         ·exact List.mem_append_right _ (List.mem_cons_of_mem _ (by rw [g'.priv];exact z))
        exact g35.live a this
      have x5:Ext ι1 H1 (Ix.hide ⟨ι5.refs,ι'.priv⟩ D) H5:=eι▸x'.trans g35.ext
      have er5:=er3.mono g5
      have rv5:=(rv'.mono g35)
      cases bb with
      | false =>
       rw [if_neg Bool.false_ne_true]
       refine ⟨xs.length-(i+1),by omega,rfl,hl,hD5,⟨ι5.refs,ι'.priv⟩,h5,vs,gG5,x5,eι▸S5,eι▸er5,eι▸rv5,nD5,q'⟩
      | true =>
       rw [if_pos rfl]
       refine ⟨ι5,h5,_,S5,(ER.comp2 er3 rA rB).mono g5,?_⟩
       dsimp only at q'
       cases ee:ce (some y1::some y2::(jf.map (·.1)).map fun j=>(en[j]?).join) h5 with
       | bad=>rw [ee] at q';exact q'
       | ex c h6=>rw [ee] at q';exact q'.elim
       | ok v h6 =>
        rw [ee] at q'
        intro ι6 H6 u6 g6 S6 r6
        have g56:=g6
        have hD6:H6 D=some (.lst ys):=g56.keep D _ nD5 hD5
        have eι6:ι6=Ix.hide ⟨ι6.refs,ι'.priv⟩ D:=by
         have h1:=g6.priv
         have h2:=g5.priv
         rw [h2] at h1
         cases ι6
         simp only at h1
         subst h1
         rfl
        have nD6:D∉ι6.refs:=g56.outR nD5 hD5
        have gG6:Grow ι1 H1 ⟨ι6.refs,ι'.priv⟩ (upd H6 D (.lst (ys++[u6]))):=by
         obtain ⟨n,en1,hn⟩:=gG5.pre
         obtain ⟨k,ek,hk⟩:=g56.pre
         have hD1:∀ a o,H1 a=some o->a≠D:=fun a o ea=>zax ea hD
         refine ⟨⟨n++k,?_,fun a ha=>?_⟩,g'.priv,fun a o na ea=>?_,fun a ha=>?_⟩
         ·show ι6.refs=_;rw [ek];have z:ι5.refs=ι1.refs++n:=en1;rw [z];simp
         ·rcases List.mem_append.mp ha with z | z
          ·exact hn a z
          ·have z2:=hk a z
           by_cases hr:a∈ι1.refs
           ·exact absurd z2 (gG5.live a (List.mem_append_left _ hr))
           ·cases e9:H1 a with
            | none=>rfl
            | some o=>rw [gG5.keep a o hr e9] at z2;cases z2
         ·rw [yaN (hD1 a o ea)]
          exact g56.keep a o (gG5.outR na ea) (gG5.keep a o na ea)
         ·by_cases zD:a=D
          ·subst zD;rw [zav];simp
          ·rw [yaN zD]
           have:a∈ι5.all:=by
            rcases List.mem_append.mp ha with z | z
            ·exact List.mem_append_left _ (by have z':ι5.refs=ι1.refs++n:=en1;rw [z'];exact List.mem_append_left _ z)
            ·rw [eι];exact List.mem_append_right _ (List.mem_cons_of_mem _ (by show a∈ι'.priv;rw [g'.priv];exact z))
           exact g56.live a this
        refine ⟨hD6,xs.length-(i+1),by omega,rfl,hl,zav,⟨ι6.refs,ι'.priv⟩,h6,vs++[v],gG6,?_,?_,?_,?_,nD6,q'⟩
        ·exact (eι6▸(x'.trans (g35.ext.trans g6.ext))).trans Ext.poke
        ·exact Sim.poke (eι6▸S6) nD6
        ·exact ER.ext (eι6▸er5.mono g6) Ext.poke
        ·have:RVs T ι6 H6 (vs++[v]) (ys++[u6]):=(rv5.mono g6).append (.cons r6 .nil)
         exact RVs.ext Ext.poke (eι6▸this)
    ·rw [if_neg hs] at q';exact q'.elim
   ·have ei:i=xs.length:=by omega
    subst ei
    rw [List.drop_length] at q'
    unfold yaV at q'
    by_cases hs:ybQ w xs h'=true
    ·rw [if_pos hs] at q'
     have hp:D∉ι'.priv:=fun z=>by rw [g'.priv] at z;exact S1.plive D z hD
     refine .inl ⟨IR.stop _ _ h' H2 x' S' hs (Nat.le_refl _),q' ι' H2 D ys (g1.trans g') S' rv' hH2 (fun z=>(List.mem_append.mp z).elim nD' hp) fun n en1 a ha=>?_⟩
     obtain ⟨k,ek,hk⟩:=(g1.trans g').pre
     have:n=k:=List.append_cancel_left (en1.symm.trans ek)
     subst this
     rcases List.mem_append.mp ha with z | z
     ·exact hk a z
     ·have z':a=D:=by simpa using z
      subst z'
      cases e9:H a with
      | none=>rfl
      | some o =>
       by_cases hr:a∈ι.refs
       ·have z1:a∈ι1.refs:=by
         obtain ⟨k1,ek1,_⟩:=g1.pre
         rw [ek1];exact List.mem_append_left _ hr
        exact absurd hD (S1.live a (List.mem_append_left _ z1))
       ·rw [g1.keep a o hr e9] at hD;cases hD
    ·rw [if_neg hs] at q';exact q'.elim
theorem zh3 {σ:St} {H:Hp} {Q:VK} (q:tE T E (ybn (jf.map (·.1)) it (un2 cc) (un2 ce)) σ H Q):yeu T.K jf (tI T it) (tT T EN cc) (tE T EN ce) σ H Q:=by
 obtain ⟨ι,h,en,S,er,q⟩:=q
 refine zh2 S er ?_
 unfold ybn at q
 cases e:it en h with
 | bad=>rw [e] at q;exact q
 | ex c h1=>rw [e] at q;exact q.elim
 | ok p h1 =>
  obtain ⟨xs,w⟩:=p
  rw [e] at q
  dsimp only at q ⊢
  cases e2:yaV (jf.map (·.1)) en w xs (un2 cc) (un2 ce) xs [] h1 with
  | bad=>rw [e2] at q;exact q
  | ex c h1=>rw [e2] at q;exact q.elim
  | ok ys h2 =>
   rw [e2] at q
   exact fun ι' H' D vs g S' r hD nD _=>q ι' H' _ g S'.show (.fl nD (.inl hD) (r.ext Ext.show))
structure CompOk2 (X:Cx) (x₁ x₂:Str) (jf:List (Nat×Str)) (scope:Scope):Prop where
 hN:(x₁::x₂::jf.map (·.2)).Nodup
 hx:scope.names.lookup x₁=some .local
 hx2:scope.names.lookup x₂=some .local
 hjf:∀ p∈jf,X.N[p.1]? = some p.2
 hjl:∀ p∈jf,scope.names.lookup p.2=some .free
 hkind:scope.kind = .function
 hcell:∀ y∈scope.names,y.2 ≠ .cell
 hfr:∀ y∈scope.names,y.2 = .free->X.env.kindOf y.1=some .cell\/X.env.kindOf y.1=some .free
 hnames:∀ y∈scope.names,y.2 = .local->scope.names.lookup y.1=some .local
theorem zfP (hK:X.K=T.K) (C:CompOk2 X x₁ x₂ jf scope) (hcalm:X.calm=true) (hi:PIA T X (.Tuple [.Name x₁ p1,.Name x₂ p2] kk px) iter it) (hc:∀ pins cl s H fp,PTs (ya3 X pins x₁ x₂ jf scope cl s H fp) ifs (tT T EN cc)) (he:∀ pins cl s H fp,PEA T EN (ya3 X pins x₁ x₂ jf scope cl s H fp) elt ce)
  (hs:∀ x,foldedSetIterable iter X.env x=pure x:=by intro _;rfl):PEA T E X (.ListComp elt [⟨.Tuple [.Name x₁ p1,.Name x₂ p2] kk px,iter,ifs,0⟩] scope pos) (ydj (jf.map (·.1)) it cc ce) :=
 yaY (zhY hcalm hi hc he C.hN C.hx C.hx2 C.hjf C.hjl C.hkind C.hcell C.hfr C.hnames hs) fun _ _ _ q=>hK▸zh3 q
end
def ye1 (N:List Str) (sc:Scope) (x₁ x₂:Str) (jf:List (Nat×Str)) (scope:Scope):Bool :=
 yeG N sc x₁ jf scope && decide (x₁::x₂::jf.map (·.2)).Nodup && (scope.names.lookup x₂ == some .local)
theorem zdz {X:Cx} {N:List Str} {sc scope:Scope} {x₁ x₂:Str} {jf:List (Nat×Str)} (hN:X.N=N) (hk:∀ x,X.env.kindOf x=sc.names.lookup x) (h:ye1 N sc x₁ x₂ jf scope=true):CompOk2 X x₁ x₂ jf scope:=by
 unfold ye1 at h
 simp only [Bool.and_eq_true,decide_eq_true_eq,beq_iff_eq] at h
 obtain ⟨⟨h1,h2⟩,h3⟩:=h
 have C:=zba hN hk h1
 exact ⟨h2,C.hx,h3,C.hjf,C.hjl,C.hkind,C.hcell,C.hfr,C.hnames⟩
section
variable {T:Tb} {E:St->XK} {X:Cx} {pos p pos' p':Pos} {a:Expr} {sa:SE}
end
end Sm
namespace Sm
open PySem PySem.Spec L2
@[simp] def ydX:F2:=fun x y h=>match x,y with
 | .str z,.int n=>if n.natAbs<2 ^ 40/\z.length*n.toNat<=1000000 then .ok (.str (repS z n.toNat)) h else .bad
 | _,_=>.bad
theorem ygX {T:Tb} {X:Cx}:Op T X (binaryOp .Mult) ydX:=by
 refine ⟨_,zgp,fun ι h H x y u w E Q S rx ry p=>?_⟩
 unfold ydX at p
 split at p
 ·split at p
  ·rename_i hz
   obtain ⟨rfl,_,hc⟩:=ya9 rx
   rw [yaI ry]
   exact ⟨_,_,rfl,rfl,hz.1,hz.2,p.now S (ygV hz.2 hc)⟩
  ·exact p.elim
 ·exact p.elim
end Sm
namespace Sm
open PySem PySem.Spec L2
def yeC:FM:=fun x vs h=>match x,vs with
 | .str z,[]=>if (Txt.upper z).length<=sizeLine/\(Txt.upper z).cps.all (· < 0x110000)=true then .ok (.str (Txt.upper z)) h else .bad
 | _,_=>.bad
theorem zi9 {T:Tb} {X:Cx}:∃ r,MtR X "str.upper" r/\MtS T yeC r:=by
 refine ⟨_,zh0,fun ι h H x xs u us E Q S rx rs q=>?_⟩
 unfold yeC at q
 split at q
 ·split at q
  ·rename_i hz
   cases rs
   obtain ⟨rfl,_⟩:=ya9 rx
   exact ⟨_,rfl,rfl,hz.1,q.now S (.str hz.1 hz.2)⟩
  ·exact q.elim
 ·exact q.elim
section
variable {T:Tb} {E:St->XK} {X:Cx} {pos:Pos} {a:Expr} {sa:SE} {sts:List Stmt} {s1:SS}
end
end Sm
namespace L2
open PySem PySem.Spec PyProof.Rows
def yh6 (K:PySem.W.Frag) (C:Addr) (tb:(St->XK)->TS) (th:TS):TS:=fun D σ H =>
 tb (fun σ' cls _ H' => PySem.W.exmOne K cls (.ref C)=some true/\th { nx:=D.nx,rt:=D.rt,bk:=D.bk,ct:=D.ct } σ' H') D σ H
section
variable {X:Cx} {xc:Str} {C:Addr} {body suite:List Stmt} {b0:Stmt} {np hpos pos:Pos} {tb:(St->XK)->TS} {th:TS} {outer:List Env}
theorem zja (hex:X.ex=[]) (hst:X.stack=X.env::outer) (hf:X.env.frame=some X.env.locals) (hg:Gl X xc) (hm:X.mg xc=some (.ref C))
  (hb:∀ pins xe Ex,ydp (CXE X.prog X.w) (tryC X pins xe) Ex->ydP (tryC X pins xe) Ex->PSs (tryC X pins xe) body (tb Ex)) (hh:∀ a,PSs (hdlC X a) (b0::suite) th) (hdb:(xc == ("__debug__" : Str))=false:=by decide) :
  PS X (.Try body [.ExceptHandler (some (.Name xc np)) none (b0::suite) hpos] [] [] pos) (yh6 X.K C tb th):=by
 intro pins s σ H D I h
 have okX:=I.ok
 let Ex:St->XK:=fun σ' cls _ H' => PySem.W.exmOne X.K cls (.ref C)=some true/\th { nx:=D.nx,rt:=D.rt,bk:=D.bk,ct:=D.ct } σ' H'
 let xe:Value->Shared->Prop:=fun e s' => ∃ σ' H' a cls,e = .ref a/\Arr X pins σ' H' a cls s'/\Ex σ' cls none H'
 have hR:ydP (tryC X pins xe) Ex:=fun pins' σ' H' s' a cls R q=>⟨σ',H',a,cls,rfl,R.untry,q⟩
 have hP:ydp (CXE X.prog X.w) (tryC X pins xe) Ex:=fun pins' σ' H' s1 e s2 I' hq=>by
  obtain ⟨a,cls,H2,rfl,R,q⟩:=zeG (X:=tryC X pins xe) I' hex hq
  exact ⟨σ',H2,a,cls,rfl,R.untry,q⟩
 have hbody:=hb pins xe Ex hP hR [] s σ H D (I.toTry (xe:=xe)) h
 refine wpAny_Try_except (wpAny_mono hbody (fun f s1 q=>?_) fun e s1 q=>?_)
 ·cases f with
  | next=>obtain ⟨σ1,H1,I1,q1⟩:=q;exact wpAny_execs_nil ⟨σ1,H1,I1.untry,q1⟩
  | brk=>obtain ⟨σ1,H1,I1,q1⟩:=q;exact ⟨σ1,H1,I1.untry,q1⟩
  | cont=>obtain ⟨σ1,H1,I1,q1⟩:=q;exact ⟨σ1,H1,I1.untry,q1⟩
  | ret u=>obtain ⟨v1,σ1,H1,I1,r1,q1⟩:=q;exact ⟨v1,σ1,H1,I1.untry,r1,q1⟩
 ·obtain ⟨σ1,H1,a,cls,rfl,R,hxm,q1⟩:=q
  refine R.land hex okX.frames hst hf fun h5 B a0 fm fl sm I5=>?_
  obtain ⟨oe,vs,hoe,hoec,hoed,_⟩:=fl.first
  have I5h:=I5.hdl a
  refine wpAny_handleBy_cons (codeAny_handlers_test (zbV (X:=hdlC X a) I5h hg hm ?_ hdb)) (by intro z;cases z)
  refine (PySem.W.exm_one I5.kIn (hoec▸zeH hoe) hxm).here ?_
  refine codeAny_handlers_suite ?_
  refine lands_againW fl fun h6 fl6 sm6=>?_
  have I6:Inv X pins σ1 H1 { s1 with heap:=h6 }:=R.inv.flown (t' := s1.toks) hex fm fl6.1 (sm.trans sm6)
  refine wpAny_mono (hh a pins _ _ _ _ (I6.hdl a) q1) (fun f s9 q9=>?_) fun _ _ z=>z.elim
  cases f with
  | next=>obtain ⟨σ2,H2,I2,q2⟩:=q9;exact ⟨σ2,H2,I2.unhdl okX,q2⟩
  | brk=>obtain ⟨σ2,H2,I2,q2⟩:=q9;exact ⟨σ2,H2,I2.unhdl okX,q2⟩
  | cont=>obtain ⟨σ2,H2,I2,q2⟩:=q9;exact ⟨σ2,H2,I2.unhdl okX,q2⟩
  | ret u=>obtain ⟨v2,σ2,H2,I2,r2,q2⟩:=q9;exact ⟨v2,σ2,H2,I2.unhdl okX,r2,q2⟩
end
end L2
namespace Sm
open PySem PySem.Spec L2
@[simp] def yfe (catches:Nat->Bool) (b hd:SS):SS:=fun en h=>match b en h with
 | .ex c e h' => if catches c=true then
   (match hd e h' with
   | .nx e2 h2=>.nx e2 h2
   | .bk e2 h2=>.bk e2 h2
   | .ct e2 h2=>.ct e2 h2
   | .rt v h2=>.rt v h2
   | _=>.bad) else .bad
 | o=>o
section
variable {T:Tb} {E:St->XK} {X:Cx} {pos np:Pos}
theorem ygY {xc:Str} {body suite:List Stmt} {b0:Stmt} {hpos:Pos} {sb hd:SS} {outer:List Env} {catches:Nat->Bool} (hK:X.K=T.K) (hg:Gl X xc)
  (hcat:∃ C,X.mg xc=some (.ref C)/\∀ c C',catches c=true->T.exc c=some C'->PySem.W.exmOne T.K (.ref C') (.ref C)=some true)
  (hb:∀ pins xe Ex,CA T Ex (tryC X pins xe)->ydP (tryC X pins xe) Ex->PSsA T Ex (tryC X pins xe) body sb) (hh:∀ a,CA T EN (hdlC X a)->PSsA T EN (hdlC X a) (b0::suite) hd)
  (hex:X.ex=[]:=by rfl) (hst:X.stack=X.env::outer:=by rfl) (hf:X.env.frame=some X.env.locals:=by rfl) (hdb:(xc == ("__debug__" : Str))=false:=by decide) :
  PSA T E X (.Try body [.ExceptHandler (some (.Name xc np)) none (b0::suite) hpos] [] [] pos) (yfe catches sb hd):=by
 obtain ⟨C,hm,hcat⟩:=hcat
 refine ycu (zja hex hst hf hg hm (fun pins xe Ex h1 h2=>hb pins xe Ex ⟨hK,h1⟩ h2) (fun a=>hh a (CA.never hK)) hdb) fun D σ H ⟨ι,h,en,S,er,q⟩=>⟨ι,h,en,S,er,?_⟩
 unfold yfe at q
 cases e1:sb en h with
 | nx e2 h2=>rw [e1] at q;exact q
 | rt v h2=>rw [e1] at q;exact q
 | bk e2 h2=>rw [e1] at q;exact q
 | ct e2 h2=>rw [e1] at q;exact q
 | bad=>rw [e1] at q;exact q
 | ex c e2 h2 =>
  rw [e1] at q
  dsimp only at q
  intro ι' H' σ' C' g S' er' ec
  by_cases hcc:catches c=true
  ·rw [if_pos hcc] at q
   refine ⟨hK▸hcat c C' hcc ec,ι',h2,e2,S',er',?_⟩
   have q2:=PostS.shift q g
   cases e3:hd e2 h2 with
   | nx e4 h4=>rw [e3] at q2;exact q2
   | bk e4 h4=>rw [e3] at q2;exact q2
   | ct e4 h4=>rw [e3] at q2;exact q2
   | rt v h4=>rw [e3] at q2;exact q2
   | ex c' e4 h4=>rw [e3] at q2;exact (show False from q2).elim
   | bad=>rw [e3] at q2;exact q2
  ·rw [if_neg hcc] at q;exact (show False from q).elim
end
end Sm
namespace L2
open PySem PySem.Spec PyProof.Rows
section
variable {X:Cx}
theorem zeh {its:List Value} {i j:Int} (rv:Vals [V.int i,V.int j] its):∃ t u,its.toArray=intItems #[(i,t),(j,u)]:=by
 cases rv with
 | cons r r' =>
  cases r' with
  | cons r1 r2 =>
   cases r2
   obtain ⟨t,rfl⟩:=r
   obtain ⟨u,rfl⟩:=r1
   exact ⟨t,u,by simp [intItems]⟩
theorem zhd (hc:X.calm=true):CallR X (.builtin "min") (fun xs H Q=>∃ (a:Addr) (i j:Int),xs=[.ref a]/\SqL X.K H a [.int i,.int j]/\Q (.int (if j<i then j else i)) H):=by
 intro pins s σ H xs us Q I r h
 obtain ⟨l,i,j,rfl,hq,q⟩:=h
 obtain ⟨u,rfl,rx⟩:=ydy r
 cases rx
 obtain ⟨its,rv,pl,hz⟩:=I.list hq
 obtain ⟨t,u,e⟩:=zeh rv
 have il:=pl.isList
 rw [e] at il
 refine min_intList (I.ok.hd hc) il (by simp) fun v h' tk hv k=>⟨_,H,I.kept k,?_,q⟩
 by_cases z:j<i
 ·rw [if_pos z]
  simp [intItems,argBest,numAt,z] at hv
  exact ⟨_,hv.symm⟩
 ·rw [if_neg z]
  simp [intItems,argBest,numAt,z] at hv
  exact ⟨_,hv.symm⟩
theorem zhe (hc:X.calm=true):CallR X (.builtin "max") (fun xs H Q=>∃ (a:Addr) (i j:Int),xs=[.ref a]/\SqL X.K H a [.int i,.int j]/\Q (.int (if j > i then j else i)) H):=by
 intro pins s σ H xs us Q I r h
 obtain ⟨l,i,j,rfl,hq,q⟩:=h
 obtain ⟨u,rfl,rx⟩:=ydy r
 cases rx
 obtain ⟨its,rv,pl,hz⟩:=I.list hq
 obtain ⟨t,u,e⟩:=zeh rv
 have il:=pl.isList
 rw [e] at il
 refine max_intList (I.ok.hd hc) il (by simp) fun v h' tk hv k=>⟨_,H,I.kept k,?_,q⟩
 by_cases z:j > i
 ·rw [if_pos z]
  have z':i<j:=z
  simp [intItems,argBest,numAt,z'] at hv
  exact ⟨_,hv.symm⟩
 ·rw [if_neg z]
  have z' : ¬ i<j:=z
  simp [intItems,argBest,numAt,z'] at hv
  exact ⟨_,hv.symm⟩
end
end L2
namespace Sm
open PySem PySem.Spec L2
@[simp] def yem:Fn:=fun args h=>match args with
 | [.fl [.int i,.int j]]=>.ok (.int (if j<i then j else i)) h
 | _=>.bad
@[simp] def yen:Fn:=fun args h=>match args with
 | [.fl [.int i,.int j]]=>.ok (.int (if j > i then j else i)) h
 | _=>.bad
section
variable {T:Tb} {X:Cx}
theorem ygZ (hK:X.K=T.K) (hc:X.calm=true:=by rfl):∃ r,CallR X (.builtin "min") r/\ydC T yem r:=by
 refine ⟨_,zhd hc,fun ι h H xs us E Q S r q=>?_⟩
 unfold yem at q
 split at q
 ·rename_i i j
  cases r with
  | cons r r' =>
   cases r'
   obtain ⟨a,us,rfl,sq,rs⟩:=ybM S r rfl
   rw [zcM rs (bs:=[i,j]) rfl] at sq
   exact ⟨a,i,j,rfl,hK▸sq,q.now S (.int _)⟩
 ·exact q.elim
theorem yg0 (hK:X.K=T.K) (hc:X.calm=true:=by rfl):∃ r,CallR X (.builtin "max") r/\ydC T yen r:=by
 refine ⟨_,zhe hc,fun ι h H xs us E Q S r q=>?_⟩
 unfold yen at q
 split at q
 ·rename_i i j
  cases r with
  | cons r r' =>
   cases r'
   obtain ⟨a,us,rfl,sq,rs⟩:=ybM S r rfl
   rw [zcM rs (bs:=[i,j]) rfl] at sq
   exact ⟨a,i,j,rfl,hK▸sq,q.now S (.int _)⟩
 ·exact q.elim
end
end Sm
namespace Sk
open PySem PySem.Spec L2 Sm
abbrev yga:Nat:=0
abbrev yij:Nat:=1
abbrev yh7:Nat:=2
abbrev yfR:Nat:=3
abbrev yff:Nat:=4
abbrev yfg:Nat:=5
abbrev yh8:Nat:=6
def ydH (c:Nat):Bool:=[false,false,false,false,false,true,false].getD c false
def ycL:Fn:=mkFn 1 1
  (sSeq (ycT 0 0 (sVar 0) (ycd sNil))
  (sSeq (ycT 0 1 (sVar 0) (yfW true))
  (sSeq (ycT 0 2 (sVar 0) (ycd (yab (sLit (.int 0)) sNil)))
  (sSeq (ycT 0 3 (sVar 0) (ycd (yab (sLit (.int 0)) sNil)))
  (sSeq (ycT 0 4 (sVar 0) (ycd (yab (sLit (.int 0)) sNil)))
  (sSeq (ycT 0 5 (sVar 0) (ycd (yab (sOp1 fNeg (sLit (.int 1))) sNil)))
  (sSeq (ycT 0 6 (sVar 0) (ycd (yab (sLit (.int 0)) sNil)))
  (ycT 0 7 (sVar 0) (ycd (yab (sLit (.int 0)) sNil))))))))))
def yay:Fn:=mkFn 2 3
  (sSeq (sSet 2 (sOp2 fMod (sOp2 fIx (sVar 0) (sLit (.int 0))) (sVar 1)))
  (sSeq (yev (sVar 0) (sLit (.int 0)) (sOp2 fDiv (sOp2 fIx (sVar 0) (sLit (.int 0))) (sVar 1)))
  (sRet (sVar 2))))
def ybI:SS :=
  (sSet 5 (sOp2 fAdd (sVar 5) (sOp2 fIx (sVar 4) (yaf yay (yab (sVar 0) (yab (yaf fLen (yab (sVar 4) sNil)) sNil))))))
def yc3:Fn:=mkFn 2 7
  (sSeq (sSet 2 (sLit (.str "abcdefghijklmnopqrstuvwxyz")))
  (sSeq (sSet 3 (sOp2 fAdd (sOp2 fAdd (sVar 2) (sBM0 yei yeC (sVar 2))) (sLit (.str " !#$&'()*+,-./0123456789:;<=>?\x40[]^_{|}~\n\\"))))
  (sSeq (sSet 4 (sOp2 fIx (sLst (yab (sLit (.str "a")) (yab (sLit (.str "ab")) (yab (sLit (.str "ab\n")) (yab (sLit (.str "a \n~")) (yab (sVar 3) sNil)))))) (yaf yay (yab (sVar 0) (yab (sLit (.int 5)) sNil)))))
  (sSeq (sSet 5 (sLit (.str "")))
  (sSeq (sFor (yba (yaf yay (yab (sVar 0) (yab (sOp2 fAdd (sVar 1) (sLit (.int 1))) sNil)))) (.nm 6) ybI)
  (sRet (sVar 5)))))))
def ybi:SS :=
  (sSeq (sSet 4 (sOp2 fAdd (yaf yc3 (yab (sVar 0) (yab (sLit (.int 19)) sNil))) (sLit (.str "z"))))
  (sSeq (sSet 5 (sOp2 fDiv (sVar 2) (yaf fLen (yab (sVar 4) sNil))))
  (sSeq (sSet 6 (yaf yay (yab (sVar 0) (yab (sOp2 fAdd (yaf ycq (yab (sVar 5) (yab (sOp2 fIx (sLst (yab (sLit (.int 3)) (yab (sLit (.int 40)) (yab (sLit (.int 400)) (yab (sOp2 fPow (sLit (.int 10)) (sLit (.int 6))) (yab (sOp2 fPow (sLit (.int 10)) (sLit (.int 18))) sNil)))))) (yaf yay (yab (sVar 0) (yab (sLit (.int 5)) sNil)))) sNil))) (sLit (.int 1))) sNil))))
  (sSeq (sIf (yas (sOp2 fGt (sVar 6) (sLit (.int 0)))) (yaO (sBM yaB yaD (sVar 1) (yab (sTup (yab (sVar 4) (yab (sVar 6) sNil))) sNil))) yaC)
  (sSet 2 (sOp2 fSub (sVar 2) (sOp2 fMul (sVar 6) (yaf fLen (yab (sVar 4) sNil)))))))))
def ycM:Fn:=mkFn 1 7
  (sSeq (sSet 1 (ycd sNil))
  (sSeq (sSet 2 (sOp2 fPow (sLit (.int 10)) (sLit (.int 18))))
  (sSeq (sFor (yba (sOp2 fAdd (sLit (.int 1)) (yaf yay (yab (sVar 0) (yab (sLit (.int 3)) sNil))))) (.nm 3) ybi)
  (sRet (sVar 1)))))
def ydD:Fn:=mkFn 2 3
  (sSeq (sSet 2 (sOp2 fMod (sOp2 fMul (sOp2 fAdd (sOp2 fAdd (sOp2 fMod (sVar 0) (sLit (.int 1000000007))) (sOp2 fMul (sLit (.int 7919)) (sVar 1))) (sLit (.int 101))) (sLit (.int 48271))) (sLit (.int 2147483647))))
  (sRet (sOp2 fMod (sOp2 fMul (sOp2 fMod (sOp2 fMul (sVar 2) (sVar 2)) (sLit (.int 2147483629))) (sLit (.int 69621))) (sLit (.int 2147483647)))))
def ybT:SS :=
  (sSet 2 (sOp2 fAdd (sOp2 fMul (sVar 2) (sOp2 fMul (sOp2 fPow (sLit (.int 10)) (sLit (.int 60))) (sOp2 fPow (sLit (.int 10)) (sLit (.int 60))))) (sOp2 fMod (sOp2 fIx (sVar 0) (sVar 3)) (sOp2 fMul (sOp2 fPow (sLit (.int 10)) (sLit (.int 60))) (sOp2 fPow (sLit (.int 10)) (sLit (.int 60)))))))
def ybU:SS :=
  (sSet 4 (sOp2 fAdd (sOp2 fMul (sVar 4) (sLit (.int 2147483647))) (yaf ydD (yab (sOp2 fAdd (sOp2 fAdd (sVar 2) (sOp2 fMul (sLit (.int 1009)) (sVar 1))) (yaf fLen (yab (sVar 0) sNil))) (yab (sVar 3) sNil)))))
def ybd:Fn:=mkFn 2 5
  (sSeq (sSet 2 (sLit (.int 0)))
  (sSeq (sFor (ycV (sVar 1) (yaf fLen (yab (sVar 0) sNil)) (sLit (.int 12))) (.nm 3) ybT)
  (sSeq (sIf (yas (sOp2 fGe (sVar 2) (sOp2 fPow (sLit (.int 10)) (sLit (.int 18))))) (sRet (ycd (yab (sVar 2) sNil))) yaC)
  (sSeq (sSet 2 (sOp2 fAdd (sVar 2) (yaf fSum (yab (ybn [] (iVal (sVar 0)) sYes (sOp2 fMod (sVar 0) (sOp2 fPow (sLit (.int 10)) (sLit (.int 18))))) sNil))))
  (sSeq (sSet 4 (sLit (.int 0)))
  (sSeq (sFor (yba (sLit (.int 12))) (.nm 3) ybU)
  (sRet (ycd (yab (sVar 4) sNil)))))))))
def ybs:SS :=
  (yaO (sBM yaB yaD (sVar 2) (yab (sOp2 fAdd (sOp2 fIx (sVar 2) (sOp1 fNeg (sLit (.int 1)))) (sOp2 fMul (yaf fLen (yab (sVar 3) sNil)) (sVar 4))) sNil)))
def ybt:SS :=
  (yaO (sBM yaB yel (sVar 5) (yab (ycd (yab (sVar 6) (yab (sOp2 fSub (sVar 6) (sLit (.int 1))) (yab (sOp2 fAdd (sVar 6) (sLit (.int 1))) (yab (sOp2 fSub (sVar 6) (yaf yay (yab (sVar 1) (yab (sLit (.int 40)) sNil)))) (yab (sOp2 fAdd (sVar 6) (yaf yay (yab (sVar 1) (yab (sLit (.int 40)) sNil)))) sNil)))))) sNil)))
def ybu:SS :=
  (yaO (sBM yaB yaD (sVar 5) (yab (yaf yay (yab (sVar 1) (yab (sOp2 fAdd (sOp2 fIx (sVar 2) (sOp1 fNeg (sLit (.int 1)))) (sLit (.int 1))) sNil))) sNil)))
def ybZ:Fn:=mkFn 2 8
  (sSeq (sSet 2 (ycd (yab (sLit (.int 0)) sNil)))
  (sSeq (sFor (ybz (sVar 0)) (.tup [3,4]) ybs)
  (sSeq (sSet 5 (ycd sNil))
  (sSeq (sFor (iVal (sVar 2)) (.nm 6) ybt)
  (sSeq (sFor (yba (sLit (.int 3))) (.nm 7) ybu)
  (sRet (ybn [2] (iVal (sVar 5)) (yas (ycK fLe fLe (sLit (.int 0)) (sVar 0) (sOp2 fIx (sVar 1) (sOp1 fNeg (sLit (.int 1)))))) (sVar 0))))))))
def ybj:Fn:=mkFn 1 1
  (sIf (yas (sOp2 fGt (sVar 0) (sLit (.int 1000000000000000000)))) (ycj 5 (yab (sLit (.str "the text would have more than 10 ** 18 signs")) sNil)) yaC)
def ydL:Fn:=mkFn 1 1
  (sRet (yeh (sIsB "int" (sVar 0)) (yfX (sIsB "bool" (sVar 0)))))
def ych:Fn:=mkFn 2 2
  (sRet (yeh (yaf ydL (yab (sVar 1) sNil)) (ycK fLe fLe (sLit (.int 1)) (sVar 1) (yaf fLen (yab (Sm.sFld 0 0 (sVar 0)) sNil)))))
def ya4:Fn:=mkFn 2 2
  (sIf (sNot (ydI (yam 0 ych (sVar 0) (yab (sVar 1) sNil)))) (ycj 2 (yab (sLit (.str "no piece of the shelf has this number")) sNil)) yaC)
def ya0:Fn:=mkFn 2 2
  (sIf (yas (sOp2 fNe (sVar 1) (sLit (.int 0)))) (yaO (yam 0 ya4 (sVar 0) (yab (sVar 1) sNil))) yaC)
def yaz:Fn:=mkFn 2 2
  (sSeq (yaO (yam 0 ya0 (sVar 0) (yab (sVar 1) sNil)))
  (sRet (sOp2 fIx (Sm.sFld 0 2 (sVar 0)) (sVar 1))))
def ybO:Fn:=mkFn 2 2
  (sSeq (yaO (yam 0 ya0 (sVar 0) (yab (sVar 1) sNil)))
  (sRet (sOp2 fIx (Sm.sFld 0 7 (sVar 0)) (sVar 1))))
def ybA:Fn:=mkFn 2 2
  (sSeq (yaO (yam 0 ya0 (sVar 0) (yab (sVar 1) sNil)))
  (sRet (sOp2 fIx (Sm.sFld 0 6 (sVar 0)) (sVar 1))))
def ydE:Fn:=mkFn 3 3
  (sRet (sOp2 fGt (sOp2 fAdd (yam 0 yaz (sVar 0) (yab (yam 0 ybO (sVar 0) (yab (sVar 1) sNil)) sNil)) (yam 0 yaz (sVar 0) (yab (yam 0 ybA (sVar 0) (yab (sVar 2) sNil)) sNil))) (sLit (.int 8))))
def yaG:Fn:=mkFn 2 2
  (sSeq (yaO (yam 0 ya4 (sVar 0) (yab (sVar 1) sNil)))
  (sRet (sOp2 fIx (Sm.sFld 0 0 (sVar 0)) (sOp2 fSub (sVar 1) (sLit (.int 1))))))
def ya1:Fn:=mkFn 3 4
  (sSeq (yaO (yam 0 ya4 (sVar 0) (yab (sVar 1) sNil)))
  (sSeq (yaO (yam 0 ya4 (sVar 0) (yab (sVar 2) sNil)))
  (sSeq (sSet 3 (sOp2 fAdd (sOp2 fIx (Sm.sFld 0 2 (sVar 0)) (sOp2 fIx (Sm.sFld 0 7 (sVar 0)) (sVar 1))) (sOp2 fIx (Sm.sFld 0 2 (sVar 0)) (sOp2 fIx (Sm.sFld 0 6 (sVar 0)) (sVar 2)))))
  (sSeq (sIf (yas (sOp2 fLe (sVar 3) (sLit (.int 8)))) (ycj 3 (yab (sLit (.str "the leaves where the parts meet have no more than eight signs together")) sNil)) yaC)
  (sSeq (sIf (yas (sOp2 fGt (yaf fAbs (yab (sOp2 fSub (sOp2 fIx (Sm.sFld 0 5 (sVar 0)) (sVar 1)) (sOp2 fIx (Sm.sFld 0 5 (sVar 0)) (sVar 2))) sNil)) (sLit (.int 1)))) (ycj 4 (yab (sLit (.str "the heights of the parts differ by more than one")) sNil)) yaC)
  (sIf (yas (sOp2 fGt (sOp2 fAdd (sOp2 fIx (Sm.sFld 0 2 (sVar 0)) (sVar 1)) (sOp2 fIx (Sm.sFld 0 2 (sVar 0)) (sVar 2))) (sLit (.int 1000000000000000000)))) (ycj 5 (yab (sLit (.str "the fork would have more than 10 ** 18 signs")) sNil)) yaC))))))
def yc4:Fn:=mkFn 2 3
  (sSeq (yaO (sBM yaB yaD (Sm.sFld 0 0 (sVar 0)) (yab (sVar 1) sNil)))
  (sSeq (sSet 2 (yaf fLen (yab (Sm.sFld 0 0 (sVar 0)) sNil)))
  (sSeq (yev (Sm.sFld 0 1 (sVar 0)) (sVar 1) (sVar 2))
  (sRet (sVar 2)))))
def yb0:Fn:=mkFn 2 4
  (sSeq (yaO (yam 0 yc4 (sVar 0) (yab (sVar 1) sNil)))
  (sSeq (sSet 2 (sOp2 fIx (sVar 1) (sLit (.int 1))))
  (sSeq (sSet 3 (sOp2 fIx (sVar 1) (sLit (.int 2))))
  (sSeq (yaO (sBM yaB yaD (Sm.sFld 0 2 (sVar 0)) (yab (sOp2 fAdd (sOp2 fIx (Sm.sFld 0 2 (sVar 0)) (sVar 2)) (sOp2 fIx (Sm.sFld 0 2 (sVar 0)) (sVar 3))) sNil)))
  (sSeq (yaO (sBM yaB yaD (Sm.sFld 0 3 (sVar 0)) (yab (sOp2 fAdd (sOp2 fIx (Sm.sFld 0 3 (sVar 0)) (sVar 2)) (sOp2 fIx (Sm.sFld 0 3 (sVar 0)) (sVar 3))) sNil)))
  (sSeq (yaO (sBM yaB yaD (Sm.sFld 0 4 (sVar 0)) (yab (sOp2 fAdd (sOp2 fIx (Sm.sFld 0 4 (sVar 0)) (sVar 2)) (sOp2 fIx (Sm.sFld 0 4 (sVar 0)) (sVar 3))) sNil)))
  (sSeq (yaO (sBM yaB yaD (Sm.sFld 0 5 (sVar 0)) (yab (sOp2 fAdd (yaf yb6 (yab (sOp2 fIx (Sm.sFld 0 5 (sVar 0)) (sVar 2)) (yab (sOp2 fIx (Sm.sFld 0 5 (sVar 0)) (sVar 3)) sNil))) (sLit (.int 1))) sNil)))
  (sSeq (yaO (sBM yaB yaD (Sm.sFld 0 6 (sVar 0)) (yab (sOp2 fIx (Sm.sFld 0 6 (sVar 0)) (sVar 2)) sNil)))
  (yaO (sBM yaB yaD (Sm.sFld 0 7 (sVar 0)) (yab (sOp2 fIx (Sm.sFld 0 7 (sVar 0)) (sVar 3)) sNil)))))))))))
def yah:Fn:=mkFn 3 4
  (sSeq (yaO (yam 0 ya1 (sVar 0) (yab (sVar 1) (yab (sVar 2) sNil))))
  (sSeq (sSet 3 (sTup (yab (sLit (.str "fork")) (yab (sVar 1) (yab (sVar 2) sNil)))))
  (sSeq (sIf (yas (sOp2 yeU (sVar 3) (Sm.sFld 0 1 (sVar 0)))) (yaO (yam 0 yb0 (sVar 0) (yab (sVar 3) sNil))) yaC)
  (sRet (sOp2 fIx (Sm.sFld 0 1 (sVar 0)) (sVar 3))))))
def yd2 (G:Fn):Fn:=mkFn 3 4
  (sSeq (sSet 3 (yam 0 yaG (sVar 0) (yab (sVar 1) sNil)))
  (sSeq (sIf (yas (sOp2 fEq (sOp2 fIx (sVar 3) (sLit (.int 0))) (sLit (.str "leaf")))) (sRet (sVar 2)) yaC)
  (sRet (yam 0 yah (sVar 0) (yab (sOp2 fIx (sVar 3) (sLit (.int 1))) (yab (yaf G (yab (sVar 0) (yab (sOp2 fIx (sVar 3) (sLit (.int 2))) (yab (sVar 2) sNil)))) sNil))))))
def ya8:Nat->Fn
 | 0=>mkFn 3 4 (fun _ _=>.bad)
 | d+1=>yd2 (ya8 d)
def yaJ:Fn:=mkFn 2 2
  (sSeq (yaO (yam 0 ya0 (sVar 0) (yab (sVar 1) sNil)))
  (sRet (sOp2 fIx (Sm.sFld 0 5 (sVar 0)) (sVar 1))))
def yaU:Fn:=mkFn 3 7
  (sSeq (sIf (yas (sOp2 fLt (sOp2 fSub (yam 0 yaJ (sVar 0) (yab (sVar 2) sNil)) (yam 0 yaJ (sVar 0) (yab (sVar 1) sNil))) (sLit (.int 2)))) (sRet (yam 0 yah (sVar 0) (yab (sVar 1) (yab (sVar 2) sNil)))) yaC)
  (sSeq (sSet 3 (yam 0 yaG (sVar 0) (yab (sVar 2) sNil)))
  (sSeq (sSet 4 (sOp2 fIx (sVar 3) (sLit (.int 1))))
  (sSeq (sSet 5 (sOp2 fIx (sVar 3) (sLit (.int 2))))
  (sSeq (sIf (yas (sOp2 fLe (yam 0 yaJ (sVar 0) (yab (sVar 4) sNil)) (yam 0 yaJ (sVar 0) (yab (sVar 5) sNil)))) (sRet (yam 0 yah (sVar 0) (yab (yam 0 yah (sVar 0) (yab (sVar 1) (yab (sVar 4) sNil))) (yab (sVar 5) sNil)))) yaC)
  (sSeq (sSet 6 (yam 0 yaG (sVar 0) (yab (sVar 4) sNil)))
  (sRet (yam 0 yah (sVar 0) (yab (yam 0 yah (sVar 0) (yab (sVar 1) (yab (sOp2 fIx (sVar 6) (sLit (.int 1))) sNil))) (yab (yam 0 yah (sVar 0) (yab (sOp2 fIx (sVar 6) (sLit (.int 2))) (yab (sVar 5) sNil))) sNil))))))))))
def ycH (G:Fn):Fn:=mkFn 2 4
  (sSeq (sSet 2 (yam 0 yaG (sVar 0) (yab (sVar 1) sNil)))
  (sSeq (sIf (yas (sOp2 fEq (sOp2 fIx (sVar 2) (sLit (.int 0))) (sLit (.str "leaf")))) (sRet (sLit (.int 0))) yaC)
  (sSeq (sSet 3 (yaf G (yab (sVar 0) (yab (sOp2 fIx (sVar 2) (sLit (.int 1))) sNil))))
  (sSeq (sIf (yas (sOp2 fEq (sVar 3) (sLit (.int 0)))) (sRet (sOp2 fIx (sVar 2) (sLit (.int 2)))) yaC)
  (sRet (yaf yaU (yab (sVar 0) (yab (sVar 3) (yab (sOp2 fIx (sVar 2) (sLit (.int 2))) sNil)))))))))
def yaH:Nat->Fn
 | 0=>mkFn 2 4 (fun _ _=>.bad)
 | d+1=>ycH (yaH d)
def yaZ:Fn:=mkFn 3 7
  (sSeq (sIf (yas (sOp2 fLt (sOp2 fSub (yam 0 yaJ (sVar 0) (yab (sVar 1) sNil)) (yam 0 yaJ (sVar 0) (yab (sVar 2) sNil))) (sLit (.int 2)))) (sRet (yam 0 yah (sVar 0) (yab (sVar 1) (yab (sVar 2) sNil)))) yaC)
  (sSeq (sSet 3 (yam 0 yaG (sVar 0) (yab (sVar 1) sNil)))
  (sSeq (sSet 4 (sOp2 fIx (sVar 3) (sLit (.int 1))))
  (sSeq (sSet 5 (sOp2 fIx (sVar 3) (sLit (.int 2))))
  (sSeq (sIf (yas (sOp2 fLe (yam 0 yaJ (sVar 0) (yab (sVar 5) sNil)) (yam 0 yaJ (sVar 0) (yab (sVar 4) sNil)))) (sRet (yam 0 yah (sVar 0) (yab (sVar 4) (yab (yam 0 yah (sVar 0) (yab (sVar 5) (yab (sVar 2) sNil))) sNil)))) yaC)
  (sSeq (sSet 6 (yam 0 yaG (sVar 0) (yab (sVar 5) sNil)))
  (sRet (yam 0 yah (sVar 0) (yab (yam 0 yah (sVar 0) (yab (sVar 4) (yab (sOp2 fIx (sVar 6) (sLit (.int 1))) sNil))) (yab (yam 0 yah (sVar 0) (yab (sOp2 fIx (sVar 6) (sLit (.int 2))) (yab (sVar 2) sNil))) sNil))))))))))
def yd9 (G:Fn):Fn:=mkFn 3 5
  (sSeq (sSet 3 (sOp2 fSub (yam 0 yaJ (sVar 0) (yab (sVar 1) sNil)) (yam 0 yaJ (sVar 0) (yab (sVar 2) sNil))))
  (sSeq (sIf (yas (sOp2 fGt (sVar 3) (sLit (.int 1)))) (sSeq (sSet 4 (yam 0 yaG (sVar 0) (yab (sVar 1) sNil)))
  (sRet (yaf yaU (yab (sVar 0) (yab (sOp2 fIx (sVar 4) (sLit (.int 1))) (yab (yaf G (yab (sVar 0) (yab (sOp2 fIx (sVar 4) (sLit (.int 2))) (yab (sVar 2) sNil)))) sNil)))))) yaC)
  (sSeq (sIf (yas (sOp2 fLt (sVar 3) (sOp1 fNeg (sLit (.int 1))))) (sSeq (sSet 4 (yam 0 yaG (sVar 0) (yab (sVar 2) sNil)))
  (sRet (yaf yaZ (yab (sVar 0) (yab (yaf G (yab (sVar 0) (yab (sVar 1) (yab (sOp2 fIx (sVar 4) (sLit (.int 1))) sNil)))) (yab (sOp2 fIx (sVar 4) (sLit (.int 2))) sNil)))))) yaC)
  (sRet (yam 0 yah (sVar 0) (yab (sVar 1) (yab (sVar 2) sNil)))))))
def ya7:Nat->Fn
 | 0=>mkFn 3 5 (fun _ _=>.bad)
 | d+1=>yd9 (ya7 d)
def yce:Fn:=mkFn 1 1
  (sRet (sOrV (sOp2 fEq (sVar 0) (sLit (.str "\n"))) (ycK fLe fLe (sLit (.str " ")) (sVar 0) (sLit (.str "~")))))
def ydk:Fn:=mkFn 1 1
  (sSeq (sIf (sNot (ydI (sIsB "str" (sVar 0)))) (sRet (sLit (.bl false))) yaC)
  (sRet (yaf fAll (yab (ybn [] (iVal (sVar 0)) sYes (yaf yce (yab (sVar 0) sNil))) sNil))))
def ydM:Fn:=mkFn 1 1
  (sRet (yeh (yaf ydk (yab (sVar 0) sNil)) (ycK fLe fLe (sLit (.int 1)) (yaf fLen (yab (sVar 0) sNil)) (sLit (.int 8)))))
def ydY:Fn:=mkFn 1 1
  (sRet (sBM yei yeF (sVar 0) (yab (sLit (.str "\n")) sNil)))
def yb1:Fn:=mkFn 2 4
  (sSeq (sSet 2 (yam 0 yc4 (sVar 0) (yab (sVar 1) sNil)))
  (sSeq (sSet 3 (sOp2 fIx (sVar 1) (sLit (.int 1))))
  (sSeq (yaO (sBM yaB yaD (Sm.sFld 0 2 (sVar 0)) (yab (yaf fLen (yab (sVar 3) sNil)) sNil)))
  (sSeq (yaO (sBM yaB yaD (Sm.sFld 0 3 (sVar 0)) (yab (yaf ydY (yab (sVar 3) sNil)) sNil)))
  (sSeq (yaO (sBM yaB yaD (Sm.sFld 0 4 (sVar 0)) (yab (sLit (.int 1)) sNil)))
  (sSeq (yaO (sBM yaB yaD (Sm.sFld 0 5 (sVar 0)) (yab (sLit (.int 0)) sNil)))
  (sSeq (yaO (sBM yaB yaD (Sm.sFld 0 6 (sVar 0)) (yab (sVar 2) sNil)))
  (yaO (sBM yaB yaD (Sm.sFld 0 7 (sVar 0)) (yab (sVar 2) sNil))))))))))
def yaK:Fn:=mkFn 2 3
  (sSeq (sIf (sNot (ydI (yaf ydM (yab (sVar 1) sNil)))) (ycj 1 (yab (sLit (.str "a leaf is a plain text of one to eight signs")) sNil)) yaC)
  (sSeq (sSet 2 (sTup (yab (sLit (.str "leaf")) (yab (sVar 1) sNil))))
  (sSeq (sIf (yas (sOp2 yeU (sVar 2) (Sm.sFld 0 1 (sVar 0)))) (yaO (yam 0 yb1 (sVar 0) (yab (sVar 2) sNil))) yaC)
  (sRet (sOp2 fIx (Sm.sFld 0 1 (sVar 0)) (sVar 2))))))
def ycN:Fn:=mkFn 3 6
  (sSeq (sSet 3 (sOp2 fAdd (sOp2 fIx (yam 0 yaG (sVar 0) (yab (yam 0 ybO (sVar 0) (yab (sVar 1) sNil)) sNil)) (sLit (.int 1))) (sOp2 fIx (yam 0 yaG (sVar 0) (yab (yam 0 ybA (sVar 0) (yab (sVar 2) sNil)) sNil)) (sLit (.int 1)))))
  (sSeq (sSet 4 (yaf (ya8 90) (yab (sVar 0) (yab (sVar 1) (yab (yam 0 yaK (sVar 0) (yab (sVar 3) sNil)) sNil)))))
  (sSeq (sSet 5 (yaf (yaH 90) (yab (sVar 0) (yab (sVar 2) sNil))))
  (sSeq (sIf (yas (sOp2 fEq (sVar 5) (sLit (.int 0)))) (sRet (sVar 4)) yaC)
  (sRet (yaf (ya7 90) (yab (sVar 0) (yab (sVar 4) (yab (sVar 5) sNil)))))))))
def yat:Fn:=mkFn 3 3
  (sSeq (yaO (yaf ybj (yab (sOp2 fAdd (yam 0 yaz (sVar 0) (yab (sVar 1) sNil)) (yam 0 yaz (sVar 0) (yab (sVar 2) sNil))) sNil)))
  (sSeq (sIf (yas (sOp2 fEq (sVar 1) (sLit (.int 0)))) (sRet (sVar 2)) yaC)
  (sSeq (sIf (yas (sOp2 fEq (sVar 2) (sLit (.int 0)))) (sRet (sVar 1)) yaC)
  (sSeq (sIf (ydI (yaf ydE (yab (sVar 0) (yab (sVar 1) (yab (sVar 2) sNil))))) (sRet (yaf (ya7 90) (yab (sVar 0) (yab (sVar 1) (yab (sVar 2) sNil))))) yaC)
  (sRet (yaf ycN (yab (sVar 0) (yab (sVar 1) (yab (sVar 2) sNil)))))))))
def ydZ (G:Fn):Fn:=mkFn 3 5
  (sSeq (sIf (yas (sOp2 fEq (sVar 2) (sLit (.int 0)))) (sRet (sLit (.int 0))) yaC)
  (sSeq (sSet 3 (yaf G (yab (sVar 0) (yab (sVar 1) (yab (sOp2 fDiv (sVar 2) (sLit (.int 2))) sNil)))))
  (sSeq (sSet 4 (yaf yat (yab (sVar 0) (yab (sVar 3) (yab (sVar 3) sNil)))))
  (sSeq (sIf (yas (sOp2 fEq (sOp2 fMod (sVar 2) (sLit (.int 2))) (sLit (.int 0)))) (sRet (sVar 4)) yaC)
  (sRet (yaf yat (yab (sVar 0) (yab (sVar 4) (yab (sVar 1) sNil)))))))))
def ya2:Nat->Fn
 | 0=>mkFn 3 5 (fun _ _=>.bad)
 | d+1=>ydZ (ya2 d)
def ycr:Fn:=mkFn 3 4
  (sSeq (sSet 3 (yam 0 yaz (sVar 0) (yab (sVar 1) sNil)))
  (sSeq (sIf (yas (sOp2 fLt (sVar 2) (sLit (.int 0)))) (ycj 6 (yab (sLit (.str "a text is repeated 0 times at least")) sNil)) yaC)
  (sSeq (yaO (yaf ybj (yab (sOp2 fMul (sVar 3) (sVar 2)) sNil)))
  (sSeq (sIf (yas (sOp2 fEq (sVar 1) (sLit (.int 0)))) (sRet (sLit (.int 0))) yaC)
  (sRet (yaf (ya2 64) (yab (sVar 0) (yab (sVar 1) (yab (sVar 2) sNil)))))))))
def yep (G:Fn):Fn:=mkFn 2 3
  (sSeq (sIf (yas (sOp2 fEq (yaf fLen (yab (sVar 1) sNil)) (sLit (.int 1)))) (sRet (sOp2 fIx (sVar 1) (sLit (.int 0)))) yaC)
  (sSeq (sSet 2 (sOp2 fDiv (yaf fLen (yab (sVar 1) sNil)) (sLit (.int 2))))
  (sRet (yam 0 yah (sVar 0) (yab (yaf G (yab (sVar 0) (yab (sCut (sVar 1) none (some (sVar 2))) sNil))) (yab (yaf G (yab (sVar 0) (yab (sCut (sVar 1) (some (sVar 2)) none) sNil))) sNil))))))
def yb2:Nat->Fn
 | 0=>mkFn 2 3 (fun _ _=>.bad)
 | d+1=>yep (yb2 d)
def yd6:Fn:=mkFn 2 3
  (sSeq (sIf (sNot (ydI (yaf ydk (yab (sVar 1) sNil)))) (ycj 1 (yab (sLit (.str "a text is built of a plain text")) sNil)) yaC)
  (sSeq (sIf (yas (sOp2 fGt (yaf fLen (yab (sVar 1) sNil)) (sLit (.int 10000)))) (ycj 5 (yab (sLit (.str "a text is built of ten thousand signs at most")) sNil)) yaC)
  (sSeq (sIf (yas (sOp2 fEq (sVar 1) (sLit (.str "")))) (sRet (sLit (.int 0))) yaC)
  (sSeq (sSet 2 (ybn [0,1] (ycV (sLit (.int 0)) (yaf fLen (yab (sVar 1) sNil)) (sLit (.int 8))) sYes (yam 0 yaK (sVar 1) (yab (sCut (sVar 2) (some (sVar 0)) (some (sOp2 fAdd (sVar 0) (sLit (.int 8))))) sNil))))
  (sRet (yaf (yb2 20) (yab (sVar 0) (yab (sVar 2) sNil))))))))
def yb3:SS :=
  (sSet 2 (yaf yat (yab (sVar 0) (yab (sVar 2) (yab (yaf ycr (yab (sVar 0) (yab (yaf yd6 (yab (sVar 0) (yab (sVar 3) sNil))) (yab (sVar 4) sNil)))) sNil)))))
def ydl:Fn:=mkFn 2 5
  (sSeq (sSet 2 (sLit (.int 0)))
  (sSeq (sFor (ybz (sVar 1)) (.tup [3,4]) yb3)
  (sRet (sVar 2))))
def ybR:Fn:=mkFn 1 1
  (sRet (yaf fSum (yab (ydj [] (ybz (sVar 0)) sYes (sOp2 fMul (yaf fLen (yab (sVar 0) sNil)) (sVar 1))) sNil)))
def ybC:Fn:=mkFn 4 5
  (sSeq (sSet 4 (yam 0 yaz (sVar 0) (yab (sVar 1) sNil)))
  (sIf (sNot (yas (yeH fLe fLe fLe (sLit (.int 0)) (sVar 2) (sVar 3) (sVar 4)))) (ycj 6 (yab (sLit (.str "the text has no such stretch")) sNil)) yaC))
def yaQ:SS :=
  (sSeq (sSet 6 (sBM0 yaB mPop (sVar 5)))
  (sSeq (sSet 7 (sOp2 fIx (sVar 6) (sLit (.int 0))))
  (sSeq (sSet 8 (sOp2 fIx (sVar 6) (sLit (.int 1))))
  (sSeq (sIf (sOr (yas (sOp2 fGe (sVar 8) (sVar 3))) (yas (sOp2 fLe (sOp2 fAdd (sVar 8) (yam 0 yaz (sVar 0) (yab (sVar 7) sNil))) (sVar 2)))) yfY yaC)
  (sSeq (sSet 9 (yam 0 yaG (sVar 0) (yab (sVar 7) sNil)))
  (sIf (yas (sOp2 fEq (sOp2 fIx (sVar 9) (sLit (.int 0))) (sLit (.str "leaf")))) (yaO (sBM yaB yaD (sVar 4) (yab (sCut (sOp2 fIx (sVar 9) (sLit (.int 1))) (some (yaf yb6 (yab (sOp2 fSub (sVar 2) (sVar 8)) (yab (sLit (.int 0)) sNil)))) (some (sOp2 fSub (sVar 3) (sVar 8)))) sNil))) (sSeq (yaO (sBM yaB yaD (sVar 5) (yab (sTup (yab (sOp2 fIx (sVar 9) (sLit (.int 2))) (yab (sOp2 fAdd (sVar 8) (yam 0 yaz (sVar 0) (yab (sOp2 fIx (sVar 9) (sLit (.int 1))) sNil))) sNil))) sNil)))
  (yaO (sBM yaB yaD (sVar 5) (yab (sTup (yab (sOp2 fIx (sVar 9) (sLit (.int 1))) (yab (sVar 8) sNil))) sNil))))))))))
def ycI:Fn:=mkFn 4 10
  (sSeq (sSet 4 (ycd sNil))
  (sSeq (sSet 5 (ycd (yab (sTup (yab (sVar 1) (yab (sLit (.int 0)) sNil))) sNil)))
  (sSeq (yci (yas (sOp2 fNe (sVar 5) (sLst sNil))) yaQ yeB)
  (sRet (sBM yei ydz (sLit (.str "")) (yab (sVar 4) sNil))))))
def ydm:Fn:=mkFn 4 4
  (sSeq (yaO (yaf ybC (yab (sVar 0) (yab (sVar 1) (yab (sVar 2) (yab (sVar 3) sNil))))))
  (sSeq (sIf (yas (sOp2 fGt (sOp2 fSub (sVar 3) (sVar 2)) (sLit (.int 10000)))) (ycj 5 (yab (sLit (.str "a stretch of more than ten thousand signs is not told")) sNil)) yaC)
  (sRet (yaf ycI (yab (sVar 0) (yab (sVar 1) (yab (sVar 2) (yab (sVar 3) sNil))))))))
def ybe:SS :=
  (sSeq (sSet 7 (sOp2 fMul (yaf fLen (yab (sVar 5) sNil)) (sVar 6)))
  (sSeq (sSet 8 (sOp2 fSub (yaf yb6 (yab (sVar 1) (yab (sVar 4) sNil))) (sVar 4)))
  (sSeq (sSet 9 (sOp2 fSub (yaf ycq (yab (sVar 2) (yab (sOp2 fAdd (sVar 4) (sVar 7)) sNil))) (sVar 4)))
  (sSeq (sSet 4 (sOp2 fAdd (sVar 4) (sVar 7)))
  (sIf (yas (sOp2 fLt (sVar 8) (sVar 9))) (sSeq (sSet 10 (sOp2 fDiv (sVar 8) (yaf fLen (yab (sVar 5) sNil))))
  (sSeq (sSet 11 (sOp2 fDiv (sOp2 fSub (sVar 9) (sLit (.int 1))) (yaf fLen (yab (sVar 5) sNil))))
  (sSeq (sSet 12 (sOp2 fMul (sVar 10) (yaf fLen (yab (sVar 5) sNil))))
  (sIf (yas (sOp2 fEq (sVar 10) (sVar 11))) (yaO (sBM yaB yaD (sVar 3) (yab (sTup (yab (sCut (sVar 5) (some (sOp2 fSub (sVar 8) (sVar 12))) (some (sOp2 fSub (sVar 9) (sVar 12)))) (yab (sLit (.int 1)) sNil))) sNil))) (sSeq (yaO (sBM yaB yaD (sVar 3) (yab (sTup (yab (sCut (sVar 5) (some (sOp2 fSub (sVar 8) (sVar 12))) none) (yab (sLit (.int 1)) sNil))) sNil)))
  (sSeq (sIf (yas (sOp2 fGt (sVar 11) (sOp2 fAdd (sVar 10) (sLit (.int 1))))) (yaO (sBM yaB yaD (sVar 3) (yab (sTup (yab (sVar 5) (yab (sOp2 fSub (sOp2 fSub (sVar 11) (sVar 10)) (sLit (.int 1))) sNil))) sNil))) yaC)
  (yaO (sBM yaB yaD (sVar 3) (yab (sTup (yab (sCut (sVar 5) none (some (sOp2 fSub (sVar 9) (sOp2 fMul (sVar 11) (yaf fLen (yab (sVar 5) sNil)))))) (yab (sLit (.int 1)) sNil))) sNil))))))))) yaC)))))
def ya5:Fn:=mkFn 3 13
  (sSeq (sSet 3 (ycd sNil))
  (sSeq (sSet 4 (sLit (.int 0)))
  (sSeq (sFor (ybz (sVar 0)) (.tup [5,6]) ybe)
  (sRet (sVar 3)))))
def yc8:Fn:=mkFn 3 3
  (sRet (sBM yei ydz (sLit (.str "")) (yab (ydj [] (ybz (yaf ya5 (yab (sVar 0) (yab (sVar 1) (yab (sVar 2) sNil))))) sYes (sOp2 ydX (sVar 0) (sVar 1))) sNil)))
def ybJ:SS :=
  (sSeq (sSet 6 (yaf ycq (yab (sVar 4) (yab (sOp2 fAdd (sVar 5) (sLit (.int 9))) sNil))))
  (sIf (yas (sOp2 fNe (yaf ydm (yab (sVar 0) (yab (sVar 1) (yab (sVar 5) (yab (sVar 6) sNil))))) (yaf yc8 (yab (sVar 2) (yab (sVar 5) (yab (sVar 6) sNil)))))) (sRet (sLit (.bl false))) yaC))
def ybS:Fn:=mkFn 4 7
  (sSeq (sSet 4 (yaf ybR (yab (sVar 2) sNil)))
  (sSeq (sIf (yas (sOp2 fNe (yam 0 yaz (sVar 0) (yab (sVar 1) sNil)) (sVar 4))) (sRet (sLit (.bl false))) yaC)
  (sSeq (sFor (iVal (yaf ybZ (yab (sVar 2) (yab (sVar 3) sNil)))) (.nm 5) ybJ)
  (sRet (sLit (.bl true))))))
def ybB:Fn:=mkFn 1 1
  (sRet (yaf fLen (yab (Sm.sFld 0 0 (sVar 0)) sNil)))
def ydF:Fn:=mkFn 3 4
  (sSeq (sSet 3 (yam 0 yaz (sVar 0) (yab (sVar 1) sNil)))
  (sIf (sNot (yas (ycK fLe fLe (sLit (.int 0)) (sVar 2) (sVar 3)))) (ycj 6 (yab (sLit (.str "the text has no such place, and does not end there")) sNil)) yaC))
def ycs (G:Fn):Fn:=mkFn 3 5
  (sSeq (sIf (yas (sOp2 fEq (sVar 2) (sLit (.int 0)))) (sRet (sLit (.int 0))) yaC)
  (sSeq (sIf (yas (sOp2 fEq (sVar 2) (yam 0 yaz (sVar 0) (yab (sVar 1) sNil)))) (sRet (sVar 1)) yaC)
  (sSeq (sSet 3 (yam 0 yaG (sVar 0) (yab (sVar 1) sNil)))
  (sSeq (sIf (yas (sOp2 fEq (sOp2 fIx (sVar 3) (sLit (.int 0))) (sLit (.str "leaf")))) (sRet (yam 0 yaK (sVar 0) (yab (sCut (sOp2 fIx (sVar 3) (sLit (.int 1))) none (some (sVar 2))) sNil))) yaC)
  (sSeq (sSet 4 (yam 0 yaz (sVar 0) (yab (sOp2 fIx (sVar 3) (sLit (.int 1))) sNil)))
  (sSeq (sIf (yas (sOp2 fLe (sVar 2) (sVar 4))) (sRet (yaf G (yab (sVar 0) (yab (sOp2 fIx (sVar 3) (sLit (.int 1))) (yab (sVar 2) sNil))))) yaC)
  (sRet (yaf yat (yab (sVar 0) (yab (sOp2 fIx (sVar 3) (sLit (.int 1))) (yab (yaf G (yab (sVar 0) (yab (sOp2 fIx (sVar 3) (sLit (.int 2))) (yab (sOp2 fSub (sVar 2) (sVar 4)) sNil)))) sNil)))))))))))
def yaw:Nat->Fn
 | 0=>mkFn 3 5 (fun _ _=>.bad)
 | d+1=>ycs (yaw d)
def ycO (G:Fn):Fn:=mkFn 3 5
  (sSeq (sIf (yas (sOp2 fEq (sVar 2) (sLit (.int 0)))) (sRet (sVar 1)) yaC)
  (sSeq (sIf (yas (sOp2 fEq (sVar 2) (yam 0 yaz (sVar 0) (yab (sVar 1) sNil)))) (sRet (sLit (.int 0))) yaC)
  (sSeq (sSet 3 (yam 0 yaG (sVar 0) (yab (sVar 1) sNil)))
  (sSeq (sIf (yas (sOp2 fEq (sOp2 fIx (sVar 3) (sLit (.int 0))) (sLit (.str "leaf")))) (sRet (yam 0 yaK (sVar 0) (yab (sCut (sOp2 fIx (sVar 3) (sLit (.int 1))) (some (sVar 2)) none) sNil))) yaC)
  (sSeq (sSet 4 (yam 0 yaz (sVar 0) (yab (sOp2 fIx (sVar 3) (sLit (.int 1))) sNil)))
  (sSeq (sIf (yas (sOp2 fGe (sVar 2) (sVar 4))) (sRet (yaf G (yab (sVar 0) (yab (sOp2 fIx (sVar 3) (sLit (.int 2))) (yab (sOp2 fSub (sVar 2) (sVar 4)) sNil))))) yaC)
  (sRet (yaf yat (yab (sVar 0) (yab (yaf G (yab (sVar 0) (yab (sOp2 fIx (sVar 3) (sLit (.int 1))) (yab (sVar 2) sNil)))) (yab (sOp2 fIx (sVar 3) (sLit (.int 2))) sNil)))))))))))
def yaA:Nat->Fn
 | 0=>mkFn 3 5 (fun _ _=>.bad)
 | d+1=>ycO (yaA d)
def ydb:Fn:=mkFn 4 6
  (sSeq (sSet 4 (sOp2 fAdd (yam 0 yaz (sVar 0) (yab (sVar 1) sNil)) (yam 0 yaz (sVar 0) (yab (sVar 3) sNil))))
  (sSeq (yaO (yaf ydF (yab (sVar 0) (yab (sVar 1) (yab (sVar 2) sNil)))))
  (sSeq (yaO (yaf ybj (yab (sVar 4) sNil)))
  (sSeq (sSet 5 (yaf yat (yab (sVar 0) (yab (yaf (yaw 90) (yab (sVar 0) (yab (sVar 1) (yab (sVar 2) sNil)))) (yab (sVar 3) sNil)))))
  (sRet (yaf yat (yab (sVar 0) (yab (sVar 5) (yab (yaf (yaA 90) (yab (sVar 0) (yab (sVar 1) (yab (sVar 2) sNil)))) sNil)))))))))
def ydc:Fn:=mkFn 4 5
  (sSeq (sSet 4 (sOp1 fNeg (sLit (.int 1))))
  (sSeq (yfe ydH (sSet 4 (yaf ydb (yab (sVar 0) (yab (sVar 1) (yab (sVar 2) (yab (sVar 3) sNil)))))) (sSet 4 (sOp1 fNeg (sLit (.int 1)))))
  (sRet (sVar 4))))
def ycf:Fn:=mkFn 6 10
  (sSeq (sSet 6 (yam 0 ybB (sVar 0) sNil))
  (sSeq (sSet 7 (yaf ydc (yab (sVar 0) (yab (sOp2 fIx (sVar 1) (sLit (.int 0))) (yab (sVar 4) (yab (sOp2 fIx (sVar 1) (sLit (.int 1))) sNil))))))
  (sSeq (sSet 8 (sOp2 fSub (yam 0 ybB (sVar 0) sNil) (sVar 6)))
  (sSeq (sIf (yas (sOp2 fGt (sOp2 fAdd (yaf ybR (yab (sVar 2) sNil)) (yaf ybR (yab (sVar 3) sNil))) (sOp2 fPow (sLit (.int 10)) (sLit (.int 18))))) (sRet (yeh (sOp2 fEq (sVar 7) (sOp1 fNeg (sLit (.int 1)))) (sOp2 fEq (sVar 8) (sLit (.int 0))))) yaC)
  (sSeq (sIf (sOr (yas (sOp2 fEq (sVar 7) (sOp1 fNeg (sLit (.int 1))))) (yas (sOp2 fGt (sVar 8) (sOp2 fMul (sLit (.int 200)) (sOp2 fAdd (sLit (.int 1)) (yaf yb6 (yab (yam 0 yaJ (sVar 0) (yab (sOp2 fIx (sVar 1) (sLit (.int 0))) sNil)) (yab (yam 0 yaJ (sVar 0) (yab (sOp2 fIx (sVar 1) (sLit (.int 1))) sNil)) sNil)))))))) (sRet (sLit (.bl false))) yaC)
  (sSeq (sSet 9 (sOp2 fAdd (sOp2 fAdd (yaf ya5 (yab (sVar 2) (yab (sLit (.int 0)) (yab (sVar 4) sNil)))) (sVar 3)) (yaf ya5 (yab (sVar 2) (yab (sVar 4) (yab (yaf ybR (yab (sVar 2) sNil)) sNil))))))
  (sRet (yaf ybS (yab (sVar 0) (yab (sVar 7) (yab (sVar 9) (yab (sVar 5) sNil))))))))))))
def yc5:Fn:=mkFn 4 4
  (sSeq (yaO (yaf ybC (yab (sVar 0) (yab (sVar 1) (yab (sVar 2) (yab (sVar 3) sNil))))))
  (sRet (yaf yat (yab (sVar 0) (yab (yaf (yaw 90) (yab (sVar 0) (yab (sVar 1) (yab (sVar 2) sNil)))) (yab (yaf (yaA 90) (yab (sVar 0) (yab (sVar 1) (yab (sVar 3) sNil)))) sNil))))))
def yc6:Fn:=mkFn 4 4
  (sSeq (yaO (yaf ybC (yab (sVar 0) (yab (sVar 1) (yab (sVar 2) (yab (sVar 3) sNil))))))
  (sRet (yaf (yaA 90) (yab (sVar 0) (yab (yaf (yaw 90) (yab (sVar 0) (yab (sVar 1) (yab (sVar 3) sNil)))) (yab (sVar 2) sNil))))))
def yb8:Fn:=mkFn 6 13
  (sSeq (sSet 6 (yaf ybR (yab (sVar 2) sNil)))
  (sSeq (sSet 7 (sOp2 fMul (sLit (.int 200)) (sOp2 fAdd (sLit (.int 1)) (yam 0 yaJ (sVar 0) (yab (sVar 1) sNil)))))
  (sSeq (sSet 8 (yam 0 ybB (sVar 0) sNil))
  (sSeq (sSet 9 (yaf yc5 (yab (sVar 0) (yab (sVar 1) (yab (sVar 3) (yab (sVar 4) sNil))))))
  (sSeq (sSet 10 (yam 0 ybB (sVar 0) sNil))
  (sSeq (sSet 11 (yaf yc6 (yab (sVar 0) (yab (sVar 1) (yab (sVar 3) (yab (sVar 4) sNil))))))
  (sSeq (sIf (sOr (yas (sOp2 fGt (sOp2 fSub (sVar 10) (sVar 8)) (sVar 7))) (yas (sOp2 fGt (sOp2 fSub (yam 0 ybB (sVar 0) sNil) (sVar 10)) (sVar 7)))) (sRet (sLit (.bl false))) yaC)
  (sSeq (sIf (sNot (ydI (yaf ybS (yab (sVar 0) (yab (sVar 11) (yab (yaf ya5 (yab (sVar 2) (yab (sVar 3) (yab (sVar 4) sNil)))) (yab (sVar 5) sNil))))))) (sRet (sLit (.bl false))) yaC)
  (sSeq (sSet 12 (sOp2 fAdd (yaf ya5 (yab (sVar 2) (yab (sLit (.int 0)) (yab (sVar 3) sNil)))) (yaf ya5 (yab (sVar 2) (yab (sVar 4) (yab (sVar 6) sNil))))))
  (sRet (yaf ybS (yab (sVar 0) (yab (sVar 9) (yab (sVar 12) (yab (sVar 5) sNil)))))))))))))))
def ydq:SS :=
  (sIf (sNot (ydI (yaf ycf (yab (sVar 1) (yab (sVar 4) (yab (sVar 2) (yab (sVar 3) (yab (sVar 7) (yab (sVar 5) sNil))))))))) (sRet (sLit (.bl false))) yaC)
def ydr:SS :=
  (sSeq (sSet 9 (ybn [6,5] (yba (sLit (.int 2))) sYes (sOp2 fIx (sVar 1) (yaf yay (yab (sVar 2) (yab (yaf fLen (yab (sVar 1) sNil)) sNil))))))
  (sIf (sNot (ydI (yaf yb8 (yab (sVar 1) (yab (sOp2 fIx (sVar 4) (sLit (.int 0))) (yab (sVar 2) (yab (yaf yem (yab (sVar 9) sNil)) (yab (yaf yen (yab (sVar 9) sNil)) (yab (sVar 5) sNil))))))))) (sRet (sLit (.bl false))) yaC))
def yfh:Fn:=mkFn 1 10
  (sSeq (sSet 1 (yeL 0 8 ycL sNil))
  (sSeq (sSet 2 (yaf ycM (yab (yaf ybd (yab (sVar 0) (yab (sLit (.int 0)) sNil))) sNil)))
  (sSeq (sSet 3 (yaf ycM (yab (yaf ybd (yab (sVar 0) (yab (sLit (.int 1)) sNil))) sNil)))
  (sSeq (sSet 4 (sLst (yab (yaf ydl (yab (sVar 1) (yab (sVar 2) sNil))) (yab (yaf ydl (yab (sVar 1) (yab (sVar 3) sNil))) sNil))))
  (sSeq (sSet 5 (yaf ybd (yab (sVar 0) (yab (sLit (.int 2)) sNil))))
  (sSeq (sSet 6 (yaf ybZ (yab (sVar 2) (yab (sVar 5) sNil))))
  (sSeq (sFor (iVal (sCut (sVar 6) none (some (sLit (.int 4))))) (.nm 7) ydq)
  (sSeq (sFor (yba (sLit (.int 4))) (.nm 8) ydr)
  (sRet (yeh (yaf ybS (yab (sVar 1) (yab (sOp2 fIx (sVar 4) (sLit (.int 0))) (yab (sVar 2) (yab (sVar 5) sNil))))) (yaf ybS (yab (sVar 1) (yab (sOp2 fIx (sVar 4) (sLit (.int 1))) (yab (sVar 3) (yab (sVar 5) sNil)))))))))))))))
end Sk
set_option exponentiation.threshold 2000
namespace Sk
open PySem PySem.Spec L2 Sm
theorem zfQ {w:Option Nat} {all:List AV} {t:Tg} {b:SS} (P:Nat->En->AH->Prop):∀ (xs:List AV) (i:Nat) (en:En) (h:AH),P i en h ->
  (∀ i en h,P i en h->ybQ w all h=true) ->
  (∀ (j:Nat) (x:AV) (en:En) (h:AH),xs[j]? = some x->P (i+j) en h->∃ e1 e2 h2,setT t x en=some e1/\(b e1 h = .nx e2 h2\/b e1 h = .ct e2 h2)/\P (i+j+1) e2 h2) ->
  ∃ e' h',ycv w all t b xs en h = .nx e' h'/\P (i+xs.length) e' h'
 | [],i,en,h,p,lv,_=>⟨en,h,by unfold ycv;rw [if_pos (lv _ _ _ p)],p⟩
 | x::xs,i,en,h,p,lv,s=>by
  obtain ⟨e1,e2,h2,q1,q2,q3⟩:=s 0 x en h rfl p
  obtain ⟨e',h',r1,r2⟩:=zfQ P xs (i+1) e2 h2 q3 lv fun j y en h e q=>by
   have:=s (j+1) y en h (by simpa using e) (by rw [show i+(j+1)=i+1+j by lia];exact q)
   rw [show i+(j+1)+1=i+1+j+1 by lia] at this
   exact this
  refine ⟨e',h',?_,by rw [List.length_cons,show i+(xs.length+1)=i+1+xs.length by lia];exact r2⟩
  unfold ycv
  rw [if_pos (lv _ _ _ p)]
  simp only [q1]
  rcases q2 with q2 | q2
  ·rw [q2];exact r1
  ·rw [q2];exact r1
theorem zbb {α:Type} {js:List Nat} {en:En} {w:Option Nat} {all:List AV} {c:SB} {e:SE} {g f:α->AV} {p:α->Bool} {h:AH} (lv:ybQ w all h=true):∀ (cs:List α) (ys:List AV),(∀ x∈cs,c (some (g x)::js.map fun j=>(en[j]?).join) h = .ok (p x) h)->(∀ x∈cs,p x=true->e (some (g x)::js.map fun j=>(en[j]?).join) h = .ok (f x) h)->ys.length+cs.length<=sizeLine ->
  yaV js en w all c e (cs.map g) ys h = .ok (ys++(cs.filter p).map f) h
 | [],ys,_,_,_=>by rw [List.map_nil];unfold yaV;rw [if_pos lv];simp
 | x::xs,ys,hc,he,hl=>by
  have hl':ys.length<sizeLine:=by simp at hl;lia
  rw [List.map_cons]
  unfold yaV
  rw [if_pos ⟨lv,hl'⟩,hc x (by simp)]
  cases hp:p x with
  | false =>
   dsimp only
   rw [zbb lv xs ys (fun y hy=>hc y (by simp [hy])) (fun y hy=>he y (by simp [hy])) (by simp at hl ⊢;lia)]
   simp [List.filter_cons,hp]
  | true =>
   dsimp only
   rw [he x (by simp) hp]
   dsimp only
   rw [zbb lv xs (ys++[f x]) (fun y hy=>hc y (by simp [hy])) (fun y hy=>he y (by simp [hy])) (by simp at hl ⊢;lia)]
   simp [List.filter_cons,hp]
theorem zh4 {α:Type} {js:List Nat} {en:En} {w:Option Nat} {all:List AV} {e:SE} {g f:α->AV} {h:AH} (lv:ybQ w all h=true) (cs:List α) (ys:List AV) (he:∀ x∈cs,e (some (g x)::js.map fun j=>(en[j]?).join) h = .ok (f x) h) (hl:ys.length+cs.length<=sizeLine) :
  yaV js en w all sYes e (cs.map g) ys h = .ok (ys++cs.map f) h:=by
 rw [zbb (p:=fun _=>true) lv cs ys (fun _ _=>rfl) (fun x hx _=>he x hx) hl,List.filter_eq_self.mpr (fun _ _=>rfl)]
theorem zei {c:SB} {b:SS} (P:Nat->En->AH->Prop) (Q:En->AH->Prop):∀ (fuel n:Nat) (en:En) (h:AH),P n en h->n<fuel ->
  (∀ n en h,P n en h->(∃ h1,c en h = .ok false h1/\Q en h1)\/(∃ n' h1 e2 h2,n'<n/\c en h = .ok true h1/\(b en h1 = .nx e2 h2\/b en h1 = .ct e2 h2)/\P n' e2 h2)) ->
  ∃ e' h',yci c b fuel en h = .nx e' h'/\Q e' h'
 | 0,n,en,h,_,l,_=>absurd l (Nat.not_lt_zero _)
 | fuel+1,n,en,h,p,l,s=>by
  rcases s n en h p with ⟨h1,q1,q2⟩ | ⟨n',h1,e2,h2,q0,q1,q2,q3⟩
  ·refine ⟨en,h1,?_,q2⟩
   unfold yci;rw [q1]
  ·obtain ⟨e',h',r1,r2⟩:=zei P Q fuel n' e2 h2 q3 (by lia) s
   refine ⟨e',h',?_,r2⟩
   unfold yci;rw [q1]
   rcases q2 with q2 | q2
   ·simp only [q2];exact r1
   ·simp only [q2];exact r1
@[simp] def thn (o:OutS) (Q:En->AH->Prop):Prop:=match o with
 | .nx e h=>Q e h
 | .ct e h=>Q e h
 | _=>False
theorem yfG {o:OutS} {Q:En->AH->Prop} (t:thn o Q):∃ e h,(o = .nx e h\/o = .ct e h)/\Q e h:=by
 cases o with
 | nx e h=>exact ⟨e,h,.inl rfl,t⟩
 | ct e h=>exact ⟨e,h,.inr rfl,t⟩
 | _=>exact t.elim
@[simp] def yg1 (o:Option En) (Q:En->Prop):Prop:=match o with
 | some e=>Q e
 | none=>False
theorem yc9 {w:Option Nat} {all:List AV} {t:Tg} {b:SS} {xs:List AV} {en:En} {h:AH} (P:Nat->En->AH->Prop) (p0:P 0 en h) (lv:∀ i en h,P i en h->ybQ w all h=true)
  (st:∀ (j:Nat) (x:AV) (en:En) (h:AH),xs[j]? = some x->P j en h->yg1 (setT t x en) fun e1=>thn (b e1 h) (P (j+1))) :
  ∃ e' h',ycv w all t b xs en h = .nx e' h'/\P xs.length e' h' := by
 have:=zfQ (w:=w) (all:=all) (t:=t) (b:=b) P xs 0 en h p0 lv fun j x en h hx hp=>by
  have q:=st j x en h hx (by simpa using hp)
  cases z:setT t x en with
  | none=>rw [z] at q;exact q.elim
  | some e1 =>
   rw [z] at q
   obtain ⟨e,h2,a,c⟩:=yfG q
   exact ⟨e1,e,h2,rfl,a,by simpa using c⟩
 simpa using this
theorem zjb {c:SB} {b:SS} {fuel n:Nat} {en:En} {h:AH} (P:Nat->En->AH->Prop) (Q:En->AH->Prop) (p0:P n en h) (hn:n<fuel)
  (st:∀ n en h,P n en h->match c en h with
   | .ok true h1=>thn (b en h1) fun e2 h2=>∃ n',n'<n/\P n' e2 h2
   | .ok false h1=>Q en h1
   | _=>False) :
  ∃ e' h',yci c b fuel en h = .nx e' h'/\Q e' h' := by
 refine zei P Q fuel n en h p0 hn fun n en h p=>?_
 have q:=st n en h p
 cases z:c en h with
 | ok x h1 =>
  rw [z] at q
  cases x with
  | true =>
   obtain ⟨e,h2,a,n',l,c⟩:=yfG q
   exact .inr ⟨n',h1,e,h2,l,rfl,a,c⟩
  | false=>exact .inl ⟨h1,rfl,q⟩
 | ex _ _=>rw [z] at q;exact q.elim
 | bad=>rw [z] at q;exact q.elim
@[simp] def yh9 (o:Out AV) (Q:AV->AH->Prop):Prop:=match o with
 | .ok v h=>Q v h
 | _=>False
theorem zfR {js:List Nat} {en:En} {all:List AV} {e:SE} (P:Nat->List AV->AH->Prop):∀ (xs ys:List AV) (i:Nat) (h:AH),P i ys h ->
  (∀ j x ys h,xs[j]? = some x->P (i+j) ys h->∃ v h2,e (some x::js.map fun j=>(en[j]?).join) h = .ok v h2/\P (i+j+1) (ys++[v]) h2)->ys.length+xs.length<=sizeLine ->
  ∃ zs h',yaV js en none all sYes e xs ys h = .ok zs h'/\P (i+xs.length) zs h'
 | [],ys,i,h,p,_,_=>⟨ys,h,by simp [yaV],p⟩
 | x::xs,ys,i,h,p,s,hl=>by
  obtain ⟨v,h2,q1,q2⟩:=s 0 x ys h rfl p
  obtain ⟨zs,h',r1,r2⟩:=zfR P xs (ys++[v]) (i+1) h2 q2 (fun j y ys h hy hp=>by
   have:=s (j+1) y ys h (by simpa using hy) (by rw [show i+(j+1)=i+1+j by lia];exact hp)
   rw [show i+(j+1)+1=i+1+j+1 by lia] at this
   exact this) (by simp at hl ⊢;lia)
  refine ⟨zs,h',?_,by rw [List.length_cons,show i+(xs.length+1)=i+1+xs.length by lia];exact r2⟩
  unfold yaV
  rw [if_pos ⟨rfl,by simp at hl;lia⟩]
  simp only [sYes]
  rw [q1]
  exact r1
theorem yfH {js:List Nat} {en:En} {all:List AV} {e:SE} {xs:List AV} {h:AH} (P:Nat->List AV->AH->Prop) (p0:P 0 [] h)
  (st:∀ j x ys h,xs[j]? = some x->P j ys h->yh9 (e (some x::js.map fun j=>(en[j]?).join) h) fun v h2=>P (j+1) (ys++[v]) h2) (hl:xs.length<=sizeLine) :
  ∃ zs h',yaV js en none all sYes e xs [] h = .ok zs h'/\P xs.length zs h' := by
 have:=zfR (js:=js) (en:=en) (all:=all) (e:=e) P xs [] 0 h p0 (fun j x ys h hx p=>by
  have q:=st j x ys h hx (by simpa using p)
  cases z:e (some x::js.map fun j=>(en[j]?).join) h with
  | ok v h2=>rw [z] at q;exact ⟨v,h2,rfl,by simpa using q⟩
  | ex _ _=>rw [z] at q;exact q.elim
  | bad=>rw [z] at q;exact q.elim) (by simpa using hl)
 simpa using this
theorem zbv:∀ (n:Nat) (lo:Int) (i:Nat),(yaW lo n)[i]? = if i<n then some (.int (lo+i)) else none
 | 0,lo,i=>by simp [yaW]
 | n+1,lo,0=>by simp [yaW]
 | n+1,lo,i+1=>by
  unfold yaW
  rw [List.getElem?_cons_succ,zbv n (lo+1) i]
  by_cases q:i<n
  ·rw [if_pos q,if_pos (by lia)];congr 2;lia
  ·rw [if_neg q,if_neg (by lia)]
theorem zaM:∀ (n:Nat) (lo:Int),(yaW lo n).length=n
 | 0,_=>rfl
 | n+1,lo=>by unfold yaW;rw [List.length_cons,zaM n]
theorem zbc {a:SE} {en:En} {h h1:AH} {n:Nat} (e:a en h = .ok (.int n) h1) (hn:n<=10000000):yba a en h = .ok (yaW 0 n,none) h1:=by
 have h1':(n:Int).natAbs<2 ^ 62:=by lia
 simp only [yba,e,Out.bind]
 rw [if_pos h1'];rfl
theorem ycw {it:SI} {t:Tg} {b:SS} {en:En} {h h1:AH} {xs:List AV} {w:Option Nat} (e:it en h = .ok (xs,w) h1):sFor it t b en h=ycv w xs t b xs en h1:=by simp only [sFor,e]
theorem yeD {i j:Int} {h:AH} (hi:i.natAbs<2 ^ 64):fMul (.int i) (.int j) h = .ok (.int (i*j)) h:=if_pos (.inl (.inl hi))
theorem ye2 {i j:Int} {h:AH} (hj:j.natAbs<2 ^ 64):fMul (.int i) (.int j) h = .ok (.int (i*j)) h:=if_pos (.inl (.inr hj))
theorem zeN {α:Type} {f:α->AV} {l:List α} {j:Nat} {q:α} (e:l[j]? = some q):atI (l.map f) (j:Int)=some (f q):=zdL (by simp [e])
end Sk
set_option exponentiation.threshold 5000
namespace Sk
open PySem PySem.Spec L2 Sm
def yd7 (c:Nat):Bool:=decide (c=10) || (decide (32<=c) && decide (c<=126))
theorem lt1 (a b:Nat):([a]<[b]) ↔ a<b:=by
 simp [List.cons_lt_cons_iff]
theorem yfI:(Str.ofString "\n")=⟨#[10]⟩:=by decide +kernel
theorem yg2:(Str.ofString " ")=⟨#[32]⟩:=by decide +kernel
theorem yg3:(Str.ofString "~")=⟨#[126]⟩:=by decide +kernel
theorem yg4 (c:Nat) (h:AH):yce [.str ⟨#[c]⟩] h = .ok (.bl (yd7 c)) h:=by
 simp [yce,yfI,yg2,yg3,lt1,yd7]
 by_cases h1:c=10
 ·simp [h1]
 ·by_cases h2:c<32
  ·have : ¬ 32<=c:=by lia
   simp [h1,h2,this]
  ·have h3:32<=c:=by lia
   by_cases h4:c<=126
   ·have : ¬ 126<c:=by lia
    simp [h1,h2,h3,h4,this]
   ·have:126<c:=by lia
    simp [h1,h2,h3,h4,this]
theorem zeO {α:Type} {js:List Nat} {en:En} {all:List AV} {e:SE} {g f:α->AV} {h:AH}:∀ (cs:List α) (ys:List AV),(∀ c∈cs,e (some (g c)::js.map fun j=>(en[j]?).join) h = .ok (f c) h)->ys.length+cs.length<=sizeLine->yaV js en none all sYes e (cs.map g) ys h = .ok (ys++cs.map f) h
 | [],ys,_,_=>by simp [yaV]
 | x::xs,ys,he,hl=>by
  have hl':ys.length<sizeLine:=by simp at hl;lia
  rw [List.map_cons]
  unfold yaV
  rw [if_pos ⟨rfl,hl'⟩]
  simp only [sYes]
  rw [he x (by simp)]
  dsimp only
  rw [zeO xs (ys++[f x]) (fun y hy=>he y (by simp [hy])) (by simp at hl ⊢;lia)]
  simp
theorem zej (f:Nat->Bool):∀ cs:List Nat,yd3 (cs.map fun c=>.bl (f c))=some (cs.map f)
 | []=>rfl
 | c::cs=>by simp [zej f cs]
def yaE (x:Str):Bool:=x.cps.toList.all yd7
theorem zfS (x:Str) (h:AH) (hl:x.length<=sizeLine):ydk [.str x] h = .ok (.bl (yaE x)) h:=by
 have e:=zeO (js:=[]) (en:=[some (.str x)]) (all:=x.cps.toList.map fun c=>AV.str ⟨#[c]⟩) (e:=yaf yce (yab (sVar 0) sNil)) (g:=fun c=>AV.str ⟨#[c]⟩) (f:=fun c=>AV.bl (yd7 c)) (h:=h) x.cps.toList [] (by
  intro c hc
  simp [yg4]) (by simp;exact hl)
 simp only [List.nil_append] at e
 simp [ydk]
 rw [e]
 simp [zej,yaE]
def ybP (x:Str):Bool:=yaE x && (decide (1<=x.length) && decide (x.length<=8))
theorem zfT (x:Str) (h:AH) (hl:x.length<=sizeLine):ydM [.str x] h = .ok (.bl (ybP x)) h:=by
 simp [ydM,zfS x h hl,ybP]
 by_cases h1:yaE x=true
 ·by_cases h2:1<=x.length
  ·have:(1:Int)<=x.length:=by lia
   by_cases h3:x.length<=8
   ·have:(x.length:Int)<=8:=by lia
    simp [*]
   ·have : ¬ (x.length:Int)<=8:=by lia
    simp [*]
  ·have : ¬ (1:Int)<=x.length:=by lia
   simp [*]
 ·simp [h1]
def ydN (x:Str):Nat:=(Builtin.Str.occurrences x ⟨#[10]⟩ 0 x.length (x.length+1)).length
theorem yg5 (x:Str) (h:AH):ydY [.str x] h = .ok (.int (ydN x)) h:=by
 simp [ydY,yfI,ydN]
theorem zjc (i:Int) (h:AH):ydL [.int i] h = .ok (.bl true) h:=by
 simp [ydL]
inductive Pc where
 | leaf (x:Str)
 | fork (a b:Nat)
 deriving DecidableEq
def Pc.av:Pc->AV
 | .leaf x=>.tup [.str "leaf",.str x]
 | .fork a b=>.tup [.str "fork",.int a,.int b]
theorem Pc.av_inj:∀ {p q:Pc},p.av=q.av->p=q
 | .leaf x,.leaf y,e=>by simp [Pc.av] at e;rw [e]
 | .leaf x,.fork a b,e=>by simp [Pc.av] at e
 | .fork a b,.leaf x,e=>by simp [Pc.av] at e
 | .fork a b,.fork c d,e=>by simp [Pc.av] at e;rw [Int.ofNat.inj e.1,Int.ofNat.inj e.2]
structure Ms where
 sg:Nat
 en:Nat
 lv:Nat
 ht:Int
 fl:Nat
 ll:Nat
def ms0:Ms:=⟨0,0,0,-1,0,0⟩
def ydn (ms:List Ms):Pc->Ms
 | .leaf x=>⟨x.length,ydN x,1,0,ms.length,ms.length⟩
 | .fork a b=>⟨(ms.getD a ms0).sg+(ms.getD b ms0).sg,(ms.getD a ms0).en+(ms.getD b ms0).en,(ms.getD a ms0).lv+(ms.getD b ms0).lv,max (ms.getD a ms0).ht (ms.getD b ms0).ht+1,(ms.getD a ms0).fl,(ms.getD b ms0).ll⟩
def meas (ps:List Pc):List Ms:=ps.foldl (fun ms q=>ms++[ydn ms q]) [ms0]
theorem zcs (ps:List Pc) (q:Pc):meas (ps++[q])=meas ps++[ydn (meas ps) q]:=by simp [meas]
theorem zat:∀ ps:List Pc,(meas ps).length=ps.length+1:=by
 have all:∀ (ps:List Pc) (ms:List Ms),(ps.foldl (fun ms q=>ms++[ydn ms q]) ms).length=ms.length+ps.length:=by
  intro ps
  induction ps with
  | nil=>intro ms;rfl
  | cons q r ih=>intro ms;rw [List.foldl_cons,ih];simp;lia
 intro ps
 rw [meas,all];simp;lia
def ybv (k:Nat):List Pc->List (AV×AV)
 | []=>[]
 | q::r=>(q.av,.int k)::ybv (k+1) r
def tab (ps:List Pc):List (AV×AV):=ybv 1 ps
theorem zbh (q:Pc):∀ (ps:List Pc) (k:Nat),ybv k (ps++[q])=ybv k ps++[(q.av,.int ((k+ps.length:Nat):Int))]
 | [],k=>by simp [ybv]
 | p::r,k=>by
  simp only [List.cons_append,ybv,zbh q r (k+1)]
  rw [show k+1+r.length=k+(p::r).length by simp;lia]
theorem zfU:∀ (ps:List Pc) (k:Nat),(ybv k ps).length=ps.length
 | [],_=>rfl
 | p::r,k=>by simp [ybv,zfU r]
theorem zb7 {q:Pc}:∀ {ps:List Pc} {k:Nat},q∉ps->valA (ybv k ps) q.av=none
 | [],k,_=>rfl
 | p::r,k,h=>by
  have h1 : ¬ p.av=q.av:=fun e=>h (by rw [Pc.av_inj e];simp)
  have h2:=zb7 (q:=q) (ps:=r) (k:=k+1) fun z=>h (by simp [z])
  unfold valA at h2 ⊢
  simp only [ybv,List.find?_cons,decide_eq_false h1]
  exact h2
theorem zda {q:Pc}:∀ {ps:List Pc} {k i:Nat},ps.Nodup->ps[i]? = some q->valA (ybv k ps) q.av=some (.int ((k+i:Nat):Int))
 | [],k,i,_,e=>by simp at e
 | p::r,k,0,n,e=>by simp at e;subst e;simp [valA,ybv]
 | p::r,k,i+1,n,e=>by
  simp at e
  have h1 : ¬ p.av=q.av:=fun z=>(List.nodup_cons.mp n).1 (by rw [Pc.av_inj z];exact List.mem_of_getElem? e)
  have h2:=zda (q:=q) (k:=k+1) (List.nodup_cons.mp n).2 e
  unfold valA at h2 ⊢
  simp only [ybv,List.find?_cons,decide_eq_false h1]
  rw [h2]
  congr 3
  lia
theorem zjd {q:Pc} {ps:List Pc} (h:q∉ps):putA (tab ps) q.av (.int ((ps.length+1:Nat):Int))=tab (ps++[q]):=by
 unfold putA
 rw [zfJ,tab,zb7 h,tab,zbh]
 simp [Nat.add_comm]
structure ShelfAt (h:AH) (p:Nat) (ps:List Pc):Prop where
 ob:h[p]? = some (.ins 0 [some (.ref (p+1)),some (.ref (p+2)),some (.ref (p+3)),some (.ref (p+4)),some (.ref (p+5)),some (.ref (p+6)),some (.ref (p+7)),some (.ref (p+8))])
 h1:h[p+1]? = some (.lst (ps.map Pc.av))
 h2:h[p+2]? = some (.dct true (tab ps))
 h3:h[p+3]? = some (.lst ((meas ps).map fun m=>.int m.sg))
 h4:h[p+4]? = some (.lst ((meas ps).map fun m=>.int m.en))
 h5:h[p+5]? = some (.lst ((meas ps).map fun m=>.int m.lv))
 h6:h[p+6]? = some (.lst ((meas ps).map fun m=>.int m.ht))
 h7:h[p+7]? = some (.lst ((meas ps).map fun m=>.int m.fl))
 h8:h[p+8]? = some (.lst ((meas ps).map fun m=>.int m.ll))
def ycJ (h:AH) (p:Nat) (ps:List Pc):AH :=
 (((((((h.set (p+1) (.lst (ps.map Pc.av))).set (p+2) (.dct true (tab ps))).set (p+3) (.lst ((meas ps).map fun m=>.int m.sg))).set (p+4) (.lst ((meas ps).map fun m=>.int m.en))).set (p+5) (.lst ((meas ps).map fun m=>.int m.lv))).set
  (p+6) (.lst ((meas ps).map fun m=>.int m.ht))).set (p+7) (.lst ((meas ps).map fun m=>.int m.fl))).set (p+8) (.lst ((meas ps).map fun m=>.int m.ll))
theorem yaM {h:AH} {i:Nat} {o:AO} (e:h[i]? = some o):i<h.length:=(List.getElem?_eq_some_iff.mp e).1
theorem zek (h:AH) (p:Nat) (ps:List Pc):(ycJ h p ps).length=h.length:=by simp [ycJ]
theorem zeP {h:AH} {p q:Nat} {ps:List Pc} (hq:q<=p\/p+8<q):(ycJ h p ps)[q]? = h[q]? := by
 unfold ycJ
 repeat rw [List.getElem?_set_ne (by lia)]
theorem zb8 {h:AH} {p:Nat} {ps ps':List Pc} (S:ShelfAt h p ps):ShelfAt (ycJ h p ps') p ps' := by
 have b:=yaM S.h8
 have l1:p+1<h.length:=Nat.lt_of_le_of_lt (Nat.add_le_add_left (by decide) p) b
 have l2:p+2<h.length:=Nat.lt_of_le_of_lt (Nat.add_le_add_left (by decide) p) b
 have l3:p+3<h.length:=Nat.lt_of_le_of_lt (Nat.add_le_add_left (by decide) p) b
 have l4:p+4<h.length:=Nat.lt_of_le_of_lt (Nat.add_le_add_left (by decide) p) b
 have l5:p+5<h.length:=Nat.lt_of_le_of_lt (Nat.add_le_add_left (by decide) p) b
 have l6:p+6<h.length:=Nat.lt_of_le_of_lt (Nat.add_le_add_left (by decide) p) b
 have l7:p+7<h.length:=Nat.lt_of_le_of_lt (Nat.add_le_add_left (by decide) p) b
 have ob:=S.ob
 constructor<;>simp [ycJ,List.getElem?_set,l1,l2,l3,l4,l5,l6,l7,b,ob,-List.getElem?_eq_getElem]
theorem lenA {α:Type} (l:List α) (f:α->AV):(l.map f).length=l.length:=by simp
theorem yed {h:AH} {p:Nat} {ps:List Pc} (S:ShelfAt h p ps):ybB [.ref p] h = .ok (.int ps.length) h:=by
 simp [ybB,S.ob,S.h1]
theorem yia {h:AH} {p:Nat} {ps:List Pc} {i:Int} (S:ShelfAt h p ps):ych [.ref p,.int i] h = .ok (.bl (decide (1<=i/\i<=ps.length))) h:=by
 simp [ych,zjc,S.ob,S.h1]
 by_cases h1:1<=i<;>simp [h1]
theorem zb9 {h:AH} {p:Nat} {ps:List Pc} {i:Int} (S:ShelfAt h p ps) (hi:1<=i/\i<=ps.length):ya4 [.ref p,.int i] h = .ok .non h:=by
 simp [ya4,yia S,S.ob,hi.1,hi.2]
theorem zap {α:Type} {f:α->AV} {l:List α} {j:Nat} {q:α} (e:l[j]? = some q):atI (l.map f) (j:Int)=some (f q):=zdL (by simp [e])
theorem zje {h:AH} {p:Nat} {ps:List Pc} {j:Nat} {q:Pc} (S:ShelfAt h p ps) (e:ps[j]? = some q):yaG [.ref p,.int ((j:Int)+1)] h = .ok q.av h:=by
 have hj:=(List.getElem?_eq_some_iff.mp e).1
 have h1:=zb9 S (i:=(j:Int)+1) ⟨by lia,by lia⟩
 simp [yaG,h1,S.ob,S.h1,zap e]
theorem yf3 {h:AH} {p:Nat} {ps:List Pc} {q:Pc} (S:ShelfAt h p ps) (hq:q∉ps) (hl:ps.length<16000000) :
  yc4 [.ref p,q.av] h = .ok (.int ((ps.length+1:Nat):Int)) ((h.set (p+1) (.lst ((ps++[q]).map Pc.av))).set (p+2) (.dct true (tab (ps++[q])))):=by
 have b:=yaM S.h8
 have hs:ps.length<sizeLine:=Nat.lt_trans hl (by decide)
 have ht:(tab ps).length<sizeLine:=by rw [tab,zfU];exact hs
 have hk:ydJ true q.av=true:=by cases q<;>simp [Pc.av]
 have e1:(h.set (p+1) (.lst (ps.map Pc.av++[q.av])))[p]? = h[p]? := List.getElem?_set_ne (by lia)
 have e2:(h.set (p+1) (.lst (ps.map Pc.av++[q.av])))[p+1]? = some (.lst (ps.map Pc.av++[q.av])):=List.getElem?_set_self (by lia)
 have e3:(h.set (p+1) (.lst (ps.map Pc.av++[q.av])))[p+2]? = h[p+2]? := List.getElem?_set_ne (by lia)
 have tp:=zjd hq
 simp [yc4,S.ob,S.h1,hs,e1,e2,e3,S.h2,hk,ht,-ydJ]
 rw [show ((ps.length:Int)+1)=((ps.length+1:Nat):Int) by simp,tp]
theorem zhf {h:AH} {p:Nat} {ps:List Pc} {x:Str} (S:ShelfAt h p ps) (hq:Pc.leaf x∉ps) (hl:ps.length<16000000) :
  yb1 [.ref p,(Pc.leaf x).av] h = .ok .non (ycJ h p (ps++[.leaf x])):=by
 have b:=yaM S.h8
 have hs:ps.length+1<sizeLine:=Nat.lt_of_lt_of_le (Nat.succ_lt_succ hl) (by decide)
 have hm:(meas ps).length<sizeLine:=by rw [zat];exact hs
 have e:=yf3 S hq hl
 have b2:((meas ps).length:Int)=(ps.length:Int)+1:=by rw [zat];simp
 have e2:fIx (Pc.leaf x).av (.int 1)=fun h=>Out.ok (.str x) h:=by funext h;rfl
 have l1:p+1<h.length:=by lia
 have l2:p+2<h.length:=by lia
 have l3:p+3<h.length:=by lia
 have l4:p+4<h.length:=by lia
 have l5:p+5<h.length:=by lia
 have l6:p+6<h.length:=by lia
 have l7:p+7<h.length:=by lia
 simp [yb1,e,S.ob,S.h3,S.h4,S.h5,S.h6,S.h7,S.h8,hm,yg5,List.getElem?_set,zcs,ydn,ycJ,e2,zat,hs,-fIx,-List.getElem?_eq_getElem]
theorem zfV {α:Type} {l:List α} {i:Nat} {d x:α} (e:l[i]? = some x):l.getD i d=x:=by simp [List.getD,e]
theorem zhg {h:AH} {p:Nat} {ps:List Pc} {a b:Nat} {ma mb:Ms} (S:ShelfAt h p ps) (hq:Pc.fork a b∉ps) (hl:ps.length<16000000) (ha:(meas ps)[a]? = some ma) (hb:(meas ps)[b]? = some mb) :
  yb0 [.ref p,(Pc.fork a b).av] h = .ok .non (ycJ h p (ps++[.fork a b])):=by
 have bb:=yaM S.h8
 have hs:ps.length+1<sizeLine:=Nat.lt_of_lt_of_le (Nat.succ_lt_succ hl) (by decide)
 have hm:(meas ps).length<sizeLine:=by rw [zat];exact hs
 have e:=yf3 S hq hl
 have e2:fIx (Pc.fork a b).av (.int 1)=fun h=>Out.ok (.int a) h:=by funext h;rfl
 have e3:fIx (Pc.fork a b).av (.int 2)=fun h=>Out.ok (.int b) h:=by funext h;rfl
 have l1:p+1<h.length:=by lia
 have l2:p+2<h.length:=by lia
 have l3:p+3<h.length:=by lia
 have l4:p+4<h.length:=by lia
 have l5:p+5<h.length:=by lia
 have l6:p+6<h.length:=by lia
 have l7:p+7<h.length:=by lia
 have fx:∀ (n:Nat) (g:Ms->AV) (h':AH),h'[n]? = some (.lst ((meas ps).map g))->fIx (.ref n) (.int a) h' = .ok (g ma) h'/\fIx (.ref n) (.int b) h' = .ok (g mb) h' := fun n g h' e=>by
  simp [fIx,e,zap ha,zap hb]
 have f3:=fun (h':AH) (e:h'[p+3]? = some (.lst ((meas ps).map fun m=>.int m.sg)))=>fx _ _ h' e
 have f4:=fun (h':AH) (e:h'[p+4]? = some (.lst ((meas ps).map fun m=>.int m.en)))=>fx _ _ h' e
 have f5:=fun (h':AH) (e:h'[p+5]? = some (.lst ((meas ps).map fun m=>.int m.lv)))=>fx _ _ h' e
 have f6:=fun (h':AH) (e:h'[p+6]? = some (.lst ((meas ps).map fun m=>.int m.ht)))=>fx _ _ h' e
 have f7:=fun (h':AH) (e:h'[p+7]? = some (.lst ((meas ps).map fun m=>.int m.fl)))=>fx _ _ h' e
 have f8:=fun (h':AH) (e:h'[p+8]? = some (.lst ((meas ps).map fun m=>.int m.ll)))=>fx _ _ h' e
 have hmax:∀ i j:Int,(if j > i then j else i)=max i j:=fun i j=>by split<;>lia
 simp [yb0,e,S.ob,S.h3,S.h4,S.h5,S.h6,S.h7,S.h8,hm,List.getElem?_set,zcs,ydn,ycJ,e2,e3,zat,hs,zap ha,zap hb,zfV ha,zfV hb,-fIx,-List.getElem?_eq_getElem,-List.getD_eq_getElem?_getD,f3,f4,f5,f6,f7,f8,hmax]
theorem zca {h:AH} {p:Nat} {ps:List Pc} {x:Str} {i:Nat} (S:ShelfAt h p ps) (nd:ps.Nodup) (hx:ybP x=true) (hl:x.length<=sizeLine) (e:ps[i]? = some (.leaf x)):yaK [.ref p,.str x] h = .ok (.int ((i+1:Nat):Int)) h:=by
 have t:=zda (k:=1) nd e
 have t':valA (tab ps) (.tup [.str "leaf",.str x])=some (.int ((i+1:Nat):Int)):=by rw [Nat.add_comm];exact t
 simp [yaK,zfT x h hl,hx,S.ob,S.h2,t']
theorem zgu {h:AH} {p:Nat} {ps:List Pc} {x:Str} (S:ShelfAt h p ps) (hx:ybP x=true) (hl:x.length<=sizeLine) (hq:Pc.leaf x∉ps) (hz:ps.length<16000000):yaK [.ref p,.str x] h = .ok (.int ((ps.length+1:Nat):Int)) (ycJ h p (ps++[.leaf x])):=by
 have t:valA (tab ps) (.tup [.str "leaf",.str x])=none:=zb7 (q:=.leaf x) (k:=1) hq
 have S2:=zb8 (ps' := ps++[.leaf x]) S
 have e:=zhf S hq hz
 have t2:valA (tab (ps++[.leaf x])) (.tup [.str "leaf",.str x])=some (.int ((ps.length+1:Nat):Int)):=by
  unfold tab
  rw [zbh]
  unfold valA at t ⊢
  rw [List.find?_append]
  have t3:(ybv 1 ps).find? (fun p=>decide (p.1 = .tup [.str "leaf",.str x]))=none:=by simpa [tab] using t
  rw [t3]
  simp [Pc.av,Nat.add_comm]
 have e':yb1 [.ref p,.tup [.str "leaf",.str x]] h = .ok .non (ycJ h p (ps++[.leaf x])):=e
 simp [yaK,zfT x h hl,hx,S.ob,S.h2,t,e',S2.ob,S2.h2,t2]
theorem zh5 {h:AH} {p:Nat} {ps:List Pc} {a b:Nat} {ma mb la fb:Ms} (S:ShelfAt h p ps) (ha:(meas ps)[a]? = some ma) (hb:(meas ps)[b]? = some mb) (pa:1<=a) (pb:1<=b) (hla:(meas ps)[ma.ll]? = some la) (hfb:(meas ps)[mb.fl]? = some fb) :
  ya1 [.ref p,.int a,.int b] h=if la.sg+fb.sg<=8 then .ex yfR h else if 1<(ma.ht-mb.ht).natAbs then .ex yff h else if 1000000000000000000<ma.sg+mb.sg then .ex yfg h else .ok .non h:=by
 have la_:=(List.getElem?_eq_some_iff.mp ha).1
 have lb_:=(List.getElem?_eq_some_iff.mp hb).1
 rw [zat] at la_ lb_
 have c1:=zb9 S (i:=(a:Int)) ⟨by lia,by lia⟩
 have c2:=zb9 S (i:=(b:Int)) ⟨by lia,by lia⟩
 by_cases d1:la.sg+fb.sg<=8
 ·have d1':((la.sg:Int)+fb.sg)<=8:=by lia
  simp [ya1,c1,c2,S.ob,S.h3,S.h5,S.h6,S.h7,S.h8,zap ha,zap hb,zap hla,zap hfb,d1,d1']
 ·have d1' : ¬ ((la.sg:Int)+fb.sg)<=8:=by lia
  by_cases d2:1<(ma.ht-mb.ht).natAbs
  ·have d2':(1:Int)<(if ma.ht-mb.ht<0 then -(ma.ht-mb.ht) else ma.ht-mb.ht):=by split<;>lia
   simp [ya1,c1,c2,S.ob,S.h3,S.h5,S.h6,S.h7,S.h8,zap ha,zap hb,zap hla,zap hfb,d1,d1',d2,d2',-Int.neg_sub]
  ·have d2' : ¬ (1:Int)<(if ma.ht-mb.ht<0 then -(ma.ht-mb.ht) else ma.ht-mb.ht):=by split<;>lia
   by_cases d3:1000000000000000000<ma.sg+mb.sg
   ·have d3':(1000000000000000000:Int)<(ma.sg:Int)+mb.sg:=by lia
    simp [ya1,c1,c2,S.ob,S.h3,S.h5,S.h6,S.h7,S.h8,zap ha,zap hb,zap hla,zap hfb,d1,d1',d2,d2',d3,d3',-Int.neg_sub]
   ·have d3' : ¬ (1000000000000000000:Int)<(ma.sg:Int)+mb.sg:=by lia
    simp [ya1,c1,c2,S.ob,S.h3,S.h5,S.h6,S.h7,S.h8,zap ha,zap hb,zap hla,zap hfb,d1,d1',d2,d2',d3,d3',-Int.neg_sub]
structure ForkOk (ps:List Pc) (a b:Nat):Prop where
 pa:1<=a
 pb:1<=b
 ex:∃ ma mb la fb,(meas ps)[a]? = some ma/\(meas ps)[b]? = some mb/\(meas ps)[ma.ll]? = some la/\(meas ps)[mb.fl]? = some fb/\8<la.sg+fb.sg/\(ma.ht-mb.ht).natAbs<=1/\ma.sg+mb.sg<=1000000000000000000
theorem zcZ {h:AH} {p:Nat} {ps:List Pc} {a b:Nat} (S:ShelfAt h p ps) (F:ForkOk ps a b):ya1 [.ref p,.int a,.int b] h = .ok .non h:=by
 obtain ⟨ma,mb,la,fb,h1,h2,h3,h4,h5,h6,h7⟩:=F.ex
 rw [zh5 S h1 h2 F.pa F.pb h3 h4,if_neg (by lia),if_neg (by lia),if_neg (by lia)]
theorem zcb {h:AH} {p:Nat} {ps:List Pc} {a b i:Nat} (S:ShelfAt h p ps) (nd:ps.Nodup) (F:ForkOk ps a b) (e:ps[i]? = some (.fork a b)):yah [.ref p,.int a,.int b] h = .ok (.int ((i+1:Nat):Int)) h:=by
 have t:=zda (k:=1) nd e
 have t':valA (tab ps) (.tup [.str "fork",.int a,.int b])=some (.int ((i+1:Nat):Int)):=by rw [Nat.add_comm];exact t
 simp [yah,zcZ S F,S.ob,S.h2,t']
theorem zgv {h:AH} {p:Nat} {ps:List Pc} {a b:Nat} (S:ShelfAt h p ps) (F:ForkOk ps a b) (hq:Pc.fork a b∉ps) (hz:ps.length<16000000):yah [.ref p,.int a,.int b] h = .ok (.int ((ps.length+1:Nat):Int)) (ycJ h p (ps++[.fork a b])):=by
 have t:valA (tab ps) (.tup [.str "fork",.int a,.int b])=none:=zb7 (q:=.fork a b) (k:=1) hq
 have S2:=zb8 (ps' := ps++[.fork a b]) S
 obtain ⟨ma,mb,la,fb,h1,h2,_⟩:=F.ex
 have e:=zhg S hq hz h1 h2
 have t2:valA (tab (ps++[.fork a b])) (.tup [.str "fork",.int a,.int b])=some (.int ((ps.length+1:Nat):Int)):=by
  unfold tab
  rw [zbh]
  unfold valA at t ⊢
  rw [List.find?_append]
  have t3:(ybv 1 ps).find? (fun p=>decide (p.1 = .tup [.str "fork",.int a,.int b]))=none:=by simpa [tab] using t
  rw [t3]
  simp [Pc.av,Nat.add_comm]
 have e':yb0 [.ref p,.tup [.str "fork",.int a,.int b]] h = .ok .non (ycJ h p (ps++[.fork a b])):=e
 simp [yah,zcZ S F,S.ob,S.h2,t,e',S2.ob,S2.h2,t2]
def yda (n:Nat):List AO:=[.ins 0 [some (.ref (n+1)),some (.ref (n+2)),some (.ref (n+3)),some (.ref (n+4)),some (.ref (n+5)),some (.ref (n+6)),some (.ref (n+7)),some (.ref (n+8))],.lst [],.dct true [],.lst [.int 0],.lst [.int 0],.lst [.int 0],.lst [.int (-1)],.lst [.int 0],.lst [.int 0]]
theorem zjf {h:AH} {o o':AO} {r:AH}:(h++o::r).set h.length o'=h++o'::r:=by
 induction h with
 | nil=>rfl
 | cons x t ih=>simp [ih]
theorem yg6 (en:En) (h:AH):yeL 0 8 ycL sNil en h = .ok (.ref h.length) (h++yda h.length):=by
 simp [ycL,yda,List.getElem?_append,zjf]
theorem yfJ {h r:AH} {k:Nat}:(h++r)[h.length+k]? = r[k]? := by
 rw [List.getElem?_append_right (by lia)];simp
theorem yg7 (h r:AH):ShelfAt (h++(yda h.length++r)) h.length []:=by
 refine ⟨?_,?_,?_,?_,?_,?_,?_,?_,?_⟩
 ·rw [show h.length=h.length+0 from rfl,yfJ];rfl
 all_goals (rw [yfJ];rfl)
theorem zfW (x:Str) (c i:Nat) (hi:i<x.length):Builtin.Str.subAt x ⟨#[c]⟩ i=decide (x.cps.toList[i]? = some c):=by
 have hi':i<x.cps.size:=hi
 unfold Builtin.Str.subAt
 have e:x.cps.extract i (i+1) = #[x.cps[i]]:=by
  apply Array.ext
  ·simp;lia
  ·intro j h1 h2
   have:j=0:=by simp at h2;lia
   subst this
   simp
 show (x.cps.extract i (i+1) == #[c])=_
 rw [e]
 have:x.cps.toList[i]? = some x.cps[i]:=by simp [hi']
 rw [this]
 by_cases q:x.cps[i]=c
 ·simp [q]
 ·simp [q]
theorem yeE (x:Str) (c:Nat):∀ (n i:Nat) (st:Array Nat×Nat),i+n=x.length+1->st.2<=i->st.1.size<=i->(forIn (List.range' i n) st (StrLaws.occBody x ⟨#[c]⟩ x.length (x.length+1))).run.fst.size=st.1.size+(x.cps.toList.drop i).count c
 | 0,i,st,hn,_,_=>by
  rw [List.drop_of_length_le (by simp;simp only [Str.length] at hn;lia)]
  simp
 | n+1,i,st,hn,h2,h3=>by
  rw [List.range'_succ,List.forIn_cons]
  unfold StrLaws.occBody
  by_cases hi:i<x.length
  ·have hi':i<x.cps.size:=hi
   have hd:x.cps.toList.drop i=x.cps[i]'hi'::x.cps.toList.drop (i+1):=by
    rw [List.drop_eq_getElem_cons (show i<x.cps.toList.length by simpa using hi')];simp
   have hg:x.cps.toList[i]? = some (x.cps[i]'hi'):=by
    simp [hi']
   by_cases q:x.cps[i]'hi'=c
   ·have hs:Builtin.Str.subAt x ⟨#[c]⟩ i=true:=by rw [zfW x c i hi,hg,q];simp
    rw [if_pos ⟨⟨⟨by lia,h2⟩,hi⟩,hs⟩]
    show (forIn (List.range' (i+1) n) (st.1.push i,i+1) (StrLaws.occBody x ⟨#[c]⟩ x.length (x.length+1))).run.fst.size=_
    rw [yeE x c n (i+1) _ (by lia) (Nat.le_refl _) (by simp;lia),hd,q]
    simp;lia
   ·have hs:Builtin.Str.subAt x ⟨#[c]⟩ i=false:=by rw [zfW x c i hi,hg];simp [q]
    rw [if_neg (by simp [hs])]
    show (forIn (List.range' (i+1) n) (st.1,st.2) (StrLaws.occBody x ⟨#[c]⟩ x.length (x.length+1))).run.fst.size=_
    rw [yeE x c n (i+1) _ (by lia) (by show st.2<=i+1;lia) (by show st.1.size<=i+1;lia),hd]
    simp [q]
  ·rw [if_neg (by rintro ⟨⟨_,z⟩,_⟩;exact hi z)]
   show (forIn (List.range' (i+1) n) (st.1,st.2) (StrLaws.occBody x ⟨#[c]⟩ x.length (x.length+1))).run.fst.size=_
   rw [yeE x c n (i+1) _ (by lia) (by show st.2<=i+1;lia) (by show st.1.size<=i+1;lia)]
   rw [List.drop_of_length_le (by simp;simp only [Str.length] at hi;lia),List.drop_of_length_le (by simp;simp only [Str.length] at hi;lia)]
theorem zhh (x:Str) (c:Nat):(Builtin.Str.occurrences x ⟨#[c]⟩ 0 x.length (x.length+1)).length=x.cps.toList.count c:=by
 rw [StrLaws.occ_eq,Array.length_toList]
 rw [show x.length+1-0=x.length+1 from rfl,yeE x c (x.length+1) 0 _ (by lia) (Nat.le_refl _) (by simp)]
 simp
theorem zcc (x:Str):ydN x=x.cps.toList.count 10:=zhh x 10
theorem zai (x y:Str):(x++y).cps.toList=x.cps.toList++y.cps.toList:=by
 show (x.cps++y.cps).toList=_
 simp
theorem zh6 (x y:Str):ydN (x++y)=ydN x+ydN y:=by
 rw [zcc,zcc,zcc,zai,List.count_append]
theorem zad (x:Str):x.length=x.cps.toList.length:=by simp [Str.length]
theorem zaj (x y:Str):(x++y).length=x.length+y.length:=by
 rw [zad,zad,zad,zai,List.length_append]
def yea (rs:List Str):Pc->Str
 | .leaf x=>x
 | .fork a b=>rs.getD a "" ++ rs.getD b ""
def reads (ps:List Pc):List Str:=ps.foldl (fun rs q=>rs++[yea rs q]) [""]
theorem zgw (ps:List Pc) (q:Pc):reads (ps++[q])=reads ps++[yea (reads ps) q]:=by simp [reads]
theorem zbL {α β:Type} (g:List β->α->β):∀ (qs:List α) (ms:List β),∃ r,qs.foldl (fun ms q=>ms++[g ms q]) ms=ms++r/\r.length=qs.length
 | [],ms=>⟨[],by simp,rfl⟩
 | q::qs,ms=>by
  obtain ⟨r,e,l⟩:=zbL g qs (ms++[g ms q])
  exact ⟨g ms q::r,by rw [List.foldl_cons,e];simp,by simp [l]⟩
theorem zbR (ps:List Pc):(reads ps).length=ps.length+1:=by
 obtain ⟨r,e,l⟩:=zbL yea ps [""]
 rw [reads,e];simp [l,Nat.add_comm]
theorem zh7 (ps qs:List Pc):∃ r,meas (ps++qs)=meas ps++r:=by
 unfold meas
 rw [List.foldl_append]
 obtain ⟨r,e,_⟩:=zbL ydn qs (ps.foldl (fun ms q=>ms++[ydn ms q]) [ms0])
 exact ⟨r,e⟩
theorem zhi (ps qs:List Pc):∃ r,reads (ps++qs)=reads ps++r:=by
 unfold reads
 rw [List.foldl_append]
 obtain ⟨r,e,_⟩:=zbL yea qs (ps.foldl (fun ms q=>ms++[yea ms q]) [""])
 exact ⟨r,e⟩
theorem zac {ps ps':List Pc} (h:ps <+: ps') {n:Nat} {m:Ms} (e:(meas ps)[n]? = some m):(meas ps')[n]? = some m:=by
 obtain ⟨qs,rfl⟩:=h
 obtain ⟨r,q⟩:=zh7 ps qs
 rw [q,List.getElem?_append_left (List.getElem?_eq_some_iff.mp e).1];exact e
theorem zbS {ps ps':List Pc} (h:ps <+: ps') {n:Nat} {m:Str} (e:(reads ps)[n]? = some m):(reads ps')[n]? = some m:=by
 obtain ⟨qs,rfl⟩:=h
 obtain ⟨r,q⟩:=zhi ps qs
 rw [q,List.getElem?_append_left (List.getElem?_eq_some_iff.mp e).1];exact e
theorem zcd (ps:List Pc) (i:Nat):ps.take i <+: ps:=List.take_prefix i ps
theorem zdb {ps:List Pc} {i:Nat} {q:Pc} (e:ps[i]? = some q):(ps.take i++[q]) <+: ps/\(ps.take i).length=i:=by
 have hi:=(List.getElem?_eq_some_iff.mp e).1
 have:ps.take (i+1)=ps.take i++[q]:=by
  rw [List.take_succ,e];rfl
 exact ⟨this▸List.take_prefix _ _,by simp;lia⟩
theorem zfX {ps:List Pc} {i:Nat} {q:Pc} (e:ps[i]? = some q):(meas ps)[i+1]? = some (ydn (meas (ps.take i)) q):=by
 obtain ⟨h,l⟩:=zdb e
 refine zac h ?_
 rw [zcs,List.getElem?_append_right (by rw [zat,l];lia),zat,l]
 simp
theorem zeQ {ps:List Pc} {i:Nat} {q:Pc} (e:ps[i]? = some q):(reads ps)[i+1]? = some (yea (reads (ps.take i)) q):=by
 obtain ⟨h,l⟩:=zdb e
 refine zbS h ?_
 rw [zgw,List.getElem?_append_right (by rw [zbR,l];lia),zbR,l]
 simp
def PcOk (ps:List Pc):Pc->Prop
 | .leaf x=>ybP x=true
 | .fork a b=>ForkOk ps a b
inductive Good:List Pc->Prop
 | nil:Good []
 | snoc {ps:List Pc} {q:Pc}:Good ps->q∉ps->PcOk ps q->Good (ps++[q])
theorem Good.nodup {ps:List Pc} (g:Good ps):ps.Nodup:=by
 induction g with
 | nil=>exact List.nodup_nil
 | snoc g n ok ih=>exact List.nodup_append.mpr ⟨ih,by simp,fun a ha b hb=>by simp at hb;subst hb;exact fun e=>n (e▸ha)⟩
theorem Good.get {ps:List Pc} (g:Good ps):∀ {i:Nat} {q:Pc},ps[i]? = some q->PcOk (ps.take i) q:=by
 induction g with
 | nil=>intro i q e;simp at e
 | @snoc ps q' g n ok ih =>
  intro i q e
  by_cases hi:i<ps.length
  ·rw [List.getElem?_append_left hi] at e
   rw [List.take_append_of_le_length (by lia)]
   exact ih e
  ·have hi2:i=ps.length:=by
    have:=(List.getElem?_eq_some_iff.mp e).1
    simp at this;lia
   subst hi2
   simp at e
   subst e
   simpa using ok
theorem ForkOk.pre {ps ps':List Pc} {a b:Nat} (F:ForkOk ps a b) (h:ps <+: ps'):ForkOk ps' a b:=by
 obtain ⟨ma,mb,la,fb,h1,h2,h3,h4,h5⟩:=F.ex
 exact ⟨F.pa,F.pb,ma,mb,la,fb,zac h h1,zac h h2,zac h h3,zac h h4,h5⟩
structure Ky (ps:List Pc) (m:Ms) (x:Str) (f l:Ms):Prop where
 fl:(meas ps)[m.fl]? = some f
 ll:(meas ps)[m.ll]? = some l
 sg:m.sg=x.length
 en:m.en=ydN x
 f1:1<=f.sg
 f8:f.sg<=8
 l1:1<=l.sg
 l8:l.sg<=8
 lv:1<=m.lv
 ht:0<=m.ht
 most:m.sg<=1000000000000000000
 cnt:∃ k,(m.lv=2*k+1/\9*k+f.sg<=m.sg/\9*k+l.sg<=m.sg)\/(m.lv=2*k+2/\9*k+9<=m.sg/\9*k+f.sg+l.sg<=m.sg)
 pl:yaE x=true
structure Tx (ps:List Pc) (n:Nat) (m:Ms) (x:Str) (f l:Ms):Prop where
 n1:1<=n
 ms:(meas ps)[n]? = some m
 rd:(reads ps)[n]? = some x
 ky:Ky ps m x f l
theorem Ky.pre {ps ps':List Pc} {m:Ms} {x:Str} {f l:Ms} (k:Ky ps m x f l) (h:ps <+: ps'):Ky ps' m x f l :=
 { k with fl:=zac h k.fl,ll:=zac h k.ll }
theorem Tx.pre {ps ps':List Pc} {n:Nat} {m:Ms} {x:Str} {f l:Ms} (k:Tx ps n m x f l) (h:ps <+: ps'):Tx ps' n m x f l :=
 ⟨k.n1,zac h k.ms,zbS h k.rd,k.ky.pre h⟩
theorem Tx.le {ps:List Pc} {n:Nat} {m:Ms} {x:Str} {f l:Ms} (k:Tx ps n m x f l):n<=ps.length:=by
 have:=(List.getElem?_eq_some_iff.mp k.ms).1
 rw [zat] at this;lia
def ydS (ma mb:Ms):Ms:=⟨ma.sg+mb.sg,ma.en+mb.en,ma.lv+mb.lv,max ma.ht mb.ht+1,ma.fl,mb.ll⟩
theorem zaQ (x y:Str):yaE (x++y)=(yaE x && yaE y):=by unfold yaE;rw [zai,List.all_append]
theorem kf1 {n n' s s' f l f' l':Nat} (a:∃ k,(n=2*k+1/\9*k+f<=s/\9*k+l<=s)\/(n=2*k+2/\9*k+9<=s/\9*k+f+l<=s)) (b:∃ k,(n'=2*k+1/\9*k+f'<=s'/\9*k+l'<=s')\/(n'=2*k+2/\9*k+9<=s'/\9*k+f'+l'<=s')) (hs:8<l+f') :
  ∃ k,(n+n'=2*k+1/\9*k+f<=s+s'/\9*k+l'<=s+s')\/(n+n'=2*k+2/\9*k+9<=s+s'/\9*k+f+l'<=s+s'):=by
 obtain ⟨k,⟨rfl,a1,a2⟩ | ⟨rfl,a1,a2⟩⟩:=a<;>obtain ⟨k',⟨rfl,b1,b2⟩ | ⟨rfl,b1,b2⟩⟩:=b
 ·exact ⟨k+k',.inr ⟨by lia,by lia,by lia⟩⟩
 ·exact ⟨k+k'+1,.inl ⟨by lia,by lia,by lia⟩⟩
 ·exact ⟨k+k'+1,.inl ⟨by lia,by lia,by lia⟩⟩
 ·exact ⟨k+k'+1,.inr ⟨by lia,by lia,by lia⟩⟩
theorem Ky.sg1 {ps:List Pc} {m:Ms} {x:Str} {f l:Ms} (k:Ky ps m x f l):1<=m.sg:=by
 have f1:=k.f1
 obtain ⟨k,⟨_,a,_⟩ | ⟨_,a,_⟩⟩:=k.cnt
 ·exact Nat.le_trans f1 (Nat.le_trans (Nat.le_add_left _ _) a)
 ·exact Nat.le_trans (Nat.le_add_left 1 (9*k+8)) a
theorem Ky.fork {ps:List Pc} {ma mb fa la fb lb:Ms} {x y:Str} (A:Ky ps ma x fa la) (B:Ky ps mb y fb lb) (hs:8<la.sg+fb.sg) (hm:ma.sg+mb.sg<=1000000000000000000):Ky ps (ydS ma mb) (x++y) fa lb:=by
 have k:=kf1 A.cnt B.cnt hs
 refine ⟨A.fl,B.ll,?_,?_,A.f1,A.f8,B.l1,B.l8,Nat.le_trans A.lv (Nat.le_add_right _ _),?_,hm,k,?_⟩
 ·show ma.sg+mb.sg=_;rw [zaj,A.sg,B.sg]
 ·show ma.en+mb.en=_;rw [zh6,A.en,B.en]
 ·have a4:=A.ht
  show 0<=max ma.ht mb.ht+1
  clear k hs hm;lia
 ·rw [zaQ,A.pl,B.pl];rfl
theorem zct {x:Str} (h:ybP x=true):1<=x.length/\x.length<=8/\yaE x=true:=by
 simp [ybP] at h;exact ⟨h.2.1,h.2.2,h.1⟩
theorem zbd {α:Type} {l:List α} {i:Nat} {d x:α} (e:l[i]? = some x):l.getD i d=x:=by simp [List.getD,e]
def lfMs (x:Str) (n:Nat):Ms:=⟨x.length,ydN x,1,0,n,n⟩
theorem zb0 {ps:List Pc} (g:Good ps) {i:Nat} {x:Str} (e:ps[i]? = some (.leaf x)):Tx ps (i+1) (lfMs x (i+1)) x (lfMs x (i+1)) (lfMs x (i+1)):=by
 have hi:=(List.getElem?_eq_some_iff.mp e).1
 have ok:ybP x=true:=g.get e
 obtain ⟨s1,s2,s3⟩:=zct ok
 have li:(ps.take i).length=i:=by simp;lia
 have ml:(meas (ps.take i)).length=i+1:=by rw [zat,li]
 have e1':(meas ps)[i+1]? = some (lfMs x (i+1)):=by rw [zfX e];simp only [ydn,lfMs];rw [ml]
 exact ⟨by lia,e1',zeQ e,⟨e1',e1',rfl,rfl,s1,s2,s1,s2,Nat.le_refl 1,Int.le_refl 0,by show x.length<=_;lia,⟨0,.inl ⟨rfl,Nat.le_of_eq (Nat.zero_add _),Nat.le_of_eq (Nat.zero_add _)⟩⟩,s3⟩⟩
theorem zb1 {ps:List Pc} (g:Good ps) {i a b:Nat} {ma mb fa la fb lb:Ms} {x y:Str} (e:ps[i]? = some (.fork a b)) (A:Tx ps a ma x fa la) (B:Tx ps b mb y fb lb):Tx ps (i+1) (ydS ma mb) (x++y) fa lb:=by
 have hi:=(List.getElem?_eq_some_iff.mp e).1
 have ok':ForkOk (ps.take i) a b:=g.get e
 have li:(ps.take i).length=i:=by simp;lia
 have tp:=zcd ps i
 obtain ⟨ma',mb',la',fb',q1,q2,q3,q4,q5,q6,q7⟩:=ok'.ex
 have ba:=(List.getElem?_eq_some_iff.mp q1).1
 have bb:=(List.getElem?_eq_some_iff.mp q2).1
 rw [zat,li] at ba bb
 have z1:=A.ms.symm.trans (zac tp q1);cases z1
 have z2:=B.ms.symm.trans (zac tp q2);cases z2
 have z3:=A.ky.ll.symm.trans (zac tp q3);cases z3
 have z4:=B.ky.fl.symm.trans (zac tp q4);cases z4
 have r1:(reads (ps.take i))[a]? = some x:=by
  obtain ⟨w,ew⟩:∃ w,(reads (ps.take i))[a]? = some w:=⟨(reads (ps.take i))[a]'(by rw [zbR,li];lia),by simp⟩
  have:=(zbS tp ew).symm.trans A.rd;cases this;exact ew
 have r2:(reads (ps.take i))[b]? = some y:=by
  obtain ⟨w,ew⟩:∃ w,(reads (ps.take i))[b]? = some w:=⟨(reads (ps.take i))[b]'(by rw [zbR,li];lia),by simp⟩
  have:=(zbS tp ew).symm.trans B.rd;cases this;exact ew
 refine ⟨by lia,?_,?_,A.ky.fork B.ky q5 q7⟩
 ·rw [zfX e];simp only [ydn,zbd q1,zbd q2];rfl
 ·rw [zeQ e];simp only [yea,zbd r1,zbd r2]
theorem Good.tx {ps:List Pc} (g:Good ps):∀ n,1<=n->n<=ps.length->∃ m x f l,Tx ps n m x f l:=by
 intro n
 induction n using Nat.strongRecOn with
 | ind n ih =>
  intro h1 h2
  obtain ⟨i,rfl⟩:∃ i,n=i+1:=⟨n-1,(Nat.sub_add_cancel h1).symm⟩
  obtain ⟨q,eq⟩:∃ q,ps[i]? = some q:=⟨ps[i],by simp⟩
  have ok:=g.get eq
  have li:(ps.take i).length=i:=(zdb eq).2
  cases q with
  | leaf x=>exact ⟨_,_,_,_,zb0 g eq⟩
  | fork a b =>
   have ok':ForkOk (ps.take i) a b:=ok
   obtain ⟨ma,mb,la,fb,q1,q2,_⟩:=ok'.ex
   have ba:=(List.getElem?_eq_some_iff.mp q1).1
   have bb:=(List.getElem?_eq_some_iff.mp q2).1
   rw [zat,li] at ba bb
   obtain ⟨_,_,_,_,A⟩:=ih a ba ok'.pa (Nat.le_trans (Nat.le_of_lt ba) h2)
   obtain ⟨_,_,_,_,B⟩:=ih b bb ok'.pb (Nat.le_trans (Nat.le_of_lt bb) h2)
   exact ⟨_,_,_,_,zb1 g eq A B⟩
structure Dd (p:Nat) (h h':AH) (ps ps':List Pc) (k:Nat):Prop where
 sh:ShelfAt h' p ps'
 gd:Good ps'
 pre:ps <+: ps'
 len:ps'.length<=ps.length+k
 fr:∀ i,i<=p\/p+8<i->h'[i]? = h[i]?
 hl:h'.length=h.length
theorem ShelfAt.keep {h h':AH} {p:Nat} {ps:List Pc} (S:ShelfAt h p ps) (e:∀ i,p<=i->i<=p+8->h'[i]? = h[i]?):ShelfAt h' p ps:=by
 have k:∀ j,j<=8->h'[p+j]? = h[p+j]? := fun j hj=>e _ (Nat.le_add_right p j) (Nat.add_le_add_left hj p)
 exact ⟨(k 0 (by decide)).trans S.ob,(k 1 (by decide)).trans S.h1,(k 2 (by decide)).trans S.h2,(k 3 (by decide)).trans S.h3,(k 4 (by decide)).trans S.h4,(k 5 (by decide)).trans S.h5,(k 6 (by decide)).trans S.h6,(k 7 (by decide)).trans S.h7,(k 8 (by decide)).trans S.h8⟩
theorem ShelfAt.app {h:AH} {p:Nat} {ps:List Pc} (S:ShelfAt h p ps) (r:AH):ShelfAt (h++r) p ps:=by
 have:=yaM S.h8
 exact S.keep fun i _ b=>List.getElem?_append_left (Nat.lt_of_le_of_lt b this)
structure Wk (p r:Nat) (h h':AH) (ps ps':List Pc) (k:Nat):Prop where
 sh:ShelfAt h' p ps'
 gd:Good ps'
 pre:ps <+: ps'
 len:ps'.length<=ps.length+k
 row:∃ N:Int,h'[r]? = some (.lst [.int N])
 fr:∀ i,i<=p\/p+8<i->i≠r->h'[i]? = h[i]?
 hl:h'.length=h.length
theorem Wk.refl {p r:Nat} {h:AH} {ps:List Pc} (S:ShelfAt h p ps) (g:Good ps) (e:∃ N:Int,h[r]? = some (.lst [.int N])):Wk p r h h ps ps 0 :=
 ⟨S,g,List.prefix_refl _,by lia,e,fun _ _ _=>rfl,rfl⟩
theorem zce {h:AH} {p:Nat} {ps:List Pc} {i:Nat} (S:ShelfAt h p ps) (hi:i<=ps.length):ya0 [.ref p,.int i] h = .ok .non h:=by
 by_cases z:i=0
 ·subst z;simp [ya0]
 ·have c:=zb9 S (i:=(i:Int)) ⟨by lia,by lia⟩
  simp [ya0,z,S.ob,c]
theorem zaf {h:AH} {p:Nat} {ps:List Pc} {i:Nat} {m:Ms} (S:ShelfAt h p ps) (e:(meas ps)[i]? = some m):yaz [.ref p,.int i] h = .ok (.int m.sg) h:=by
 have hi:=(List.getElem?_eq_some_iff.mp e).1
 rw [zat] at hi
 simp [yaz,zce S (show i<=ps.length by lia),S.ob,S.h3,zap e]
theorem zag {h:AH} {p:Nat} {ps:List Pc} {i:Nat} {m:Ms} (S:ShelfAt h p ps) (e:(meas ps)[i]? = some m):yaJ [.ref p,.int i] h = .ok (.int m.ht) h:=by
 have hi:=(List.getElem?_eq_some_iff.mp e).1
 rw [zat] at hi
 simp [yaJ,zce S (show i<=ps.length by lia),S.ob,S.h6,zap e]
theorem zfY {h:AH} {p:Nat} {ps:List Pc} {i:Nat} {m:Ms} (S:ShelfAt h p ps) (e:(meas ps)[i]? = some m):ybA [.ref p,.int i] h = .ok (.int m.fl) h:=by
 have hi:=(List.getElem?_eq_some_iff.mp e).1
 rw [zat] at hi
 simp [ybA,zce S (show i<=ps.length by lia),S.ob,S.h7,zap e]
theorem yfK {h:AH} {p:Nat} {ps:List Pc} {i:Nat} {m:Ms} (S:ShelfAt h p ps) (e:(meas ps)[i]? = some m):ybO [.ref p,.int i] h = .ok (.int m.ll) h:=by
 have hi:=(List.getElem?_eq_some_iff.mp e).1
 rw [zat] at hi
 simp [ybO,zce S (show i<=ps.length by lia),S.ob,S.h8,zap e]
def lp:Nat->Nat×Nat
 | 0=>(1,2)
 | n+1=>((lp n).2,(lp n).1+(lp n).2)
def ll (n:Nat):Nat:=(lp n).1
def ls (n:Nat):Nat:=9*(ll n / 2)+ll n % 2
theorem ll_2 (n:Nat):ll (n+2)=ll n+ll (n+1):=rfl
theorem zeR:∀ n,ll n<=ll (n+1)
 | 0=>by decide
 | n+1=>by rw [show n+1+1=n+2 from rfl,ll_2];lia
theorem zjg {a b:Nat} (h:a<=b):ll a<=ll b:=by
 induction h with
 | refl=>exact Nat.le_refl _
 | step h ih=>exact Nat.le_trans ih (zeR _)
theorem zfZ {a b:Nat} (h:a<=b):ls a<=ls b:=by
 have:=zjg h
 unfold ls;lia
theorem yg8 {i j a b:Nat} (h1:i<=j+1) (h2:j<=i+1) (u1:ll i<=a) (u2:ll j<=b):ll (max i j+1)<=a+b:=by
 rcases Nat.lt_trichotomy i j with c | c | c
 ·have e':j=i+1:=Nat.le_antisymm h2 c
  subst e'
  rw [Nat.max_eq_right (Nat.le_succ i),ll_2];exact Nat.add_le_add u1 u2
 ·subst c
  rw [Nat.max_self]
  refine Nat.le_trans ?_ (Nat.add_le_add u1 u2)
  cases i with
  | zero=>exact Nat.le_refl 2
  | succ k=>rw [show k+1+1=k+2 from rfl,ll_2];exact Nat.add_le_add_right (zeR k) _
 ·have e':i=j+1:=Nat.le_antisymm h1 c
  subst e'
  rw [Nat.max_eq_left (Nat.le_succ j),ll_2,Nat.add_comm];exact Nat.add_le_add u1 u2
theorem yg9 {x y:Int} {a b:Nat} (hx:0<=x) (hy:0<=y) (q:(x-y).natAbs<=1) (u1:ll x.toNat<=a) (u2:ll y.toNat<=b):ll (max x y+1).toNat<=a+b:=by
 obtain ⟨i,rfl⟩:=Int.eq_ofNat_of_zero_le hx
 obtain ⟨j,rfl⟩:=Int.eq_ofNat_of_zero_le hy
 have e:(max (i:Int) j+1).toNat=max i j+1:=by clear u1 u2 q;lia
 rw [e]
 exact yg8 (by clear u1 u2 e;lia) (by clear u1 u2 e;lia) u1 u2
theorem Good.lv {ps:List Pc} (g:Good ps):∀ n m x f l,Tx ps n m x f l->ll m.ht.toNat<=m.lv:=by
 intro n
 induction n using Nat.strongRecOn with
 | ind n ih =>
  intro m x f l T
  have hn:=T.n1
  have hle:=T.le
  obtain ⟨i,rfl⟩:∃ i,n=i+1:=⟨n-1,by lia⟩
  obtain ⟨q,eq⟩:∃ q,ps[i]? = some q:=⟨ps[i],by simp⟩
  cases q with
  | leaf y =>
   have z:=(zb0 g eq).ms.symm.trans T.ms;cases z
   exact Nat.le_refl 1
  | fork a b =>
   have ok':ForkOk (ps.take i) a b:=g.get eq
   have li:(ps.take i).length=i:=by simp;lia
   obtain ⟨ma,mb,la,fb,q1,q2,q3,q4,q5,q6,q7⟩:=ok'.ex
   have ba:=(List.getElem?_eq_some_iff.mp q1).1
   have bb:=(List.getElem?_eq_some_iff.mp q2).1
   rw [zat,li] at ba bb
   obtain ⟨ma',x1,fa,la',A⟩:=g.tx a ok'.pa (by lia)
   obtain ⟨mb',y1,fb',lb,B⟩:=g.tx b ok'.pb (by lia)
   have tp:=zcd ps i
   have z1:=A.ms.symm.trans (zac tp q1);cases z1
   have z2:=B.ms.symm.trans (zac tp q2);cases z2
   have u1:=ih a (by lia) _ _ _ _ A
   have u2:=ih b (by lia) _ _ _ _ B
   have z:=(zb1 g eq A B).ms.symm.trans T.ms;cases z
   exact yg9 A.ky.ht B.ky.ht q6 u1 u2
theorem Tx.ls {ps:List Pc} (g:Good ps) {n:Nat} {m:Ms} {x:Str} {f l:Ms} (T:Tx ps n m x f l):Sk.ls m.ht.toNat<=m.sg:=by
 have u:=g.lv _ _ _ _ _ T
 have f1:=T.ky.f1
 unfold Sk.ls
 obtain ⟨k,⟨e,a,_⟩ | ⟨e,a,_⟩⟩:=T.ky.cnt
 ·rw [e] at u;generalize ll m.ht.toNat=q at *;clear e;lia
 ·rw [e] at u;generalize ll m.ht.toNat=q at *;clear e;lia
theorem yib:1000000000000000000<ls 101:=by decide +kernel
theorem zh8 {ps:List Pc} (g:Good ps) {n:Nat} {m:Ms} {x:Str} {f l:Ms} (T:Tx ps n m x f l):m.ht.toNat<=200:=by
 refine Nat.le_of_not_lt fun z=>?_
 have a:=T.ls g
 have b:=zfZ (show 101<=m.ht.toNat by lia)
 have c:=yib
 have d:=T.ky.most
 lia
theorem Good.kind {ps:List Pc} (g:Good ps) {n:Nat} {m:Ms} {x:Str} {f l:Ms} (T:Tx ps n m x f l) :
  (ps[n-1]? = some (.leaf x)/\m.ht=0/\m=lfMs x n/\1<=x.length/\x.length<=8)\/∃ a b ma mb y z fa la fb lb,ps[n-1]? = some (.fork a b)/\a<n/\b<n/\Tx ps a ma y fa la/\Tx ps b mb z fb lb/\x=y++z/\m=ydS ma mb/\(ma.ht-mb.ht).natAbs<=1:=by
 have hn:=T.n1
 have hle:=T.le
 obtain ⟨i,rfl⟩:∃ i,n=i+1:=⟨n-1,by lia⟩
 obtain ⟨q,eq⟩:∃ q,ps[i]? = some q:=⟨ps[i],by simp⟩
 cases q with
 | leaf y =>
  have L:=zb0 g eq
  have z:=L.ms.symm.trans T.ms;cases z
  have z2:=L.rd.symm.trans T.rd;cases z2
  have ok:ybP x=true:=g.get eq
  obtain ⟨s1,s2,s3⟩:=zct ok
  exact .inl ⟨eq,rfl,rfl,s1,s2⟩
 | fork a b =>
  have ok':ForkOk (ps.take i) a b:=g.get eq
  have li:(ps.take i).length=i:=by simp;lia
  obtain ⟨ma,mb,la,fb,q1,q2,q3,q4,q5,q6,q7⟩:=ok'.ex
  have ba:=(List.getElem?_eq_some_iff.mp q1).1
  have bb:=(List.getElem?_eq_some_iff.mp q2).1
  rw [zat,li] at ba bb
  obtain ⟨ma',y,fa,la',A⟩:=g.tx a ok'.pa (by lia)
  obtain ⟨mb',z,fb',lb,B⟩:=g.tx b ok'.pb (by lia)
  have tp:=zcd ps i
  have z1:=A.ms.symm.trans (zac tp q1);cases z1
  have z2:=B.ms.symm.trans (zac tp q2);cases z2
  have F:=zb1 g eq A B
  have z3:=F.ms.symm.trans T.ms;cases z3
  have z4:=F.rd.symm.trans T.rd;cases z4
  exact .inr ⟨a,b,ma,mb,y,z,fa,la',fb',lb,eq,by lia,by lia,A,B,rfl,rfl,q6⟩
theorem zcf {h:AH} {p:Nat} {ps:List Pc} {n:Nat} {q:Pc} (S:ShelfAt h p ps) (n1:1<=n) (e:ps[n-1]? = some q):yaG [.ref p,.int n] h = .ok q.av h:=by
 have:=zje S e
 rw [show ((n-1:Nat):Int)+1=(n:Int) by lia] at this
 exact this
theorem hs1 {m a b:Int} (e:m=max a b+1) (ha:0<=a) (hb:0<=b):∃ j:Nat,m.toNat=j+1/\a.toNat<=j/\b.toNat<=j/\0<m:=by
 obtain ⟨x,rfl⟩:=Int.eq_ofNat_of_zero_le ha
 obtain ⟨y,rfl⟩:=Int.eq_ofNat_of_zero_le hb
 subst e
 exact ⟨max x y,by lia,Nat.le_max_left _ _,Nat.le_max_right _ _,by lia⟩
end Sk
namespace Sk
open PySem PySem.Spec L2 Sm
theorem zae {x y:Str} (e:x.cps.toList=y.cps.toList):x=y:=by
 cases x;cases y
 simpa using e
theorem zak (x y z:Str):(x++y)++z=x++(y++z):=zae (by simp only [zai,List.append_assoc])
theorem ls83:1000000000000000000<ls 83:=by decide +kernel
theorem ht82 {ps:List Pc} (g:Good ps) {n:Nat} {m:Ms} {x:Str} {f l:Ms} (T:Tx ps n m x f l):m.ht<=82:=by
 have h1:=T.ls g
 have h2:=T.ky.most
 have h3:=T.ky.ht
 apply Classical.byContradiction
 intro h4
 have:=zfZ (show 83<=m.ht.toNat by lia)
 have:=ls83
 lia
theorem Good.cut {ps:List Pc} (g:Good ps) {n:Nat} {m:Ms} {x:Str} {f l:Ms} (T:Tx ps n m x f l) (hh:0<m.ht) :
  ∃ a b ma mb y z la fb,ps[n-1]? = some (.fork a b)/\Tx ps a ma y f la/\Tx ps b mb z fb l/\x=y++z/\m=ydS ma mb /\ -1<=ma.ht-mb.ht/\ma.ht-mb.ht<=1/\8<la.sg+fb.sg:=by
 rcases g.kind T with ⟨_,e,_⟩ | ⟨a,b,ma,mb,y,z,fa,la,fb,lb,e1,e2,e3,A,B,e4,e5,e6⟩
 ·lia
 ·have ok:ForkOk (ps.take (n-1)) a b:=g.get e1
  obtain ⟨ma',mb',la',fb',q1,q2,q3,q4,q5,_⟩:=(ok.pre (zcd ps _)).ex
  have z1:=A.ms.symm.trans q1;cases z1
  have z2:=B.ms.symm.trans q2;cases z2
  have z3:=A.ky.ll.symm.trans q3;cases z3
  have z4:=B.ky.fl.symm.trans q4;cases z4
  have f1:=T.ky.fl
  have l1:=T.ky.ll
  rw [e5] at f1 l1
  have z5:=f1.symm.trans A.ky.fl;cases z5
  have z6:=l1.symm.trans B.ky.ll;cases z6
  exact ⟨a,b,ma,mb,y,z,la,fb,e1,A,B,e4,e5,by lia,by lia,q5⟩
structure Dn (F:AH->Out AV) (p:Nat) (h h':AH) (ps ps':List Pc) (k n:Nat):Prop where
 ev:F h = .ok (.int n) h'
 dd:Dd p h h' ps ps' k
 re:∀ h2 ps2,ShelfAt h2 p ps2->Good ps2->ps' <+: ps2->F h2 = .ok (.int n) h2
theorem Dd.trans {p:Nat} {h h' h'':AH} {ps ps' ps'':List Pc} {k k' k2:Nat} (a:Dd p h h' ps ps' k) (b:Dd p h' h'' ps' ps'' k') (hk:k+k'<=k2):Dd p h h'' ps ps'' k2 :=
 ⟨b.sh,b.gd,a.pre.trans b.pre,by have:=a.len;have:=b.len;lia,fun i hi=>(b.fr i hi).trans (a.fr i hi),b.hl.trans a.hl⟩
theorem Dd.refl {p:Nat} {h:AH} {ps:List Pc} (S:ShelfAt h p ps) (g:Good ps):Dd p h h ps ps 0:=⟨S,g,List.prefix_refl _,by lia,fun _ _=>rfl,rfl⟩
theorem Dn.seq {F F1:AH->Out AV} {F2:AV->AH->Out AV} {p:Nat} {h h1 h2:AH} {ps ps1 ps2:List Pc} {k1 k2 k n1 n2:Nat} (S:ShelfAt h p ps) (g:Good ps) (d1:Dn F1 p h h1 ps ps1 k1 n1) (d2:Dn (F2 (.int n1)) p h1 h2 ps1 ps2 k2 n2)
  (eq:∀ hh pp,ShelfAt hh p pp->Good pp->ps <+: pp->F hh=(F1 hh).bind F2) (hk:k1+k2<=k):Dn F p h h2 ps ps2 k n2:=by
 refine ⟨?_,d1.dd.trans d2.dd hk,fun h3 ps3 S3 g3 p3=>?_⟩
 ·rw [eq h ps S g (List.prefix_refl _),d1.ev];exact d2.ev
 ·rw [eq h3 ps3 S3 g3 (d1.dd.pre.trans (d2.dd.pre.trans p3)),d1.re h3 ps3 S3 g3 (d2.dd.pre.trans p3)]
  exact d2.re h3 ps3 S3 g3 p3
theorem Dn.as {F F1:AH->Out AV} {p:Nat} {h h1:AH} {ps ps1:List Pc} {k1 k n1:Nat} (S:ShelfAt h p ps) (g:Good ps) (d1:Dn F1 p h h1 ps ps1 k1 n1) (eq:∀ hh pp,ShelfAt hh p pp->Good pp->ps <+: pp->F hh=F1 hh) (hk:k1<=k):Dn F p h h1 ps ps1 k n1:=by
 refine ⟨?_,{ d1.dd with len:=Nat.le_trans d1.dd.len (Nat.add_le_add_left hk _) },fun h3 ps3 S3 g3 p3=>?_⟩
 ·rw [eq h ps S g (List.prefix_refl _)];exact d1.ev
 ·rw [eq h3 ps3 S3 g3 (d1.dd.pre.trans p3)];exact d1.re h3 ps3 S3 g3 p3
theorem Dn.val {F:AH->Out AV} {p n:Nat} {h:AH} {ps:List Pc} (S:ShelfAt h p ps) (g:Good ps) (eq:∀ hh pp,ShelfAt hh p pp->Good pp->ps <+: pp->F hh = .ok (.int n) hh):Dn F p h h ps ps 0 n :=
 ⟨eq h ps S g (List.prefix_refl _),Dd.refl S g,fun h3 ps3 S3 g3 p3=>eq h3 ps3 S3 g3 p3⟩
theorem yaS {ps ps':List Pc} (h:ps <+: ps') {i:Nat} {q:Pc} (e:ps[i]? = some q):ps'[i]? = some q:=by
 obtain ⟨r,rfl⟩:=h
 rw [List.getElem?_append_left (List.getElem?_eq_some_iff.mp e).1];exact e
theorem zb2 {h:AH} {p:Nat} {ps:List Pc} {x:Str} (S:ShelfAt h p ps) (g:Good ps) (hx:ybP x=true) (hz:ps.length<16000000) :
  ∃ (n:Nat) (ps':List Pc) (h':AH),Dn (yaK [.ref p,.str x]) p h h' ps ps' 1 n/\Tx ps' n (lfMs x n) x (lfMs x n) (lfMs x n):=by
 obtain ⟨s1,s2,s3⟩:=zct hx
 have hs:x.length<=sizeLine:=Nat.le_trans s2 (by decide)
 by_cases hq:Pc.leaf x∈ps
 ·obtain ⟨i,hi,e⟩:=List.getElem_of_mem hq
  have e':ps[i]? = some (.leaf x):=by rw [List.getElem?_eq_getElem hi,e]
  exact ⟨i+1,ps,h,⟨zca S g.nodup hx hs e',⟨S,g,List.prefix_refl _,by lia,fun _ _=>rfl,rfl⟩,fun h2 ps2 S2 g2 p2=>zca S2 g2.nodup hx hs (yaS p2 e')⟩,zb0 g e'⟩
 ·have g':Good (ps++[.leaf x]):=.snoc g hq hx
  have e':(ps++[Pc.leaf x])[ps.length]? = some (.leaf x):=by simp
  exact ⟨ps.length+1,_,_,⟨zgu S hx hs hq hz,⟨zb8 S,g',List.prefix_append _ _,by simp,fun i hi=>zeP hi,zek _ _ _⟩,fun h2 ps2 S2 g2 p2=>zca S2 g2.nodup hx hs (yaS p2 e')⟩,zb0 g' e'⟩
theorem zaC {h:AH} {p:Nat} {ps:List Pc} {a b:Nat} {ma mb fa la fb lb:Ms} {x y:Str} (S:ShelfAt h p ps) (g:Good ps) (A:Tx ps a ma x fa la) (B:Tx ps b mb y fb lb) (hc:8<la.sg+fb.sg) (v1 : -1<=ma.ht-mb.ht) (v2:ma.ht-mb.ht<=1) (hm:ma.sg+mb.sg<=1000000000000000000) (hz:ps.length<16000000) :
  ∃ (n:Nat) (ps':List Pc) (h':AH),Dn (yah [.ref p,.int a,.int b]) p h h' ps ps' 1 n/\Tx ps' n (ydS ma mb) (x++y) fa lb:=by
 have F:ForkOk ps a b:=⟨A.n1,B.n1,ma,mb,la,fb,A.ms,B.ms,A.ky.ll,B.ky.fl,hc,by lia,hm⟩
 by_cases hq:Pc.fork a b∈ps
 ·obtain ⟨i,hi,e⟩:=List.getElem_of_mem hq
  have e':ps[i]? = some (.fork a b):=by rw [List.getElem?_eq_getElem hi,e]
  exact ⟨i+1,ps,h,⟨zcb S g.nodup F e',⟨S,g,List.prefix_refl _,by lia,fun _ _=>rfl,rfl⟩,fun h2 ps2 S2 g2 p2=>zcb S2 g2.nodup (F.pre p2) (yaS p2 e')⟩,zb1 g e' A B⟩
 ·have g':Good (ps++[.fork a b]):=.snoc g hq F
  have e':(ps++[Pc.fork a b])[ps.length]? = some (.fork a b):=by simp
  have pr:ps <+: ps++[Pc.fork a b]:=List.prefix_append _ _
  exact ⟨ps.length+1,_,_,⟨zgv S F hq hz,⟨zb8 S,g',pr,by simp,fun i hi=>zeP hi,zek _ _ _⟩,fun h2 ps2 S2 g2 p2=>zcb S2 g2.nodup (F.pre (pr.trans p2)) (yaS p2 e')⟩,zb1 g' e' (A.pre pr) (B.pre pr)⟩
theorem fmS (ma mb:Ms):(ydS ma mb).sg=ma.sg+mb.sg:=rfl
theorem fmH (ma mb:Ms):(ydS ma mb).ht=max ma.ht mb.ht+1:=rfl
theorem i1 (s:Str) (a b:Int) (h:AH):fIx (.tup [.str s,.int a,.int b]) (.int 1) h = .ok (.int a) h:=rfl
theorem i2 (s:Str) (a b:Int) (h:AH):fIx (.tup [.str s,.int a,.int b]) (.int 2) h = .ok (.int b) h:=rfl
theorem zaD {h:AH} {p:Nat} {ps:List Pc} {n a b:Nat} (S:ShelfAt h p ps) (n1:1<=n) (e:ps[n-1]? = some (.fork a b)):yaG [.ref p,.int n] h = .ok (.tup [.str "fork",.int a,.int b]) h:=zcf S n1 e
theorem tl_1 {h:AH} {p:Nat} {ps:List Pc} {a b:Nat} {ma mb:Ms} (S:ShelfAt h p ps) (ea:(meas ps)[a]? = some ma) (eb:(meas ps)[b]? = some mb) (hd:mb.ht-ma.ht<2) :
  yaU [.ref p,.int a,.int b] h=yah [.ref p,.int a,.int b] h:=by
 have f1:=zag S ea
 have f2:=zag S eb
 generalize hF:yah [.ref p,.int a,.int b] h=R
 simp [yaU,S.ob,f1,f2,hd,hF]
 cases R<;>rfl
theorem tl_2 {h:AH} {p:Nat} {ps:List Pc} {a b c d:Nat} {ma mb mc md:Ms} (S:ShelfAt h p ps) (b1:1<=b) (ea:(meas ps)[a]? = some ma) (eb:(meas ps)[b]? = some mb) (e:ps[b-1]? = some (.fork c d)) (ec:(meas ps)[c]? = some mc) (ed:(meas ps)[d]? = some md) (hd : ¬ mb.ht-ma.ht<2) (hh:mc.ht<=md.ht) :
  yaU [.ref p,.int a,.int b] h=(yah [.ref p,.int a,.int c] h).bind fun v h1=>yah [.ref p,v,.int d] h1:=by
 have f1:=zag S ea
 have f2:=zag S eb
 have f3:=zaD S b1 e
 have f4:=zag S ec
 have f5:=zag S ed
 generalize hF:yah [.ref p,.int a,.int c] h=R
 simp [yaU,S.ob,f1,f2,hd,f3,i1,i2,f4,f5,hh,hF,-fIx]
 cases R with
 | ok v h1=>dsimp only;cases yah [.ref p,v,.int d] h1<;>rfl
 | ex c h1=>rfl
 | bad=>rfl
def onSh (p:Nat) (F:AH->Out AV) (h:AH):Out AV:=match h[p]? with
 | some (.ins c' _)=>if c'=0 then F h else .bad
 | _=>.bad
theorem zf0 {h:AH} {p:Nat} {ps:List Pc} (S:ShelfAt h p ps) (F:AH->Out AV):onSh p F h=F h:=by simp [onSh,S.ob]
theorem tl_3 {h:AH} {p:Nat} {ps:List Pc} {a b c d i j:Nat} {ma mb mc md:Ms} (S:ShelfAt h p ps) (b1:1<=b) (c1:1<=c) (ea:(meas ps)[a]? = some ma) (eb:(meas ps)[b]? = some mb) (e:ps[b-1]? = some (.fork c d)) (ec:(meas ps)[c]? = some mc) (ed:(meas ps)[d]? = some md) (e2:ps[c-1]? = some (.fork i j)) (hd : ¬ mb.ht-ma.ht<2) (hh : ¬ mc.ht<=md.ht) :
  yaU [.ref p,.int a,.int b] h=(yah [.ref p,.int a,.int i] h).bind fun v h1=>(onSh p (yah [.ref p,.int j,.int d]) h1).bind fun w h2=>yah [.ref p,v,w] h2:=by
 have f1:=zag S ea
 have f2:=zag S eb
 have f3:=zaD S b1 e
 have f4:=zag S ec
 have f5:=zag S ed
 have f6:=zaD S c1 e2
 generalize hF:yah [.ref p,.int a,.int i] h=R
 simp [yaU,S.ob,f1,f2,hd,f3,i1,i2,f4,f5,hh,f6,hF,-fIx]
 cases R with
 | ok v h1 =>
  unfold onSh
  dsimp only
  cases hx:h1[p]? with
  | none=>rfl
  | some o =>
   cases o with
   | lst l=>rfl
   | dct q l=>rfl
   | ins c' l =>
    dsimp only
    by_cases z:c'=0
    ·rw [if_pos z]
     cases yah [.ref p,.int j,.int d] h1 with
     | ok w h2=>dsimp only;cases yah [.ref p,v,w] h2<;>rfl
     | ex c h2=>rfl
     | bad=>rfl
    ·rw [if_neg z]
 | ex c h1=>rfl
 | bad=>rfl
theorem tlh1 {a b m:Int} (h1 : -1<=b-a) (h2:b-a<2) (e:m=max a b+1):max a b<=m/\m<=max a b+1/\(b-a<=1->m=max a b+1):=by lia
theorem zf1 {h:AH} {p:Nat} {ps:List Pc} {a b:Nat} {ma mb fa la fb lb:Ms} {x y:Str} (S:ShelfAt h p ps) (g:Good ps) (A:Tx ps a ma x fa la) (B:Tx ps b mb y fb lb) (hc:8<la.sg+fb.sg) (v1 : -1<=mb.ht-ma.ht) (v2:mb.ht-ma.ht<=2) (hm:ma.sg+mb.sg<=1000000000000000000) (hz:ps.length+3<16000000) :
  ∃ (n:Nat) (ps':List Pc) (h':AH) (m:Ms),Dn (yaU [.ref p,.int a,.int b]) p h h' ps ps' 3 n/\Tx ps' n m (x++y) fa lb/\max ma.ht mb.ht<=m.ht/\m.ht<=max ma.ht mb.ht+1/\(mb.ht-ma.ht<=1->m.ht=max ma.ht mb.ht+1):=by
 by_cases q:mb.ht-ma.ht<2
 ·obtain ⟨n,ps',h',d,T⟩:=zaC S g A B hc (by lia) (by lia) hm (by lia)
  exact ⟨n,ps',h',_,d.as S g (fun hh pp S' _ pr=>tl_1 S' (zac pr A.ms) (zac pr B.ms) q) (by lia),T,tlh1 v1 q (fmH ma mb)⟩
 ·obtain ⟨c,d,mc,md,y1,y2,lc,fd,e,C,D,rfl,em,w1,w2,w3⟩:=g.cut B (by have:=A.ky.ht;lia)
  have sg:=congrArg Ms.sg em
  have ht:=congrArg Ms.ht em
  rw [fmS] at sg
  rw [fmH] at ht
  by_cases r:mc.ht<=md.ht
  ·obtain ⟨n1,ps1,h1,d1,T1⟩:=zaC S g A C hc (by lia) (by lia) (by lia) (by lia)
   obtain ⟨n2,ps2,h2,d2,T2⟩:=zaC d1.dd.sh d1.dd.gd T1 (D.pre d1.dd.pre) w3 (by rw [fmH];lia) (by rw [fmH];lia) (by rw [fmS];lia) (by have:=d1.dd.len;lia)
   rw [zak] at T2
   refine ⟨n2,ps2,h2,_,Dn.seq S g d1 d2 (fun hh pp S' _ pr=>tl_2 S' B.n1 (zac pr A.ms) (zac pr B.ms) (yaS pr e) (zac pr C.ms) (zac pr D.ms) q r) (by lia),T2,?_⟩
   rw [fmH,fmH];lia
  ·obtain ⟨i,j,mi,mj,z1,z2,li,fj,e2,I,J,rfl,em2,u1,u2,u3⟩:=g.cut C (by have:=D.ky.ht;lia)
   have sg2:=congrArg Ms.sg em2
   have ht2:=congrArg Ms.ht em2
   rw [fmS] at sg2
   rw [fmH] at ht2
   obtain ⟨n1,ps1,h1,d1,T1⟩:=zaC S g A I hc (by lia) (by lia) (by lia) (by lia)
   obtain ⟨n2,ps2,h2,d2,T2⟩:=zaC d1.dd.sh d1.dd.gd (J.pre d1.dd.pre) (D.pre d1.dd.pre) w3 (by lia) (by lia) (by lia) (by have:=d1.dd.len;lia)
   obtain ⟨n3,ps3,h3,d3,T3⟩:=zaC d2.dd.sh d2.dd.gd (T1.pre d2.dd.pre) T2 u3 (by rw [fmH,fmH];lia) (by rw [fmH,fmH];lia) (by rw [fmS,fmS];lia) (by have:=d1.dd.len;have:=d2.dd.len;lia)
   have d2':Dn (onSh p (yah [.ref p,.int j,.int d])) p h1 h2 ps1 ps2 1 n2:=d2.as d1.dd.sh d1.dd.gd (fun hh pp S' _ _=>zf0 S' _) (Nat.le_refl _)
   have d23:=Dn.seq (F:=fun h1=>(onSh p (yah [.ref p,.int j,.int d]) h1).bind fun w h2=>yah [.ref p,.int n1,w] h2) (F2:=fun w h2=>yah [.ref p,.int n1,w] h2) d1.dd.sh d1.dd.gd d2' d3 (fun _ _ _ _ _=>rfl) (k:=2) (by lia)
   have ea:(x++z1)++(z2++y2)=x++(z1++z2++y2):=by rw [zak,zak]
   rw [ea] at T3
   refine ⟨n3,ps3,h3,_,Dn.seq (F2:=fun v h1=>(onSh p (yah [.ref p,.int j,.int d]) h1).bind fun w h2=>yah [.ref p,v,w] h2) S g d1 d23 (fun hh pp S' _ pr=>tl_3 S' B.n1 C.n1 (zac pr A.ms) (zac pr B.ms) (yaS pr e) (zac pr C.ms) (zac pr D.ms) (yaS pr e2) q r) (by lia),T3,?_⟩
   rw [fmH,fmH,fmH];lia
theorem tr_1 {h:AH} {p:Nat} {ps:List Pc} {a b:Nat} {ma mb:Ms} (S:ShelfAt h p ps) (ea:(meas ps)[a]? = some ma) (eb:(meas ps)[b]? = some mb) (hd:ma.ht-mb.ht<2) :
  yaZ [.ref p,.int a,.int b] h=yah [.ref p,.int a,.int b] h:=by
 have f1:=zag S ea
 have f2:=zag S eb
 generalize hF:yah [.ref p,.int a,.int b] h=R
 simp [yaZ,S.ob,f1,f2,hd,hF]
 cases R<;>rfl
theorem tr_2 {h:AH} {p:Nat} {ps:List Pc} {a b c d:Nat} {ma mb mc md:Ms} (S:ShelfAt h p ps) (a1:1<=a) (ea:(meas ps)[a]? = some ma) (eb:(meas ps)[b]? = some mb) (e:ps[a-1]? = some (.fork c d)) (ec:(meas ps)[c]? = some mc) (ed:(meas ps)[d]? = some md) (hd : ¬ ma.ht-mb.ht<2) (hh:md.ht<=mc.ht) :
  yaZ [.ref p,.int a,.int b] h=(yah [.ref p,.int d,.int b] h).bind fun v h1=>yah [.ref p,.int c,v] h1:=by
 have f1:=zag S ea
 have f2:=zag S eb
 have f3:=zaD S a1 e
 have f4:=zag S ec
 have f5:=zag S ed
 generalize hF:yah [.ref p,.int d,.int b] h=R
 simp [yaZ,S.ob,f1,f2,hd,f3,i1,i2,f4,f5,hh,hF,-fIx]
 cases R with
 | ok v h1=>dsimp only;cases yah [.ref p,.int c,v] h1<;>rfl
 | ex c h1=>rfl
 | bad=>rfl
theorem tr_3 {h:AH} {p:Nat} {ps:List Pc} {a b c d i j:Nat} {ma mb mc md:Ms} (S:ShelfAt h p ps) (a1:1<=a) (d1:1<=d) (ea:(meas ps)[a]? = some ma) (eb:(meas ps)[b]? = some mb) (e:ps[a-1]? = some (.fork c d)) (ec:(meas ps)[c]? = some mc) (ed:(meas ps)[d]? = some md) (e2:ps[d-1]? = some (.fork i j)) (hd : ¬ ma.ht-mb.ht<2) (hh : ¬ md.ht<=mc.ht) :
  yaZ [.ref p,.int a,.int b] h=(yah [.ref p,.int c,.int i] h).bind fun v h1=>(onSh p (yah [.ref p,.int j,.int b]) h1).bind fun w h2=>yah [.ref p,v,w] h2:=by
 have f1:=zag S ea
 have f2:=zag S eb
 have f3:=zaD S a1 e
 have f4:=zag S ec
 have f5:=zag S ed
 have f6:=zaD S d1 e2
 generalize hF:yah [.ref p,.int c,.int i] h=R
 simp [yaZ,S.ob,f1,f2,hd,f3,i1,i2,f4,f5,hh,f6,hF,-fIx]
 cases R with
 | ok v h1 =>
  unfold onSh
  dsimp only
  cases hx:h1[p]? with
  | none=>rfl
  | some o =>
   cases o with
   | lst l=>rfl
   | dct q l=>rfl
   | ins c' l =>
    dsimp only
    by_cases z:c'=0
    ·rw [if_pos z]
     cases yah [.ref p,.int j,.int b] h1 with
     | ok w h2=>dsimp only;cases yah [.ref p,v,w] h2<;>rfl
     | ex c h2=>rfl
     | bad=>rfl
    ·rw [if_neg z]
 | ex c h1=>rfl
 | bad=>rfl
theorem zh9 {h:AH} {p:Nat} {ps:List Pc} {a b:Nat} {ma mb fa la fb lb:Ms} {x y:Str} (S:ShelfAt h p ps) (g:Good ps) (A:Tx ps a ma x fa la) (B:Tx ps b mb y fb lb) (hc:8<la.sg+fb.sg) (v1 : -1<=ma.ht-mb.ht) (v2:ma.ht-mb.ht<=2) (hm:ma.sg+mb.sg<=1000000000000000000) (hz:ps.length+3<16000000) :
  ∃ (n:Nat) (ps':List Pc) (h':AH) (m:Ms),Dn (yaZ [.ref p,.int a,.int b]) p h h' ps ps' 3 n/\Tx ps' n m (x++y) fa lb/\max ma.ht mb.ht<=m.ht/\m.ht<=max ma.ht mb.ht+1/\(ma.ht-mb.ht<=1->m.ht=max ma.ht mb.ht+1):=by
 by_cases q:ma.ht-mb.ht<2
 ·obtain ⟨n,ps',h',d,T⟩:=zaC S g A B hc (by lia) (by lia) hm (by lia)
  refine ⟨n,ps',h',_,d.as S g (fun hh pp S' _ pr=>tr_1 S' (zac pr A.ms) (zac pr B.ms) q) (by lia),T,?_⟩
  rw [fmH];lia
 ·obtain ⟨c,d,mc,md,y1,y2,lc,fd,e,C,D,rfl,em,w1,w2,w3⟩:=g.cut A (by have:=B.ky.ht;lia)
  have sg:=congrArg Ms.sg em
  have ht:=congrArg Ms.ht em
  rw [fmS] at sg
  rw [fmH] at ht
  by_cases r:md.ht<=mc.ht
  ·obtain ⟨n1,ps1,h1,d1,T1⟩:=zaC S g D B hc (by lia) (by lia) (by lia) (by lia)
   obtain ⟨n2,ps2,h2,d2,T2⟩:=zaC d1.dd.sh d1.dd.gd (C.pre d1.dd.pre) T1 w3 (by rw [fmH];lia) (by rw [fmH];lia) (by rw [fmS];lia) (by have:=d1.dd.len;lia)
   rw [<- zak] at T2
   refine ⟨n2,ps2,h2,_,Dn.seq (F2:=fun v h1=>yah [.ref p,.int c,v] h1) S g d1 d2 (fun hh pp S' _ pr=>tr_2 S' A.n1 (zac pr A.ms) (zac pr B.ms) (yaS pr e) (zac pr C.ms) (zac pr D.ms) q r) (by lia),T2,?_⟩
   rw [fmH,fmH];lia
  ·obtain ⟨i,j,mi,mj,z1,z2,li,fj,e2,I,J,rfl,em2,u1,u2,u3⟩:=g.cut D (by have:=C.ky.ht;lia)
   have sg2:=congrArg Ms.sg em2
   have ht2:=congrArg Ms.ht em2
   rw [fmS] at sg2
   rw [fmH] at ht2
   obtain ⟨n1,ps1,h1,d1,T1⟩:=zaC S g C I w3 (by lia) (by lia) (by lia) (by lia)
   obtain ⟨n2,ps2,h2,d2,T2⟩:=zaC d1.dd.sh d1.dd.gd (J.pre d1.dd.pre) (B.pre d1.dd.pre) hc (by lia) (by lia) (by lia) (by have:=d1.dd.len;lia)
   obtain ⟨n3,ps3,h3,d3,T3⟩:=zaC d2.dd.sh d2.dd.gd (T1.pre d2.dd.pre) T2 u3 (by rw [fmH,fmH];lia) (by rw [fmH,fmH];lia) (by rw [fmS,fmS];lia) (by have:=d1.dd.len;have:=d2.dd.len;lia)
   have d2':Dn (onSh p (yah [.ref p,.int j,.int b])) p h1 h2 ps1 ps2 1 n2:=d2.as d1.dd.sh d1.dd.gd (fun hh pp S' _ _=>zf0 S' _) (Nat.le_refl _)
   have d23:=Dn.seq (F:=fun h1=>(onSh p (yah [.ref p,.int j,.int b]) h1).bind fun w h2=>yah [.ref p,.int n1,w] h2) (F2:=fun w h2=>yah [.ref p,.int n1,w] h2) d1.dd.sh d1.dd.gd d2' d3 (fun _ _ _ _ _=>rfl) (k:=2) (by lia)
   have ea:(y1++z1)++(z2++y)=y1++(z1++z2)++y:=by rw [zak,zak,zak]
   rw [ea] at T3
   refine ⟨n3,ps3,h3,_,Dn.seq (F2:=fun v h1=>(onSh p (yah [.ref p,.int j,.int b]) h1).bind fun w h2=>yah [.ref p,v,w] h2) S g d1 d23 (fun hh pp S' _ pr=>tr_3 S' A.n1 D.n1 (zac pr A.ms) (zac pr B.ms) (yaS pr e) (zac pr C.ms) (zac pr D.ms) (yaS pr e2) q r) (by lia),T3,?_⟩
   rw [fmH,fmH,fmH];lia
end Sk
namespace Sk
open PySem PySem.Spec L2 Sm
theorem Dn.seq' {F F1 F2:AH->Out AV} {p:Nat} {h h1 h2:AH} {ps ps1 ps2:List Pc} {k1 k2 k n1 n2:Nat} (S:ShelfAt h p ps) (g:Good ps) (d1:Dn F1 p h h1 ps ps1 k1 n1) (d2:Dn F2 p h1 h2 ps1 ps2 k2 n2)
  (eq:∀ hh hh1 pp,ShelfAt hh p pp->Good pp->ps <+: pp->F1 hh = .ok (.int n1) hh1->F hh=F2 hh1) (hk:k1+k2<=k):Dn F p h h2 ps ps2 k n2:=by
 refine ⟨?_,d1.dd.trans d2.dd hk,fun h3 ps3 S3 g3 p3=>?_⟩
 ·rw [eq h h1 ps S g (List.prefix_refl _) d1.ev];exact d2.ev
 ·rw [eq h3 h3 ps3 S3 g3 (d1.dd.pre.trans (d2.dd.pre.trans p3)) (d1.re h3 ps3 S3 g3 (d2.dd.pre.trans p3))]
  exact d2.re h3 ps3 S3 g3 p3
theorem lk_1 {h:AH} {p:Nat} {ps:List Pc} {a b d:Nat} {ma mb:Ms} (S:ShelfAt h p ps) (ea:(meas ps)[a]? = some ma) (eb:(meas ps)[b]? = some mb) (h1:ma.ht-mb.ht<=1) (h2 : -1<=ma.ht-mb.ht) :
  ya7 (d+1) [.ref p,.int a,.int b] h=yah [.ref p,.int a,.int b] h:=by
 have f1:=zag S ea
 have f2:=zag S eb
 have c1 : ¬ 1<ma.ht-mb.ht:=by lia
 have c2 : ¬ ma.ht-mb.ht < -1:=by lia
 generalize hF:yah [.ref p,.int a,.int b] h=R
 simp [ya7,yd9,S.ob,f1,f2,c1,c2,hF]
 cases R<;>rfl
theorem lk_2 {h h1:AH} {p:Nat} {ps:List Pc} {a b c e d:Nat} {v:Int} {ma mb:Ms} (S:ShelfAt h p ps) (a1:1<=a) (ea:(meas ps)[a]? = some ma) (eb:(meas ps)[b]? = some mb) (ep:ps[a-1]? = some (.fork c e)) (hd:1<ma.ht-mb.ht) (ev:ya7 d [.ref p,.int e,.int b] h = .ok (.int v) h1) :
  ya7 (d+1) [.ref p,.int a,.int b] h=yaU [.ref p,.int c,.int v] h1:=by
 have f1:=zag S ea
 have f2:=zag S eb
 have f3:=zaD S a1 ep
 generalize hF:yaU [.ref p,.int c,.int v] h1=R
 simp [ya7,yd9,S.ob,f1,f2,hd,f3,i1,i2,ev,hF,-fIx]
 cases R<;>rfl
theorem lk_3 {h h1:AH} {p:Nat} {ps:List Pc} {a b c e d:Nat} {v:Int} {ma mb:Ms} (S:ShelfAt h p ps) (b1:1<=b) (ea:(meas ps)[a]? = some ma) (eb:(meas ps)[b]? = some mb) (ep:ps[b-1]? = some (.fork c e)) (hd:ma.ht-mb.ht < -1) (ev:ya7 d [.ref p,.int a,.int c] h = .ok (.int v) h1) :
  ya7 (d+1) [.ref p,.int a,.int b] h=yaZ [.ref p,.int v,.int e] h1:=by
 have f1:=zag S ea
 have f2:=zag S eb
 have f3:=zaD S b1 ep
 have c1 : ¬ 1<ma.ht-mb.ht:=by lia
 generalize hF:yaZ [.ref p,.int v,.int e] h1=R
 simp [ya7,yd9,S.ob,f1,f2,c1,hd,f3,i1,i2,ev,hF,-fIx]
 cases R<;>rfl
theorem za8 {p:Nat}:∀ (d t:Nat) {h:AH} {ps:List Pc} {a b:Nat} {ma mb fa la fb lb:Ms} {x y:Str} (S:ShelfAt h p ps) (g:Good ps) (A:Tx ps a ma x fa la) (B:Tx ps b mb y fb lb) (hc:8<la.sg+fb.sg) (hm:ma.sg+mb.sg<=1000000000000000000)
  (ht:(ma.ht-mb.ht).natAbs<=t) (hd:t<d) (hz:ps.length+3*t+4<16000000),
  ∃ (n:Nat) (ps':List Pc) (h':AH) (m:Ms),Dn (ya7 d [.ref p,.int a,.int b]) p h h' ps ps' (3*t+1) n/\Tx ps' n m (x++y) fa lb/\max ma.ht mb.ht<=m.ht/\m.ht<=max ma.ht mb.ht+1
 | 0,t,h,ps,a,b,ma,mb,fa,la,fb,lb,x,y,S,g,A,B,hc,hm,ht,hd,hz=>absurd hd (Nat.not_lt_zero t)
 | d+1,t,h,ps,a,b,ma,mb,fa,la,fb,lb,x,y,S,g,A,B,hc,hm,ht,hd,hz=>by
  by_cases q1:1<ma.ht-mb.ht
  ·obtain ⟨c,e,mc,me,y1,y2,lc,fe,ep,C,E,rfl,em,w1,w2,w3⟩:=g.cut A (by have:=B.ky.ht;lia)
   have sg:=congrArg Ms.sg em
   have hh:=congrArg Ms.ht em
   rw [fmS] at sg
   rw [fmH] at hh
   obtain ⟨n1,ps1,h1,m1,d1,T1,u1,u2⟩:=za8 d (t-1) S g E B hc (by lia) (by lia) (by lia) (by lia)
   have s1:m1.sg=me.sg+mb.sg:=by rw [T1.ky.sg,zaj,<- E.ky.sg,<- B.ky.sg]
   obtain ⟨n2,ps2,h2,m2,d2,T2,u3,u4,u5⟩:=zf1 d1.dd.sh d1.dd.gd (C.pre d1.dd.pre) T1 w3 (by lia) (by lia) (by lia) (by have:=d1.dd.len;lia)
   rw [<- zak] at T2
   exact ⟨n2,ps2,h2,m2,Dn.seq' S g d1 d2 (fun hh hh1 pp S' _ pr ev=>lk_2 S' A.n1 (zac pr A.ms) (zac pr B.ms) (yaS pr ep) q1 ev) (by lia),T2,by lia,by lia⟩
  ·by_cases q2:ma.ht-mb.ht < -1
   ·obtain ⟨c,e,mc,me,y1,y2,lc,fe,ep,C,E,rfl,em,w1,w2,w3⟩:=g.cut B (by have:=A.ky.ht;lia)
    have sg:=congrArg Ms.sg em
    have hh:=congrArg Ms.ht em
    rw [fmS] at sg
    rw [fmH] at hh
    obtain ⟨n1,ps1,h1,m1,d1,T1,u1,u2⟩:=za8 d (t-1) S g A C hc (by lia) (by lia) (by lia) (by lia)
    have s1:m1.sg=ma.sg+mc.sg:=by rw [T1.ky.sg,zaj,<- A.ky.sg,<- C.ky.sg]
    obtain ⟨n2,ps2,h2,m2,d2,T2,u3,u4,u5⟩:=zh9 d1.dd.sh d1.dd.gd T1 (E.pre d1.dd.pre) w3 (by lia) (by lia) (by lia) (by have:=d1.dd.len;lia)
    rw [zak] at T2
    exact ⟨n2,ps2,h2,m2,Dn.seq' S g d1 d2 (fun hh hh1 pp S' _ pr ev=>lk_3 S' B.n1 (zac pr A.ms) (zac pr B.ms) (yaS pr ep) q2 ev) (by lia),T2,by lia,by lia⟩
   ·obtain ⟨n,ps',h',dn,T⟩:=zaC S g A B hc (by lia) (by lia) hm (by lia)
    exact ⟨n,ps',h',_,dn.as S g (fun hh pp S' _ pr=>lk_1 S' (zac pr A.ms) (zac pr B.ms) (by lia) (by lia)) (by lia),T,by rw [fmH];lia,by rw [fmH];lia⟩
theorem zbF {h:AH} {p:Nat} {ps:List Pc} {n:Nat} {x:Str} (S:ShelfAt h p ps) (n1:1<=n) (e:ps[n-1]? = some (.leaf x)):yaG [.ref p,.int n] h = .ok (.tup [.str "leaf",.str x]) h:=zcf S n1 e
theorem i0L (x:Str) (h:AH):fIx (.tup [.str "leaf",.str x]) (.int 0) h = .ok (.str "leaf") h:=rfl
theorem i0F (a b:Int) (h:AH):fIx (.tup [.str "fork",.int a,.int b]) (.int 0) h = .ok (.str "fork") h:=rfl
theorem i1L (x:Str) (h:AH):fIx (.tup [.str "leaf",.str x]) (.int 1) h = .ok (.str x) h:=rfl
theorem eqL (h:AH):fEq (.str "leaf") (.str "leaf") h = .ok (.bl true) h:=by simp
theorem eqF (h:AH):fEq (.str "fork") (.str "leaf") h = .ok (.bl false) h:=by
 have : ¬ (Str.ofString "fork" = Str.ofString "leaf"):=by decide +kernel
 simp [this]
theorem wl_1 {h:AH} {p:Nat} {ps:List Pc} {a d:Nat} {L:Int} {x:Str} (S:ShelfAt h p ps) (a1:1<=a) (ep:ps[a-1]? = some (.leaf x)):ya8 (d+1) [.ref p,.int a,.int L] h = .ok (.int L) h:=by
 simp [ya8,yd2,S.ob,zbF S a1 ep,i0L,eqL,-fIx,-fEq]
theorem wl_2 {h h1:AH} {p:Nat} {ps:List Pc} {a d c e:Nat} {L v:Int} (S:ShelfAt h p ps) (a1:1<=a) (ep:ps[a-1]? = some (.fork c e)) (ev:ya8 d [.ref p,.int e,.int L] h = .ok (.int v) h1) :
  ya8 (d+1) [.ref p,.int a,.int L] h=yah [.ref p,.int c,.int v] h1:=by
 generalize hF:yah [.ref p,.int c,.int v] h1=R
 simp [ya8,yd2,S.ob,zaD S a1 ep,i0F,i1,i2,eqF,ev,hF,-fIx,-fEq]
 cases R<;>rfl
theorem zcN {ps:List Pc} {n:Nat} {m:Ms} {x:Str} {f l:Ms} (T:Tx ps n m x f l) (e:m=lfMs x n):f=m/\l=m:=by
 have h1:=T.ky.fl
 have h2:=T.ky.ll
 have h3:=T.ms
 rw [e] at h1 h2
 exact ⟨Option.some.inj (h1.symm.trans h3),Option.some.inj (h2.symm.trans h3)⟩
theorem zdS {p:Nat}:∀ (d:Nat) {h:AH} {ps:List Pc} {a L:Nat} {m f l:Ms} {x w:Str} (S:ShelfAt h p ps) (g:Good ps) (T:Tx ps a m x f l) (N:Tx ps L (lfMs w L) w (lfMs w L) (lfMs w L)) (hw:l.sg<=w.length) (hm:m.sg+w.length<=1000000000000000000+l.sg) (hd:m.ht.toNat<d) (hz:ps.length+m.ht.toNat<16000000),
  ∃ (n:Nat) (ps':List Pc) (h':AH) (m' f':Ms) (u v:Str),Dn (ya8 d [.ref p,.int a,.int L]) p h h' ps ps' m.ht.toNat n/\x=u++v/\v.length=l.sg/\Tx ps' n m' (u++w) f' (lfMs w L)/\m'.ht=m.ht/\f.sg<=f'.sg
 | 0,h,ps,a,L,m,f,l,x,w,S,g,T,N,hw,hm,hd,hz=>absurd hd (Nat.not_lt_zero _)
 | d+1,h,ps,a,L,m,f,l,x,w,S,g,T,N,hw,hm,hd,hz=>by
  by_cases q:0<m.ht
  ·obtain ⟨c,e,mc,me,y1,y2,lc,fe,ep,C,E,rfl,em,w1,w2,w3⟩:=g.cut T q
   have sg:=congrArg Ms.sg em
   have hh:=congrArg Ms.ht em
   rw [fmS] at sg
   rw [fmH] at hh
   have c0:=C.ky.ht
   have e0:=E.ky.ht
   obtain ⟨n1,ps1,h1,m1,f1,u,v,d1,rfl,lv,T1,k1,k2⟩:=zdS d S g E N hw (by lia) (by lia) (by lia)
   have s1:m1.sg+l.sg=me.sg+w.length:=by rw [T1.ky.sg,E.ky.sg,zaj,zaj];lia
   obtain ⟨n2,ps2,h2,d2,T2⟩:=zaC d1.dd.sh d1.dd.gd (C.pre d1.dd.pre) T1 (by lia) (by lia) (by lia) (by lia) (by have:=d1.dd.len;lia)
   rw [<- zak] at T2
   exact ⟨n2,ps2,h2,_,f,y1++u,v,Dn.seq' S g d1 d2 (fun hh hh1 pp S' _ pr ev=>wl_2 S' T.n1 (yaS pr ep) ev) (by lia),by rw [zak],lv,T2,by rw [fmH,k1,hh],Nat.le_refl _⟩
  ·rcases g.kind T with ⟨e1,e2,e3,e4,e5⟩ | ⟨c,e,mc,me,y1,y2,fc,lc,fe,le,e1,e2,e3,C,E,e4,e5,e6⟩
   ·obtain ⟨z1,z2⟩:=zcN T e3
    subst z1 z2
    have em:("" : Str)++x=x:=zae (by rw [zai];rfl)
    have em2:("" : Str)++w=w:=zae (by rw [zai];rfl)
    have dv:Dn (ya8 (d+1) [.ref p,.int a,.int L]) p h h ps ps 0 L:=Dn.val S g fun hh pp S' _ pr=>wl_1 S' T.n1 (yaS pr e1)
    refine ⟨L,ps,h,_,_, "",x,dv.as S g (fun _ _ _ _ _=>rfl) (Nat.zero_le _),em.symm,T.ky.sg.symm,by rw [em2];exact N,e2.symm,hw⟩
   ·have:=congrArg Ms.ht e5
    rw [fmH] at this
    have c0:=C.ky.ht
    lia
theorem wf_1 {h:AH} {p:Nat} {ps:List Pc} {a d:Nat} {x:Str} (S:ShelfAt h p ps) (a1:1<=a) (ep:ps[a-1]? = some (.leaf x)):yaH (d+1) [.ref p,.int a] h = .ok (.int (0:Nat)) h:=by
 simp [yaH,ycH,S.ob,zbF S a1 ep,i0L,eqL,-fIx,-fEq]
theorem wf_2 {h h1:AH} {p:Nat} {ps:List Pc} {a d c e:Nat} (S:ShelfAt h p ps) (a1:1<=a) (ep:ps[a-1]? = some (.fork c e)) (ev:yaH d [.ref p,.int c] h = .ok (.int (0:Nat)) h1) :
  yaH (d+1) [.ref p,.int a] h = .ok (.int e) h1:=by
 have z:fEq (.int 0) (.int 0) h1 = .ok (.bl true) h1:=by simp
 simp [yaH,ycH,S.ob,zaD S a1 ep,i0F,i1,i2,eqF,ev,z,-fIx,-fEq]
theorem wf_3 {h h1:AH} {p:Nat} {ps:List Pc} {a d c e v:Nat} (S:ShelfAt h p ps) (a1:1<=a) (ep:ps[a-1]? = some (.fork c e)) (v1:1<=v) (ev:yaH d [.ref p,.int c] h = .ok (.int v) h1) :
  yaH (d+1) [.ref p,.int a] h=yaU [.ref p,.int v,.int e] h1:=by
 have z:fEq (.int (v:Int)) (.int 0) h1 = .ok (.bl false) h1:=by
  have : ¬ (v=0):=by lia
  simp [this]
 generalize hF:yaU [.ref p,.int v,.int e] h1=R
 simp [yaH,ycH,S.ob,zaD S a1 ep,i0F,i1,i2,eqF,ev,z,hF,-fIx,-fEq]
 cases R<;>rfl
end Sk
namespace Sk
open PySem PySem.Spec L2 Sm
theorem zdc {p:Nat}:∀ (d:Nat) {h:AH} {ps:List Pc} {a:Nat} {m f l:Ms} {x:Str} (S:ShelfAt h p ps) (g:Good ps) (T:Tx ps a m x f l) (hd:m.ht.toNat<d) (hz:ps.length+3*m.ht.toNat<16000000),
  (m.ht=0/\f.sg=x.length/\Dn (yaH d [.ref p,.int a]) p h h ps ps 0 0) \/
  (0<m.ht/\∃ (n:Nat) (ps':List Pc) (h':AH) (m' f2:Ms) (u v:Str),Dn (yaH d [.ref p,.int a]) p h h' ps ps' (3*m.ht.toNat) n/\x=u++v/\u.length=f.sg/\Tx ps' n m' v f2 l/\m.ht-1<=m'.ht/\m'.ht<=m.ht/\8<f.sg+f2.sg)
 | 0,h,ps,a,m,f,l,x,S,g,T,hd,hz=>absurd hd (Nat.not_lt_zero _)
 | d+1,h,ps,a,m,f,l,x,S,g,T,hd,hz=>by
  by_cases q:0<m.ht
  ·obtain ⟨c,e,mc,me,y1,y2,lc,fe,ep,C,E,rfl,em,w1,w2,w3⟩:=g.cut T q
   have sg:=congrArg Ms.sg em
   have hh:=congrArg Ms.ht em
   rw [fmS] at sg
   rw [fmH] at hh
   have c0:=C.ky.ht
   have e0:=E.ky.ht
   have most:=T.ky.most
   refine .inr ⟨q,?_⟩
   rcases zdc d S g C (by lia) (by lia) with ⟨k1,k2,d1⟩ | ⟨k1,n1,ps1,h1,m1,f2,u,v,d1,rfl,lu,T1,r1,r2,r3⟩
   ·rcases g.kind C with ⟨e1,e2,e3,e4,e5⟩ | ⟨_,_,mx,my,_,_,_,_,_,_,_,_,_,X,Y,_,e5,_⟩
    ·obtain ⟨z1,z2⟩:=zcN C e3
     have dv:Dn (yaH (d+1) [.ref p,.int a]) p h h ps ps 0 e:=by
      refine ⟨wf_2 S T.n1 ep d1.ev,Dd.refl S g,fun h3 ps3 S3 g3 p3=>wf_2 S3 T.n1 (yaS p3 ep) (d1.re h3 ps3 S3 g3 p3)⟩
     exact ⟨e,ps,h,me,fe,y1,y2,dv.as S g (fun _ _ _ _ _=>rfl) (Nat.zero_le _),rfl,k2.symm,E,by lia,by lia,by rw [z1];rw [z2] at w3;exact w3⟩
    ·have:=congrArg Ms.ht e5
     rw [fmH] at this
     have:=X.ky.ht
     lia
   ·have s1:m1.sg+f.sg=mc.sg:=by rw [T1.ky.sg,C.ky.sg,zaj];lia
    obtain ⟨n2,ps2,h2,m2,d2,T2,u3,u4,u5⟩:=zf1 d1.dd.sh d1.dd.gd T1 (E.pre d1.dd.pre) w3 (by lia) (by lia) (by lia) (by have:=d1.dd.len;lia)
    refine ⟨n2,ps2,h2,m2,f2,u,v++y2,Dn.seq' S g d1 d2 (fun hh hh1 pp S' _ pr ev=>wf_3 S' T.n1 (yaS pr ep) T1.n1 ev) (by lia),by rw [zak],lu,T2,?_,?_,r3⟩
    ·lia
    ·lia
  ·rcases g.kind T with ⟨e1,e2,e3,e4,e5⟩ | ⟨_,_,mx,my,_,_,_,_,_,_,_,_,_,X,Y,_,e5,_⟩
   ·obtain ⟨z1,z2⟩:=zcN T e3
    exact .inl ⟨e2,by rw [z1];exact T.ky.sg,Dn.val S g fun hh pp S' _ pr=>wf_1 S' T.n1 (yaS pr e1)⟩
   ·have:=congrArg Ms.ht e5
    rw [fmH] at this
    have:=X.ky.ht
    lia
theorem Good.ends {ps:List Pc} (g:Good ps):∀ (k n:Nat) {m f l:Ms} {x:Str},n<=k->Tx ps n m x f l ->
  (∃ w u:Str,1<=m.fl/\ps[m.fl-1]? = some (.leaf w)/\x=w++u/\w.length=f.sg)/\(∃ w u:Str,1<=m.ll/\ps[m.ll-1]? = some (.leaf w)/\x=u++w/\w.length=l.sg)
 | 0,n,m,f,l,x,hn,T=>absurd T.n1 (by lia)
 | k+1,n,m,f,l,x,hn,T=>by
  rcases g.kind T with ⟨e1,e2,e3,e4,e5⟩ | ⟨a,b,ma,mb,y,z,fa,la,fb,lb,e1,e2,e3,A,B,rfl,e5,e6⟩
  ·obtain ⟨z1,z2⟩:=zcN T e3
   have em:("" : Str)++x=x:=zae (by rw [zai];rfl)
   have em2:x++("" : Str)=x:=zae (by rw [zai];simp;rfl)
   have hf:m.fl=n:=by rw [e3];rfl
   have hl:m.ll=n:=by rw [e3];rfl
   have hx:=T.ky.sg
   refine ⟨⟨x, "",by rw [hf];exact T.n1,by rw [hf];exact e1,em2.symm,by rw [z1];exact hx.symm⟩,⟨x, "",by rw [hl];exact T.n1,by rw [hl];exact e1,em.symm,by rw [z2];exact hx.symm⟩⟩
  ·have q1:=g.ends k a (by lia) A
   have q2:=g.ends k b (by lia) B
   obtain ⟨⟨w,u,a1,a2,rfl,a4⟩,_⟩:=q1
   obtain ⟨_,⟨w2,u2,b1,b2,rfl,b4⟩⟩:=q2
   have f1:=T.ky.fl
   have l1:=T.ky.ll
   have hf:m.fl=ma.fl:=by rw [e5];rfl
   have hl:m.ll=mb.ll:=by rw [e5];rfl
   rw [hf] at f1
   rw [hl] at l1
   have z5:=f1.symm.trans A.ky.fl;cases z5
   have z6:=l1.symm.trans B.ky.ll;cases z6
   rw [hf,hl]
   exact ⟨⟨w,u++(u2++w2),a1,a2,by rw [zak],a4⟩,⟨w2,w++u++u2,b1,b2,by rw [zak (w++u)],b4⟩⟩
theorem zdT {a b c d:Str} (e:a++b=c++d) (h:a.length=c.length):a=c/\b=d:=by
 have:=congrArg (fun z:Str=>z.cps.toList) e
 simp only [zai] at this
 obtain ⟨h1,h2⟩:=List.append_inj this (by rw [<- zad,<- zad];exact h)
 exact ⟨zae h1,zae h2⟩
theorem zeS {a b c d:Str} (e:a++b=c++d) (h:b.length=d.length):a=c/\b=d:=by
 refine zdT e ?_
 have:=congrArg Str.length e
 rw [zaj,zaj] at this
 lia
theorem zjh {h:AH} {p:Nat} {ps:List Pc} {a b:Nat} {ma mb la fb:Ms} (S:ShelfAt h p ps) (ea:(meas ps)[a]? = some ma) (eb:(meas ps)[b]? = some mb) (el:(meas ps)[ma.ll]? = some la) (ef:(meas ps)[mb.fl]? = some fb) :
  ydE [.ref p,.int a,.int b] h = .ok (.bl (decide (8<la.sg+fb.sg))) h:=by
 have e1:=yfK S ea
 have e2:=zfY S eb
 have e3:=zaf S el
 have e4:=zaf S ef
 have:decide ((8:Int)<(la.sg:Int)+fb.sg)=decide (8<la.sg+fb.sg):=by apply decide_eq_decide.mpr;lia
 simp [ydE,S.ob,e1,e2,e3,e4,this]
theorem zia {w v:Str} (hw:w.length+v.length<=100) (h:AH):fAdd (.str w) (.str v) h = .ok (.str (w++v)) h:=by
 have:w.length+v.length<=sizeLine:=Nat.le_trans hw (by decide)
 simp [fAdd,this]
theorem wd_1 {h h1 h2 h3:AH} {p:Nat} {ps:List Pc} {a b:Nat} {L n k:Int} {ma mb:Ms} {w v:Str} (S:ShelfAt h p ps) (ea:(meas ps)[a]? = some ma) (eb:(meas ps)[b]? = some mb) (l1:1<=ma.ll) (f1:1<=mb.fl) (el:ps[ma.ll-1]? = some (.leaf w)) (ef:ps[mb.fl-1]? = some (.leaf v)) (hw:w.length+v.length<=100)
  (e1:yaK [.ref p,.str (w++v)] h = .ok (.int L) h1) (e2:ya8 90 [.ref p,.int a,.int L] h1 = .ok (.int n) h2) (e3:yaH 90 [.ref p,.int b] h2 = .ok (.int k) h3) :
  ycN [.ref p,.int a,.int b] h=if k=0 then .ok (.int n) h3 else ya7 90 [.ref p,.int n,.int k] h3:=by
 have q1:=yfK S ea
 have q2:=zfY S eb
 have q3:=zbF S l1 el
 have q4:=zbF S f1 ef
 have ad:=zia hw h
 unfold ycN
 generalize ya8 90=WL at *
 generalize yaH 90=WF at *
 generalize hF:ya7 90=LK at *
 by_cases z:k=0
 ·subst z
  have zz:fEq (.int 0) (.int 0) h3 = .ok (.bl true) h3:=by simp
  simp [S.ob,q1,q2,q3,q4,i1L,ad,e1,e2,e3,zz,-fIx,-fEq,-fAdd]
 ·have zz:fEq (.int k) (.int 0) h3 = .ok (.bl false) h3:=by simp [z]
  rw [if_neg z]
  generalize hR:LK [.ref p,.int n,.int k] h3=R
  simp [S.ob,q1,q2,q3,q4,i1L,ad,e1,e2,e3,zz,hR,-fIx,-fEq,-fAdd]
  cases R<;>rfl
end Sk
namespace Sk
open PySem PySem.Spec L2 Sm
theorem zel {w v:Str} (h1:1<=w.length) (h2:w.length+v.length<=8) (pw:yaE w=true) (pv:yaE v=true):ybP (w++v)=true:=by
 unfold ybP
 rw [zaQ,zaj,pw,pv]
 simp;lia
theorem zeT {h:AH} {p:Nat} {ps:List Pc} {a b:Nat} {ma mb fa la fb lb:Ms} {x y:Str} (S:ShelfAt h p ps) (g:Good ps) (A:Tx ps a ma x fa la) (B:Tx ps b mb y fb lb) (hc : ¬ 8<la.sg+fb.sg) (hm:ma.sg+mb.sg<=1000000000000000000) (hz:ps.length<15000000) :
  ∃ (n:Nat) (ps':List Pc) (h':AH) (m f l:Ms),Dn (ycN [.ref p,.int a,.int b]) p h h' ps ps' (7*(max ma.ht mb.ht).toNat+2) n/\Tx ps' n m (x++y) f l/\m.ht<=max ma.ht mb.ht+1:=by
 obtain ⟨_,w,u,l1,el,ex,lw⟩:=g.ends a a (Nat.le_refl _) A
 obtain ⟨⟨v,t,f1,ef,ey,lv⟩,_⟩:=g.ends b b (Nat.le_refl _) B
 have a0:=A.ky.ht
 have b0:=B.ky.ht
 have ha:=ht82 g A
 have hb:=ht82 g B
 have px:yaE x=true:=A.ky.pl
 have py:yaE y=true:=B.ky.pl
 have pw:yaE w=true:=by rw [ex,zaQ,Bool.and_eq_true] at px;exact px.2
 have pv:yaE v=true:=by rw [ey,zaQ,Bool.and_eq_true] at py;exact py.1
 have la1:=A.ky.l1
 have fb1:=B.ky.f1
 have sx:=A.ky.sg
 have sy:=B.ky.sg
 have lx:x.length=u.length+w.length:=by rw [ex,zaj]
 have ly:y.length=v.length+t.length:=by rw [ey,zaj]
 have lwv:(w++v).length=w.length+v.length:=zaj w v
 obtain ⟨L,ps1,h1,d1,N⟩:=zb2 S g (zel (w:=w) (v:=v) (by lia) (by lia) pw pv) (by lia)
 have z1:=d1.dd.len
 obtain ⟨n2,ps2,h2,m2,f2,u2,v2,d2,ex2,lv2,T2,k1,k2⟩:=zdS 90 d1.dd.sh d1.dd.gd (A.pre d1.dd.pre) N (by lia) (by lia) (by lia) (by lia)
 have z2:=d2.dd.len
 obtain ⟨rfl,rfl⟩:u=u2/\w=v2:=zeS (ex.symm.trans ex2) (by lia)
 have s2:m2.sg=u.length+(w.length+v.length):=by rw [T2.ky.sg,zaj,zaj]
 have p12:=d1.dd.pre.trans d2.dd.pre
 have lm:(lfMs (w++v) L).sg=w.length+v.length:=zaj w v
 have tb:∀ q:Int,0<=q->q<=max ma.ht mb.ht->q.toNat<=(max ma.ht mb.ht).toNat:=fun q _ _=>by lia
 rcases zdc 90 d2.dd.sh d2.dd.gd (B.pre p12) (by lia) (by lia) with ⟨r1,r2,d3⟩ | ⟨r1,n3,ps3,h3,m3,f3,u3,v3,d3,ey3,lu3,T3,r2,r3,r4⟩
 ·have t0:t.length=0:=by lia
  have te:t = "" := zae (by rw [zad] at t0;rw [List.length_eq_zero_iff.mp t0];rfl)
  have rd:u++(w++v)=x++y:=by
   rw [ex,ey,te,zak]
   congr 2
  rw [rd] at T2
  refine ⟨n2,ps2,h2,m2,f2,_,⟨?_,d1.dd.trans d2.dd (by lia),fun h4 ps4 S4 g4 p4=>?_⟩,T2,by lia⟩
  ·rw [wd_1 S A.ms B.ms l1 f1 el ef (by lia) d1.ev d2.ev d3.ev];rfl
  ·have q1:=d1.re h4 ps4 S4 g4 (d2.dd.pre.trans p4)
   have q2:=d2.re h4 ps4 S4 g4 p4
   have q3:=d3.re h4 ps4 S4 g4 p4
   rw [wd_1 S4 (zac (p12.trans p4) A.ms) (zac (p12.trans p4) B.ms) l1 f1 (yaS (p12.trans p4) el) (yaS (p12.trans p4) ef) (by lia) q1 q2 q3];rfl
 ·obtain ⟨rfl,rfl⟩:v=u3/\t=v3:=zdT (ey.symm.trans ey3) (by lia)
  have z3:=d3.dd.len
  have s3:m3.sg=t.length:=T3.ky.sg
  have m30:=T3.ky.ht
  obtain ⟨n4,ps4,h4,m4,d4,T4,r5,r6⟩:=za8 90 (max ma.ht mb.ht).toNat d3.dd.sh d3.dd.gd (T2.pre d3.dd.pre) T3 (by lia) (by lia) (by lia) (by lia) (by lia)
  have rd:(u++(w++v))++t=x++y:=by rw [ex,ey,zak,zak,zak]
  rw [rd] at T4
  have n3z : ¬ (n3:Int)=0:=by have:=T3.n1;lia
  have p123:=p12.trans d3.dd.pre
  refine ⟨n4,ps4,h4,m4,f2,lb,⟨?_,((d1.dd.trans d2.dd (Nat.le_refl _)).trans d3.dd (Nat.le_refl _)).trans d4.dd (by lia),fun h5 ps5 S5 g5 p5=>?_⟩,T4,by lia⟩
  ·rw [wd_1 S A.ms B.ms l1 f1 el ef (by lia) d1.ev d2.ev d3.ev,if_neg n3z];exact d4.ev
  ·have p45:=d4.dd.pre.trans p5
   have q1:=d1.re h5 ps5 S5 g5 (d2.dd.pre.trans (d3.dd.pre.trans p45))
   have q2:=d2.re h5 ps5 S5 g5 (d3.dd.pre.trans p45)
   have q3:=d3.re h5 ps5 S5 g5 p45
   have q4:=d4.re h5 ps5 S5 g5 p5
   have pa:=p123.trans p45
   rw [wd_1 S5 (zac pa A.ms) (zac pa B.ms) l1 f1 (yaS pa el) (yaS pa ef) (by lia) q1 q2 q3,if_neg n3z];exact q4
def TxZ (ps:List Pc) (n:Nat) (y:Str):Prop:=(n=0/\y = "")\/∃ m f l,Tx ps n m y f l
theorem TxZ.pre {ps ps':List Pc} {n:Nat} {y:Str} (t:TxZ ps n y) (h:ps <+: ps'):TxZ ps' n y:=by
 rcases t with t | ⟨m,f,l,t⟩
 ·exact .inl t
 ·exact .inr ⟨m,f,l,t.pre h⟩
theorem zbw (ps:List Pc):(meas ps)[0]? = some ms0:=by
 obtain ⟨r,e,_⟩:=zbL ydn ps [ms0]
 rw [meas,e];rfl
def htOf (ps:List Pc) (n:Nat):Int:=((meas ps).getD n ms0).ht
theorem yb9 {ps:List Pc} {n:Nat} {m:Ms} (e:(meas ps)[n]? = some m):htOf ps n=m.ht:=by unfold htOf;rw [zbd e]
theorem zbG (ps:List Pc):htOf ps 0 = -1:=yb9 (zbw ps)
theorem zbi {i:Int} (hi:i<=1000000000000000000) (h:AH):ybj [.int i] h = .ok .non h:=by
 have : ¬ (1000000000000000000:Int)<i:=by lia
 simp [ybj,this]
theorem jn_0 {h:AH} {p:Nat} {ps:List Pc} {b:Nat} {mb:Ms} (S:ShelfAt h p ps) (eb:(meas ps)[b]? = some mb) (hm:mb.sg<=1000000000000000000):yat [.ref p,.int (0:Nat),.int b] h = .ok (.int b) h:=by
 have e1:=zaf S (zbw ps)
 have e2:=zaf S eb
 have z:ms0.sg=0:=rfl
 rw [z] at e1
 have e1':yaz [.ref p,.int 0] h = .ok (.int 0) h:=e1
 have ck:=zbi (i:=(0:Int)+mb.sg) (by lia) h
 have zz:fEq (.int 0) (.int 0) h = .ok (.bl true) h:=by simp
 have ad:fAdd (.int 0) (.int mb.sg) h = .ok (.int (0+mb.sg)) h:=rfl
 simp [yat,S.ob,e1',e2,ad,ck,zz,-fEq,-fAdd,-Int.zero_add]
theorem jn_1 {h:AH} {p:Nat} {ps:List Pc} {a:Nat} {ma:Ms} (S:ShelfAt h p ps) (a1:1<=a) (ea:(meas ps)[a]? = some ma) (hm:ma.sg<=1000000000000000000):yat [.ref p,.int a,.int (0:Nat)] h = .ok (.int a) h:=by
 have e1:=zaf S (zbw ps)
 have e2:=zaf S ea
 have z:ms0.sg=0:=rfl
 rw [z] at e1
 have e1':yaz [.ref p,.int 0] h = .ok (.int 0) h:=e1
 have ck:=zbi (i:=(ma.sg:Int)+0) (by lia) h
 have zz:fEq (.int 0) (.int 0) h = .ok (.bl true) h:=by simp
 have z2:fEq (.int a) (.int 0) h = .ok (.bl false) h:=by
  have : ¬ a=0:=by lia
  simp [this]
 have ad:fAdd (.int ma.sg) (.int 0) h = .ok (.int (ma.sg+0)) h:=rfl
 simp [yat,S.ob,e1',e2,ad,ck,zz,z2,-fEq,-fAdd,-Int.add_zero]
theorem jn_2 {h:AH} {p:Nat} {ps:List Pc} {a b:Nat} {ma mb la fb:Ms} (S:ShelfAt h p ps) (a1:1<=a) (b1:1<=b) (ea:(meas ps)[a]? = some ma) (eb:(meas ps)[b]? = some mb) (el:(meas ps)[ma.ll]? = some la) (ef:(meas ps)[mb.fl]? = some fb) (hm:ma.sg+mb.sg<=1000000000000000000) :
  yat [.ref p,.int a,.int b] h=if 8<la.sg+fb.sg then ya7 90 [.ref p,.int a,.int b] h else ycN [.ref p,.int a,.int b] h:=by
 have e1:=zaf S ea
 have e2:=zaf S eb
 have cl:=zjh S ea eb el ef
 have ck:=zbi (i:=(ma.sg:Int)+mb.sg) (by lia) h
 have z1:fEq (.int a) (.int 0) h = .ok (.bl false) h:=by
  have : ¬ a=0:=by lia
  simp [this]
 have z2:fEq (.int b) (.int 0) h = .ok (.bl false) h:=by
  have : ¬ b=0:=by lia
  simp [this]
 have ad:fAdd (.int ma.sg) (.int mb.sg) h = .ok (.int (ma.sg+mb.sg)) h:=rfl
 unfold yat
 generalize ya7 90=LK at *
 by_cases q:8<la.sg+fb.sg
 ·rw [if_pos q]
  generalize hR:LK [.ref p,.int a,.int b] h=R
  simp [S.ob,e1,e2,ad,ck,z1,z2,cl,q,hR,-fEq,-fAdd]
  cases R<;>rfl
 ·rw [if_neg q]
  generalize hR:ycN [.ref p,.int a,.int b] h=R
  simp [S.ob,e1,e2,ad,ck,z1,z2,cl,q,hR,-fEq,-fAdd]
  cases R<;>rfl
theorem TxZ.meas {ps:List Pc} {n:Nat} {y:Str} (t:TxZ ps n y):∃ m,(meas ps)[n]? = some m/\m.sg=y.length:=by
 rcases t with ⟨rfl,rfl⟩ | ⟨m,f,l,T⟩
 ·exact ⟨ms0,zbw ps,rfl⟩
 ·exact ⟨m,T.ms,T.ky.sg⟩
theorem zdd {h:AH} {p:Nat} {ps:List Pc} {a b:Nat} {x y:Str} (S:ShelfAt h p ps) (g:Good ps) (A:TxZ ps a x) (B:TxZ ps b y) (hm:x.length+y.length<=1000000000000000000) (hz:ps.length<15000000) :
  ∃ (n:Nat) (ps':List Pc) (h':AH),Dn (yat [.ref p,.int a,.int b]) p h h' ps ps' (16*(max (htOf ps a) (htOf ps b)+1).toNat) n/\TxZ ps' n (x++y):=by
 rcases A with ⟨rfl,rfl⟩ | ⟨ma,fa,la,A⟩
 ·obtain ⟨mb,eb,sb⟩:=B.meas
  have em:("" : Str)++y=y:=zae (by rw [zai];rfl)
  have dv:Dn (yat [.ref p,.int (0:Nat),.int b]) p h h ps ps 0 b:=Dn.val S g fun hh pp S' _ pr=>jn_0 S' (zac pr eb) (by rw [sb];lia)
  exact ⟨b,ps,h,dv.as S g (fun _ _ _ _ _=>rfl) (Nat.zero_le _),by rw [em];exact B⟩
 ·rcases B with ⟨rfl,rfl⟩ | ⟨mb,fb,lb,B⟩
  ·have em:x++("" : Str)=x:=zae (by rw [zai];simp;rfl)
   have dv:Dn (yat [.ref p,.int a,.int (0:Nat)]) p h h ps ps 0 a:=Dn.val S g fun hh pp S' _ pr=>jn_1 S' A.n1 (zac pr A.ms) A.ky.most
   exact ⟨a,ps,h,dv.as S g (fun _ _ _ _ _=>rfl) (Nat.zero_le _),by rw [em];exact .inr ⟨_,_,_,A⟩⟩
  ·have sa:=A.ky.sg
   have sb:=B.ky.sg
   have a0:=A.ky.ht
   have b0:=B.ky.ht
   have ha:=ht82 g A
   have hb:=ht82 g B
   rw [yb9 A.ms,yb9 B.ms]
   by_cases q:8<la.sg+fb.sg
   ·obtain ⟨n,ps',h',m,d,T,_⟩:=za8 90 (max ma.ht mb.ht).toNat S g A B q (by lia) (by lia) (by lia) (by lia)
    exact ⟨n,ps',h',d.as S g (fun hh pp S' _ pr=>by rw [jn_2 S' A.n1 B.n1 (zac pr A.ms) (zac pr B.ms) (zac pr A.ky.ll) (zac pr B.ky.fl) (by lia),if_pos q]) (by lia),.inr ⟨_,_,_,T⟩⟩
   ·obtain ⟨n,ps',h',m,f,l,d,T,_⟩:=zeT S g A B q (by lia) hz
    exact ⟨n,ps',h',d.as S g (fun hh pp S' _ pr=>by rw [jn_2 S' A.n1 B.n1 (zac pr A.ms) (zac pr B.ms) (zac pr A.ky.ll) (zac pr B.ky.fl) (by lia),if_neg q]) (by lia),.inr ⟨_,_,_,T⟩⟩
end Sk
namespace Sk
open PySem PySem.Spec L2 Sm
theorem zji {b e:Nat} {y:Str} (be:b<=e):(cutS y (some (b:Int)) (some (e:Int))).cps.toList=(y.cps.toList.drop b).take (e-b):=by
 unfold cutS
 rw [HT.sIx_nat,HT.sIx_nat]
 generalize y.cps.toList=l
 show (l.drop (min b l.length)).take (min e l.length-min b l.length)=_
 apply List.ext_getElem?
 intro i
 rw [List.getElem?_take,List.getElem?_take,List.getElem?_drop,List.getElem?_drop]
 by_cases q:b<=l.length
 ·rw [Nat.min_eq_left q]
  by_cases c1:i<e-b
  ·rw [if_pos c1]
   by_cases c2:i<min e l.length-b
   ·rw [if_pos c2]
   ·rw [if_neg c2,List.getElem?_eq_none (by lia)]
  ·rw [if_neg c1,if_neg (by lia)]
 ·rw [if_neg (by lia),List.getElem?_eq_none (l:=l) (i:=b+i) (by lia)]
  split<;>rfl
def cat:List Str->Str
 | [] => ""
 | w::ws=>w++cat ws
theorem zdU:∀ as bs:List Str,cat (as++bs)=cat as++cat bs
 | [],bs=>(zae (by rw [zai];rfl):cat bs=("" : Str)++cat bs)
 | w::as,bs=>by
  show w++cat (as++bs)=(w++cat as)++cat bs
  rw [zdU as bs,zak]
theorem zf2 (w:Str):cat [w]=w:=zae (by show (w++("" : Str)).cps.toList=_;rw [zai];simp;rfl)
def LS (ps:List Pc) (ns:List Nat) (ws:List Str):Prop:=ns.length=ws.length/\∀ (i n:Nat) (w:Str),ns[i]? = some n->ws[i]? = some w->Tx ps n (lfMs w n) w (lfMs w n) (lfMs w n)
theorem LS.pre {ps ps':List Pc} {ns:List Nat} {ws:List Str} (s:LS ps ns ws) (h:ps <+: ps'):LS ps' ns ws:=⟨s.1,fun i n w a b=>(s.2 i n w a b).pre h⟩
theorem LS.take {ps:List Pc} {ns:List Nat} {ws:List Str} (s:LS ps ns ws) (k:Nat):LS ps (ns.take k) (ws.take k):=by
 refine ⟨by simp [s.1],fun i n w a b=>?_⟩
 rw [List.getElem?_take] at a b
 by_cases q:i<k
 ·rw [if_pos q] at a b;exact s.2 i n w a b
 ·rw [if_neg q] at a;cases a
theorem LS.drop {ps:List Pc} {ns:List Nat} {ws:List Str} (s:LS ps ns ws) (k:Nat):LS ps (ns.drop k) (ws.drop k):=by
 refine ⟨by simp [s.1],fun i n w a b=>?_⟩
 rw [List.getElem?_drop] at a b
 exact s.2 _ n w a b
abbrev ivs (ns:List Nat):List AV:=ns.map fun n:Nat=>AV.int (n:Int)
theorem hv_1 {h:AH} {p d n:Nat}:yb2 (d+1) [.ref p,.fl (ivs [n])] h = .ok (.int n) h:=by
 have ix:fIx (.fl [.int (n:Int)]) (.int 0) h = .ok (.int n) h:=rfl
 simp [yb2,yep,ix,-fIx]
theorem zhj {α:Type} (l:List α) {k:Nat} (hk:k<=l.length):cutA l none (some (k:Int))=l.take k:=by
 unfold cutA
 rw [HT.sIx_nat,HT.sIx_none,Nat.min_eq_left hk];simp
theorem zhk {α:Type} (l:List α) {k:Nat} (hk:k<=l.length):cutA l (some (k:Int)) none=l.drop k:=by
 unfold cutA
 rw [HT.sIx_nat,HT.sIx_none,Nat.min_eq_left hk,List.take_of_length_le (by simp)]
theorem hv_2 {h h1 h2:AH} {p d:Nat} {ps:List Pc} {ns:List Nat} {v1 v2:Int} (S:ShelfAt h p ps) (hl:2<=ns.length) (e1:yb2 d [.ref p,.fl (ivs (ns.take (ns.length / 2)))] h = .ok (.int v1) h1) (e2:yb2 d [.ref p,.fl (ivs (ns.drop (ns.length / 2)))] h1 = .ok (.int v2) h2) :
  yb2 (d+1) [.ref p,.fl (ivs ns)] h=yah [.ref p,.int v1,.int v2] h2:=by
 have hh:ns.length / 2<=ns.length:=Nat.div_le_self _ _
 have ln:fLen [.fl (ivs ns)] h = .ok (.int ns.length) h:=by simp [fLen]
 have q:fEq (.int ns.length) (.int 1) h = .ok (.bl false) h:=by
  have : ¬ (ns.length:Int)=1:=by lia
  simp [this]
 have dv:fDiv (.int ns.length) (.int 2) h = .ok (.int (ns.length / 2:Nat)) h:=rfl
 have c1:ybg (.fl (ivs ns)) none (some (ns.length / 2:Nat)) h = .ok (.fl (ivs (ns.take (ns.length / 2)))) h:=by
  have:=zhj (ivs ns) (k:=ns.length / 2) (by simpa using hh)
  simp only [ybg,this,ivs,List.map_take]
 have c2:∀ h,ybg (.fl (ivs ns)) (some (ns.length / 2:Nat)) none h = .ok (.fl (ivs (ns.drop (ns.length / 2)))) h:=fun h=>by
  have:=zhk (ivs ns) (k:=ns.length / 2) (by simpa using hh)
  simp only [ybg,this,ivs,List.map_drop]
 generalize hF:yah [.ref p,.int v1,.int v2] h2=R
 unfold yb2 yep
 generalize ivs ns=Z at *
 generalize ivs (ns.take (ns.length / 2))=Z1 at *
 generalize ivs (ns.drop (ns.length / 2))=Z2 at *
 generalize ((ns.length / 2:Nat):Int)=M at *
 generalize (ns.length:Int)=K at *
 simp [S.ob,ln,q,dv,c1,c2,e1,e2,hF,-fLen,-fEq,-fDiv,-ybg]
 cases R<;>rfl
theorem pw1 {a b ha hb:Nat} (ab:b<=a+1) (h1:a<=2 ^ ha) (h2:hb=0\/2 ^ (hb-1)<b):hb<=ha+1:=by
 rcases h2 with h2 | h2
 ·lia
 ·have:2 ^ (hb-1)<=2 ^ ha:=by lia
  have:=(Nat.pow_le_pow_iff_right (a:=2) (by decide)).mp this
  lia
theorem pw2 {a b ha hb:Nat} (ab:a<=b) (h1:b<=2 ^ hb) (h2:ha=0\/2 ^ (ha-1)<a):ha<=hb:=by
 rcases h2 with h2 | h2
 ·lia
 ·have:2 ^ (ha-1)<2 ^ hb:=by lia
  have:=(Nat.pow_lt_pow_iff_right (a:=2) (by decide)).mp this
  lia
theorem pw3 {k b hb:Nat} (h1:k<=2*b) (h2:2*b<=k+1) (h3:2<=k) (h4:b<=2 ^ hb) (h5:hb=0\/2 ^ (hb-1)<b):k<=2 ^ (hb+1)/\2 ^ (hb+1-1)<k:=by
 rw [Nat.pow_succ,Nat.add_sub_cancel]
 refine ⟨by lia,?_⟩
 rcases h5 with h5 | h5
 ·subst h5;simp;lia
 ·cases hb with
  | zero=>simp;lia
  | succ n =>
   rw [Nat.add_sub_cancel] at h5
   rw [Nat.pow_succ];lia
theorem pw4 {k e:Nat} (h:k<=2 ^ (e+1)):k / 2<=2 ^ e/\k-k / 2<=2 ^ e:=by rw [Nat.pow_succ] at h;lia
theorem zde {p:Nat}:∀ (d e:Nat) {h:AH} {ps:List Pc} {ns:List Nat} {ws:List Str},ShelfAt h p ps->Good ps->LS ps ns ws->1<=ns.length->ns.length<=2 ^ e->e<d->(∀ (i:Nat) (w:Str),ws[i]? = some w->i+1<ws.length->w.length=8)->ps.length+ns.length<16000000->ns.length<=10000 ->
  ∃ (n:Nat) (ps':List Pc) (h':AH) (m f l:Ms) (H:Nat),yb2 d [.ref p,.fl (ivs ns)] h = .ok (.int n) h'/\Dd p h h' ps ps' (ns.length-1)/\Tx ps' n m (cat ws) f l/\m.ht=H/\ns.length<=2 ^ H/\(H=0\/2 ^ (H-1)<ns.length)/\((∀ w∈ws,w.length=8)->l.sg=8)/\m.sg<=8*ns.length
 | 0,e,h,ps,ns,ws,S,g,LL,h1,h2,h3,h4,h5,h6=>absurd h3 (Nat.not_lt_zero _)
 | d+1,e,h,ps,ns,ws,S,g,LL,h1,h2,h3,h4,h5,h6=>by
  by_cases q:ns.length=1
  ·obtain ⟨n,rfl⟩:∃ n,ns=[n]:=List.length_eq_one_iff.mp q
   obtain ⟨w,rfl⟩:∃ w,ws=[w]:=List.length_eq_one_iff.mp (LL.1.symm.trans q)
   have T:=LL.2 0 n w rfl rfl
   refine ⟨n,ps,h,_,_,_,0,hv_1,{ Dd.refl S g with len:=by lia },by rw [zf2];exact T,rfl,by simp,.inl rfl,fun hw=>hw w (by simp),?_⟩
   have:=T.ky.f8
   simpa using this
  ·have hh:2<=ns.length:=by lia
   obtain ⟨e',rfl⟩:∃ e',e=e'+1:=by
    cases e with
    | zero=>simp at h2;lia
    | succ e' => exact ⟨e',rfl⟩
   obtain ⟨w1,w2⟩:=pw4 h2
   have lt:(ns.take (ns.length / 2)).length=ns.length / 2:=by rw [List.length_take];lia
   have ld:(ns.drop (ns.length / 2)).length=ns.length-ns.length / 2:=List.length_drop ..
   have lw:=LL.1
   obtain ⟨n1,ps1,hh1,m1,f1,l1,H1,a1,a2,a3,a4,a5,a6,a7,a8⟩:=zde d e' S g (LL.take (ns.length / 2)) (by lia) (by lia) (by lia) (fun i w ew hi=>by
    rw [List.getElem?_take] at ew
    split at ew
    ·rw [List.length_take] at hi;exact h4 i w ew (by lia)
    ·cases ew) (by lia) (by lia)
   have z1:=a2.len
   obtain ⟨n2,ps2,hh2,m2,f2,l2,H2,b1,b2,b3,b4,b5,b6,b7,b8⟩:=zde d e' a2.sh a2.gd ((LL.drop (ns.length / 2)).pre a2.pre) (by lia) (by lia) (by lia) (fun i w ew hi=>by
    rw [List.getElem?_drop] at ew
    rw [List.length_drop] at hi
    exact h4 _ w ew (by lia)) (by lia) (by lia)
   have z2:=b2.len
   rw [lt] at a5 a6 a8
   rw [ld] at b5 b6 b8
   have g1:=pw1 (a:=ns.length / 2) (b:=ns.length-ns.length / 2) (by lia) a5 b6
   have g2:=pw2 (a:=ns.length / 2) (b:=ns.length-ns.length / 2) (by lia) b5 a6
   have l8:l1.sg=8:=a7 fun w hw=>by
    obtain ⟨i,hi,ei⟩:=List.getElem_of_mem hw
    have hi' := hi
    rw [List.length_take] at hi'
    have:(ws.take (ns.length / 2))[i]? = some w:=by rw [List.getElem?_eq_getElem hi,ei]
    rw [List.getElem?_take] at this
    split at this
    ·exact h4 i w this (by lia)
    ·cases this
   have f1' := b3.ky.f1
   obtain ⟨n3,ps3,hh3,d3,T3⟩:=zaC b2.sh b2.gd (a3.pre b2.pre) b3 (by lia) (by lia) (by lia) (by lia) (by lia)
   have rd:cat (ws.take (ns.length / 2))++cat (ws.drop (ns.length / 2))=cat ws:=by rw [<- zdU,List.take_append_drop]
   rw [rd] at T3
   have hv:=hv_2 S hh a1 b1
   obtain ⟨y1,y2⟩:=pw3 (k:=ns.length) (b:=ns.length-ns.length / 2) (by lia) (by lia) hh b5 b6
   refine ⟨n3,ps3,hh3,_,f1,l2,H2+1,hv.trans d3.ev,(a2.trans b2 (Nat.le_refl _)).trans d3.dd (by lia),T3,by rw [fmH,a4,b4];lia,y1,.inr y2,fun hw=>b7 fun w hm=>hw w (List.mem_of_mem_drop hm),by rw [fmS];lia⟩
end Sk
namespace Sk
open PySem PySem.Spec L2 Sm
def ydo (x:Str) (k:Nat):Str:=cutS x (some ((8*k:Nat):Int)) (some ((8*k+8:Nat):Int))
theorem zcu (x:Str) (k:Nat):(ydo x k).cps.toList=(x.cps.toList.drop (8*k)).take 8:=by
 unfold ydo
 rw [zji (by lia),show 8*k+8-8*k=8 by lia]
theorem zem (x:Str) (k:Nat):(ydo x k).length=min 8 (x.length-8*k):=by
 rw [zad,zcu,List.length_take,List.length_drop,<- zad]
theorem zfd {x:Str} (px:yaE x=true) (k:Nat):yaE (ydo x k)=true:=by
 unfold yaE at *
 rw [zcu,List.all_eq_true]
 rw [List.all_eq_true] at px
 exact fun c hc=>px c (List.mem_of_mem_drop (List.mem_of_mem_take hc))
theorem zdA (x:Str):∀ j,(cat ((List.range j).map (ydo x))).cps.toList=x.cps.toList.take (8*j)
 | 0=>rfl
 | j+1=>by
  rw [List.range_succ,List.map_append,zdU,zai,zdA x j]
  show _++(cat [ydo x j]).cps.toList=_
  rw [zf2,zcu,show 8*(j+1)=8*j+8 by lia,List.take_add]
theorem zen {α:Type} {f:Nat->α} {N i:Nat} {w:α} (e:((List.range N).map f)[i]? = some w):i<N/\w=f i:=by
 rw [List.getElem?_map] at e
 obtain ⟨j,ej,ew⟩:=Option.map_eq_some_iff.mp e
 have h1:=(List.getElem?_eq_some_iff.mp ej).1
 rw [List.length_range] at h1
 rw [List.getElem?_range h1] at ej
 cases ej
 exact ⟨h1,ew.symm⟩
theorem LS.snoc {ps ps':List Pc} {ns:List Nat} {ws:List Str} {n:Nat} {w:Str} (s:LS ps ns ws) (h:ps <+: ps') (T:Tx ps' n (lfMs w n) w (lfMs w n) (lfMs w n)):LS ps' (ns++[n]) (ws++[w]):=by
 have l:=s.1
 refine ⟨by simp [s.1],fun i a b ea eb=>?_⟩
 by_cases q:i<ns.length
 ·rw [List.getElem?_append_left q] at ea
  rw [List.getElem?_append_left (by lia)] at eb
  exact (s.2 i a b ea eb).pre h
 ·have h1:=(List.getElem?_eq_some_iff.mp ea).1
  have hi:i=ns.length:=by simp at h1;lia
  subst hi
  rw [List.getElem?_append_right (by lia)] at ea eb
  simp at ea
  rw [show ns.length-ws.length=0 by lia] at eb
  simp at eb
  subst ea eb
  exact T
theorem zfe {h:AH} {p:Nat} {ps:List Pc} {x:Str} (S:ShelfAt h p ps) (g:Good ps) (px:yaE x=true) (N:Nat) (hN:8*N<x.length+8) (hx:x.length<=10000) (hz:ps.length+N<16000000) (all:List AV) (js:List Nat) (en:En) (hj:js.map (fun j=>(en[j]?).join)=[some (.ref p),some (.str x)]) :
  ∃ (ns:List Nat) (ps':List Pc) (h':AH),yaV js en none all sYes (yam 0 yaK (sVar 1) (yab (sCut (sVar 2) (some (sVar 0)) (some (sOp2 fAdd (sVar 0) (sLit (.int 8))))) sNil)) ((List.range N).map fun m:Nat=>AV.int (0+(m:Int)*8)) [] h = .ok (ivs ns) h'/\Dd p h h' ps ps' N/\LS ps' ns ((List.range N).map (ydo x)):=by
 obtain ⟨zs,h',c1,ns,ps',e1,D,LL⟩:=yfH (js:=js) (en:=en) (all:=all) (e:=yam 0 yaK (sVar 1) (yab (sCut (sVar 2) (some (sVar 0)) (some (sOp2 fAdd (sVar 0) (sLit (.int 8))))) sNil)) (xs:=(List.range N).map fun m:Nat=>AV.int (0+(m:Int)*8)) (h:=h)
  (fun j ys h' => ∃ (ns:List Nat) (ps':List Pc),ys=ivs ns/\Dd p h h' ps ps' j/\LS ps' ns ((List.range j).map (ydo x))) ⟨[],ps,rfl,Dd.refl S g,rfl,fun i n w a _=>by simp at a⟩ (by
   rintro j v ys h' hv ⟨ns,ps',rfl,D,LL⟩
   obtain ⟨jN,rfl⟩:=zen hv
   have z:=D.len
   have lc:=zem x j
   have sc:ybP (ydo x j)=true:=by
    unfold ybP
    rw [zfd px j,lc]
    simp;lia
   obtain ⟨n,ps2,h2,d2,T⟩:=zb2 D.sh D.gd sc (by lia)
   have i1:(0:Int)+(j:Int)*8=((8*j:Nat):Int):=by lia
   have i2:((8*j:Nat):Int)+8=((8*j+8:Nat):Int):=by lia
   have ct:ybg (.str x) (some ((8*j:Nat):Int)) (some ((8*j+8:Nat):Int)) h' = .ok (.str (ydo x j)) h' := rfl
   have ev:=d2.ev
   rw [hj]
   have e:yam 0 yaK (sVar 1) (yab (sCut (sVar 2) (some (sVar 0)) (some (sOp2 fAdd (sVar 0) (sLit (.int 8))))) sNil) [some (.int (0+(j:Int)*8)),some (.ref p),some (.str x)] h' = .ok (.int n) h2:=by
    rw [i1]
    have ad:fAdd (.int ((8*j:Nat):Int)) (.int 8) h' = .ok (.int ((8*j+8:Nat):Int)) h' := by rw [<- i2];rfl
    generalize ((8*j:Nat):Int)=B1 at *
    generalize ((8*j+8:Nat):Int)=B2 at *
    simp [D.sh.ob,ad,ct,ev,-fAdd,-ybg]
   rw [e]
   refine ⟨ns++[n],ps2,by simp [ivs],D.trans d2.dd (by lia),?_⟩
   rw [List.range_succ,List.map_append]
   exact LL.snoc d2.dd.pre T) (by simp;exact Nat.le_trans (show N<=10000 by lia) (by decide))
 rw [List.length_map,List.length_range] at D LL
 exact ⟨ns,ps',h',by rw [c1,e1],D,LL⟩
theorem zjj {h:AH} {p:Nat} {ps:List Pc} {x:Str} (S:ShelfAt h p ps) (g:Good ps) (px:yaE x=true) (hx:x.length<=10000) (hz:ps.length+2*x.length<16000000) :
  ∃ (n:Nat) (ps':List Pc) (h':AH),yd6 [.ref p,.str x] h = .ok (.int n) h'/\Dd p h h' ps ps' (2*x.length)/\TxZ ps' n x:=by
 have sl:x.length<=sizeLine:=Nat.le_trans hx (by decide)
 have fp:=zfS x h sl
 rw [px] at fp
 have c1 : ¬ (10000:Int)<x.length:=by lia
 by_cases q:x.length=0
 ·have xe:x = "" := zae (by rw [zad] at q;rw [List.length_eq_zero_iff.mp q];rfl)
  subst xe
  refine ⟨0,ps,h,?_,{ Dd.refl S g with len:=by lia },.inl ⟨rfl,rfl⟩⟩
  simp [yd6,fp,c1]
 ·obtain ⟨N,eN⟩:∃ N,N=(x.length-1) / 8+1:=⟨_,rfl⟩
  obtain ⟨ns,ps1,h1,e1,D1,LL⟩:=zfe S g px N (by lia) hx (by lia) ((List.range N).map fun m:Nat=>AV.int (0+(m:Int)*8)) [0,1] [some (.ref p),some (.str x),none] rfl
  have z1:=D1.len
  have ln:ns.length=N:=by rw [LL.1];simp
  obtain ⟨n,ps2,h2,m,f,l,H,b1,b2,b3,_⟩:=zde (p:=p) 20 11 D1.sh D1.gd LL (by lia) (by rw [ln];have:(2:Nat) ^ 11=2048:=rfl;lia) (by decide) (fun i w ew hi=>by
   obtain ⟨iN,rfl⟩:=zen ew
   rw [List.length_map,List.length_range] at hi
   rw [zem];lia) (by lia) (by lia)
  have rd:cat ((List.range N).map (ydo x))=x:=zae (by rw [zdA,List.take_of_length_le (by rw [<- zad];lia)])
  rw [rd] at b3
  have ir:ycV (sLit (.int 0)) (yaf fLen (yab (sVar 1) sNil)) (sLit (.int 8)) [some (.ref p),some (.str x),none] h = .ok ((List.range N).map (fun m:Nat=>AV.int (0+(m:Int)*8)),none) h:=by
   have r1:((if (0:Int)<x.length then ((x.length:Int)-0-1) / 8+1 else 0:Int)).toNat=N:=by
    rw [if_pos (by lia)];lia
   have r2:(0:Int).natAbs<2 ^ 40/\(x.length:Int).natAbs<2 ^ 40/\(0:Int)<8/\(8:Int)<2 ^ 20:=⟨by decide,by lia,by decide,by decide⟩
   show (if _ then _ else _)=_
   rw [if_pos r2,r1]
  have cp:ybn [0,1] (ycV (sLit (.int 0)) (yaf fLen (yab (sVar 1) sNil)) (sLit (.int 8))) sYes (yam 0 yaK (sVar 1) (yab (sCut (sVar 2) (some (sVar 0)) (some (sOp2 fAdd (sVar 0) (sLit (.int 8))))) sNil)) [some (.ref p),some (.str x),none] h = .ok (.fl (ivs ns)) h1:=by
   simp only [ybn,ir,e1]
  have ne:fEq (.str x) (.str "") h = .ok (.bl false) h:=by
   have : ¬ x=Str.ofString "" := fun z=>q (by rw [z];rfl)
   simp [this]
  refine ⟨n,ps2,h2,?_,D1.trans b2 (by lia),.inr ⟨_,_,_,b3⟩⟩
  unfold yd6
  generalize ybn [0,1] (ycV (sLit (.int 0)) (yaf fLen (yab (sVar 1) sNil)) (sLit (.int 8))) sYes (yam 0 yaK (sVar 1) (yab (sCut (sVar 2) (some (sVar 0)) (some (sOp2 fAdd (sVar 0) (sLit (.int 8))))) sNil))=CP at *
  generalize yb2 20=HV at *
  simp [fp,c1,ne,cp,b1,-fEq]
end Sk
namespace Sk
open PySem PySem.Spec L2 Sm
theorem zcv {h:AH} {p:Nat} {ps:List Pc} {a b:Nat} {x y:Str} (S:ShelfAt h p ps) (g:Good ps) (A:TxZ ps a x) (B:TxZ ps b y) (hm:x.length+y.length<=1000000000000000000) (hz:ps.length<15000000) :
  ∃ (n:Nat) (ps':List Pc) (h':AH),Dn (yat [.ref p,.int a,.int b]) p h h' ps ps' (16*(max (htOf ps a) (htOf ps b)+1).toNat) n/\TxZ ps' n (x++y)/\htOf ps' n<=max (htOf ps a) (htOf ps b)+1:=by
 rcases A with ⟨rfl,rfl⟩ | ⟨ma,fa,la,A⟩
 ·obtain ⟨mb,eb,sb⟩:=B.meas
  have em:("" : Str)++y=y:=zae (by rw [zai];rfl)
  have dv:Dn (yat [.ref p,.int (0:Nat),.int b]) p h h ps ps 0 b:=Dn.val S g fun hh pp S' _ pr=>jn_0 S' (zac pr eb) (by rw [sb];lia)
  exact ⟨b,ps,h,dv.as S g (fun _ _ _ _ _=>rfl) (Nat.zero_le _),by rw [em];exact B,by lia⟩
 ·rcases B with ⟨rfl,rfl⟩ | ⟨mb,fb,lb,B⟩
  ·have em:x++("" : Str)=x:=zae (by rw [zai];simp;rfl)
   have dv:Dn (yat [.ref p,.int a,.int (0:Nat)]) p h h ps ps 0 a:=Dn.val S g fun hh pp S' _ pr=>jn_1 S' A.n1 (zac pr A.ms) A.ky.most
   exact ⟨a,ps,h,dv.as S g (fun _ _ _ _ _=>rfl) (Nat.zero_le _),by rw [em];exact .inr ⟨_,_,_,A⟩,by lia⟩
  ·have sa:=A.ky.sg
   have sb:=B.ky.sg
   have a0:=A.ky.ht
   have b0:=B.ky.ht
   have ha:=ht82 g A
   have hb:=ht82 g B
   rw [yb9 A.ms,yb9 B.ms]
   by_cases q:8<la.sg+fb.sg
   ·obtain ⟨n,ps',h',m,d,T,_,hu⟩:=za8 90 (max ma.ht mb.ht).toNat S g A B q (by lia) (by lia) (by lia) (by lia)
    exact ⟨n,ps',h',d.as S g (fun hh pp S' _ pr=>by rw [jn_2 S' A.n1 B.n1 (zac pr A.ms) (zac pr B.ms) (zac pr A.ky.ll) (zac pr B.ky.fl) (by lia),if_pos q]) (by lia),.inr ⟨_,_,_,T⟩,by rw [yb9 T.ms];exact hu⟩
   ·obtain ⟨n,ps',h',m,f,l,d,T,hu⟩:=zeT S g A B q (by lia) hz
    exact ⟨n,ps',h',d.as S g (fun hh pp S' _ pr=>by rw [jn_2 S' A.n1 B.n1 (zac pr A.ms) (zac pr B.ms) (zac pr A.ky.ll) (zac pr B.ky.fl) (by lia),if_neg q]) (by lia),.inr ⟨_,_,_,T⟩,by rw [yb9 T.ms];exact hu⟩
def tkS (x:Str) (a:Nat):Str:=⟨(x.cps.toList.take a).toArray⟩
def dpS (x:Str) (a:Nat):Str:=⟨(x.cps.toList.drop a).toArray⟩
theorem ycP (x:Str) (a:Nat):(tkS x a).cps.toList=x.cps.toList.take a:=rfl
theorem ycQ (x:Str) (a:Nat):(dpS x a).cps.toList=x.cps.toList.drop a:=rfl
theorem ycx {x:Str} {a:Nat} (h:a<=x.length):(tkS x a).length=a:=by
 rw [zad] at *
 rw [ycP,List.length_take];lia
theorem ycR (x:Str) (a:Nat):(dpS x a).length=x.length-a:=by
 rw [zad,zad x,ycQ,List.length_drop]
theorem tk_0 (x:Str):tkS x 0 = "" := zae rfl
theorem dp_0 (x:Str):dpS x 0=x:=zae rfl
theorem yha {x:Str} {a:Nat} (h:x.length<=a):tkS x a=x:=zae (by rw [ycP,List.take_of_length_le (by rw [<- zad];exact h)])
theorem yhb {x:Str} {a:Nat} (h:x.length<=a):dpS x a = "" := zae (by rw [ycQ,List.drop_of_length_le (by rw [<- zad];exact h)];rfl)
theorem tk_l {x y:Str} {a:Nat} (h:a<=x.length):tkS (x++y) a=tkS x a:=zae (by rw [ycP,zai,ycP,List.take_append_of_le_length (by rw [<- zad];exact h)])
theorem tk_r {x y:Str} {a:Nat} (h:x.length<=a):tkS (x++y) a=x++tkS y (a-x.length):=zae (by
 rw [ycP,zai,zai,ycP,List.take_append,List.take_of_length_le (by rw [<- zad];exact h),<- zad])
theorem dp_l {x y:Str} {a:Nat} (h:a<=x.length):dpS (x++y) a=dpS x a++y:=zae (by rw [ycQ,zai,zai,ycQ,List.drop_append_of_le_length (by rw [<- zad];exact h)])
theorem dp_r {x y:Str} {a:Nat} (h:x.length<=a):dpS (x++y) a=dpS y (a-x.length):=zae (by
 rw [ycQ,zai,ycQ,List.drop_append,List.drop_of_length_le (by rw [<- zad];exact h),<- zad];rfl)
theorem zib {x:Str} (h:yaE x=true) (a:Nat):yaE (tkS x a)=true:=by
 unfold yaE at *
 rw [ycP,List.all_eq_true]
 rw [List.all_eq_true] at h
 exact fun c hc=>h c (List.mem_of_mem_take hc)
theorem zic {x:Str} (h:yaE x=true) (a:Nat):yaE (dpS x a)=true:=by
 unfold yaE at *
 rw [ycQ,List.all_eq_true]
 rw [List.all_eq_true] at h
 exact fun c hc=>h c (List.mem_of_mem_drop hc)
theorem yfL {x:Str} {a:Nat} (h:AH):ybg (.str x) none (some (a:Int)) h = .ok (.str (tkS x a)) h:=by
 have:cutS x none (some (a:Int))=tkS x a:=zae (by
  unfold cutS
  rw [HT.sIx_nat,HT.sIx_none,ycP]
  show (x.cps.toList.drop 0).take (min a x.cps.toList.length-0)=_
  rw [List.drop_zero,Nat.sub_zero]
  by_cases q:a<=x.cps.toList.length
  ·rw [Nat.min_eq_left q]
  ·rw [Nat.min_eq_right (by lia),List.take_length,List.take_of_length_le (by lia)])
 simp only [ybg,this]
theorem yfM {x:Str} {a:Nat} (ha:a<=x.length) (h:AH):ybg (.str x) (some (a:Int)) none h = .ok (.str (dpS x a)) h:=by
 have:cutS x (some (a:Int)) none=dpS x a:=zae (by
  unfold cutS
  rw [HT.sIx_nat,HT.sIx_none,ycQ]
  rw [zad] at ha
  rw [Nat.min_eq_left ha]
  show (x.cps.toList.drop a).take (x.cps.toList.length-a)=_
  rw [List.take_of_length_le (by rw [List.length_drop];exact Nat.le_refl _)])
 simp only [ybg,this]
def cst (z:Int):Nat:=8*((z+1).toNat*(z+2).toNat)
end Sk
namespace Sk
open PySem PySem.Spec L2 Sm
theorem zcw {h:AH} {p:Nat} {ps:List Pc} {n:Nat} {y:Str} (S:ShelfAt h p ps) (t:TxZ ps n y):yaJ [.ref p,.int n] h = .ok (.int (htOf ps n)) h:=by
 obtain ⟨m,em,_⟩:=t.meas
 rw [zag S em,yb9 em]
theorem za1 {ps:List Pc} {n:Nat} {y:Str} (t:TxZ ps n y) : -1<=htOf ps n:=by
 rcases t with ⟨rfl,rfl⟩ | ⟨m,f,l,T⟩
 ·rw [zbG];lia
 ·rw [yb9 T.ms];have:=T.ky.ht;lia
theorem TxZ.pos {ps:List Pc} {n:Nat} {y:Str} (t:TxZ ps n y) (hy:1<=y.length):∃ m f l,Tx ps n m y f l:=by
 rcases t with ⟨rfl,rfl⟩ | t
 ·exact absurd hy (by decide)
 ·exact t
theorem fr_0 {h:AH} {p d n:Nat}:yaw (d+1) [.ref p,.int n,.int (0:Nat)] h = .ok (.int (0:Nat)) h:=by
 have z:fEq (.int 0) (.int 0) h = .ok (.bl true) h:=by simp
 simp [yaw,ycs,z,-fEq]
theorem yhc {h:AH} {p d n a:Nat} {ps:List Pc} {m:Ms} (S:ShelfAt h p ps) (em:(meas ps)[n]? = some m) (a0 : ¬ a=0) (ea:a=m.sg):yaw (d+1) [.ref p,.int n,.int a] h = .ok (.int n) h:=by
 have z:fEq (.int a) (.int 0) h = .ok (.bl false) h:=by simp [a0]
 have fs:=zaf S em
 rw [<- ea] at fs
 have z2:fEq (.int a) (.int a) h = .ok (.bl true) h:=by simp
 simp [yaw,ycs,z,S.ob,fs,z2,-fEq]
theorem zjk {h:AH} {p d n a:Nat} {ps:List Pc} {m:Ms} {x:Str} (S:ShelfAt h p ps) (n1:1<=n) (em:(meas ps)[n]? = some m) (ep:ps[n-1]? = some (.leaf x)) (a0 : ¬ a=0) (ea : ¬ a=m.sg):yaw (d+1) [.ref p,.int n,.int a] h=yaK [.ref p,.str (tkS x a)] h:=by
 have z:fEq (.int a) (.int 0) h = .ok (.bl false) h:=by simp [a0]
 have fs:=zaf S em
 have z2:fEq (.int a) (.int m.sg) h = .ok (.bl false) h:=by
  have : ¬ (a:Int)=m.sg:=by lia
  simp [this]
 have ct:=yfL (x:=x) (a:=a) h
 generalize hF:yaK [.ref p,.str (tkS x a)] h=R
 simp [yaw,ycs,z,S.ob,fs,z2,zbF S n1 ep,i0L,eqL,i1L,ct,hF,-fEq,-fIx,-ybg]
 cases R<;>first | rfl | simp
theorem fr_l {h:AH} {p d n a c e:Nat} {ps:List Pc} {m mc:Ms} (S:ShelfAt h p ps) (n1:1<=n) (em:(meas ps)[n]? = some m) (ec:(meas ps)[c]? = some mc) (ep:ps[n-1]? = some (.fork c e)) (a0 : ¬ a=0) (ea : ¬ a=m.sg) (hl:a<=mc.sg):yaw (d+1) [.ref p,.int n,.int a] h=yaw d [.ref p,.int c,.int a] h:=by
 have z:fEq (.int a) (.int 0) h = .ok (.bl false) h:=by simp [a0]
 have fs:=zaf S em
 have fc:=zaf S ec
 have z2:fEq (.int a) (.int m.sg) h = .ok (.bl false) h:=by
  have : ¬ (a:Int)=m.sg:=by lia
  simp [this]
 have le:fLe (.int a) (.int mc.sg) h = .ok (.bl true) h:=by simp [hl]
 show ycs (yaw d) [.ref p,.int n,.int a] h=yaw d [.ref p,.int c,.int a] h
 generalize yaw d=G at *
 unfold ycs
 generalize hF:G [.ref p,.int c,.int a] h=R
 simp [z,S.ob,fs,fc,z2,zaD S n1 ep,i0F,eqF,i1,le,hF,-fEq,-fIx,-fLe]
 cases R<;>first | rfl | simp
theorem fr_r {h h1:AH} {p d n a c e:Nat} {v:Int} {ps:List Pc} {m mc:Ms} (S:ShelfAt h p ps) (n1:1<=n) (em:(meas ps)[n]? = some m) (ec:(meas ps)[c]? = some mc) (ep:ps[n-1]? = some (.fork c e)) (a0 : ¬ a=0) (ea : ¬ a=m.sg) (hl : ¬ a<=mc.sg) (ev:yaw d [.ref p,.int e,.int (a-mc.sg:Nat)] h = .ok (.int v) h1) :
  yaw (d+1) [.ref p,.int n,.int a] h=yat [.ref p,.int c,.int v] h1:=by
 have z:fEq (.int a) (.int 0) h = .ok (.bl false) h:=by simp [a0]
 have fs:=zaf S em
 have fc:=zaf S ec
 have z2:fEq (.int a) (.int m.sg) h = .ok (.bl false) h:=by
  have : ¬ (a:Int)=m.sg:=by lia
  simp [this]
 have le:fLe (.int a) (.int mc.sg) h = .ok (.bl false) h:=by
  simp;lia
 have sb:fSub (.int a) (.int mc.sg) h = .ok (.int (a-mc.sg:Nat)) h:=by
  have:(a:Int)-mc.sg=((a-mc.sg:Nat):Int):=by lia
  rw [<- this];rfl
 unfold yaw ycs
 generalize yaw d=G at *
 generalize ((a-mc.sg:Nat):Int)=AM at *
 generalize hF:yat [.ref p,.int c,.int v] h1=R
 simp [z,S.ob,fs,fc,z2,zaD S n1 ep,i0F,eqF,i1,i2,le,sb,ev,hF,-fEq,-fIx,-fLe,-fSub]
 cases R<;>first | rfl | simp
theorem bk_0 {h:AH} {p d n:Nat}:yaA (d+1) [.ref p,.int n,.int (0:Nat)] h = .ok (.int n) h:=by
 have z:fEq (.int 0) (.int 0) h = .ok (.bl true) h:=by simp
 simp [yaA,ycO,z,-fEq]
theorem yhd {h:AH} {p d n a:Nat} {ps:List Pc} {m:Ms} (S:ShelfAt h p ps) (em:(meas ps)[n]? = some m) (a0 : ¬ a=0) (ea:a=m.sg):yaA (d+1) [.ref p,.int n,.int a] h = .ok (.int (0:Nat)) h:=by
 have z:fEq (.int a) (.int 0) h = .ok (.bl false) h:=by simp [a0]
 have fs:=zaf S em
 rw [<- ea] at fs
 have z2:fEq (.int a) (.int a) h = .ok (.bl true) h:=by simp
 simp [yaA,ycO,z,S.ob,fs,z2,-fEq]
theorem zjl {h:AH} {p d n a:Nat} {ps:List Pc} {m:Ms} {x:Str} (S:ShelfAt h p ps) (n1:1<=n) (em:(meas ps)[n]? = some m) (ep:ps[n-1]? = some (.leaf x)) (ax:a<=x.length) (a0 : ¬ a=0) (ea : ¬ a=m.sg):yaA (d+1) [.ref p,.int n,.int a] h=yaK [.ref p,.str (dpS x a)] h:=by
 have z:fEq (.int a) (.int 0) h = .ok (.bl false) h:=by simp [a0]
 have fs:=zaf S em
 have z2:fEq (.int a) (.int m.sg) h = .ok (.bl false) h:=by
  have : ¬ (a:Int)=m.sg:=by lia
  simp [this]
 have ct:=yfM (x:=x) ax h
 generalize hF:yaK [.ref p,.str (dpS x a)] h=R
 simp [yaA,ycO,z,S.ob,fs,z2,zbF S n1 ep,i0L,eqL,i1L,ct,hF,-fEq,-fIx,-ybg]
 cases R<;>first | rfl | simp
theorem bk_r {h:AH} {p d n a c e:Nat} {ps:List Pc} {m mc:Ms} (S:ShelfAt h p ps) (n1:1<=n) (em:(meas ps)[n]? = some m) (ec:(meas ps)[c]? = some mc) (ep:ps[n-1]? = some (.fork c e)) (a0 : ¬ a=0) (ea : ¬ a=m.sg) (hl:mc.sg<=a):yaA (d+1) [.ref p,.int n,.int a] h=yaA d [.ref p,.int e,.int (a-mc.sg:Nat)] h:=by
 have z:fEq (.int a) (.int 0) h = .ok (.bl false) h:=by simp [a0]
 have fs:=zaf S em
 have fc:=zaf S ec
 have z2:fEq (.int a) (.int m.sg) h = .ok (.bl false) h:=by
  have : ¬ (a:Int)=m.sg:=by lia
  simp [this]
 have le:fGe (.int a) (.int mc.sg) h = .ok (.bl true) h:=by simp [hl]
 have sb:fSub (.int a) (.int mc.sg) h = .ok (.int (a-mc.sg:Nat)) h:=by
  have:(a:Int)-mc.sg=((a-mc.sg:Nat):Int):=by lia
  rw [<- this];rfl
 show ycO (yaA d) [.ref p,.int n,.int a] h=yaA d [.ref p,.int e,.int (a-mc.sg:Nat)] h
 generalize yaA d=G at *
 unfold ycO
 generalize ((a-mc.sg:Nat):Int)=AM at *
 generalize hF:G [.ref p,.int e,.int AM] h=R
 simp [z,S.ob,fs,fc,z2,zaD S n1 ep,i0F,eqF,i1,i2,le,sb,hF,-fEq,-fIx,-fGe,-fSub]
 cases R<;>first | rfl | simp
theorem bk_l {h h1:AH} {p d n a c e:Nat} {v:Int} {ps:List Pc} {m mc:Ms} (S:ShelfAt h p ps) (n1:1<=n) (em:(meas ps)[n]? = some m) (ec:(meas ps)[c]? = some mc) (ep:ps[n-1]? = some (.fork c e)) (a0 : ¬ a=0) (ea : ¬ a=m.sg) (hl : ¬ mc.sg<=a) (ev:yaA d [.ref p,.int c,.int a] h = .ok (.int v) h1) :
  yaA (d+1) [.ref p,.int n,.int a] h=yat [.ref p,.int v,.int e] h1:=by
 have z:fEq (.int a) (.int 0) h = .ok (.bl false) h:=by simp [a0]
 have fs:=zaf S em
 have fc:=zaf S ec
 have z2:fEq (.int a) (.int m.sg) h = .ok (.bl false) h:=by
  have : ¬ (a:Int)=m.sg:=by lia
  simp [this]
 have le:fGe (.int a) (.int mc.sg) h = .ok (.bl false) h:=by
  simp;lia
 unfold yaA ycO
 generalize yaA d=G at *
 generalize hF:yat [.ref p,.int v,.int e] h1=R
 simp [z,S.ob,fs,fc,z2,zaD S n1 ep,i0F,eqF,i1,i2,le,ev,hF,-fEq,-fIx,-fGe]
 cases R<;>first | rfl | simp
end Sk
namespace Sk
open PySem PySem.Spec L2 Sm
theorem zcO (z:Str) (n:Nat):(repS z n).cps.toList=(List.replicate n z.cps.toList).flatten:=rfl
theorem zcP (z:Str) (a b:Nat):repS z a++repS z b=repS z (a+b):=zae (by rw [zai,zcO,zcO,zcO,<- List.flatten_append,List.replicate_append_replicate])
theorem zdV (z:Str):repS z 1=z:=zae (by rw [zcO];simp)
theorem zdf (z:Str):repS z 0 = "" := zae rfl
theorem zdW (z:Str):∀ n,(repS z n).length=z.length*n
 | 0=>by rw [zdf];rfl
 | n+1=>by rw [<- zcP,zaj,zdW z n,zdV,Nat.mul_succ]
theorem zf3:∀ n,repS "" n = ""
 | 0=>zdf _
 | n+1=>by
  rw [<- zcP,zf3 n,zdV]
  exact zae (by rw [zai];rfl)
theorem db_0 {h:AH} {p n d:Nat}:ya2 (d+1) [.ref p,.int n,.int (0:Nat)] h = .ok (.int (0:Nat)) h:=by
 have z:fEq (.int 0) (.int 0) h = .ok (.bl true) h:=by simp
 simp [ya2,ydZ,z,-fEq]
theorem db_1 {h h1:AH} {p n d k:Nat} {a:Int} (hk : ¬ k=0) (hp:k % 2=0) (e1:ya2 d [.ref p,.int n,.int (k / 2:Nat)] h = .ok (.int a) h1):ya2 (d+1) [.ref p,.int n,.int k] h=yat [.ref p,.int a,.int a] h1:=by
 have z:fEq (.int k) (.int 0) h = .ok (.bl false) h:=by simp [hk]
 have dv:fDiv (.int k) (.int 2) h = .ok (.int (k / 2:Nat)) h:=rfl
 have md:∀ h,fMod (.int k) (.int 2) h = .ok (.int 0) h:=fun h=>by
  have:(k:Int) % 2=0:=by lia
  show Out.ok (AV.int ((k:Int) % 2)) h=_
  rw [this]
 have z2:∀ h,fEq (.int 0) (.int 0) h = .ok (.bl true) h:=fun h=>by simp
 unfold ya2 ydZ
 generalize hF:yat [.ref p,.int a,.int a] h1=R
 generalize ((k / 2:Nat):Int)=K2 at *
 generalize ya2 d=G at *
 simp [z,dv,e1,hF,-fEq,-fDiv,-fMod]
 cases R with
 | ok v h2=>simp [md,z2,-fEq,-fMod]
 | ex c h2=>rfl
 | bad=>rfl
theorem db_2 {h h1:AH} {p n d k:Nat} {a:Int} (hk : ¬ k=0) (hp : ¬ k % 2=0) (e1:ya2 d [.ref p,.int n,.int (k / 2:Nat)] h = .ok (.int a) h1):ya2 (d+1) [.ref p,.int n,.int k] h=(yat [.ref p,.int a,.int a] h1).bind fun v h2=>yat [.ref p,v,.int n] h2:=by
 have z:fEq (.int k) (.int 0) h = .ok (.bl false) h:=by simp [hk]
 have dv:fDiv (.int k) (.int 2) h = .ok (.int (k / 2:Nat)) h:=rfl
 have md:∀ h,fMod (.int k) (.int 2) h = .ok (.int 1) h:=fun h=>by
  have:(k:Int) % 2=1:=by lia
  show Out.ok (AV.int ((k:Int) % 2)) h=_
  rw [this]
 have z2:∀ h,fEq (.int 1) (.int 0) h = .ok (.bl false) h:=fun h=>by simp
 unfold ya2 ydZ
 generalize hF:yat [.ref p,.int a,.int a] h1=R
 generalize ((k / 2:Nat):Int)=K2 at *
 generalize ya2 d=G at *
 simp [z,dv,e1,hF,-fEq,-fDiv,-fMod]
 cases R with
 | ok v h2 =>
  simp [md,z2,-fEq,-fMod]
  cases yat [.ref p,v,.int n] h2<;>rfl
 | ex c h2=>rfl
 | bad=>rfl
theorem zdg {ps:List Pc} (g:Good ps) {a b:Nat} {x y:Str} (A:TxZ ps a x) (B:TxZ ps b y):16*(max (htOf ps a) (htOf ps b)+1).toNat<=1400:=by
 have key:∀ {n:Nat} {y:Str},TxZ ps n y->htOf ps n<=82:=fun {n y} t=>by
  rcases t with ⟨rfl,rfl⟩ | ⟨m,f,l,T⟩
  ·rw [zbG];lia
  ·rw [yb9 T.ms];exact ht82 g T
 have:=key A
 have:=key B
 lia
theorem zeo {p:Nat}:∀ (d e:Nat) {h:AH} {ps:List Pc} {n k:Nat} {x:Str},ShelfAt h p ps->Good ps->TxZ ps n x->k<2 ^ e->e<d->x.length*k<=1000000000000000000->ps.length+2800*e<15000000 ->
  ∃ (m:Nat) (ps':List Pc) (h':AH),Dn (ya2 d [.ref p,.int n,.int k]) p h h' ps ps' (2800*e) m/\TxZ ps' m (repS x k)
 | 0,e,h,ps,n,k,x,S,g,T,hk,hd,hm,hz=>absurd hd (Nat.not_lt_zero _)
 | d+1,e,h,ps,n,k,x,S,g,T,hk,hd,hm,hz=>by
  by_cases k0:k=0
  ·subst k0
   have dv:Dn (ya2 (d+1) [.ref p,.int n,.int (0:Nat)]) p h h ps ps 0 0:=Dn.val S g fun hh pp S' _ pr=>db_0
   exact ⟨0,ps,h,dv.as S g (fun _ _ _ _ _=>rfl) (Nat.zero_le _),.inl ⟨rfl,zdf x⟩⟩
  ·obtain ⟨e',rfl⟩:∃ e',e=e'+1:=by
    cases e with
    | zero=>simp at hk;lia
    | succ e' => exact ⟨e',rfl⟩
   rw [Nat.pow_succ] at hk
   have kk:x.length*(k / 2)+x.length*(k / 2)+x.length*(k % 2)=x.length*k:=by
    rw [<- Nat.mul_add,<- Nat.mul_add]
    congr 1
    lia
   obtain ⟨a,ps1,h1,d1,T1⟩:=zeo d e' (k:=k / 2) S g T (by lia) (by lia) (by lia) (by lia)
   have z1:=d1.dd.len
   have l1:=zdW x (k / 2)
   obtain ⟨b,ps2,h2,d2,T2⟩:=zdd d1.dd.sh d1.dd.gd T1 T1 (by lia) (by lia)
   have w2:=zdg d1.dd.gd T1 T1
   have z2:=d2.dd.len
   rw [zcP] at T2
   by_cases hp:k % 2=0
   ·have ek:k / 2+k / 2=k:=by lia
    rw [ek] at T2
    exact ⟨b,ps2,h2,Dn.seq' S g d1 d2 (fun hh hh1 pp S' _ pr ev=>db_1 k0 hp ev) (by lia),T2⟩
   ·have l2:=zdW x (k / 2+k / 2)
    rw [Nat.mul_add] at l2
    have km:x.length*(k % 2)=x.length:=by rw [show k % 2=1 by lia,Nat.mul_one]
    have p12:=d1.dd.pre.trans d2.dd.pre
    obtain ⟨c,ps3,h3,d3,T3⟩:=zdd d2.dd.sh d2.dd.gd T2 (T.pre p12) (by lia) (by lia)
    have w3:=zdg d2.dd.gd T2 (T.pre p12)
    have ek:repS x (k / 2+k / 2)++x=repS x k:=by
     conv=>lhs;rhs;rw [<- zdV x]
     rw [zcP]
     congr 1
     lia
    rw [ek] at T3
    have d23:=Dn.seq (F:=fun hh=>(yat [.ref p,.int a,.int a] hh).bind fun v h2=>yat [.ref p,v,.int n] h2) (F2:=fun v h2=>yat [.ref p,v,.int n] h2) d1.dd.sh d1.dd.gd d2 d3 (fun _ _ _ _ _=>rfl) (k:=2800) (by lia)
    exact ⟨c,ps3,h3,Dn.seq' S g d1 d23 (fun hh hh1 pp S' _ pr ev=>db_2 k0 hp ev) (by lia),T3⟩
theorem yf4 {h:AH} {p n k:Nat} {ps:List Pc} {m:Ms} (S:ShelfAt h p ps) (em:(meas ps)[n]? = some m) (hk:k<2 ^ 63) (hm:m.sg*k<=1000000000000000000):ycr [.ref p,.int n,.int k] h=if n=0 then .ok (.int (0:Nat)) h else ya2 64 [.ref p,.int n,.int k] h:=by
 have fs:=zaf S em
 have lt:fLt (.int k) (.int 0) h = .ok (.bl false) h:=by
  have : ¬ (k:Int)<0:=by lia
  simp only [fLt,this,decide_false]
 have ml:fMul (.int m.sg) (.int k) h = .ok (.int ((m.sg*k:Nat):Int)) h:=by
  have h2:(k:Int).natAbs<2 ^ 64:=by
   have:(2:Nat) ^ 63<2 ^ 64:=by decide
   lia
  rw [ye2 h2];congr 2
 have ck:=zbi (i:=((m.sg*k:Nat):Int)) (by lia) h
 unfold ycr
 generalize ya2 64=G at *
 generalize ((m.sg*k:Nat):Int)=MK at *
 by_cases z:n=0
 ·subst z
  have z0:fEq (.int 0) (.int 0) h = .ok (.bl true) h:=by simp
  have fs':yaz [.ref p,.int 0] h = .ok (.int m.sg) h:=fs
  simp [S.ob,fs',lt,ml,ck,z0,-fLt,-fMul,-fEq]
 ·have z0:fEq (.int n) (.int 0) h = .ok (.bl false) h:=by simp [z]
  rw [if_neg z]
  generalize hR:G [.ref p,.int n,.int k] h=R
  simp [S.ob,fs,lt,ml,ck,z0,hR,-fLt,-fMul,-fEq]
  cases R<;>rfl
theorem zgx {h:AH} {p:Nat} {ps:List Pc} {n k e:Nat} {x:Str} (S:ShelfAt h p ps) (g:Good ps) (T:TxZ ps n x) (hk:k<2 ^ e) (he:e<62) (hm:x.length*k<=1000000000000000000) (hz:ps.length+2800*e<15000000) :
  ∃ (m:Nat) (ps':List Pc) (h':AH),Dn (ycr [.ref p,.int n,.int k]) p h h' ps ps' (2800*e) m/\TxZ ps' m (repS x k):=by
 obtain ⟨m,em,sm⟩:=T.meas
 have k63:k<2 ^ 63:=Nat.lt_of_lt_of_le hk (Nat.pow_le_pow_right (by decide) (by lia))
 by_cases z:n=0
 ·rcases T with ⟨_,rfl⟩ | ⟨_,_,_,T⟩
  ·have dv:Dn (ycr [.ref p,.int n,.int k]) p h h ps ps 0 0:=Dn.val S g fun hh pp S' _ pr=>by rw [yf4 S' (zac pr em) k63 (by rw [sm];exact hm),if_pos z]
   exact ⟨0,ps,h,dv.as S g (fun _ _ _ _ _=>rfl) (Nat.zero_le _),.inl ⟨rfl,zf3 k⟩⟩
  ·exact absurd T.n1 (by lia)
 ·obtain ⟨c,ps',h',d,T'⟩:=zeo 64 e S g T hk (by lia) hm hz
  exact ⟨c,ps',h',d.as S g (fun hh pp S' _ pr=>by rw [yf4 S' (zac pr em) k63 (by rw [sm];exact hm),if_neg z]) (Nat.le_refl _),T'⟩
theorem htZ {ps:List Pc} (g:Good ps) {n:Nat} {x:Str} (t:TxZ ps n x) : -1<=htOf ps n/\htOf ps n<=82:=by
 refine ⟨za1 t,?_⟩
 rcases t with ⟨rfl,rfl⟩ | ⟨m,f,l,T⟩
 ·rw [zbG];lia
 ·rw [yb9 T.ms];exact ht82 g T
theorem zjm {h:AH} {p a b:Nat} {ps:List Pc} {x y:Str} (S:ShelfAt h p ps) (g:Good ps) (A:TxZ ps a x) (B:TxZ ps b y) (hm:x.length+y.length<=1000000000000000000) (hz:ps.length<15000000) :
  ∃ (n:Nat) (ps':List Pc) (h':AH),yat [.ref p,.int a,.int b] h = .ok (.int n) h'/\Dd p h h' ps ps' 1400/\TxZ ps' n (x++y):=by
 obtain ⟨n,ps',h',d,T⟩:=zdd S g A B hm hz
 exact ⟨n,ps',h',d.ev,{ d.dd with len:=Nat.le_trans d.dd.len (Nat.add_le_add_left (zdg g A B) _) },T⟩
theorem zcx {h:AH} {p n b e:Nat} {ps:List Pc} {m:Ms} (S:ShelfAt h p ps) (em:(meas ps)[n]? = some m) (be:b<=e) (hm:e<=m.sg):ybC [.ref p,.int n,.int b,.int e] h = .ok .non h:=by
 have fs:=zaf S em
 have l1:fLe (.int 0) (.int b) h = .ok (.bl true) h:=by
  have:(0:Int)<=b:=by lia
  simp only [fLe,this,decide_true]
 have l2:fLe (.int b) (.int e) h = .ok (.bl true) h:=by
  have:(b:Int)<=e:=by lia
  simp only [fLe,this,decide_true]
 have l3:fLe (.int e) (.int m.sg) h = .ok (.bl true) h:=by
  have:(e:Int)<=m.sg:=by lia
  simp only [fLe,this,decide_true]
 simp [ybC,S.ob,fs,l1,l2,l3,-fLe]
theorem zf4 {h:AH} {p n t:Nat} {ps:List Pc} {m:Ms} (S:ShelfAt h p ps) (em:(meas ps)[n]? = some m) (hm:t<=m.sg):ydF [.ref p,.int n,.int t] h = .ok .non h:=by
 have fs:=zaf S em
 have l1:fLe (.int 0) (.int t) h = .ok (.bl true) h:=by
  have:(0:Int)<=t:=by lia
  simp only [fLe,this,decide_true]
 have l2:fLe (.int t) (.int m.sg) h = .ok (.bl true) h:=by
  have:(t:Int)<=m.sg:=by lia
  simp only [fLe,this,decide_true]
 simp [ydF,S.ob,fs,l1,l2,-fLe]
end Sk
namespace Sk
open PySem PySem.Spec L2 Sm
theorem zhl {h:AH} {p:Nat} {ps:List Pc} {a b:Nat} {ma mb fa la fb lb:Ms} {x y:Str} (S:ShelfAt h p ps) (g:Good ps) (A:Tx ps a ma x fa la) (B:Tx ps b mb y fb lb) (hc : ¬ 8<la.sg+fb.sg) (hm:ma.sg+mb.sg<=1000000000000000000) (hz:ps.length<15000000) :
  ∃ (n:Nat) (ps':List Pc) (h':AH) (m f l:Ms),Dn (ycN [.ref p,.int a,.int b]) p h h' ps ps' (7*(max ma.ht mb.ht).toNat+2) n/\Tx ps' n m (x++y) f l/\m.ht<=max ma.ht mb.ht+1/\max ma.ht mb.ht-1<=m.ht/\fa.sg<=f.sg/\lb.sg<=l.sg:=by
 obtain ⟨_,w,u,l1,el,ex,lw⟩:=g.ends a a (Nat.le_refl _) A
 obtain ⟨⟨v,t,f1,ef,ey,lv⟩,_⟩:=g.ends b b (Nat.le_refl _) B
 have a0:=A.ky.ht
 have b0:=B.ky.ht
 have ha:=ht82 g A
 have hb:=ht82 g B
 have px:yaE x=true:=A.ky.pl
 have py:yaE y=true:=B.ky.pl
 have pw:yaE w=true:=by rw [ex,zaQ,Bool.and_eq_true] at px;exact px.2
 have pv:yaE v=true:=by rw [ey,zaQ,Bool.and_eq_true] at py;exact py.1
 have la1:=A.ky.l1
 have fb1:=B.ky.f1
 have sx:=A.ky.sg
 have sy:=B.ky.sg
 have lx:x.length=u.length+w.length:=by rw [ex,zaj]
 have ly:y.length=v.length+t.length:=by rw [ey,zaj]
 have lwv:(w++v).length=w.length+v.length:=zaj w v
 obtain ⟨L,ps1,h1,d1,N⟩:=zb2 S g (zel (w:=w) (v:=v) (by lia) (by lia) pw pv) (by lia)
 have z1:=d1.dd.len
 obtain ⟨n2,ps2,h2,m2,f2,u2,v2,d2,ex2,lv2,T2,k1,k2⟩:=zdS 90 d1.dd.sh d1.dd.gd (A.pre d1.dd.pre) N (by lia) (by lia) (by lia) (by lia)
 have z2:=d2.dd.len
 obtain ⟨rfl,rfl⟩:u=u2/\w=v2:=zeS (ex.symm.trans ex2) (by lia)
 have s2:m2.sg=u.length+(w.length+v.length):=by rw [T2.ky.sg,zaj,zaj]
 have p12:=d1.dd.pre.trans d2.dd.pre
 have lm:(lfMs (w++v) L).sg=w.length+v.length:=zaj w v
 have tb:∀ q:Int,0<=q->q<=max ma.ht mb.ht->q.toNat<=(max ma.ht mb.ht).toNat:=fun q _ _=>by lia
 rcases zdc 90 d2.dd.sh d2.dd.gd (B.pre p12) (by lia) (by lia) with ⟨r1,r2,d3⟩ | ⟨r1,n3,ps3,h3,m3,f3,u3,v3,d3,ey3,lu3,T3,r2,r3,r4⟩
 ·have t0:t.length=0:=by lia
  have te:t = "" := zae (by rw [zad] at t0;rw [List.length_eq_zero_iff.mp t0];rfl)
  have rd:u++(w++v)=x++y:=by
   rw [ex,ey,te,zak]
   congr 2
  rw [rd] at T2
  refine ⟨n2,ps2,h2,m2,f2,_,⟨?_,d1.dd.trans d2.dd (by lia),fun h4 ps4 S4 g4 p4=>?_⟩,T2,by lia,by lia,k2,?_⟩
  rotate_left 2
  ·obtain ⟨kk,cc⟩:=B.ky.cnt
   have:lb.sg<=mb.sg:=by rcases cc with cc | cc<;>lia
   lia
  ·rw [wd_1 S A.ms B.ms l1 f1 el ef (by lia) d1.ev d2.ev d3.ev];rfl
  ·have q1:=d1.re h4 ps4 S4 g4 (d2.dd.pre.trans p4)
   have q2:=d2.re h4 ps4 S4 g4 p4
   have q3:=d3.re h4 ps4 S4 g4 p4
   rw [wd_1 S4 (zac (p12.trans p4) A.ms) (zac (p12.trans p4) B.ms) l1 f1 (yaS (p12.trans p4) el) (yaS (p12.trans p4) ef) (by lia) q1 q2 q3];rfl
 ·obtain ⟨rfl,rfl⟩:v=u3/\t=v3:=zdT (ey.symm.trans ey3) (by lia)
  have z3:=d3.dd.len
  have s3:m3.sg=t.length:=T3.ky.sg
  have m30:=T3.ky.ht
  obtain ⟨n4,ps4,h4,m4,d4,T4,r5,r6⟩:=za8 90 (max ma.ht mb.ht).toNat d3.dd.sh d3.dd.gd (T2.pre d3.dd.pre) T3 (by lia) (by lia) (by lia) (by lia) (by lia)
  have rd:(u++(w++v))++t=x++y:=by rw [ex,ey,zak,zak,zak]
  rw [rd] at T4
  have n3z : ¬ (n3:Int)=0:=by have:=T3.n1;lia
  have p123:=p12.trans d3.dd.pre
  refine ⟨n4,ps4,h4,m4,f2,lb,⟨?_,((d1.dd.trans d2.dd (Nat.le_refl _)).trans d3.dd (Nat.le_refl _)).trans d4.dd (by lia),fun h5 ps5 S5 g5 p5=>?_⟩,T4,by lia,by lia,k2,Nat.le_refl _⟩
  ·rw [wd_1 S A.ms B.ms l1 f1 el ef (by lia) d1.ev d2.ev d3.ev,if_neg n3z];exact d4.ev
  ·have p45:=d4.dd.pre.trans p5
   have q1:=d1.re h5 ps5 S5 g5 (d2.dd.pre.trans (d3.dd.pre.trans p45))
   have q2:=d2.re h5 ps5 S5 g5 (d3.dd.pre.trans p45)
   have q3:=d3.re h5 ps5 S5 g5 p45
   have q4:=d4.re h5 ps5 S5 g5 p5
   have pa:=p123.trans p45
   rw [wd_1 S5 (zac pa A.ms) (zac pa B.ms) l1 f1 (yaS pa el) (yaS pa ef) (by lia) q1 q2 q3,if_neg n3z];exact q4
theorem zf5 {h:AH} {p:Nat} {ps:List Pc} {a b:Nat} {ma mb fa la fb lb:Ms} {x y:Str} (S:ShelfAt h p ps) (g:Good ps) (A:Tx ps a ma x fa la) (B:Tx ps b mb y fb lb) (q:8<la.sg+fb.sg) (hm:ma.sg+mb.sg<=1000000000000000000) (hz:ps.length<15000000) :
  ∃ (n:Nat) (ps':List Pc) (h':AH) (m:Ms),Dn (yat [.ref p,.int a,.int b]) p h h' ps ps' (3*(ma.ht-mb.ht).natAbs+1) n/\Tx ps' n m (x++y) fa lb/\max ma.ht mb.ht<=m.ht/\m.ht<=max ma.ht mb.ht+1:=by
 have a0:=A.ky.ht
 have b0:=B.ky.ht
 have ha:=ht82 g A
 have hb:=ht82 g B
 obtain ⟨n,ps',h',m,d,T,h1,h2⟩:=za8 90 (ma.ht-mb.ht).natAbs S g A B q hm (Nat.le_refl _) (by lia) (by lia)
 exact ⟨n,ps',h',m,d.as S g (fun hh pp S' _ pr=>by rw [jn_2 S' A.n1 B.n1 (zac pr A.ms) (zac pr B.ms) (zac pr A.ky.ll) (zac pr B.ky.fl) hm,if_pos q]) (Nat.le_refl _),T,h1,h2⟩
theorem zf6 {h:AH} {p:Nat} {ps:List Pc} {a b:Nat} {ma mb fa la fb lb:Ms} {x y:Str} (S:ShelfAt h p ps) (g:Good ps) (A:Tx ps a ma x fa la) (B:Tx ps b mb y fb lb) (q : ¬ 8<la.sg+fb.sg) (hm:ma.sg+mb.sg<=1000000000000000000) (hz:ps.length<15000000) :
  ∃ (n:Nat) (ps':List Pc) (h':AH) (m f l:Ms),Dn (yat [.ref p,.int a,.int b]) p h h' ps ps' (7*(max ma.ht mb.ht).toNat+2) n/\Tx ps' n m (x++y) f l/\m.ht<=max ma.ht mb.ht+1/\max ma.ht mb.ht-1<=m.ht/\fa.sg<=f.sg/\lb.sg<=l.sg:=by
 obtain ⟨n,ps',h',m,f,l,d,T,h1,h2,h3,h4⟩:=zhl S g A B q hm hz
 exact ⟨n,ps',h',m,f,l,d.as S g (fun hh pp S' _ pr=>by rw [jn_2 S' A.n1 B.n1 (zac pr A.ms) (zac pr B.ms) (zac pr A.ky.ll) (zac pr B.ky.fl) hm,if_neg q]) (Nat.le_refl _),T,h1,h2,h3,h4⟩
theorem ln_a {h1 h2 hc he H:Int} (c0:0<=hc) (e0:0<=he) (r0:0<=h1) (w1 : -1<=hc-he) (w2:hc-he<=1) (hH:H=max hc he+1) (r1:h1<=he) (g1:max hc h1<=h2):(7*h1.toNat+9*he.toNat+1)+(3*(hc-h1).natAbs+1)<=7*h2.toNat+9*H.toNat+1:=by lia
theorem ln_b {h2 hc he H:Int} (c0:0<=hc) (e0:0<=he) (hH:H=max hc he+1) (g1:max hc 0-1<=h2):(7*(0:Int).toNat+9*he.toNat+1)+(7*(max hc 0).toNat+2)<=7*h2.toNat+9*H.toNat+1:=by lia
theorem zdh {p:Nat}:∀ (d:Nat) {h:AH} {ps:List Pc} {n a:Nat} {m f l:Ms} {x:Str},ShelfAt h p ps->Good ps->Tx ps n m x f l->1<=a->a<=x.length->m.ht.toNat<d->ps.length+16*m.ht.toNat+1<14900000 ->
  ∃ (r:Nat) (ps':List Pc) (h':AH) (m' f' l':Ms),Dn (yaw d [.ref p,.int n,.int a]) p h h' ps ps' (7*m'.ht.toNat+9*m.ht.toNat+1) r/\Tx ps' r m' (tkS x a) f' l'/\m'.ht<=m.ht/\(m'.ht=0\/f.sg<=f'.sg)
 | 0,h,ps,n,a,m,f,l,x,S,g,T1,a1,ha,hd,hz=>absurd hd (Nat.not_lt_zero _)
 | d+1,h,ps,n,a,m,f,l,x,S,g,T1,a1,ha,hd,hz=>by
  have a0 : ¬ a=0:=by lia
  have sg:=T1.ky.sg
  have m0:=T1.ky.ht
  by_cases ea:a=m.sg
  ·have dv:Dn (yaw (d+1) [.ref p,.int n,.int a]) p h h ps ps 0 n:=Dn.val S g fun hh pp S' _ pr=>yhc S' (zac pr T1.ms) a0 ea
   exact ⟨n,ps,h,m,f,l,dv.as S g (fun _ _ _ _ _=>rfl) (Nat.zero_le _),by rw [yha (by lia)];exact T1,Int.le_refl _,.inr (Nat.le_refl _)⟩
  ·rcases g.kind T1 with ⟨e1,e2,e3,e4,e5⟩ | ⟨_,_,mx,my,_,_,_,_,_,_,_,_,_,X,Y,_,e5,_⟩
   ·have lt:=ycx ha
    obtain ⟨r,ps',h',d1,L⟩:=zb2 S g (x:=tkS x a) (by
     unfold ybP
     rw [zib T1.ky.pl,lt]
     simp;lia) (by lia)
    exact ⟨r,ps',h',_,_,_,d1.as S g (fun hh pp S' _ pr=>zjk S' T1.n1 (zac pr T1.ms) (yaS pr e1) a0 ea) (by lia),L,by show (0:Int)<=_;lia,.inl rfl⟩
   ·have hpos:0<m.ht:=by
     have:=congrArg Ms.ht e5
     rw [fmH] at this
     have:=X.ky.ht
     lia
    obtain ⟨c,e,mc,me,y1,y2,lc,fe,ep,C,E,rfl,em,w1,w2,w3⟩:=g.cut T1 hpos
    have hh:m.ht=max mc.ht me.ht+1:=by rw [em];rfl
    have c0:=C.ky.ht
    have e0:=E.ky.ht
    have sc:=C.ky.sg
    have se:=E.ky.sg
    have la:=zaj y1 y2
    by_cases hl:a<=mc.sg
    ·obtain ⟨r,ps',h',m',f',l',d1,T',q1,q2⟩:=zdh d (n:=c) (a:=a) (x:=y1) S g C a1 (by lia) (by lia) (by lia)
     exact ⟨r,ps',h',m',f',l',d1.as S g (fun hh pp S' _ pr=>fr_l S' T1.n1 (zac pr T1.ms) (zac pr C.ms) (yaS pr ep) a0 ea hl) (by lia),by rw [tk_l (by lia)];exact T',by lia,q2⟩
    ·obtain ⟨r,ps1,h1,m1,f1,l1,d1,T',q1,q2⟩:=zdh d (n:=e) (a:=a-mc.sg) (x:=y2) S g E (by lia) (by lia) (by lia) (by lia)
     have z1:=d1.dd.len
     have r0:=T'.ky.ht
     have lt:=ycx (x:=y2) (a:=a-mc.sg) (by lia)
     have s1:=T'.ky.sg
     have most:=T1.ky.most
     have C' := C.pre d1.dd.pre
     have tr:tkS (y1++y2) a=y1++tkS y2 (a-mc.sg):=by rw [tk_r (by lia),<- sc]
     rw [tr]
     by_cases q:8<lc.sg+f1.sg
     ·obtain ⟨s,ps2,h2,m2,d2,T2,g1,g2⟩:=zf5 d1.dd.sh d1.dd.gd C' T' q (by lia) (by lia)
      exact ⟨s,ps2,h2,m2,f,l1,Dn.seq' S g d1 d2 (fun hh hh1 pp S' _ pr ev=>fr_r S' T1.n1 (zac pr T1.ms) (zac pr C.ms) (yaS pr ep) a0 ea hl ev) (ln_a c0 e0 r0 w1 w2 hh q1 g1),T2,by lia,.inr (Nat.le_refl _)⟩
     ·have z:m1.ht=0:=by
       rcases q2 with q2 | q2
       ·exact q2
       ·lia
      obtain ⟨s,ps2,h2,m2,f2,l2,d2,T2,g2,g1,g3,g4⟩:=zf6 d1.dd.sh d1.dd.gd C' T' q (by lia) (by lia)
      rw [z] at d1 d2 g1 g2
      exact ⟨s,ps2,h2,m2,f2,l2,Dn.seq' S g d1 d2 (fun hh hh1 pp S' _ pr ev=>fr_r S' T1.n1 (zac pr T1.ms) (zac pr C.ms) (yaS pr ep) a0 ea hl ev) (ln_b c0 e0 hh g1),T2,by lia,.inr g3⟩
theorem ln_c {h1 h2 hc he H:Int} (c0:0<=hc) (e0:0<=he) (r0:0<=h1) (w1 : -1<=hc-he) (w2:hc-he<=1) (hH:H=max hc he+1) (r1:h1<=hc) (g1:max h1 he<=h2):(7*h1.toNat+9*hc.toNat+1)+(3*(h1-he).natAbs+1)<=7*h2.toNat+9*H.toNat+1:=by lia
theorem ln_d {h2 hc he H:Int} (c0:0<=hc) (e0:0<=he) (hH:H=max hc he+1) (g1:max 0 he-1<=h2):(7*(0:Int).toNat+9*hc.toNat+1)+(7*(max 0 he).toNat+2)<=7*h2.toNat+9*H.toNat+1:=by lia
theorem zdX {p:Nat}:∀ (d:Nat) {h:AH} {ps:List Pc} {n a:Nat} {m f l:Ms} {x:Str},ShelfAt h p ps->Good ps->Tx ps n m x f l->a<x.length->m.ht.toNat<d->ps.length+16*m.ht.toNat+1<14900000 ->
  ∃ (r:Nat) (ps':List Pc) (h':AH) (m' f' l':Ms),Dn (yaA d [.ref p,.int n,.int a]) p h h' ps ps' (7*m'.ht.toNat+9*m.ht.toNat+1) r/\Tx ps' r m' (dpS x a) f' l'/\m'.ht<=m.ht/\(m'.ht=0\/l.sg<=l'.sg)
 | 0,h,ps,n,a,m,f,l,x,S,g,T1,ha,hd,hz=>absurd hd (Nat.not_lt_zero _)
 | d+1,h,ps,n,a,m,f,l,x,S,g,T1,ha,hd,hz=>by
  have sg:=T1.ky.sg
  have m0:=T1.ky.ht
  by_cases a0:a=0
  ·subst a0
   have dv:Dn (yaA (d+1) [.ref p,.int n,.int (0:Nat)]) p h h ps ps 0 n:=Dn.val S g fun hh pp S' _ pr=>bk_0
   exact ⟨n,ps,h,m,f,l,dv.as S g (fun _ _ _ _ _=>rfl) (Nat.zero_le _),by rw [dp_0];exact T1,Int.le_refl _,.inr (Nat.le_refl _)⟩
  ·have ea : ¬ a=m.sg:=by lia
   rcases g.kind T1 with ⟨e1,e2,e3,e4,e5⟩ | ⟨_,_,mx,my,_,_,_,_,_,_,_,_,_,X,Y,_,e5,_⟩
   ·have lt:=ycR x a
    obtain ⟨r,ps',h',d1,L⟩:=zb2 S g (x:=dpS x a) (by
     unfold ybP
     rw [zic T1.ky.pl,lt]
     simp;lia) (by lia)
    exact ⟨r,ps',h',_,_,_,d1.as S g (fun hh pp S' _ pr=>zjl S' T1.n1 (zac pr T1.ms) (yaS pr e1) (by lia) a0 ea) (by lia),L,by show (0:Int)<=_;lia,.inl rfl⟩
   ·have hpos:0<m.ht:=by
     have:=congrArg Ms.ht e5
     rw [fmH] at this
     have:=X.ky.ht
     lia
    obtain ⟨c,e,mc,me,y1,y2,lc,fe,ep,C,E,rfl,em,w1,w2,w3⟩:=g.cut T1 hpos
    have hh:m.ht=max mc.ht me.ht+1:=by rw [em];rfl
    have c0:=C.ky.ht
    have e0:=E.ky.ht
    have sc:=C.ky.sg
    have se:=E.ky.sg
    have la:=zaj y1 y2
    by_cases hl:mc.sg<=a
    ·obtain ⟨r,ps',h',m',f',l',d1,T',q1,q2⟩:=zdX d (n:=e) (a:=a-mc.sg) (x:=y2) S g E (by lia) (by lia) (by lia)
     refine ⟨r,ps',h',m',f',l',d1.as S g (fun hh pp S' _ pr=>bk_r S' T1.n1 (zac pr T1.ms) (zac pr C.ms) (yaS pr ep) a0 ea hl) (by lia),?_,by lia,q2⟩
     rw [dp_r (by lia),<- sc]
     exact T'
    ·obtain ⟨r,ps1,h1,m1,f1,l1,d1,T',q1,q2⟩:=zdX d (n:=c) (a:=a) (x:=y1) S g C (by lia) (by lia) (by lia)
     have z1:=d1.dd.len
     have r0:=T'.ky.ht
     have lt:=ycR y1 a
     have s1:=T'.ky.sg
     have most:=T1.ky.most
     have E' := E.pre d1.dd.pre
     have tr:dpS (y1++y2) a=dpS y1 a++y2:=dp_l (by lia)
     rw [tr]
     by_cases q:8<l1.sg+fe.sg
     ·obtain ⟨s,ps2,h2,m2,d2,T2,g1,g2⟩:=zf5 d1.dd.sh d1.dd.gd T' E' q (by lia) (by lia)
      exact ⟨s,ps2,h2,m2,f1,l,Dn.seq' S g d1 d2 (fun hh hh1 pp S' _ pr ev=>bk_l S' T1.n1 (zac pr T1.ms) (zac pr C.ms) (yaS pr ep) a0 ea hl ev) (ln_c c0 e0 r0 w1 w2 hh q1 g1),T2,by lia,.inr (Nat.le_refl _)⟩
     ·have z:m1.ht=0:=by
       rcases q2 with q2 | q2
       ·exact q2
       ·lia
      obtain ⟨s,ps2,h2,m2,f2,l2,d2,T2,g2,g1,g3,g4⟩:=zf6 d1.dd.sh d1.dd.gd T' E' q (by lia) (by lia)
      rw [z] at d1 d2 g1 g2
      exact ⟨s,ps2,h2,m2,f2,l2,Dn.seq' S g d1 d2 (fun hh hh1 pp S' _ pr ev=>bk_l S' T1.n1 (zac pr T1.ms) (zac pr C.ms) (yaS pr ep) a0 ea hl ev) (ln_d c0 e0 hh g1),T2,by lia,.inr g4⟩
end Sk
namespace Sk
open PySem PySem.Spec L2 Sm
theorem zjn (c k:Int) (h:AH):∃ m,ydD [.int c,.int k] h = .ok (.int m) h:=by
 have b1:0<=(c % 1000000007+7919*k+101)*48271 % 2147483647:=Int.emod_nonneg _ (by decide)
 have b2:(c % 1000000007+7919*k+101)*48271 % 2147483647<2147483647:=Int.emod_lt_of_pos _ (by decide)
 refine ⟨(c % 1000000007+7919*k+101)*48271 % 2147483647*((c % 1000000007+7919*k+101)*48271 % 2147483647) % 2147483629*69621 % 2147483647,?_⟩
 generalize he:(c % 1000000007+7919*k+101)*48271 % 2147483647=v at *
 have c1:v.natAbs<18446744073709551616:=by lia
 simp [ydD,he,c1]
theorem yhe {i j:Int} {h:AH} (hi:i.natAbs<2 ^ 4000) (hj:j.natAbs<2 ^ 4000):fMul (.int i) (.int j) h = .ok (.int (i*j)) h:=if_pos (.inr ⟨hi,hj⟩)
theorem zdB (ns:List Int):yec (ns.map AV.int)=some ns:=by
 induction ns with
 | nil=>rfl
 | cons n r ih=>simp [ih]
abbrev T60:Int:=1000000000000000000000000000000000000000000000000000000000000000000000000000000000000000000000000000000000000000000000000
theorem yhf:(10:Nat) ^ 720<2 ^ 4000:=by decide +kernel
theorem yic:T60.natAbs<2 ^ 4000:=by decide +kernel
theorem zff (ns:List Int) (k:Nat) (i:Nat) (c:Nat) (o:Option AV) (h:AH) (hi:i<6) (hc:c<10 ^ (120*i)) (hj:k+i*12<ns.length) :
  ∃ c':Nat,c'<10 ^ (120*(i+1))/\ybT [some (.fl (ns.map AV.int)),some (.int k),some (.int c),some (.int ((k:Int)+i*12)),o] h = .nx [some (.fl (ns.map AV.int)),some (.int k),some (.int c'),some (.int ((k:Int)+i*12)),o] h:=by
 obtain ⟨s,es⟩:∃ s,ns[k+i*12]? = some s:=⟨ns[k+i*12],by simp [hj]⟩
 have ix:fIx (.fl (ns.map AV.int)) (.int ((k:Int)+i*12)) h = .ok (.int s) h:=by
  rw [show ((k:Int)+i*12)=((k+i*12:Nat):Int) by simp]
  simp only [fIx,zeN es]
 have p1:(10:Nat) ^ (120*i)<=10 ^ 720:=Nat.pow_le_pow_right (by decide) (by lia)
 have m1:((c:Int)).natAbs<2 ^ 4000:=by
  have:=yhf
  exact Nat.lt_trans (show c<10 ^ 720 by lia) this
 have mu:fMul (.int c) (.int T60) h = .ok (.int (c*T60)) h:=yhe m1 yic
 have r0:0<=s % T60:=Int.emod_nonneg _ (by decide)
 have r1:s % T60<T60:=Int.emod_lt_of_pos _ (by decide)
 obtain ⟨r,er⟩:∃ r:Nat,s % T60=(r:Int):=⟨(s % T60).toNat,(Int.toNat_of_nonneg r0).symm⟩
 have rl:r<10 ^ 120:=by
  have:(r:Int)<T60:=er▸r1
  have e:T60=((10 ^ 120:Nat):Int):=by decide +kernel
  rw [e] at this;exact Int.ofNat_lt.mp this
 obtain ⟨c',ec,lc⟩:∃ c':Nat,(c:Int)*T60+r=(c':Int)/\c'<10 ^ (120*(i+1)):=by
  refine ⟨c*10 ^ 120+r,?_,?_⟩
  ·have e:T60=((10 ^ 120:Nat):Int):=by decide +kernel
   rw [e,Int.natCast_add,Int.natCast_mul]
  ·rw [show 120*(i+1)=120*i+120 by lia,Nat.pow_add]
   have:(c+1)*10 ^ 120<=10 ^ (120*i)*10 ^ 120:=Nat.mul_le_mul_right _ hc
   have e2:(c+1)*10 ^ 120=c*10 ^ 120+10 ^ 120:=Nat.succ_mul _ _
   lia
 refine ⟨c',lc,?_⟩
 have pw:(sOp2 fMul (sOp2 fPow (sLit (.int 10)) (sLit (.int 60))) (sOp2 fPow (sLit (.int 10)) (sLit (.int 60)))) [some (.fl (ns.map AV.int)),some (.int k),some (.int c),some (.int ((k:Int)+i*12)),o] h = .ok (.int T60) h:=by simp
 have md:fMod (.int s) (.int T60) h = .ok (.int r) h:=by simp only [fMod];rw [if_pos (by decide),er]
 clear p1 m1 r0 r1 er rl hc lc hi
 unfold ybT
 generalize sOp2 fMul (sOp2 fPow (sLit (.int 10)) (sLit (.int 60))) (sOp2 fPow (sLit (.int 10)) (sLit (.int 60)))=PW at *
 generalize T60=t60 at *
 simp [pw,mu,ix,md,ec,-fMul,-fIx,-fMod]
theorem zeU (en0:Option AV) (ns:List Int) (k c f j:Int) (h:AH):∃ f',ybU [some (.fl (ns.map AV.int)),some (.int k),some (.int c),some (.int j),some (.int f)] h = .nx [some (.fl (ns.map AV.int)),some (.int k),some (.int c),some (.int j),some (.int f')] h:=by
 obtain ⟨m,hm⟩:=zjn (c+1009*k+ns.length) j h
 refine ⟨f*2147483647+m,?_⟩
 have m1:fMul (.int f) (.int 2147483647) h = .ok (.int (f*2147483647)) h:=ye2 (by decide)
 have m2:fMul (.int 1009) (.int k) h = .ok (.int (1009*k)) h:=yeD (by decide)
 simp [ybU,hm,m1,m2,-fMul]
theorem zdi (ns:List Int) (hl:ns.length<=63) (k:Nat) (hk:k<=10) (h:AH):∃ N:Int,ybd [.fl (ns.map AV.int),.int k] h = .ok (.ref h.length) (h++[.lst [.int N]]):=by
 obtain ⟨M,eM⟩:∃ M:Nat,M=(if (k:Int)<(ns.length:Int) then ((ns.length:Int)-k-1) / 12+1 else 0).toNat:=⟨_,rfl⟩
 have hM:M<=6/\∀ i,i<M->k+i*12<ns.length:=by
  rw [eM]
  split
  ·refine ⟨by lia,fun i hi=>by lia⟩
  ·refine ⟨by lia,fun i hi=>by simp at hi⟩
 obtain ⟨e1,h1,r1,r2⟩:=yc9 (w:=none) (all:=(List.range M).map (fun m:Nat=>AV.int ((k:Int)+m*12))) (t:=.nm 3) (b:=ybT) (xs:=(List.range M).map (fun m:Nat=>AV.int ((k:Int)+m*12))) (en:=[some (.fl (ns.map AV.int)),some (.int k),some (.int 0),none,none]) (h:=h)
  (fun i en h' => h'=h/\∃ (c:Nat) (o:Option AV),c<10 ^ (120*i)/\en=[some (.fl (ns.map AV.int)),some (.int k),some (.int c),o,none]) ⟨rfl,0,none,by decide,rfl⟩ (fun _ _ _ _=>rfl) (by
   rintro j x en h' hx ⟨rfl,c,o,hc,rfl⟩
   rw [List.getElem?_map] at hx
   obtain ⟨m,em,rfl⟩:=Option.map_eq_some_iff.mp hx
   have hj:j<M:=by
    have:=(List.getElem?_eq_some_iff.mp em).1;simpa using this
   rw [List.getElem?_range hj] at em
   cases em
   obtain ⟨c',l',e⟩:=zff ns k j c none h' (by have:=hM.1;lia) hc (hM.2 j hj)
   show thn (ybT [some (.fl (ns.map AV.int)),some (.int k),some (.int c),some (.int ((k:Int)+j*12)),none] h') _
   rw [e]
   exact ⟨rfl,c',_,l',rfl⟩)
 obtain ⟨rfl,c,o,hc,rfl⟩:=r2
 have z1:(k:Int).natAbs<1099511627776:=by lia
 have z2:((ns.length:Nat):Int).natAbs<1099511627776:=by lia
 have it3:ycV (sVar 1) (yaf fLen (yab (sVar 0) sNil)) (sLit (.int 12)) [some (.fl (ns.map AV.int)),some (.int k),some (.int 0),none,none] h1 = .ok ((List.range M).map (fun m:Nat=>AV.int ((k:Int)+m*12)),none) h1:=by
  simp only [ycV,sVar,yaf,yab,sNil,sLit,Out.bind,fLen,List.getElem?_cons_zero,List.getElem?_cons_succ,lenA]
  rw [if_pos ⟨z1,z2,by decide,by decide⟩,<- eM]
 have f1:=(ycw (t:=.nm 3) (b:=ybT) it3).trans r1
 clear r1 it3
 by_cases hb:(1000000000000000000:Int)<=c
 ·exact ⟨c,by simp [ybd,f1,hb,-sFor]⟩
 ·have cm:=zh4 (js:=[]) (en:=[some (.fl (ns.map AV.int)),some (.int k),some (.int c),o,none]) (w:=none) (all:=ns.map AV.int) (e:=sOp2 fMod (sVar 0) (sOp2 fPow (sLit (.int 10)) (sLit (.int 18)))) (g:=AV.int) (f:=fun i=>AV.int (i % 1000000000000000000)) (h:=h1) rfl ns [] (by intro i _;simp) (by
    simp only [List.length_nil];exact Nat.le_trans (show 0+ns.length<=63 by lia) (by decide))
  have im:(ns.map fun i=>AV.int (i % 1000000000000000000))=(ns.map fun i=>i % 1000000000000000000).map AV.int:=by simp
  obtain ⟨S,eS⟩:∃ S:Int,S=(ns.map fun i=>i % 1000000000000000000).sum:=⟨_,rfl⟩
  have sm:fSum [.fl (ns.map fun i=>AV.int (i % 1000000000000000000))] h1 = .ok (.int S) h1:=by
   rw [im,eS];simp only [fSum,zdB]
  obtain ⟨e2,h2,s1,s2⟩:=yc9 (w:=none) (all:=yaW 0 12) (t:=.nm 3) (b:=ybU) (xs:=yaW 0 12) (en:=[some (.fl (ns.map AV.int)),some (.int k),some (.int (c+S)),o,some (.int 0)]) (h:=h1)
   (fun i en h' => h'=h1/\∃ (f:Int) (o:Option AV),en=[some (.fl (ns.map AV.int)),some (.int k),some (.int (c+S)),o,some (.int f)]) ⟨rfl,0,o,rfl⟩ (fun _ _ _ _=>rfl) (by
    rintro j x en h' hx ⟨rfl,f,o,rfl⟩
    rw [zbv] at hx
    by_cases q:j<12
    ·rw [if_pos q] at hx
     cases hx
     obtain ⟨f',e⟩:=zeU none ns k (c+S) f (0+(j:Int)) h'
     show thn (ybU [some (.fl (ns.map AV.int)),some (.int k),some (.int (c+S)),some (.int (0+(j:Int))),some (.int f)] h') _
     rw [e]
     exact ⟨rfl,f',_,rfl⟩
    ·rw [if_neg q] at hx;cases hx)
  obtain ⟨rfl,f,o',rfl⟩:=s2
  have f2:=(ycw (t:=.nm 3) (b:=ybU) (zbc (a:=sLit (.int 12)) (en:=[some (.fl (ns.map AV.int)),some (.int k),some (.int (c+S)),o,some (.int 0)]) (h:=h2) (n:=12) rfl (by decide))).trans s1
  refine ⟨f,?_⟩
  simp at cm
  simp [ybd,f1,hb,cm,sm,f2,-sFor,-fSum]
theorem zjo {h:AH} {st:Nat} {n:Int} (m:Nat) (e:h[st]? = some (.lst [.int n])) (hm:0<m) (hm2:m<=10 ^ 50):∃ v:Nat,v<m/\yay [.ref st,.int m] h = .ok (.int v) (h.set st (.lst [.int (n / m)])):=by
 have a0:atI [AV.int n] 0=some (.int n):=rfl
 have i0:ixN 1 0=some 0:=rfl
 have hm0:(0:Int)<m:=Int.ofNat_lt.mpr hm
 have hm3:m<1606938044258990275541962092341162602522202993782792835301376:=Nat.lt_of_le_of_lt hm2 (by decide)
 refine ⟨(n % m).toNat,?_,?_⟩
 ·have:=Int.emod_lt_of_pos n hm0;have:=Int.emod_nonneg n (show (m:Int)≠0 by lia);lia
 ·rw [Int.toNat_of_nonneg (Int.emod_nonneg n (show (m:Int)≠0 by lia))]
  simp [yay,e,a0,hm0,hm,hm3,i0]
theorem zid {x:Str} {v:Nat} (hv:v<x.length) (hx:yaE x=true) (h:AH):∃ c,yd7 c=true/\fIx (.str x) (.int v) h = .ok (.str ⟨#[c]⟩) h:=by
 have hv':v<x.cps.toList.length:=by rw [<- zad];exact hv
 refine ⟨x.cps.toList[v],List.all_eq_true.mp hx _ (List.getElem_mem hv'),?_⟩
 have e:x.cps.toList[v]? = some x.cps.toList[v]:=List.getElem?_eq_getElem hv'
 simp only [fIx,zdL e]
theorem zbe {hh:AH} {L:Nat} {N:Int} (m:Nat) (e:hh[L]? = some (.lst [.int N])) (hm:0<m) (hm2:m<=10 ^ 50):∃ (v:Nat) (N':Int),v<m/\yay [.ref L,.int m] hh = .ok (.int v) (hh.set L (.lst [.int N'])):=by
 obtain ⟨v,hv,e1⟩:=zjo m e hm hm2
 exact ⟨v,N / m,hv,e1⟩
theorem zgy {y:Str} {c:Nat} (hy:yaE y=true) (hc:yd7 c=true):yaE (y++⟨#[c]⟩)=true/\(y++(⟨#[c]⟩:Str)).length=y.length+1:=by
 refine ⟨?_,by rw [zaj];rfl⟩
 rw [zaQ,hy]
 simp [yaE,hc]
def lowS:Str := "abcdefghijklmnopqrstuvwxyz"
def upS:Str := "ABCDEFGHIJKLMNOPQRSTUVWXYZ"
def restS:Str := " !#$&'()*+,-./0123456789:;<=>?\x40[]^_{|}~\n\\"
def sg46:List Str:=["a", "ab", "ab\n", "a \n~",(lowS++upS)++restS]
theorem zb3:∀ x∈sg46,yaE x=true/\1<=x.length/\x.length<=200:=by decide +kernel
theorem yfN:Txt.upper lowS=upS:=by decide +kernel
theorem mup (h:AH):yeC (.str lowS) [] h = .ok (.str upS) h:=by
 have c:(Txt.upper lowS).length<=sizeLine/\(Txt.upper lowS).cps.all (· < 0x110000)=true:=by rw [yfN];decide +kernel
 show (if (Txt.upper lowS).length<=sizeLine/\(Txt.upper lowS).cps.all (· < 0x110000)=true then Out.ok (AV.str (Txt.upper lowS)) h else .bad)=_
 rw [if_pos c,yfN]
theorem yhg (v:Nat) (hv:v<5):∃ z:Str,(∀ h,fIx (.fl [.str "a",.str "ab",.str "ab\n",.str "a \n~",.str ((lowS++upS)++restS)]) (.int (v:Int)) h = .ok (.str z) h)/\yaE z=true/\1<=z.length/\z.length<=200:=by
 have:v=0\/v=1\/v=2\/v=3\/v=4:=by lia
 rcases this with rfl | rfl | rfl | rfl | rfl
 ·exact ⟨_,fun _=>rfl,zb3 _ (by simp [sg46])⟩
 ·exact ⟨_,fun _=>rfl,zb3 _ (by simp [sg46])⟩
 ·exact ⟨_,fun _=>rfl,zb3 _ (by simp [sg46])⟩
 ·exact ⟨_,fun _=>rfl,zb3 _ (by simp [sg46])⟩
 ·exact ⟨_,fun _=>rfl,zb3 _ (by simp [sg46])⟩
theorem zhm {hh:AH} {L:Nat} {N:Int} (most:Nat) (hm:most<=1000) (e:hh[L]? = some (.lst [.int N])):∃ (y:Str) (N':Int),yc3 [.ref L,.int most] hh = .ok (.str y) (hh.set L (.lst [.int N']))/\yaE y=true/\y.length<=most:=by
 have Ll:=yaM e
 obtain ⟨v,N1,hv,t1⟩:=zbe 5 e (by decide) (by decide)
 have t1':yay [.ref L,.int 5] hh = .ok (.int v) (hh.set L (.lst [.int N1])):=t1
 obtain ⟨z,ez,pz,z1,z2⟩:=yhg v hv
 have e1:(hh.set L (.lst [.int N1]))[L]? = some (.lst [.int N1]):=List.getElem?_set_self Ll
 obtain ⟨k,N2,hk,t2⟩:=zbe (most+1) e1 (Nat.succ_pos _) (Nat.le_trans (Nat.succ_le_succ hm) (by decide))
 rw [List.set_set] at t2
 have t2':yay [.ref L,.int ((most:Int)+1)] (hh.set L (.lst [.int N1])) = .ok (.int k) (hh.set L (.lst [.int N2])):=by
  have:=t2;rw [Int.natCast_succ] at this;exact this
 obtain ⟨W3,eW3⟩:∃ W3:Str,W3=(lowS++upS)++restS:=⟨_,rfl⟩
 rw [<- eW3] at ez
 obtain ⟨e',h',r1,y,N3,o4,r2,r3,r4,r5⟩:=yc9 (w:=none) (all:=yaW 0 k) (t:=.nm 6) (b:=ybI) (xs:=yaW 0 k) (en:=[some (.ref L),some (.int most),some (.str lowS),some (.str W3),some (.str z),some (.str ""),none]) (h:=hh.set L (.lst [.int N2]))
  (fun j en h' => ∃ (y:Str) (N':Int) (o4:Option AV),en=[some (.ref L),some (.int most),some (.str lowS),some (.str W3),some (.str z),some (.str y),o4]/\h'=hh.set L (.lst [.int N'])/\yaE y=true/\y.length=j) ⟨"",N2,none,rfl,rfl,rfl,rfl⟩ (fun _ _ _ _=>rfl) (by
   rintro j u en h' hu ⟨y,N',o4,rfl,rfl,py,ly⟩
   have jk:j<k:=by have:=(List.getElem?_eq_some_iff.mp hu).1;rwa [zaM] at this
   have e3:(hh.set L (.lst [.int N']))[L]? = some (.lst [.int N']):=List.getElem?_set_self Ll
   obtain ⟨t,N4,ht,et⟩:=zbe z.length e3 (by lia) (Nat.le_trans z2 (by decide))
   rw [List.set_set] at et
   obtain ⟨c,pc,ec⟩:=zid ht pz (hh.set L (.lst [.int N4]))
   have ad:fAdd (.str y) (.str ⟨#[c]⟩) (hh.set L (.lst [.int N4])) = .ok (.str (y++⟨#[c]⟩)) (hh.set L (.lst [.int N4])):=by
    have:y.length+(⟨#[c]⟩:Str).length<=sizeLine:=Nat.le_trans (m:=1001) (by show y.length+1<=_;lia) (by decide)
    simp only [fAdd,this,if_true]
   have es:ybI [some (.ref L),some (.int most),some (.str lowS),some (.str W3),some (.str z),some (.str y),some u] (hh.set L (.lst [.int N'])) = .nx [some (.ref L),some (.int most),some (.str lowS),some (.str W3),some (.str z),some (.str (y++⟨#[c]⟩)),some u] (hh.set L (.lst [.int N4])):=by
    generalize hh.set L (.lst [.int N4])=h2 at *
    generalize hh.set L (.lst [.int N'])=h1 at *
    simp [ybI,et,ec,ad,-fIx,-fAdd]
   show thn (ybI [some (.ref L),some (.int most),some (.str lowS),some (.str W3),some (.str z),some (.str y),some u] (hh.set L (.lst [.int N']))) _
   rw [es]
   obtain ⟨q1,q2⟩:=zgy py pc
   exact ⟨_,N4,_,rfl,rfl,q1,by rw [q2,ly]⟩)
 rw [zaM] at r5
 have f1:=(ycw (t:=.nm 6) (b:=ybI) (zbc (a:=yaf yay (yab (sVar 0) (yab (sOp2 fAdd (sVar 1) (sLit (.int 1))) sNil))) (en:=[some (.ref L),some (.int most),some (.str lowS),some (.str W3),some (.str z),some (.str ""),none]) (h:=hh.set L (.lst [.int N1])) (n:=k) (by simp [t2']) (by lia))).trans r1
 refine ⟨y,N3,?_,r4,by lia⟩
 rw [<- r3]
 subst r2
 have a1:fAdd (.str lowS) (.str upS) hh = .ok (.str (lowS++upS)) hh:=by
  have:lowS.length+upS.length<=sizeLine:=by decide +kernel
  simp only [fAdd,this,if_true]
 have a2:fAdd (.str (lowS++upS)) (.str restS) hh = .ok (.str W3) hh:=by
  have:(lowS++upS).length+restS.length<=sizeLine:=by decide +kernel
  rw [eW3]
  simp only [fAdd,this,if_true]
 have mu:=mup hh
 have el:Str.ofString "abcdefghijklmnopqrstuvwxyz" = lowS:=rfl
 have er:Str.ofString " !#$&'()*+,-./0123456789:;<=>?\x40[]^_{|}~\n\\" = restS:=rfl
 unfold yc3
 rw [el,er]
 generalize sFor (yba (yaf yay (yab (sVar 0) (yab (sOp2 fAdd (sVar 1) (sLit (.int 1))) sNil)))) (.nm 6) ybI=F1 at *
 generalize hh.set L (.lst [.int N1])=h1 at *
 generalize lowS=LO at *
 generalize upS=UP at *
 generalize restS=RS at *
 generalize LO++UP=LU at *
 simp [mu,a1,a2,t1',ez,f1,-fAdd,-fIx]
end Sk
namespace Sk
open PySem PySem.Spec L2 Sm
abbrev yaL (s:Nat×Nat):AV:=.tup [.int s.1,.int s.2]
def clip (b e:Nat) (z:List Nat) (s:Nat):List Nat:=(z.take (e-s)).drop (b-s)
theorem zdj (b e s:Nat) (y z:List Nat):clip b e (y++z) s=clip b e y s++clip b e z (s+y.length):=by
 unfold clip
 rw [List.take_append,List.drop_append,List.length_take]
 congr 1
 by_cases q:e-s<y.length
 ·rw [show e-s-y.length=0 by lia,show e-(s+y.length)=0 by lia];simp
 ·rw [Nat.min_eq_right (Nat.le_of_not_lt q),Nat.sub_sub,Nat.sub_sub]
theorem zhn {b e s:Nat} {z:List Nat} (h:e<=s\/s+z.length<=b):clip b e z s=[]:=by
 unfold clip
 rcases h with h | h
 ·rw [Nat.sub_eq_zero_of_le h];simp
 ·apply List.drop_of_length_le
  rw [List.length_take]
  exact Nat.le_trans (Nat.min_le_right _ _) (Nat.le_sub_of_add_le (by rw [Nat.add_comm];exact h))
theorem zeV {b e s:Nat} {z:List Nat} (h1:s<e) (h2:b<s+z.length) (be:b<e) (hz:1<=z.length):1<=(clip b e z s).length:=by
 unfold clip
 rw [List.length_drop,List.length_take]
 lia
def hnOf (ps:List Pc) (n:Nat):Nat:=((meas ps).getD n ms0).ht.toNat
def ptOf (b e:Nat) (z:List Nat) (s H:Nat):Nat:=if e<=s\/s+z.length<=b then 1 else 2*(max (clip b e z s).length 1*(H+1))+1
theorem yee (b e:Nat) (z:List Nat) (s H:Nat):1<=ptOf b e z s H:=by
 unfold ptOf
 split
 ·exact Nat.le_refl _
 ·exact Nat.le_add_left _ _
theorem yf5 {A B h H:Nat} (ab:A<=B) (hh:h+1<=H) (b1:1<=B):2*(A*(h+1))+1+1<2*(B*(H+1))+1:=by
 have q1:A*(h+1)<=B*H:=Nat.mul_le_mul ab hh
 have q2:B*(H+1)=B*H+B:=Nat.mul_succ B H
 lia
theorem yid {A B C h g H:Nat} (ab:A+B<=C) (hh:h+1<=H) (gg:g+1<=H) (b1:1<=C):2*(A*(h+1))+1+(2*(B*(g+1))+1)<2*(C*(H+1))+1:=by
 have q1:A*(h+1)<=A*H:=Nat.mul_le_mul_left A hh
 have q3:B*(g+1)<=B*H:=Nat.mul_le_mul_left B gg
 have q4:(A+B)*H<=C*H:=Nat.mul_le_mul_right H ab
 have q5:(A+B)*H=A*H+B*H:=Nat.add_mul A B H
 have q2:C*(H+1)=C*H+C:=Nat.mul_succ C H
 lia
theorem zjp {b e s h g H:Nat} {y z:List Nat} (hy:1<=y.length) (hz:1<=z.length) (n : ¬ (e<=s\/s+(y++z).length<=b)) (hh:h+1<=H) (gg:g+1<=H) (be:b<=e):ptOf b e y s h+ptOf b e z (s+y.length) g<ptOf b e (y++z) s H:=by
 have ca:=congrArg List.length (zdj b e s y z)
 rw [List.length_append] at ca
 unfold ptOf
 rw [if_neg n]
 generalize hX:(clip b e (y++z) s).length=X at *
 have m1:1<=max X 1:=Nat.le_max_right _ _
 by_cases sy:e<=s\/s+y.length<=b
 ·rw [if_pos sy]
  by_cases sz:e<=s+y.length\/s+y.length+z.length<=b
  ·rw [if_pos sz]
   have:1<=max X 1*(H+1):=Nat.mul_pos m1 (Nat.succ_pos H)
   lia
  ·rw [if_neg sz]
   have:=yf5 (A:=max (clip b e z (s+y.length)).length 1) (B:=max X 1) (h:=g) (H:=H) (by lia) gg m1
   lia
 ·rw [if_neg sy]
  by_cases sz:e<=s+y.length\/s+y.length+z.length<=b
  ·rw [if_pos sz]
   exact yf5 (by lia) hh m1
  ·rw [if_neg sz]
   have c1:=zeV (b:=b) (e:=e) (s:=s) (z:=y) (by lia) (by lia) (by lia) hy
   have c2:=zeV (b:=b) (e:=e) (s:=s+y.length) (z:=z) (by lia) (by lia) (by lia) hz
   exact yid (by lia) hh gg m1
inductive Stk (ps:List Pc) (b e:Nat):List (Nat×Nat)->List Nat->Nat->Prop
 | nil:Stk ps b e [] [] 0
 | cons {n s:Nat} {x:Str} {st:List (Nat×Nat)} {r:List Nat} {k:Nat}:TxZ ps n x->(0<x.length\/s=0)->Stk ps b e st r k->Stk ps b e ((n,s)::st) (clip b e x.cps.toList s++r) (ptOf b e x.cps.toList s (hnOf ps n)+k)
theorem Stk.len {ps:List Pc} {b e:Nat} {st:List (Nat×Nat)} {r:List Nat} {k:Nat} (t:Stk ps b e st r k):st.length<=k:=by
 induction t with
 | nil=>exact Nat.le_refl _
 | @cons n s x st r k _ _ _ ih =>
  have:=yee b e x.cps.toList s (hnOf ps n)
  rw [List.length_cons];lia
theorem yeo {ps:List Pc} {n:Nat} {m:Ms} (e:(meas ps)[n]? = some m):hnOf ps n=m.ht.toNat:=by unfold hnOf;rw [zbd e]
theorem zep (h:AH):∀ st:List (Nat×Nat),toDs (toD 7 h) (st.map yaL)=some (st.map fun s=>PyData.tuple [.int (s.1:Int),.int (s.2:Int)])
 | []=>rfl
 | s::st=>by
  rw [List.map_cons,List.map_cons]
  show (match toD 7 h (yaL s),toDs (toD 7 h) (st.map yaL) with | some d,some ds=>some (d::ds) | _,_=>none)=_
  rw [zep h st];rfl
theorem zjq {h:AH} {L:Nat} {st:List (Nat×Nat)} (e:h[L]? = some (.lst (st.map yaL))):fNe (.ref L) (.fl []) h = .ok (.bl (!st.isEmpty)) h:=by
 have t:toD 8 h (.ref L)=some (.list (st.map fun s=>PyData.tuple [.int (s.1:Int),.int (s.2:Int)])):=by
  show (match h[L]? with | some (.lst xs)=>(toDs (toD 7 h) xs).map PyData.list | _=>none)=_
  rw [e]
  show (toDs (toD 7 h) (st.map yaL)).map PyData.list=_
  rw [zep];rfl
 have q:eqA (.ref L) (.fl []) h=some st.isEmpty:=by
  show (match toD 8 h (.ref L),toD 8 h (.fl []) with | some d,some e=>some (PyData.eqv d e) | _,_=>none)=_
  rw [t]
  show some (PyData.eqv (.list _) (.list []))=_
  cases st with
  | nil=>simp [PyData.eqv,PyData.eqvAll]
  | cons a b=>simp [PyData.eqv,PyData.eqvAll]
 show (match eqA (.ref L) (.fl []) h with | some b=>Out.ok (AV.bl (!b)) h | none=>Out.bad)=_
 rw [q]
theorem zie {b e s:Nat} {y:Str} (hs:s<e):(cutS y (some (((b-s:Nat)):Int)) (some ((e-s:Nat):Int))).cps.toList=clip b e y.cps.toList s:=by
 simp only [cutS,HT.sIx_nat,clip]
 rw [List.drop_take]
 generalize y.cps.toList=l
 apply List.ext_getElem?
 intro i
 simp only [List.getElem?_take,List.getElem?_drop]
 by_cases c:i<e-s-(b-s)
 ·by_cases d:b-s<=l.length
  ·rw [Nat.min_eq_left d,if_pos c]
   by_cases f:e-s<=l.length
   ·rw [Nat.min_eq_left f,if_pos c]
   ·rw [Nat.min_eq_right (Nat.le_of_not_le f)]
    by_cases g:i<l.length-(b-s)
    ·rw [if_pos g]
    ·rw [if_neg g,List.getElem?_eq_none (by lia)]
  ·have:min (e-s) l.length-min (b-s) l.length=0:=by lia
   rw [this,if_neg (Nat.not_lt_zero _),if_pos c,List.getElem?_eq_none (by lia)]
 ·have : ¬ i<min (e-s) l.length-min (b-s) l.length:=by lia
  rw [if_neg c,if_neg this]
abbrev sbEn (p:Nat) (o1:Option AV) (b e L1 L2:Nat) (o6 o7 o8 o9:Option AV):En:=[some (.ref p),o1,some (.int b),some (.int e),some (.ref L1),some (.ref L2),o6,o7,o8,o9]
theorem zdY {h:AH} {p:Nat} {ps:List Pc} (S:ShelfAt h p ps) {L:Nat} (hL:p+8<L) (o:AO):ShelfAt (h.set L o) p ps :=
 S.keep fun i _ b=>List.getElem?_set_ne (Nat.ne_of_gt (Nat.lt_of_le_of_lt b hL))
theorem zjr {h:AH} {p:Nat} {ps:List Pc} (S:ShelfAt h p ps) {n s b e L1 L2:Nat} {m:Ms} (em:(meas ps)[n]? = some m) (h2:p+8<L2) {ys:List AV} (e2:h[L2]? = some (.lst (ys++[yaL (n,s)]))) (c:e<=s\/s+m.sg<=b) (o1 o6 o7 o8 o9:Option AV) :
  ∃ o6' o7' o8',yaQ (sbEn p o1 b e L1 L2 o6 o7 o8 o9) h = .ct (sbEn p o1 b e L1 L2 o6' o7' o8' o9) (h.set L2 (.lst ys)):=by
 have S' := zdY S h2 (.lst ys)
 have fs:=zaf S' em
 have ob:=S'.ob
 have i0:∀ h,fIx (yaL (n,s)) (.int 0) h=Out.ok (.int n) h:=fun h=>rfl
 have i1:∀ h,fIx (yaL (n,s)) (.int 1) h=Out.ok (.int s) h:=fun h=>rfl
 have pp:mPop (.ref L2) [] h = .ok (yaL (n,s)) (h.set L2 (.lst ys)):=by
  simp only [mPop,e2]
  simp
 have ls:yaB (.ref L2) h=true:=by simp only [yaB,yby,e2];rfl
 refine ⟨some (yaL (n,s)),some (.int n),some (.int s),?_⟩
 generalize yaL (n,s)=W at *
 generalize h.set L2 (.lst ys)=h' at *
 by_cases c1:(e:Int)<=s
 ·simp [yaQ,pp,ls,i0,i1,c1,-fIx,-mPop,-yaB]
 ·have c2:(s:Int)+m.sg<=b:=by lia
  simp [yaQ,pp,ls,i0,i1,c1,c2,ob,fs,-fIx,-mPop,-yaB]
theorem zjs {h:AH} {p:Nat} {ps:List Pc} (S:ShelfAt h p ps) {n s b e L1 L2:Nat} {y:Str} {m:Ms} (em:(meas ps)[n]? = some m) (n1:1<=n) (ey:ps[n-1]? = some (.leaf y)) (h1:p+8<L1) (h2:p+8<L2) (h12:L1≠L2) {ys fs:List AV} (e1:h[L1]? = some (.lst fs)) (e2:h[L2]? = some (.lst (ys++[yaL (n,s)]))) (c1:s<e) (c2:b<s+m.sg) (hf:fs.length<16000000) (o1 o6 o7 o8 o9:Option AV) :
  ∃ o6' o7' o8' o9',yaQ (sbEn p o1 b e L1 L2 o6 o7 o8 o9) h = .nx (sbEn p o1 b e L1 L2 o6' o7' o8' o9') ((h.set L2 (.lst ys)).set L1 (.lst (fs++[.str (cutS y (some ((b-s:Nat):Int)) (some ((e-s:Nat):Int)))]))):=by
 have S' := zdY S h2 (.lst ys)
 have fg:=zaf S' em
 have fp:=zcf S' n1 ey
 have ob:=S'.ob
 have i0:∀ h,fIx (yaL (n,s)) (.int 0) h=Out.ok (.int n) h:=fun h=>rfl
 have i1:∀ h,fIx (yaL (n,s)) (.int 1) h=Out.ok (.int s) h:=fun h=>rfl
 have j0:∀ h,fIx (Pc.leaf y).av (.int 0) h=Out.ok (.str "leaf") h:=fun h=>rfl
 have j1:∀ h,fIx (Pc.leaf y).av (.int 1) h=Out.ok (.str y) h:=fun h=>rfl
 have pp:mPop (.ref L2) [] h = .ok (yaL (n,s)) (h.set L2 (.lst ys)):=by
  simp only [mPop,e2]
  simp
 have ls:yaB (.ref L2) h=true:=by simp only [yaB,yby,e2];rfl
 have e1':(h.set L2 (.lst ys))[L1]? = some (.lst fs):=by rw [List.getElem?_set_ne (Ne.symm h12)];exact e1
 have fl:fs.length<sizeLine:=Nat.lt_trans hf (by decide)
 have ls1:yaB (.ref L1) (h.set L2 (.lst ys))=true:=by simp only [yaB,yby,e1'];rfl
 have d1 : ¬ (e:Int)<=s:=by lia
 have d2 : ¬ (s:Int)+m.sg<=b:=by lia
 have mx:∀ h,yb6 [.int ((b:Int)-s),.int 0] h = .ok (.int ((b-s:Nat):Int)) h:=fun h=>by
  simp
  lia
 have es:(e:Int)-s=((e-s:Nat):Int):=by lia
 refine ⟨some (yaL (n,s)),some (.int n),some (.int s),some (Pc.leaf y).av,?_⟩
 generalize yaL (n,s)=W at *
 generalize (Pc.leaf y).av=V at *
 generalize h.set L2 (.lst ys)=h' at *
 simp [yaQ,pp,ls,i0,i1,d1,d2,ob,fg,fp,j0,j1,mx,es,e1',fl,ls1,-fIx,-mPop,-yaB,-yb6]
theorem zjt {h:AH} {p:Nat} {ps:List Pc} (S:ShelfAt h p ps) {n s b e L1 L2 c d:Nat} {m mc:Ms} (em:(meas ps)[n]? = some m) (n1:1<=n) (ey:ps[n-1]? = some (.fork c d)) (ec:(meas ps)[c]? = some mc) (h1:p+8<L1) (h2:p+8<L2) {ys:List AV} (e2:h[L2]? = some (.lst (ys++[yaL (n,s)]))) (c1:s<e) (c2:b<s+m.sg) (hf:ys.length<16000000) (o1 o6 o7 o8 o9:Option AV) :
  ∃ o6' o7' o8' o9',yaQ (sbEn p o1 b e L1 L2 o6 o7 o8 o9) h = .nx (sbEn p o1 b e L1 L2 o6' o7' o8' o9') (h.set L2 (.lst (ys++[yaL (d,s+mc.sg)]++[yaL (c,s)]))):=by
 have S' := zdY S h2 (.lst ys)
 have fg:=zaf S' em
 have fp:=zcf S' n1 ey
 have fc:=zaf S' ec
 have ob:=S'.ob
 have bl:=yaM e2
 have i0:∀ h,fIx (yaL (n,s)) (.int 0) h=Out.ok (.int n) h:=fun h=>rfl
 have i1:∀ h,fIx (yaL (n,s)) (.int 1) h=Out.ok (.int s) h:=fun h=>rfl
 have j0:∀ h,fIx (Pc.fork c d).av (.int 0) h=Out.ok (.str "fork") h:=fun h=>rfl
 have j1:∀ h,fIx (Pc.fork c d).av (.int 1) h=Out.ok (.int c) h:=fun h=>rfl
 have j2:∀ h,fIx (Pc.fork c d).av (.int 2) h=Out.ok (.int d) h:=fun h=>rfl
 have pp:mPop (.ref L2) [] h = .ok (yaL (n,s)) (h.set L2 (.lst ys)):=by
  simp only [mPop,e2]
  simp
 have ls:yaB (.ref L2) h=true:=by simp only [yaB,yby,e2];rfl
 have nf:(Str.ofString "fork")≠(Str.ofString "leaf"):=by decide +kernel
 have g0:(h.set L2 (.lst ys))[L2]? = some (.lst ys):=List.getElem?_set_self bl
 have g1:((h.set L2 (.lst ys)).set L2 (.lst (ys++[yaL (d,s+mc.sg)])))[L2]? = some (.lst (ys++[yaL (d,s+mc.sg)])):=List.getElem?_set_self (by simpa using bl)
 have l0:ys.length<sizeLine:=Nat.lt_trans hf (by decide)
 have l1:ys.length+1<sizeLine:=Nat.lt_of_le_of_lt (Nat.succ_le_of_lt hf) (by decide)
 have d1 : ¬ (e:Int)<=s:=by lia
 have d2 : ¬ (s:Int)+m.sg<=b:=by lia
 have sv:AV.tup [.int d,.int ((s:Int)+mc.sg)]=yaL (d,s+mc.sg):=by simp [yaL]
 have sw:AV.tup [.int c,.int (s:Int)]=yaL (c,s):=rfl
 have ss:∀ o o',(h.set L2 o).set L2 o'=h.set L2 o' := fun o o' => by simp
 refine ⟨some (yaL (n,s)),some (.int n),some (.int s),some (Pc.fork c d).av,?_⟩
 have ap1:yaD (.ref L2) [yaL (d,s+mc.sg)] (h.set L2 (.lst ys)) = .ok .non (h.set L2 (.lst (ys++[yaL (d,s+mc.sg)]))):=by
  simp only [yaD,g0,l0,if_true,ss]
 rw [ss] at g1
 have ap2:yaD (.ref L2) [yaL (c,s)] (h.set L2 (.lst (ys++[yaL (d,s+mc.sg)]))) = .ok .non (h.set L2 (.lst (ys++[yaL (d,s+mc.sg)]++[yaL (c,s)]))):=by
  simp only [yaD,g1,List.length_append,List.length_cons,List.length_nil,Nat.zero_add,l1,if_true,ss]
 have is0:yaB (.ref L2) (h.set L2 (.lst ys))=true:=by simp only [yaB,yby,g0];rfl
 have is1:yaB (.ref L2) (h.set L2 (.lst (ys++[yaL (d,s+mc.sg)])))=true:=by simp only [yaB,yby,g1];rfl
 generalize yaL (n,s)=W at *
 generalize (Pc.fork c d).av=V at *
 generalize h.set L2 (.lst (ys++[yaL (d,s+mc.sg)]++[yaL (c,s)]))=h3 at *
 generalize h.set L2 (.lst (ys++[yaL (d,s+mc.sg)]))=h2 at *
 generalize h.set L2 (.lst ys)=h' at *
 simp [yaQ,pp,ls,i0,i1,d1,d2,ob,fg,fp,fc,j0,j1,j2,nf,sv,sw,is0,is1,ap1,ap2,-fIx,-mPop,-yaB,-yaD]
end Sk
namespace Sk
open PySem PySem.Spec L2 Sm
theorem TxZ.ne0 {ps:List Pc} {n:Nat} {y:Str} (t:TxZ ps n y) (h:0<y.length):∃ m f l,Tx ps n m y f l:=by
 rcases t with ⟨_,rfl⟩ | t
 ·exact absurd h (by decide)
 ·exact t
theorem zeW:∀ fs:List Str,yd4 (fs.map AV.str)=some fs
 | []=>rfl
 | f::fs=>by simp [zeW fs]
theorem zdk (b e s:Nat) (z:List Nat):(clip b e z s).length<=e-b:=by
 unfold clip
 rw [List.length_drop,List.length_take]
 lia
theorem zho {h:AH} {p:Nat} {ps:List Pc} (S:ShelfAt h p ps) (g:Good ps) {n b e:Nat} {x:Str} (t:TxZ ps n x) (be:b<=e) (w:e-b<=10000) :
  ∃ (z:Str) (r:AH),ycI [.ref p,.int n,.int b,.int e] h = .ok (.str z) (h++r)/\z.cps.toList=clip b e x.cps.toList 0:=by
 have b8:=yaM S.h8
 obtain ⟨K0,eK⟩:∃ K0,K0=ptOf b e x.cps.toList 0 (hnOf ps n):=⟨_,rfl⟩
 have hK:K0<=5000000:=by
  have cl:=zdk b e 0 x.cps.toList
  have hh:hnOf ps n<=200:=by
   rcases t with ⟨rfl,_⟩ | ⟨m,f,l,T⟩
   ·rw [yeo (zbw ps)];decide
   ·rw [yeo T.ms];exact zh8 g T
  rw [eK];unfold ptOf
  split
  ·decide
  ·have:max (clip b e x.cps.toList 0).length 1*(hnOf ps n+1)<=10000*201:=Nat.mul_le_mul (by lia) (by lia)
   lia
 obtain ⟨e',h',q1,fs,q2,o6,o7,o8,o9,q3,q4⟩:=zjb (c:=yas (sOp2 fNe (sVar 5) (sLst sNil))) (b:=yaQ) (fuel:=yeB) (n:=K0) (en:=sbEn p (some (.int n)) b e h.length (h.length+1) none none none none) (h:=h++[.lst [],.lst [yaL (n,0)]])
  (fun k en h' => ∃ (fs:List Str) (st:List (Nat×Nat)) (r:List Nat) (o6 o7 o8 o9:Option AV),en=sbEn p (some (.int n)) b e h.length (h.length+1) o6 o7 o8 o9/\h'=h++[.lst (fs.map AV.str),.lst (st.reverse.map yaL)]/\Stk ps b e st r k/\(fs.map fun f:Str=>f.cps.toList).flatten++r=clip b e x.cps.toList 0/\fs.length+k<=K0)
  (fun en h' => ∃ (fs:List Str),h'=h++[.lst (fs.map AV.str),.lst []]/\∃ o6 o7 o8 o9,en=sbEn p (some (.int n)) b e h.length (h.length+1) o6 o7 o8 o9/\(fs.map fun f:Str=>f.cps.toList).flatten=clip b e x.cps.toList 0)
  ⟨[],[(n,0)],clip b e x.cps.toList 0++[],none,none,none,none,rfl,rfl,eK ▸ .cons t (.inr rfl) .nil,by simp,by simp⟩ (Nat.lt_of_le_of_lt hK (by decide)) (by
   rintro k en h' ⟨fs,st,r,o6,o7,o8,o9,rfl,rfl,st0,fl,fk⟩
   obtain ⟨hc,ec⟩:∃ hc,hc=h++[AO.lst (fs.map AV.str),.lst (st.reverse.map yaL)]:=⟨_,rfl⟩
   have S':ShelfAt hc p ps:=ec▸S.app _
   have g1:hc[h.length]? = some (.lst (fs.map AV.str)):=by rw [ec];simp
   have g2:hc[h.length+1]? = some (.lst (st.reverse.map yaL)):=by rw [ec];simp
   have nn:=zjq g2
   have sl:=st0.len
   have hset:∀ (A B:AO),(h++[AO.lst (fs.map AV.str),B]).set (h.length+1) A=h++[AO.lst (fs.map AV.str),A]:=fun A B=>by simp
   rw [<- ec]
   cases st0 with
   | nil =>
    have c:(yas (sOp2 fNe (sVar 5) (sLst sNil))) (sbEn p (some (.int n)) b e h.length (h.length+1) o6 o7 o8 o9) hc = .ok false hc:=by
     have nn':fNe (.ref (h.length+1)) (.fl []) hc = .ok (.bl false) hc:=nn
     simp [sbEn,nn',-fNe]
    rw [c]
    exact ⟨fs,ec,o6,o7,o8,o9,rfl,by simpa using fl⟩
   | @cons n' s x' st r k t' ts st1 =>
    have c:(yas (sOp2 fNe (sVar 5) (sLst sNil))) (sbEn p (some (.int n)) b e h.length (h.length+1) o6 o7 o8 o9) hc = .ok true hc:=by
     have nn':fNe (.ref (h.length+1)) (.fl []) hc = .ok (.bl true) hc:=by rw [nn];simp
     simp [sbEn,nn',-fNe]
    rw [c]
    have g2':hc[h.length+1]? = some (.lst (st.reverse.map yaL++[yaL (n',s)])):=by rw [g2];simp
    obtain ⟨m,em,sm⟩:=t'.meas
    have lx:x'.cps.toList.length=m.sg:=(zad x').symm.trans sm.symm
    have sl1:=st1.len
    show thn (yaQ (sbEn p (some (.int n)) b e h.length (h.length+1) o6 o7 o8 o9) hc) _
    by_cases sk:e<=s\/s+x'.cps.toList.length<=b
    ·obtain ⟨a6,a7,a8,eb⟩:=zjr (L1:=h.length) S' em (show p+8<h.length+1 by lia) g2' (by rw [<- lx];exact sk) (some (.int n)) o6 o7 o8 o9
     rw [eb,ec,hset]
     refine ⟨k,?_,fs,st,r,a6,a7,a8,o9,rfl,rfl,st1,?_,?_⟩
     ·have:=yee b e x'.cps.toList s (hnOf ps n');lia
     ·rw [<- fl,zhn sk];rfl
     ·have:=yee b e x'.cps.toList s (hnOf ps n');lia
    ·have sk1:s<e:=by lia
     have sk2:b<s+m.sg:=by lia
     obtain ⟨m',f',l',T⟩:=t'.ne0 (by rcases ts with ts | ts<;>lia)
     have z:=em.symm.trans T.ms;cases z
     rcases g.kind T with ⟨e1,e2,e3,_⟩ | ⟨c1,c2,mc,md,y,z,fa,la,fb,lb,e1,e2,e3,A,B,e4,e5,e6⟩
     ·obtain ⟨a6,a7,a8,a9,eb⟩:=zjs S' em T.n1 e1 (show p+8<h.length by lia) (show p+8<h.length+1 by lia) (by lia) g1 g2' sk1 sk2 (by simp;lia) (some (.int n)) o6 o7 o8 o9
      rw [eb,ec,hset]
      refine ⟨k,?_,fs++[cutS x' (some ((b-s:Nat):Int)) (some ((e-s:Nat):Int))],st,r,a6,a7,a8,a9,rfl,by simp,st1,?_,?_⟩
      ·have:=yee b e x'.cps.toList s (hnOf ps n');lia
      ·rw [<- fl,<- zie (y:=x') sk1];simp
      ·have:=yee b e x'.cps.toList s (hnOf ps n');simp;lia
     ·obtain ⟨a6,a7,a8,a9,eb⟩:=zjt (L1:=h.length) S' em T.n1 e1 A.ms (show p+8<h.length by lia) (show p+8<h.length+1 by lia) g2' sk1 sk2 (by simp;lia) (some (.int n)) o6 o7 o8 o9
      have ly:y.cps.toList.length=mc.sg:=(zad y).symm.trans A.ky.sg.symm
      have y1:=A.ky.sg1
      have z1:=B.ky.sg1
      have lz:z.cps.toList.length=md.sg:=(zad z).symm.trans B.ky.sg.symm
      have ex:x'.cps.toList=y.cps.toList++z.cps.toList:=by rw [e4,zai]
      obtain ⟨j,ej,ja,jb,_⟩:=hs1 (show m.ht=max mc.ht md.ht+1 by rw [e5];rfl) A.ky.ht B.ky.ht
      have pf:=zjp (b:=b) (e:=e) (s:=s) (h:=hnOf ps c1) (g:=hnOf ps c2) (H:=hnOf ps n') (y:=y.cps.toList) (z:=z.cps.toList) (by lia) (by lia) (ex▸sk) (by rw [yeo A.ms,yeo em];lia) (by rw [yeo B.ms,yeo em];lia) be
      rw [<- ex,ly] at pf
      rw [eb,ec,hset]
      refine ⟨ptOf b e y.cps.toList s (hnOf ps c1)+(ptOf b e z.cps.toList (s+mc.sg) (hnOf ps c2)+k),by lia,fs,(c1,s)::(c2,s+mc.sg)::st,_,a6,a7,a8,a9,rfl,by simp,.cons (.inr ⟨_,_,_,A⟩) (.inl (A.ky.sg▸y1)) (.cons (.inr ⟨_,_,_,B⟩) (.inl (B.ky.sg▸z1)) st1),?_,by lia⟩
      rw [<- fl,ex,zdj,ly];simp)
 subst q2;subst q3
 refine ⟨⟨((fs.map fun f:Str=>f.cps.toList).flatten).toArray⟩,[.lst (fs.map AV.str),.lst []],?_,by rw [<- q4]⟩
 have fl:((fs.map fun f:Str=>f.cps.toList).flatten).length<=1000000:=by
  rw [q4];exact Nat.le_trans (zdk _ _ _ _) (Nat.le_trans w (by decide))
 have g1:(h++[AO.lst (fs.map AV.str),.lst []])[h.length]? = some (.lst (fs.map AV.str)):=by simp
 have jn:ydz (.str "") [.ref h.length] (h++[AO.lst (fs.map AV.str),.lst []]) = .ok (.str ⟨((fs.map fun f:Str=>f.cps.toList).flatten).toArray⟩) (h++[AO.lst (fs.map AV.str),.lst []]):=by
  have e:(Str.ofString "")=Str.empty:=by decide +kernel
  unfold ydz
  simp only [e,if_true,yby,g1,zeW]
  rw [if_pos fl]
 have q1':yci (yas (sOp2 fNe (sVar 5) (sLst sNil))) yaQ yeB [some (.ref p),some (.int n),some (.int b),some (.int e),some (.ref h.length),some (.ref (h.length+1)),none,none,none,none] (h++[.lst [],.lst [.tup [.int n,.int 0]]])=_:=q1
 unfold ycI
 generalize yci (yas (sOp2 fNe (sVar 5) (sLst sNil))) yaQ yeB=W at q1' ⊢
 generalize hH:(h++[AO.lst (fs.map AV.str),.lst []])=H at *
 have a1:h++[AO.lst []]++[AO.lst [AV.tup [.int n,.int 0]]]=h++[.lst [],.lst [.tup [.int n,.int 0]]]:=by simp
 simp [q1',jn,sbEn,-ydz]
theorem zhp {h:AH} {p:Nat} {ps:List Pc} (S:ShelfAt h p ps) (g:Good ps) {n b e:Nat} {x:Str} (t:TxZ ps n x) (be:b<=e) (ex:e<=x.length) (w:e-b<=10000) :
  ∃ (z:Str) (r:AH),ydm [.ref p,.int n,.int b,.int e] h = .ok (.str z) (h++r)/\z.cps.toList=clip b e x.cps.toList 0:=by
 obtain ⟨m,em,sm⟩:=t.meas
 have ck:=zcx S em be (sm▸ex)
 obtain ⟨z,r,e1,e2⟩:=zho S g t be w
 refine ⟨z,r,?_,e2⟩
 have w' : ¬ (10000:Int)<(e:Int)-b:=by lia
 simp [ydm,ck,w',e1]
end Sk
namespace Sk
open PySem PySem.Spec L2 Sm
def rp (B:List Nat) (t:Nat):List Nat:=(List.replicate t B).flatten
theorem rp_s (B:List Nat) (t:Nat):rp B (t+1)=B++rp B t:=by
 unfold rp;rw [List.replicate_succ,List.flatten_cons]
theorem rp_a (B:List Nat):∀ a b:Nat,rp B a++rp B b=rp B (a+b)
 | 0,b=>by rw [Nat.zero_add];rfl
 | a+1,b=>by rw [rp_s,List.append_assoc,rp_a B a b,Nat.add_right_comm,rp_s]
theorem rp_1 (B:List Nat):rp B 1=B:=by rw [rp_s];exact List.append_nil _
theorem yef (B:List Nat):∀ t:Nat,(rp B t).length=B.length*t
 | 0=>rfl
 | t+1=>by rw [rp_s,List.length_append,yef B t,Nat.mul_succ,Nat.add_comm]
theorem zdl (P:List Nat) {q m:Nat} (h:q<m):rp P m=rp P q++(P++rp P (m-q-1)):=by
 rw [<- rp_s,rp_a];congr 1;lia
theorem rpcA {P:List Nat} {m q r t:Nat} (ht:t<=P.length) (hq:q<m):((rp P m).take (P.length*q+t)).drop (P.length*q+r)=(P.take t).drop r:=by
 rw [zdl P hq,<- yef P q,List.take_length_add_append,List.take_append_of_le_length ht,List.drop_length_add_append]
theorem rpcB {P:List Nat} {m q1 q2 r t:Nat} (hr:r<=P.length) (ht:t<=P.length) (h:q1<q2) (hq:q2<m):((rp P m).take (P.length*q2+t)).drop (P.length*q1+r)=P.drop r++(rp P (q2-q1-1)++P.take t):=by
 rw [zdl P hq,<- yef P q2,List.take_length_add_append,List.take_append_of_le_length ht]
 rw [zdl P h,List.append_assoc,List.append_assoc,<- yef P q1,List.drop_length_add_append,List.drop_append_of_le_length hr]
abbrev Bk:=Str×Nat
def fB:List Bk->List Nat
 | []=>[]
 | x::r=>rp x.1.cps.toList x.2++fB r
theorem ycS:∀ a b:List Bk,fB (a++b)=fB a++fB b
 | [],b=>rfl
 | x::a,b=>by rw [List.cons_append,fB,fB,ycS a b,List.append_assoc]
theorem ydT (x:Bk):fB [x]=rp x.1.cps.toList x.2:=by rw [fB,fB,List.append_nil]
theorem zbf (x:Bk):(rp x.1.cps.toList x.2).length=x.1.length*x.2:=by rw [yef,<- zad]
theorem ye3:∀ {bs:List Bk} {x:Bk},x∈bs->x.1.length*x.2<=(fB bs).length
 | y::r,x,h=>by
  rw [fB,List.length_append,zbf]
  rcases List.mem_cons.mp h with rfl | h
  ·lia
  ·have:=ye3 h;lia
structure Ok (x:Bk):Prop where
 a:1<=x.1.length
 b:x.1.length<=20
 c:1<=x.2
def pt2 (p:Str) (lo hi:Nat):List Bk :=
 if lo / p.length=(hi-1) / p.length then [(dpS (tkS p (hi-lo / p.length*p.length)) (lo-lo / p.length*p.length),1)]
 else (dpS p (lo-lo / p.length*p.length),1)::((if lo / p.length+1<(hi-1) / p.length then [(p,(hi-1) / p.length-lo / p.length-1)] else [])++[(tkS p (hi-(hi-1) / p.length*p.length),1)])
structure Fg (n lo hi q1 q2 r t:Nat):Prop where
 e1:lo / n=q1
 e2:(hi-1) / n=q2
 e3:lo=n*q1+r
 e4:hi=n*q2+t
 r1:r<n
 t1:1<=t
 t2:t<=n
 le:q1<=q2
theorem figs {n lo hi:Nat} (hn:1<=n) (h:lo<hi):∃ q1 q2 r t,Fg n lo hi q1 q2 r t:=by
 have a:=Nat.div_add_mod lo n
 have b:=Nat.mod_lt lo (show 0<n by lia)
 have c:=Nat.div_add_mod (hi-1) n
 have d:=Nat.mod_lt (hi-1) (show 0<n by lia)
 exact ⟨lo / n,(hi-1) / n,lo % n,(hi-1) % n+1,rfl,rfl,by lia,by lia,b,by lia,by lia,Nat.div_le_div_right (by lia)⟩
theorem Fg.q {n lo hi q1 q2 r t m:Nat} (f:Fg n lo hi q1 q2 r t) (h:hi<=n*m):q2<m:=by
 have:=f.e4
 have:=f.t1
 exact Nat.lt_of_mul_lt_mul_left (a:=n) (by lia)
theorem Fg.lo_ {n lo hi q1 q2 r t:Nat} (f:Fg n lo hi q1 q2 r t):lo-lo / n*n=r:=by
 rw [f.e1,f.e3,Nat.mul_comm q1 n];lia
theorem Fg.hi_ {n lo hi q1 q2 r t:Nat} (f:Fg n lo hi q1 q2 r t):hi-(hi-1) / n*n=t:=by
 have:=f.e4
 rw [f.e2,Nat.mul_comm q2 n];lia
theorem ye4 {p:Str} {lo hi q1 q2 r t:Nat} (f:Fg p.length lo hi q1 q2 r t):pt2 p lo hi=if q1=q2 then [(dpS (tkS p t) r,1)] else (dpS p r,1)::((if q1+1<q2 then [(p,q2-q1-1)] else [])++[(tkS p t,1)]):=by
 unfold pt2
 rw [f.lo_,f.hi_]
 have e:(hi-lo / p.length*p.length)=if q1=q2 then t else hi-lo / p.length*p.length:=by
  split
  ·rename_i q
   have:=f.hi_
   rw [f.e2,<- q,<- f.e1] at this
   exact this
  ·rfl
 rw [f.e1,f.e2] at *
 by_cases q:q1=q2
 ·rw [if_pos q,if_pos q,e,if_pos q]
 ·rw [if_neg q,if_neg q]
theorem yhh {p:Str} {m lo hi:Nat} (hp:1<=p.length) (h1:lo<hi) (h2:hi<=p.length*m):fB (pt2 p lo hi)=((rp p.cps.toList m).take hi).drop lo:=by
 obtain ⟨q1,q2,r,t,f⟩:=figs hp h1
 have hq:=f.q h2
 rw [ye4 f]
 have ln:=zad p
 have t2:=f.t2
 have r1:=f.r1
 by_cases q:q1=q2
 ·rw [if_pos q,ydT,rp_1,f.e3,f.e4,q,ln,rpcA (by lia) hq]
  rfl
 ·rw [if_neg q,f.e3,f.e4,ln,rpcB (by lia) (by lia) (by have:=f.le;lia) hq]
  rw [fB,rp_1,ycS,ydT,rp_1]
  congr 2
  by_cases z:q1+1<q2
  ·rw [if_pos z,ydT]
  ·rw [if_neg z]
   have:q2-q1-1=0:=by lia
   rw [this];rfl
theorem yhi {p:Str} {lo hi:Nat} (hp:1<=p.length) (hp2:p.length<=20) (h1:lo<hi):∀ x∈pt2 p lo hi,Ok x:=by
 obtain ⟨q1,q2,r,t,f⟩:=figs hp h1
 rw [ye4 f]
 have t1:=f.t1
 have t2:=f.t2
 have r1:=f.r1
 intro x hx
 by_cases q:q1=q2
 ·rw [if_pos q,List.mem_singleton] at hx
  subst hx
  have rt:r<t:=by
   have e3:=f.e3
   have e4:=f.e4
   rw [q] at e3
   lia
  exact ⟨by rw [ycR,ycx (by lia)];lia,by rw [ycR,ycx (by lia)];lia,Nat.le_refl _⟩
 ·rw [if_neg q] at hx
  rcases List.mem_cons.mp hx with rfl | hx
  ·exact ⟨by rw [ycR];lia,by rw [ycR];lia,Nat.le_refl _⟩
  ·rcases List.mem_append.mp hx with hx | hx
   ·split at hx
    ·rw [List.mem_singleton] at hx
     subst hx
     exact ⟨hp,hp2,by show 1<=q2-q1-1;lia⟩
    ·cases hx
   ·rw [List.mem_singleton] at hx
    subst hx
    exact ⟨by rw [ycx (by lia)];lia,by rw [ycx (by lia)];lia,Nat.le_refl _⟩
theorem zju (p:Str) (lo hi:Nat):(pt2 p lo hi).length<=3:=by
 unfold pt2
 split
 ·simp
 ·split<;>simp
def pn (b e s:Nat) (x:Bk):List Bk:=if b-s<min (e-s) (x.1.length*x.2) then pt2 x.1 (b-s) (min (e-s) (x.1.length*x.2)) else []
def prt (b e:Nat):Nat->List Bk->List Bk
 | _,[]=>[]
 | s,x::r=>pn b e s x++prt b e (s+x.1.length*x.2) r
theorem yie {b e s:Nat} {x:Bk} (hx:1<=x.1.length):fB (pn b e s x)=clip b e (rp x.1.cps.toList x.2) s:=by
 have ln:=zbf x
 unfold pn clip
 split
 ·rename_i q
  rw [yhh hx q (Nat.min_le_right _ _)]
  congr 1
  rw [<- ln,<- List.take_eq_take_min]
 ·rename_i q
  refine (List.eq_nil_of_length_eq_zero ?_).symm
  rw [List.length_drop,List.length_take,ln]
  lia
theorem ydU {b e:Nat}:∀ (bs:List Bk) (s:Nat),(∀ x∈bs,Ok x)->fB (prt b e s bs)=clip b e (fB bs) s
 | [],s,_=>by unfold prt fB clip;simp
 | x::r,s,h=>by
  rw [prt,ycS,fB,zdj,yie (h x (List.mem_cons_self ..)).a,zbf,ydU r _ fun y hy=>h y (List.mem_cons_of_mem _ hy)]
theorem zf7 {b e:Nat}:∀ (xs ys:List Bk) (s:Nat),prt b e s (xs++ys)=prt b e s xs++prt b e (s+(fB xs).length) ys
 | [],ys,s=>by unfold fB;rw [List.nil_append,List.length_nil,Nat.add_zero];rfl
 | x::xs,ys,s=>by rw [List.cons_append,prt,prt,zf7 xs ys,List.append_assoc,fB,List.length_append,zbf,Nat.add_assoc]
theorem yif {b e s:Nat} {x:Bk} (h:Ok x):∀ y∈pn b e s x,Ok y:=by
 intro y hy
 unfold pn at hy
 split at hy
 ·rename_i q
  exact yhi h.a h.b q y hy
 ·cases hy
theorem yhj (b e s:Nat) (x:Bk):(pn b e s x).length<=3:=by
 unfold pn
 split
 ·exact zju _ _ _
 ·simp
theorem ydV {b e:Nat}:∀ (bs:List Bk) (s:Nat),(∀ x∈bs,Ok x)->∀ y∈prt b e s bs,Ok y
 | [],_,_,y,hy=>by cases hy
 | x::r,s,h,y,hy=>by
  rw [prt] at hy
  rcases List.mem_append.mp hy with hy | hy
  ·exact yif (h x (List.mem_cons_self ..)) y hy
  ·exact ydV r _ (fun z hz=>h z (List.mem_cons_of_mem _ hz)) y hy
theorem zbg {b e:Nat}:∀ (bs:List Bk) (s:Nat),(prt b e s bs).length<=3*bs.length
 | [],_=>by simp [prt]
 | x::r,s=>by
  rw [prt,List.length_append,List.length_cons]
  have:=yhj b e s x
  have:=zbg (b:=b) (e:=e) r (s+x.1.length*x.2)
  lia
end Sk
namespace Sk
open PySem PySem.Spec L2 Sm
abbrev bv (x:Bk):AV:=.tup [.str x.1,.int x.2]
theorem zcQ {α:Type} {xs:List α} {j:Nat} {w:α} (e:xs[j]? = some w):xs.take (j+1)=xs.take j++[w]:=by
 rw [List.take_succ,e];rfl
theorem zeX {h:AH} {R:Nat} {o:AO} (e:h[R]? = some o):h.set R o=h:=by
 refine List.ext_getElem? fun i=>?_
 by_cases q:R=i
 ·subst q;rw [List.getElem?_set_self (yaM e),e]
 ·exact List.getElem?_set_ne q
theorem ap1 {h:AH} {R:Nat} {fs:List AV} (e:h[R]? = some (.lst fs)) (hf:fs.length<=2000) (v:AV):yaD (.ref R) [v] h = .ok .non (h.set R (.lst (fs++[v]))):=by
 have:fs.length<sizeLine:=Nat.lt_of_le_of_lt hf (by decide)
 simp only [yaD,e,this,if_true]
theorem yig (a b:Nat) (h:AH):yb6 [.int a,.int b] h = .ok (.int ((max a b:Nat):Int)) h:=by
 have:yb6 [.int a,.int b] h = .ok (.int (if (b:Int) > a then (b:Int) else a)) h:=rfl
 rw [this]
 by_cases q:a<b
 ·rw [if_pos (by lia)];congr 2;lia
 ·rw [if_neg (by lia)];congr 2;lia
theorem yfi (a b:Nat) (h:AH):ycq [.int a,.int b] h = .ok (.int ((min a b:Nat):Int)) h:=by
 have:ycq [.int a,.int b] h = .ok (.int (if (b:Int)<a then (b:Int) else a)) h:=rfl
 rw [this]
 by_cases q:b<a
 ·rw [if_pos (by lia)];congr 2;lia
 ·rw [if_neg (by lia)];congr 2;lia
theorem yd0 {a b c:Nat} (e:a=b+c) (h:AH):fSub (.int a) (.int b) h = .ok (.int c) h:=by
 have:(a:Int)-b=c:=by lia
 simp only [fSub,this]
theorem ydO {a b c:Nat} (e:a+b=c) (h:AH):fAdd (.int a) (.int b) h = .ok (.int c) h:=by
 have:(a:Int)+b=c:=by lia
 simp only [fAdd,this]
theorem yfj {a b c:Nat} (ha:a<=1000000) (e:a*b=c) (h:AH):fMul (.int a) (.int b) h = .ok (.int c) h:=by
 rw [yeD (Nat.lt_of_le_of_lt (m:=1000000) (by lia) (by decide)),<- e];rfl
theorem ye5 {a b c:Nat} (hb:b<=1000000) (e:a*b=c) (h:AH):fMul (.int a) (.int b) h = .ok (.int c) h:=by
 rw [ye2 (Nat.lt_of_le_of_lt (m:=1000000) (by lia) (by decide)),<- e];rfl
theorem yfk {a b c:Nat} (h0:1<=b) (hb:b<=1000000) (e:a / b=c) (h:AH):fDiv (.int a) (.int b) h = .ok (.int c) h:=by
 have q:0<(b:Int)/\(b:Int).natAbs<2 ^ 200:=⟨by lia,Nat.lt_of_le_of_lt (m:=1000000) (by lia) (by decide)⟩
 simp only [fDiv]
 rw [if_pos q,<- e];rfl
theorem yhk {x:Str} {b e:Nat} (be:b<=e) (ex:e<=x.length) (h:AH):ybg (.str x) (some (b:Int)) (some (e:Int)) h = .ok (.str (dpS (tkS x e) b)) h:=by
 have:cutS x (some (b:Int)) (some (e:Int))=dpS (tkS x e) b:=zae (by
  unfold cutS
  rw [HT.sIx_nat,HT.sIx_nat,ycQ,ycP]
  rw [zad] at ex
  rw [Nat.min_eq_left ex,Nat.min_eq_left (by lia)]
  show (x.cps.toList.drop b).take (e-b)=_
  rw [List.drop_take])
 simp only [ybg,this]
abbrev eT (v0:Option AV) (b e:Nat) (R s:Nat) (o5 o6 o7 o8 o9 o10 o11 o12:Option AV):En:=[v0,some (.int b),some (.int e),some (.ref R),some (.int s),o5,o6,o7,o8,o9,o10,o11,o12]
theorem zhq {hh:AH} {R b e s:Nat} {x:Bk} {fs:List AV} {v0:Option AV} (eR:hh[R]? = some (.lst fs)) (hf:fs.length<=1000) (k:Ok x) (o7 o8 o9 o10 o11 o12:Option AV) :
  ∃ c7 c8 c9 c10 c11 c12,ybe (eT v0 b e R s (some (.str x.1)) (some (.int x.2)) o7 o8 o9 o10 o11 o12) hh = .nx (eT v0 b e R (s+x.1.length*x.2) (some (.str x.1)) (some (.int x.2)) c7 c8 c9 c10 c11 c12) (hh.set R (.lst (fs++(pn b e s x).map bv))):=by
 obtain ⟨p,m⟩:=x
 obtain ⟨k1,k2,k3⟩:=k
 dsimp only at k1 k2 k3 ⊢
 obtain ⟨n,en⟩:∃ n,n=p.length:=⟨_,rfl⟩
 obtain ⟨Z,eZ⟩:∃ Z,Z=n*m:=⟨_,rfl⟩
 have ln:∀ h,fLen [.str p] h = .ok (.int n) h:=fun h=>by rw [en];rfl
 have ml:∀ h,fMul (.int n) (.int m) h = .ok (.int Z) h:=yfj (by lia) eZ.symm
 have mx:∀ h,yb6 [.int b,.int s] h = .ok (.int ((max b s:Nat):Int)) h:=yig b s
 have sb1:∀ h,fSub (.int ((max b s:Nat):Int)) (.int s) h = .ok (.int ((b-s:Nat):Int)) h:=yd0 (by lia)
 have ad1:∀ h,fAdd (.int s) (.int Z) h = .ok (.int ((s+Z:Nat):Int)) h:=ydO rfl
 have mn:∀ h,ycq [.int e,.int ((s+Z:Nat):Int)] h = .ok (.int ((min e (s+Z):Nat):Int)) h:=yfi _ _
 obtain ⟨H,eH⟩:∃ H:Int,H=((min e (s+Z):Nat):Int)-s:=⟨_,rfl⟩
 have sb2:∀ h,fSub (.int ((min e (s+Z):Nat):Int)) (.int s) h = .ok (.int H) h:=fun h=>by rw [eH];rfl
 have lt:∀ h,fLt (.int ((b-s:Nat):Int)) (.int H) h = .ok (.bl (decide (((b-s:Nat):Int)<H))) h:=fun h=>by simp
 rw [<- en]
 rw [<- eZ]
 have pe:pn b e s (p,m)=if b-s<min (e-s) Z then pt2 p (b-s) (min (e-s) Z) else []:=by rw [eZ,en];rfl
 rw [pe]
 by_cases q:b-s<min (e-s) Z
 ·rw [if_pos q]
  obtain ⟨lo,elo⟩:∃ lo,lo=b-s:=⟨_,rfl⟩
  obtain ⟨hi,ehi⟩:∃ hi,hi=min (e-s) Z:=⟨_,rfl⟩
  have Hh:H=(hi:Int):=by lia
  rw [<- elo,Hh] at lt
  rw [Hh] at sb2
  rw [<- elo] at sb1
  rw [<- elo,<- ehi] at q ⊢
  have lt1:∀ h,fLt (.int (lo:Int)) (.int (hi:Int)) h = .ok (.bl true) h:=fun h=>by rw [lt h,decide_eq_true (by lia)]
  obtain ⟨q1,q2,r,t,f⟩:=figs k1 q
  rw [ye4 f]
  obtain ⟨f1,f2,f3,f4,f5,f6,f7,f8⟩:=f
  rw [<- en] at f1 f2 f3 f4 f5 f7
  have dv1:∀ h,fDiv (.int lo) (.int n) h = .ok (.int q1) h:=yfk (by lia) (by lia) f1
  have sb3:∀ h,fSub (.int hi) (.int 1) h = .ok (.int ((hi-1:Nat):Int)) h:=fun h=>yd0 (b:=1) (by lia) h
  have dv2:∀ h,fDiv (.int ((hi-1:Nat):Int)) (.int n) h = .ok (.int q2) h:=yfk (by lia) (by lia) f2
  have ml2:∀ h,fMul (.int q1) (.int n) h = .ok (.int ((n*q1:Nat):Int)) h:=ye5 (by lia) (Nat.mul_comm _ _)
  have sb4:∀ h,fSub (.int lo) (.int ((n*q1:Nat):Int)) h = .ok (.int r) h:=yd0 f3
  by_cases z:q1=q2
  ·rw [if_pos z]
   have rt:r<=t:=by rw [z] at f3;lia
   have eq:∀ h,fEq (.int q1) (.int q2) h = .ok (.bl true) h:=fun h=>by simp [z]
   have sb5:∀ h,fSub (.int hi) (.int ((n*q1:Nat):Int)) h = .ok (.int t) h:=yd0 (by rw [z];exact f4)
   have ct:=yhk (x:=p) (b:=r) (e:=t) rt (by lia) hh
   have ap:=ap1 eR (by lia) (.tup [.str (dpS (tkS p t) r),.int 1])
   have isl:yaB (.ref R) hh=true:=by simp [eR]
   refine ⟨some (.int Z),some (.int lo),some (.int hi),some (.int q1),some (.int q2),some (.int ((n*q1:Nat):Int)),?_⟩
   show _=OutS.nx _ (hh.set R (.lst (fs++[.tup [.str (dpS (tkS p t) r),.int 1]])))
   clear f1 f2 f3 f4 f5 f6 f7 f8 pe eH Hh elo ehi eZ en lt
   simp only [eT]
   generalize ((n*q1:Nat):Int)=NQ at *
   generalize ((hi-1:Nat):Int)=HI1 at *
   generalize ((min e (s+Z):Nat):Int)=MN at *
   generalize ((max b s:Nat):Int)=MX at *
   generalize ((s+Z:Nat):Int)=SZ at *
   simp [ybe,eT,ln,ml,mx,sb1,ad1,mn,sb2,lt1,dv1,sb3,dv2,ml2,eq,sb4,sb5,ct,isl,ap,-fLen,-fMul,-yb6,-fSub,-fAdd,-ycq,-fLt,-fDiv,-fEq,-yaD,-yaB,-ybg]
  ·rw [if_neg z]
   have eq:∀ h,fEq (.int q1) (.int q2) h = .ok (.bl false) h:=fun h=>by simp;lia
   have ct1:∀ h,ybg (.str p) (some (r:Int)) none h = .ok (.str (dpS p r)) h:=yfM (by lia)
   have ap:=ap1 eR (by lia) (.tup [.str (dpS p r),.int 1])
   have isl:yaB (.ref R) hh=true:=by simp [eR]
   obtain ⟨h1,eh1⟩:∃ h1,h1=hh.set R (.lst (fs++[.tup [.str (dpS p r),.int 1]])):=⟨_,rfl⟩
   have eR1:h1[R]? = some (.lst (fs++[.tup [.str (dpS p r),.int 1]])):=by rw [eh1];exact List.getElem?_set_self (yaM eR)
   have isl1:yaB (.ref R) h1=true:=by simp [eR1]
   rw [<- eh1] at ap
   have ad2:∀ h,fAdd (.int q1) (.int 1) h = .ok (.int ((q1+1:Nat):Int)) h:=fun h=>ydO (b:=1) rfl h
   have gt:∀ h,fGt (.int q2) (.int ((q1+1:Nat):Int)) h = .ok (.bl (decide (q1+1<q2))) h:=fun h=>by simp;lia
   have ml3:∀ h,fMul (.int q2) (.int n) h = .ok (.int ((n*q2:Nat):Int)) h:=ye5 (by lia) (Nat.mul_comm _ _)
   have sb7:∀ h,fSub (.int hi) (.int ((n*q2:Nat):Int)) h = .ok (.int t) h:=yd0 f4
   have ct2:∀ h,ybg (.str p) none (some (t:Int)) h = .ok (.str (tkS p t)) h:=yfL
   by_cases y:q1+1<q2
   ·rw [if_pos y]
    have sb5:∀ h,fSub (.int q2) (.int q1) h = .ok (.int ((q2-q1:Nat):Int)) h:=yd0 (by lia)
    have sb6:∀ h,fSub (.int ((q2-q1:Nat):Int)) (.int 1) h = .ok (.int ((q2-q1-1:Nat):Int)) h:=fun h=>yd0 (b:=1) (by lia) h
    have ap2:=ap1 eR1 (by simp;lia) (.tup [.str p,.int ((q2-q1-1:Nat):Int)])
    obtain ⟨h2,eh2⟩:∃ h2,h2=h1.set R (.lst (fs++[.tup [.str (dpS p r),.int 1]]++[.tup [.str p,.int ((q2-q1-1:Nat):Int)]])):=⟨_,rfl⟩
    have eR2:h2[R]? = some (.lst (fs++[.tup [.str (dpS p r),.int 1]]++[.tup [.str p,.int ((q2-q1-1:Nat):Int)]])):=by rw [eh2];exact List.getElem?_set_self (yaM eR1)
    have isl2:yaB (.ref R) h2=true:=by simp [eR2]
    rw [<- eh2] at ap2
    have ap3:=ap1 eR2 (by simp;lia) (.tup [.str (tkS p t),.int 1])
    have fin:h2.set R (.lst (fs++[.tup [.str (dpS p r),.int 1]]++[.tup [.str p,.int ((q2-q1-1:Nat):Int)]]++[.tup [.str (tkS p t),.int 1]]))=hh.set R (.lst (fs++(((dpS p r,1)::([(p,q2-q1-1)]++[(tkS p t,1)])):List Bk).map bv)):=by
     rw [eh2,eh1,List.set_set,List.set_set,List.append_assoc,List.append_assoc]
     rfl
    rw [fin] at ap3
    refine ⟨some (.int Z),some (.int lo),some (.int hi),some (.int q1),some (.int q2),some (.int ((n*q1:Nat):Int)),?_⟩
    generalize hh.set R (.lst (fs++(((dpS p r,1)::([(p,q2-q1-1)]++[(tkS p t,1)])):List Bk).map bv))=HF at *
    rw [decide_eq_true y] at gt
    clear f1 f2 f3 f4 f5 f6 f7 f8 pe eH Hh elo ehi eZ en lt eR eR1 eR2 eh1 eh2 fin
    simp only [eT]
    generalize ((q2-q1-1:Nat):Int)=QD at *
    generalize ((q2-q1:Nat):Int)=QE at *
    generalize ((q1+1:Nat):Int)=QF at *
    generalize ((n*q1:Nat):Int)=NQ at *
    generalize ((n*q2:Nat):Int)=NR at *
    generalize ((hi-1:Nat):Int)=HI1 at *
    generalize ((min e (s+Z):Nat):Int)=MN at *
    generalize ((max b s:Nat):Int)=MX at *
    generalize ((s+Z:Nat):Int)=SZ at *
    simp [ybe,eT,ln,ml,mx,sb1,ad1,mn,sb2,lt1,dv1,sb3,dv2,ml2,eq,sb4,ct1,isl,ap,ad2,gt,sb5,sb6,isl1,ap2,ml3,sb7,ct2,isl2,ap3,-fLen,-fMul,-yb6,-fSub,-fAdd,-ycq,-fLt,-fGt,-fDiv,-fEq,-yaD,-yaB,-ybg]
   ·rw [if_neg y]
    have ap3:=ap1 eR1 (by simp;lia) (.tup [.str (tkS p t),.int 1])
    have fin:h1.set R (.lst (fs++[.tup [.str (dpS p r),.int 1]]++[.tup [.str (tkS p t),.int 1]]))=hh.set R (.lst (fs++(((dpS p r,1)::([]++[(tkS p t,1)])):List Bk).map bv)):=by
     rw [eh1,List.set_set,List.append_assoc]
     rfl
    rw [fin] at ap3
    refine ⟨some (.int Z),some (.int lo),some (.int hi),some (.int q1),some (.int q2),some (.int ((n*q1:Nat):Int)),?_⟩
    generalize hh.set R (.lst (fs++(((dpS p r,1)::([]++[(tkS p t,1)])):List Bk).map bv))=HF at *
    rw [decide_eq_false y] at gt
    clear f1 f2 f3 f4 f5 f6 f7 f8 pe eH Hh elo ehi eZ en lt eR eR1 eh1 fin
    simp only [eT]
    generalize ((q1+1:Nat):Int)=QF at *
    generalize ((n*q1:Nat):Int)=NQ at *
    generalize ((n*q2:Nat):Int)=NR at *
    generalize ((hi-1:Nat):Int)=HI1 at *
    generalize ((min e (s+Z):Nat):Int)=MN at *
    generalize ((max b s:Nat):Int)=MX at *
    generalize ((s+Z:Nat):Int)=SZ at *
    simp [ybe,eT,ln,ml,mx,sb1,ad1,mn,sb2,lt1,dv1,sb3,dv2,ml2,eq,sb4,ct1,isl,ap,ad2,gt,isl1,ml3,sb7,ct2,ap3,-fLen,-fMul,-yb6,-fSub,-fAdd,-ycq,-fLt,-fGt,-fDiv,-fEq,-yaD,-yaB,-ybg]
 ·rw [if_neg q]
  have lt1:∀ h,fLt (.int ((b-s:Nat):Int)) (.int H) h = .ok (.bl false) h:=fun h=>by rw [lt h,decide_eq_false (by lia)]
  refine ⟨some (.int Z),some (.int ((b-s:Nat):Int)),some (.int H),o10,o11,o12,?_⟩
  rw [List.map_nil,List.append_nil,zeX eR]
  clear pe eH eZ en lt eR
  simp only [eT]
  generalize ((b-s:Nat):Int)=LO at *
  generalize ((min e (s+Z):Nat):Int)=MN at *
  generalize ((max b s:Nat):Int)=MX at *
  generalize ((s+Z:Nat):Int)=SZ at *
  simp [ybe,eT,ln,ml,mx,sb1,ad1,mn,sb2,lt1,-fLen,-fMul,-yb6,-fSub,-fAdd,-ycq,-fLt]
end Sk
namespace Sk
open PySem PySem.Spec L2 Sm
inductive Src (h:AH) (bs:List Bk):AV->Option Nat->Prop
 | ref {B:Nat} (e:h[B]? = some (.lst (bs.map bv))):Src h bs (.ref B) (some B)
 | fl:Src h bs (.fl (bs.map bv)) none
theorem Src.live {h:AH} {bs:List Bk} {v:AV} {w:Option Nat} (s:Src h bs v w):ybQ w (bs.map bv) h=true:=by
 cases s with
 | ref e=>simp [e]
 | fl=>rfl
theorem Src.app {h:AH} {bs:List Bk} {v:AV} {w:Option Nat} (s:Src h bs v w) (r:AH):Src (h++r) bs v w:=by
 cases s with
 | ref e=>exact .ref (by rw [List.getElem?_append_left (yaM e)];exact e)
 | fl=>exact .fl
theorem Src.it {h:AH} {bs:List Bk} {v:AV} {w:Option Nat} (s:Src h bs v w) {en:En} {i:Nat} (e:en[i]? = some (some v)):ybz (sVar i) en h = .ok (bs.map bv,w) h:=by
 cases s with
 | ref q=>simp [e,q]
 | fl =>
  generalize bs.map bv=Z at *
  simp [e]
theorem zbH {h:AH} {b e:Nat} {bs:List Bk} {v:AV} {w:Option Nat} (sr:Src h bs v w) (ok:∀ x∈bs,Ok x) (hl:bs.length<=100):ya5 [v,.int b,.int e] h = .ok (.ref h.length) (h++[.lst ((prt b e 0 bs).map bv)]):=by
 obtain ⟨e',h',r1,r2⟩:=yc9 (w:=w) (all:=bs.map bv) (t:=.tup [5,6]) (b:=ybe) (xs:=bs.map bv) (en:=eT (some v) b e h.length 0 none none none none none none none none) (h:=h++[.lst []])
  (fun j en hh=>(∃ o:AO,hh=h++[o])/\(j<=bs.length->∃ o5 o6 o7 o8 o9 o10 o11 o12,en=eT (some v) b e h.length (fB (bs.take j)).length o5 o6 o7 o8 o9 o10 o11 o12/\hh=h++[.lst ((prt b e 0 (bs.take j)).map bv)]))
  ⟨⟨_,rfl⟩,fun _=>⟨_,_,_,_,_,_,_,_,rfl,rfl⟩⟩ (fun _ _ _ p=>by obtain ⟨o,rfl⟩:=p.1;exact (sr.app [o]).live) (by
   rintro j u en hh hu ⟨p1,p2⟩
   rw [List.getElem?_map] at hu
   obtain ⟨x,ex,rfl⟩:=Option.map_eq_some_iff.mp hu
   have hj:=(List.getElem?_eq_some_iff.mp ex).1
   obtain ⟨o5,o6,o7,o8,o9,o10,o11,o12,rfl,rfl⟩:=p2 (by lia)
   have eR:(h++[AO.lst ((prt b e 0 (bs.take j)).map bv)])[h.length]? = some (.lst ((prt b e 0 (bs.take j)).map bv)):=by simp
   have pl:=zbg (b:=b) (e:=e) (bs.take j) 0
   rw [List.length_take] at pl
   obtain ⟨c7,c8,c9,c10,c11,c12,ev⟩:=zhq (v0:=some v) (b:=b) (e:=e) (s:=(fB (bs.take j)).length) (x:=x) eR (by rw [List.length_map];lia) (ok x (List.mem_of_getElem? ex)) o7 o8 o9 o10 o11 o12
   show thn (ybe (eT (some v) b e h.length (fB (bs.take j)).length (some (.str x.1)) (some (.int x.2)) o7 o8 o9 o10 o11 o12) _) _
   rw [ev]
   have e1:(fB (bs.take (j+1))).length=(fB (bs.take j)).length+x.1.length*x.2:=by
    rw [zcQ ex,ycS,ydT,List.length_append,zbf]
   have e2:prt b e 0 (bs.take (j+1))=prt b e 0 (bs.take j)++pn b e (fB (bs.take j)).length x:=by
    rw [zcQ ex,zf7,Nat.zero_add,prt,prt,List.append_nil]
   refine ⟨?_,fun _=>⟨some (.str x.1),some (.int x.2),c7,c8,c9,c10,c11,c12,by rw [e1],?_⟩⟩
   ·exact ⟨.lst ((prt b e 0 (bs.take j)).map bv++(pn b e (fB (bs.take j)).length x).map bv),by simp⟩
   ·rw [e2,List.map_append];simp)
 rw [List.length_map] at r2
 obtain ⟨o5,o6,o7,o8,o9,o10,o11,o12,rfl,rfl⟩:=r2.2 (Nat.le_refl _)
 rw [List.take_length] at r1
 have it:ybz (sVar 0) (eT (some v) b e h.length 0 none none none none none none none none) (h++[.lst []]) = .ok (bs.map bv,w) (h++[.lst []]):=(sr.app _).it rfl
 have f1:=(ycw (t:=.tup [5,6]) (b:=ybe) it).trans r1
 unfold ya5
 generalize sFor (ybz (sVar 0)) (.tup [5,6]) ybe=F1 at *
 generalize h++[.lst ((prt b e 0 bs).map bv)]=H2 at *
 simp only [eT] at f1
 have f1':F1 [some v,some (.int b),some (.int e),some (.ref h.length),some (.int 0),none,none,none,none,none,none,none,none] (h++[.lst []]) = .nx [some v,some (.int b),some (.int e),some (.ref h.length),some (.int (fB bs).length),o5,o6,o7,o8,o9,o10,o11,o12] H2:=f1
 simp [f1']
theorem zeY:∀ bs:List Bk,yd4 (bs.map fun x:Bk=>AV.str (repS x.1 x.2))=some (bs.map fun x:Bk=>repS x.1 x.2)
 | []=>rfl
 | x::r=>by simp [zeY r]
theorem zdm:∀ bs:List Bk,((bs.map fun x:Bk=>repS x.1 x.2).map fun z:Str=>z.cps.toList).flatten=fB bs
 | []=>rfl
 | x::r=>by rw [List.map_cons,List.map_cons,List.flatten_cons,zdm r,fB];rfl
theorem zfg {h:AH} {b e:Nat} {bs:List Bk} {v:AV} {u:Option Nat} (sr:Src h bs v u) (ok:∀ x∈bs,Ok x) (hl:bs.length<=100) (w:e-b<=10000) :
  ∃ (z:Str) (o:AO),yc8 [v,.int b,.int e] h = .ok (.str z) (h++[o])/\z.cps.toList=clip b e (fB bs) 0:=by
 have fp:=zbH (b:=b) (e:=e) sr ok hl
 have ok' := ydV (b:=b) (e:=e) bs 0 ok
 have pf:=ydU (b:=b) (e:=e) bs 0 ok
 have pl:=zbg (b:=b) (e:=e) bs 0
 have cl:=zdk b e 0 (fB bs)
 generalize prt b e 0 bs=qs at *
 obtain ⟨H,eH⟩:∃ H,H=h++[AO.lst (qs.map bv)]:=⟨_,rfl⟩
 have eR:H[h.length]? = some (.lst (qs.map bv)):=by rw [eH];simp
 rw [<- eH] at fp
 have lv:ybQ (some h.length) (qs.map bv) H=true:=by simp [eR]
 have cp:=zbb (js:=[]) (en:=[some v,some (.int b),some (.int e)]) (w:=some h.length) (all:=qs.map bv) (c:=un2 sYes) (p:=fun _=>true) (e:=un2 (sOp2 ydX (sVar 0) (sVar 1))) (g:=bv) (f:=fun x:Bk=>AV.str (repS x.1 x.2)) (h:=H) lv qs [] (fun _ _=>rfl) (by
  intro x hx _
  have a:=ye3 hx
  have k:=ok' x hx
  have ka:=k.a
  have kc:=k.c
  have m1:x.2<=x.1.length*x.2:=by
   have:=Nat.mul_le_mul_right x.2 ka
   lia
  have lf:(fB qs).length<=e-b:=by rw [pf];exact cl
  have c1:(x.2:Int).natAbs<2 ^ 40:=by
   rw [Int.natAbs_natCast]
   exact Nat.lt_of_le_of_lt (m:=10000) (by lia) (by decide)
  have c2:x.1.length*(x.2:Int).toNat<=1000000:=by rw [Int.toNat_natCast];lia
  show ydX (.str x.1) (.int x.2) H=_
  simp only [ydX]
  rw [if_pos ⟨c1,c2⟩,Int.toNat_natCast]) (Nat.le_trans (m:=300) (by simp;lia) (by decide))
 rw [List.nil_append,List.filter_eq_self.mpr (fun _ _=>rfl)] at cp
 have lf:(((qs.map fun x:Bk=>repS x.1 x.2).map fun z:Str=>z.cps.toList).flatten).length<=1000000:=by
  rw [zdm,pf];lia
 have jn:ydz (.str "") [.fl (qs.map fun x:Bk=>AV.str (repS x.1 x.2))] H = .ok (.str ⟨(fB qs).toArray⟩) H:=by
  have e:(Str.ofString "")=Str.empty:=by decide +kernel
  unfold ydz
  simp only [e,if_true,yby,zeY]
  rw [if_pos lf,zdm]
 refine ⟨⟨(fB qs).toArray⟩,.lst (qs.map bv),?_,pf⟩
 rw [<- eH]
 have it:ybz (yaf ya5 (yab (sVar 0) (yab (sVar 1) (yab (sVar 2) sNil)))) [some v,some (.int b),some (.int e)] h = .ok (qs.map bv,some h.length) H:=by
  simp [fp,eR]
 have sc:ydj [] (ybz (yaf ya5 (yab (sVar 0) (yab (sVar 1) (yab (sVar 2) sNil))))) sYes (sOp2 ydX (sVar 0) (sVar 1)) [some v,some (.int b),some (.int e)] h = .ok (.fl (qs.map fun x:Bk=>AV.str (repS x.1 x.2))) H:=by
  simp only [ydj,ybn,it,cp]
 unfold yc8
 generalize ydj [] (ybz (yaf ya5 (yab (sVar 0) (yab (sVar 1) (yab (sVar 2) sNil))))) sYes (sOp2 ydX (sVar 0) (sVar 1))=SC at *
 simp [sc,jn,-ydz]
theorem sumB:∀ bs:List Bk,(bs.map fun x:Bk=>((x.1.length*x.2:Nat):Int)).sum=((fB bs).length:Int)
 | []=>rfl
 | x::r=>by rw [List.map_cons,List.sum_cons,sumB r,fB,List.length_append,zbf];lia
theorem zaW {h:AH} {bs:List Bk} {v:AV} {w:Option Nat} (sr:Src h bs v w) (ok:∀ x∈bs,Ok x) (hl:bs.length<=100):ybR [v] h = .ok (.int (fB bs).length) h:=by
 have c1:=zbb (js:=[]) (en:=[some v]) (w:=w) (all:=bs.map bv) (c:=un2 sYes) (e:=un2 (sOp2 fMul (yaf fLen (yab (sVar 0) sNil)) (sVar 1))) (g:=bv) (f:=fun x:Bk=>AV.int ((x.1.length*x.2:Nat):Int)) (p:=fun _=>true) (h:=h) sr.live bs [] (fun _ _=>rfl) (by
  intro x hx _
  have b:=(ok x hx).b
  exact yfj (a:=x.1.length) (b:=x.2) (by lia) rfl h) (by exact Nat.le_trans (m:=100) (by simpa using hl) (by decide))
 rw [List.filter_eq_self.mpr (fun _ _=>rfl),List.nil_append] at c1
 have it:ybz (sVar 0) [some v] h = .ok (bs.map bv,w) h:=sr.it rfl
 have e:(bs.map fun x:Bk=>AV.int ((x.1.length*x.2:Nat):Int))=(bs.map fun x:Bk=>((x.1.length*x.2:Nat):Int)).map AV.int:=by rw [List.map_map];rfl
 rw [e] at c1
 have cp:ydj [] (ybz (sVar 0)) sYes (sOp2 fMul (yaf fLen (yab (sVar 0) sNil)) (sVar 1)) [some v] h = .ok (.fl ((bs.map fun x:Bk=>((x.1.length*x.2:Nat):Int)).map AV.int)) h:=by
  simp only [ydj,ybn,it,c1]
 have sm:fSum [.fl ((bs.map fun x:Bk=>((x.1.length*x.2:Nat):Int)).map AV.int)] h = .ok (.int (fB bs).length) h:=by
  simp only [fSum,zdB,sumB]
 unfold ybR
 generalize ydj [] (ybz (sVar 0)) sYes (sOp2 fMul (yaf fLen (yab (sVar 0) sNil)) (sVar 1))=CP at *
 generalize (bs.map fun x:Bk=>((x.1.length*x.2:Nat):Int)).map AV.int=Z at *
 simp [cp,sm,-fSum]
end Sk
namespace Sk
open PySem PySem.Spec L2 Sm
structure Fr (L:Nat) (h h':AH):Prop where
 fr:∀ i,i<h.length->i≠L->h'[i]? = h[i]?
 hl:h.length<=h'.length
 ro:∃ N:Int,h'[L]? = some (.lst [.int N])
theorem Fr.trans {L:Nat} {h h' h'':AH} (a:Fr L h h') (b:Fr L h' h''):Fr L h h'' :=
 ⟨fun i hi n=>(b.fr i (Nat.lt_of_lt_of_le hi a.hl) n).trans (a.fr i hi n),Nat.le_trans a.hl b.hl,b.ro⟩
theorem Fr.app {L:Nat} {h h':AH} (a:Fr L h h') (r:AH):Fr L h (h' ++ r):=by
 obtain ⟨N,e⟩:=a.ro
 exact ⟨fun i hi n=>by rw [List.getElem?_append_left (Nat.lt_of_lt_of_le hi a.hl)];exact a.fr i hi n,by rw [List.length_append];have:=a.hl;lia,N,by rw [List.getElem?_append_left (yaM e)];exact e⟩
theorem Fr.set {L:Nat} {h h':AH} (a:Fr L h h') (N':Int):Fr L h (h'.set L (.lst [.int N'])):=by
 obtain ⟨N,e⟩:=a.ro
 exact ⟨fun i hi n=>by rw [List.getElem?_set_ne (Ne.symm n)];exact a.fr i hi n,by rw [List.length_set];exact a.hl,N',List.getElem?_set_self (yaM e)⟩
theorem Fr.new {L R:Nat} {h h':AH} (a:Fr L h h') (hR:h.length<=R) (hL:L<h.length) (o:AO):Fr L h (h'.set R o):=by
 obtain ⟨N,e⟩:=a.ro
 exact ⟨fun i hi n=>by rw [List.getElem?_set_ne (by lia)];exact a.fr i hi n,by rw [List.length_set];exact a.hl,N,by rw [List.getElem?_set_ne (by lia)];exact e⟩
theorem Fr.take {L:Nat} {h h':AH} (a:Fr L h h') (m:Nat) (hm:0<m) (hm2:m<=10 ^ 50):∃ (v:Nat) (N:Int),v<m/\yay [.ref L,.int m] h' = .ok (.int v) (h'.set L (.lst [.int N]))/\Fr L h (h'.set L (.lst [.int N])):=by
 obtain ⟨N,e⟩:=a.ro
 obtain ⟨v,N',hv,t⟩:=zbe m e hm hm2
 exact ⟨v,N',hv,t,a.set N'⟩
abbrev nvz (l:List Nat):List AV:=l.map fun k:Nat=>AV.int k
theorem zdZ {h:AH} {E:Nat} {xs:List AV} {v:AV} (e:h[E]? = some (.lst (xs++[v]))):fIx (.ref E) (.int (-1)) h = .ok v h:=by
 simp only [fIx,e,zhG]
theorem Src.fr {L:Nat} {h h':AH} {bs:List Bk} {v:AV} {w:Option Nat} (s:Src h bs v w) (n:v ≠ .ref L) (f:Fr L h h'):Src h' bs v w:=by
 cases s with
 | ref e=>exact .ref ((f.fr _ (yaM e) (fun z=>n (by rw [z]))).trans e)
 | fl=>exact .fl
theorem zgz {h:AH} {L:Nat} {bs:List Bk} {v:AV} {w:Option Nat} (sr:Src h bs v w) (ok:∀ x∈bs,Ok x) (hl:bs.length<=100) :
  ∃ (es:List Nat) (c3 c4:Option AV),es.length<=bs.length/\sFor (ybz (sVar 0)) (.tup [3,4]) ybs [some v,some (.ref L),some (.ref h.length),none,none,none,none,none] (h++[.lst [.int 0]]) = .nx [some v,some (.ref L),some (.ref h.length),c3,c4,none,none,none] (h++[.lst (nvz es++[.int (fB bs).length])]):=by
 obtain ⟨e',h',r1,r2⟩:=yc9 (w:=w) (all:=bs.map bv) (t:=.tup [3,4]) (b:=ybs) (xs:=bs.map bv) (en:=[some v,some (.ref L),some (.ref h.length),none,none,none,none,none]) (h:=h++[.lst [.int 0]])
  (fun j en hh=>(∃ o:AO,hh=h++[o])/\(j<=bs.length->∃ (es:List Nat) (c3 c4:Option AV),es.length<=j/\en=[some v,some (.ref L),some (.ref h.length),c3,c4,none,none,none]/\hh=h++[.lst (nvz es++[.int (fB (bs.take j)).length])]))
  ⟨⟨_,rfl⟩,fun _=>⟨[],none,none,Nat.le_refl _,rfl,rfl⟩⟩ (fun _ _ _ p=>by obtain ⟨o,rfl⟩:=p.1;exact (sr.app [o]).live) (by
   rintro j u en hh hu ⟨p1,p2⟩
   rw [List.getElem?_map] at hu
   obtain ⟨x,ex,rfl⟩:=Option.map_eq_some_iff.mp hu
   have hj:=(List.getElem?_eq_some_iff.mp ex).1
   obtain ⟨es,c3,c4,le,rfl,rfl⟩:=p2 (by lia)
   obtain ⟨S,eS⟩:∃ S,S=(fB (bs.take j)).length:=⟨_,rfl⟩
   rw [<- eS]
   have eE:(h++[AO.lst (nvz es++[.int S])])[h.length]? = some (.lst (nvz es++[.int S])):=by simp
   have e1:(fB (bs.take (j+1))).length=S+x.1.length*x.2:=by
    rw [zcQ ex,ycS,ydT,List.length_append,zbf,eS]
   have b:=(ok x (List.mem_of_getElem? ex)).b
   have hset:(h++[AO.lst (nvz es++[.int S])]).set h.length (.lst (nvz es++[.int S]++[.int ((S+x.1.length*x.2:Nat):Int)]))=h++[.lst (nvz (es++[S])++[.int ((S+x.1.length*x.2:Nat):Int)])]:=by simp [nvz]
   obtain ⟨hc,ec⟩:∃ hc,hc=h++[AO.lst (nvz es++[.int S])]:=⟨_,rfl⟩
   rw [<- ec] at eE hset ⊢
   have ml:=yfj (a:=x.1.length) (b:=x.2) (by lia) rfl hc
   have ad:=ydO (a:=S) (b:=x.1.length*x.2) rfl hc
   have la:=zdZ eE
   have ap:=ap1 eE (by simp;lia) (.int ((S+x.1.length*x.2:Nat):Int))
   rw [hset] at ap
   have isl:yaB (.ref h.length) hc=true:=by simp [eE]
   have ln:fLen [.str x.1] hc = .ok (.int x.1.length) hc:=rfl
   show thn (ybs [some v,some (.ref L),some (.ref h.length),some (.str x.1),some (.int x.2),none,none,none] hc) _
   have ev:ybs [some v,some (.ref L),some (.ref h.length),some (.str x.1),some (.int x.2),none,none,none] hc = .nx [some v,some (.ref L),some (.ref h.length),some (.str x.1),some (.int x.2),none,none,none] (h++[.lst (nvz (es++[S])++[.int ((S+x.1.length*x.2:Nat):Int)])]):=by
    generalize h++[.lst (nvz (es++[S])++[.int ((S+x.1.length*x.2:Nat):Int)])]=HF at *
    clear hset eE ec e1
    generalize ((S+x.1.length*x.2:Nat):Int)=SX at *
    generalize ((x.1.length*x.2:Nat):Int)=XM at *
    generalize (x.1.length:Int)=XL at *
    simp [ybs,isl,la,ln,ml,ad,ap,-yaB,-fIx,-fLen,-fMul,-fAdd,-yaD]
   rw [ev]
   exact ⟨⟨_,rfl⟩,fun _=>⟨es++[S],_,_,by simp;lia,rfl,by rw [e1]⟩⟩)
 rw [List.length_map] at r2
 obtain ⟨es,c3,c4,le,rfl,rfl⟩:=r2.2 (Nat.le_refl _)
 rw [List.take_length] at r1
 have it:ybz (sVar 0) [some v,some (.ref L),some (.ref h.length),none,none,none,none,none] (h++[.lst [.int 0]]) = .ok (bs.map bv,w) (h++[.lst [.int 0]]):=(sr.app _).it rfl
 exact ⟨es,c3,c4,le,(ycw it).trans r1⟩
end Sk
namespace Sk
open PySem PySem.Spec L2 Sm
abbrev ePl (v:AV) (L E:Nat) (c3 c4:Option AV) (P:Nat) (o6 o7:Option AV):En:=[some v,some (.ref L),some (.ref E),c3,c4,some (.ref P),o6,o7]
structure Pq (L:Nat) (h:AH) (ES:List AV) (hh:AH) (qs:List Int):Prop where
 f:Fr L h hh
 e:hh[h.length]? = some (.lst ES)
 p:hh[h.length+1]? = some (.lst (qs.map AV.int))
theorem zif {L:Nat} {v:AV} {h hh:AH} {ES:List AV} {qs:List Int} {k:Nat} {c3 c4 o7:Option AV} (q:Pq L h ES hh qs) (hL:L<h.length) (lq:qs.length<=1000) :
  ∃ (h':AH) (ws:List Int),ws.length=5/\(k:Int)∈ws/\ybt (ePl v L h.length c3 c4 (h.length+1) (some (.int k)) o7) hh = .nx (ePl v L h.length c3 c4 (h.length+1) (some (.int k)) o7) h'/\Pq L h ES h' (qs++ws):=by
 obtain ⟨v1,N1,hv1,t1,f1⟩:=q.f.take 40 (by decide) (by decide)
 obtain ⟨h1,eh1⟩:∃ h1,h1=hh.set L (.lst [.int N1]):=⟨_,rfl⟩
 rw [<- eh1] at t1 f1
 have t1':yay [.ref L,.int 40] hh = .ok (.int v1) h1:=t1
 obtain ⟨v2,N2,hv2,t2,f2⟩:=f1.take 40 (by decide) (by decide)
 obtain ⟨h2,eh2⟩:∃ h2,h2=h1.set L (.lst [.int N2]):=⟨_,rfl⟩
 rw [<- eh2] at t2 f2
 have t2':yay [.ref L,.int 40] h1 = .ok (.int v2) h2:=t2
 have E2:h2[h.length]? = some (.lst ES):=by rw [eh2,List.getElem?_set_ne (by lia),eh1,List.getElem?_set_ne (by lia)];exact q.e
 have P2:h2[h.length+1]? = some (.lst (qs.map AV.int)):=by rw [eh2,List.getElem?_set_ne (by lia),eh1,List.getElem?_set_ne (by lia)];exact q.p
 obtain ⟨ws,ews⟩:∃ ws:List Int,ws=[(k:Int),(k:Int)-1,(k:Int)+1,(k:Int)-v1,(k:Int)+v2]:=⟨_,rfl⟩
 obtain ⟨h3,eh3⟩:∃ h3,h3=h2++[AO.lst (ws.map AV.int)]:=⟨_,rfl⟩
 have P3:h3[h.length+1]? = some (.lst (qs.map AV.int)):=by rw [eh3,List.getElem?_append_left (yaM P2)];exact P2
 have W3:h3[h2.length]? = some (.lst (ws.map AV.int)):=by rw [eh3];simp
 have E3:h3[h.length]? = some (.lst ES):=by rw [eh3,List.getElem?_append_left (yaM E2)];exact E2
 have lw:ws.length=5:=by rw [ews];rfl
 have xt:yel (.ref (h.length+1)) [.ref h2.length] h3 = .ok .non (h3.set (h.length+1) (.lst ((qs++ws).map AV.int))):=by
  have:(qs.map AV.int).length+(ws.map AV.int).length<=sizeLine:=Nat.le_trans (m:=2000) (by simp;lia) (by decide)
  simp only [yel,P3,W3,this,if_true,List.map_append]
 have isl:yaB (.ref (h.length+1)) hh=true:=by simp [q.p]
 refine ⟨h3.set (h.length+1) (.lst ((qs++ws).map AV.int)),ws,lw,by rw [ews];simp,?_,⟨(eh3▸f2.app _).new (by lia) hL _,by rw [List.getElem?_set_ne (by lia)];exact E3,List.getElem?_set_self (yaM P3)⟩⟩
 generalize h3.set (h.length+1) (.lst ((qs++ws).map AV.int))=HF at *
 have s1:∀ hx,fSub (.int k) (.int 1) hx = .ok (.int ((k:Int)-1)) hx:=fun hx=>rfl
 have s2:∀ hx,fAdd (.int k) (.int 1) hx = .ok (.int ((k:Int)+1)) hx:=fun hx=>rfl
 have s3:∀ hx,fSub (.int k) (.int v1) hx = .ok (.int ((k:Int)-v1)) hx:=fun hx=>rfl
 have s4:∀ hx,fAdd (.int k) (.int v2) hx = .ok (.int ((k:Int)+v2)) hx:=fun hx=>rfl
 have hw:ws.map AV.int=[.int k,.int ((k:Int)-1),.int ((k:Int)+1),.int ((k:Int)-v1),.int ((k:Int)+v2)]:=by rw [ews];rfl
 rw [hw] at eh3
 clear q f1 f2 E2 P2 P3 W3 E3 t1 t2 eh1 eh2 hw ews
 simp only [ePl]
 generalize (k:Int)-1=K1 at *
 generalize (k:Int)+1=K2 at *
 generalize (k:Int)-v1=K3 at *
 generalize (k:Int)+v2=K4 at *
 simp [ybt,isl,s1,s2,t1',s3,t2',s4,<- eh3,xt,-yaB,-fSub,-fAdd,-yel]
theorem zig {L T:Nat} {v:AV} {h hh:AH} {es:List AV} {qs:List Int} {c3 c4 o6 o7:Option AV} (q:Pq L h (es++[.int T]) hh qs) (hL:L<h.length) (lq:qs.length<=1000) (hT:T<=1000000000000000000) :
  ∃ (h':AH) (w:Int),ybu (ePl v L h.length c3 c4 (h.length+1) o6 o7) hh = .nx (ePl v L h.length c3 c4 (h.length+1) o6 o7) h'/\Pq L h (es++[.int T]) h' (qs++[w]):=by
 obtain ⟨v1,N1,hv1,t1,f1⟩:=q.f.take (T+1) (by lia) (Nat.le_trans (m:=1000000000000000001) (by lia) (by decide))
 obtain ⟨h1,eh1⟩:∃ h1,h1=hh.set L (.lst [.int N1]):=⟨_,rfl⟩
 rw [<- eh1] at t1 f1
 have E1:h1[h.length]? = some (.lst (es++[.int T])):=by rw [eh1,List.getElem?_set_ne (by lia)];exact q.e
 have P1:h1[h.length+1]? = some (.lst (qs.map AV.int)):=by rw [eh1,List.getElem?_set_ne (by lia)];exact q.p
 have la:=zdZ q.e
 have ad:=ydO (a:=T) (b:=1) rfl hh
 have ad':fAdd (.int T) (.int 1) hh = .ok (.int ((T+1:Nat):Int)) hh:=ad
 have ap:=ap1 P1 (by simp;lia) (.int v1)
 have isl:yaB (.ref (h.length+1)) hh=true:=by simp [q.p]
 refine ⟨h1.set (h.length+1) (.lst ((qs++[(v1:Int)]).map AV.int)),v1,?_,⟨f1.new (by lia) hL _,by rw [List.getElem?_set_ne (by lia)];exact E1,List.getElem?_set_self (yaM P1)⟩⟩
 rw [List.map_append]
 have ap':yaD (.ref (h.length+1)) [.int v1] h1 = .ok .non (h1.set (h.length+1) (.lst (qs.map AV.int++[(v1:Int)].map AV.int))):=ap
 generalize h1.set (h.length+1) (.lst (qs.map AV.int++[(v1:Int)].map AV.int))=HF at *
 clear q f1 E1 P1 eh1 ap ad
 simp only [ePl]
 generalize ((T+1:Nat):Int)=T1 at *
 simp [ybu,isl,la,ad',t1,ap',-yaB,-fIx,-fAdd,-yaD]
theorem zeq {h:AH} {L:Nat} {bs:List Bk} {v:AV} {w:Option Nat} (sr:Src h bs v w) (eL:∃ N:Int,h[L]? = some (.lst [.int N])) (ok:∀ x∈bs,Ok x) (hl:bs.length<=100) (hT:(fB bs).length<=1000000000000000000) :
  ∃ (h':AH) (qs:List Int),ybZ [v,.ref L] h = .ok (.fl (qs.map AV.int)) h'/\Fr L h h'/\(∀ q∈qs,0<=q/\q<=(fB bs).length)/\qs.length<=1000/\1<=qs.length:=by
 obtain ⟨N0,eN⟩:=eL
 have hL:=yaM eN
 obtain ⟨es,c3,c4,le,l1⟩:=zgz (L:=L) sr ok hl
 obtain ⟨T,eT_⟩:∃ T,T=(fB bs).length:=⟨_,rfl⟩
 rw [<- eT_] at l1 hT ⊢
 obtain ⟨H1,eH1⟩:∃ H1,H1=h++[AO.lst (nvz es++[.int T])]:=⟨_,rfl⟩
 have n1:H1.length=h.length+1:=by rw [eH1];simp
 have F0:Fr L h h:=⟨fun _ _ _=>rfl,Nat.le_refl _,N0,eN⟩
 have Q0:Pq L h (nvz es++[.int T]) (H1++[.lst []]) []:=by
  refine ⟨by rw [eH1,List.append_assoc];exact F0.app _,by rw [List.getElem?_append_left (by lia),eH1];simp,by rw [<- n1];simp⟩
 obtain ⟨ks,eks⟩:∃ ks:List Nat,ks=es++[T]:=⟨_,rfl⟩
 have ek:nvz es++[.int T]=nvz ks:=by rw [eks];simp [nvz]
 have lk:ks.length<=101:=by rw [eks];simp;lia
 obtain ⟨e',H2,r1,r2⟩:=yc9 (w:=some h.length) (all:=nvz ks) (t:=.nm 6) (b:=ybt) (xs:=nvz ks) (en:=ePl v L h.length c3 c4 (h.length+1) none none) (h:=H1++[.lst []])
  (fun j en hh=>hh[h.length]? = some (.lst (nvz ks))/\(j<=ks.length->∃ (qs:List Int) (o6:Option AV),qs.length<=5*j/\(∀ i x,i<j->ks[i]? = some x->((x:Nat):Int)∈qs)/\en=ePl v L h.length c3 c4 (h.length+1) o6 none/\Pq L h (nvz es++[.int T]) hh qs))
  ⟨ek▸Q0.e,fun _=>⟨[],none,Nat.le_refl _,fun i x z=>absurd z (Nat.not_lt_zero _),rfl,Q0⟩⟩ (fun _ _ _ p=>by simp [p.1]) (by
   rintro j u en hh hu ⟨p1,p2⟩
   rw [List.getElem?_map] at hu
   obtain ⟨x,ex,rfl⟩:=Option.map_eq_some_iff.mp hu
   have hj:=(List.getElem?_eq_some_iff.mp ex).1
   obtain ⟨qs,o6,lq,mq,rfl,Q⟩:=p2 (by lia)
   obtain ⟨h',ws,lw,mw,ev,Q'⟩:=zif (v:=v) (k:=x) (c3:=c3) (c4:=c4) (o7:=none) Q hL (by lia)
   show thn (ybt (ePl v L h.length c3 c4 (h.length+1) (some (.int x)) none) hh) _
   rw [ev]
   exact ⟨ek▸Q'.e,fun _=>⟨qs++ws,_,by rw [List.length_append];lia,fun i y hi hy=>(by
    by_cases z:i=j
    ·subst z
     rw [ex] at hy
     cases hy
     exact List.mem_append_right _ mw
    ·exact List.mem_append_left _ (mq i y (by lia) hy)),rfl,Q'⟩⟩)
 have lnk:(nvz ks).length=ks.length:=List.length_map ..
 rw [lnk] at r2
 obtain ⟨qs,o6,lq,mq,rfl,Q2⟩:=r2.2 (Nat.le_refl _)
 have mT:(T:Int)∈qs:=mq es.length T (by rw [eks];simp) (by rw [eks];simp)
 have it2:iVal (sVar 2) (ePl v L h.length c3 c4 (h.length+1) none none) (H1++[.lst []]) = .ok (nvz ks,some h.length) (H1++[.lst []]):=by
  have:=Q0.e
  rw [ek] at this
  simp [ePl,this]
 have l2:=(ycw (t:=.nm 6) (b:=ybt) it2).trans r1
 obtain ⟨e',H3,r3,r4⟩:=yc9 (w:=none) (all:=yaW 0 3) (t:=.nm 7) (b:=ybu) (xs:=yaW 0 3) (en:=ePl v L h.length c3 c4 (h.length+1) o6 none) (h:=H2)
  (fun j en hh=>j<=3->∃ (qs:List Int) (o7:Option AV),qs.length<=505+j/\(T:Int)∈qs/\en=ePl v L h.length c3 c4 (h.length+1) o6 o7/\Pq L h (nvz es++[.int T]) hh qs)
  (fun _=>⟨qs,none,by lia,mT,rfl,Q2⟩) (fun _ _ _ _=>rfl) (by
   intro j u en hh hu hp
   by_cases q:j<3
   ·obtain ⟨qs,o7,lq,mq,rfl,Q⟩:=hp (by lia)
    obtain ⟨h',w,ev,Q'⟩:=zig (v:=v) (c3:=c3) (c4:=c4) (o6:=o6) (o7:=some u) Q hL (by lia) hT
    show thn (ybu (ePl v L h.length c3 c4 (h.length+1) o6 (some u)) hh) _
    rw [ev]
    exact fun _=>⟨qs++[w],_,by rw [List.length_append];simp;lia,List.mem_append_left _ mq,rfl,Q'⟩
   ·rw [zbv,if_neg q] at hu;cases hu)
 rw [zaM] at r4
 obtain ⟨qs,o7,lq,mT3,rfl,Q3⟩:=r4 (Nat.le_refl _)
 have l3:=(ycw (t:=.nm 7) (b:=ybu) (zbc (a:=sLit (.int 3)) (en:=ePl v L h.length c3 c4 (h.length+1) o6 none) (h:=H2) (n:=3) rfl (by decide))).trans r3
 have la:=zdZ Q3.e
 have lv:ybQ (some (h.length+1)) (qs.map AV.int) H3=true:=by simp [Q3.p]
 have cp:=zbb (js:=[2]) (en:=ePl v L h.length c3 c4 (h.length+1) o6 o7) (w:=some (h.length+1)) (all:=qs.map AV.int) (c:=yas (ycK fLe fLe (sLit (.int 0)) (sVar 0) (sOp2 fIx (sVar 1) (sOp1 fNeg (sLit (.int 1)))))) (e:=sVar 0) (g:=AV.int) (f:=AV.int) (p:=fun x=>decide (0<=x/\x<=(T:Int))) (h:=H3) lv qs [] (by
  intro x hx
  have l1:fLe (.int 0) (.int x) H3 = .ok (.bl (decide (0<=x))) H3:=by simp
  have l2:fLe (.int x) (.int T) H3 = .ok (.bl (decide (x<=T))) H3:=by simp
  by_cases a:0<=x
  ·rw [decide_eq_true a] at l1
   have:decide (0<=x/\x<=(T:Int))=decide (x<=(T:Int)):=by simp [a]
   rw [this]
   simp [ePl,l1,la,l2,-fLe,-fIx]
  ·rw [decide_eq_false a] at l1
   have:decide (0<=x/\x<=(T:Int))=false:=by simp [a]
   rw [this]
   simp [ePl,l1,-fLe]) (fun x _ _=>rfl) (Nat.le_trans (m:=1000) (by simp;lia) (by decide))
 rw [List.nil_append] at cp
 have it4:iVal (sVar 5) (ePl v L h.length c3 c4 (h.length+1) o6 o7) H3 = .ok (qs.map AV.int,some (h.length+1)) H3:=by
  have:=Q3.p
  simp [ePl,this]
 have sc:ybn [2] (iVal (sVar 5)) (yas (ycK fLe fLe (sLit (.int 0)) (sVar 0) (sOp2 fIx (sVar 1) (sOp1 fNeg (sLit (.int 1)))))) (sVar 0) (ePl v L h.length c3 c4 (h.length+1) o6 o7) H3 = .ok (.fl ((qs.filter fun x=>decide (0<=x/\x<=(T:Int))).map AV.int)) H3:=by
  simp only [ybn,it4,cp]
 refine ⟨H3,qs.filter fun x=>decide (0<=x/\x<=(T:Int)),?_,Q3.f,?_,?_,?_⟩
 ·generalize (qs.filter fun x=>decide (0<=x/\x<=(T:Int))).map AV.int=OUT at *
  clear Q0 Q2 Q3 r1 r3 cp la it2 it4 lv F0
  unfold ybZ
  generalize ybn [2] (iVal (sVar 5)) (yas (ycK fLe fLe (sLit (.int 0)) (sVar 0) (sOp2 fIx (sVar 1) (sOp1 fNeg (sLit (.int 1)))))) (sVar 0)=SC at *
  generalize sFor (yba (sLit (.int 3))) (.nm 7) ybu=L3 at *
  generalize sFor (iVal (sVar 2)) (.nm 6) ybt=L2 at *
  generalize sFor (ybz (sVar 0)) (.tup [3,4]) ybs=L1 at *
  rw [<- eH1] at l1
  have l2':L2 (ePl v L h.length c3 c4 H1.length none none) (H1++[.lst []]) = .nx (ePl v L h.length c3 c4 (h.length+1) o6 none) H2:=by rw [n1];exact l2
  clear l2 eH1 n1
  simp only [ePl] at l2' l3 sc
  simp [l1,l2',l3,sc]
 ·intro q hq
  rw [List.mem_filter,decide_eq_true_eq] at hq
  exact hq.2
 ·exact Nat.le_trans (List.length_filter_le _ _) (by lia)
 ·exact List.length_pos_of_mem (a:=(T:Int)) (by
   rw [List.mem_filter]
   exact ⟨mT3,by simp⟩)
end Sk
namespace Sk
open PySem PySem.Spec L2 Sm
structure Rr (L:Nat) (h:AH) (ps:List Pc):Prop where
 sh:ShelfAt h 0 ps
 gd:Good ps
 far:8<L
 ro:∃ N:Int,h[L]? = some (.lst [.int N])
theorem Rr.fr {L:Nat} {h h':AH} {ps:List Pc} (s:Rr L h ps) (f:Fr L h h'):Rr L h' ps:=by
 have l8:=yaM s.sh.h8
 have fa:=s.far
 exact ⟨s.sh.keep fun i i1 i8=>f.fr i (by lia) (by lia),s.gd,s.far,f.ro⟩
theorem Rr.app {L:Nat} {h:AH} {ps:List Pc} (s:Rr L h ps) (r:AH):Rr L (h++r) ps:=by
 obtain ⟨N,e⟩:=s.ro
 exact ⟨s.sh.app r,s.gd,s.far,N,by rw [List.getElem?_append_left (yaM e)];exact e⟩
theorem Rr.dd {L:Nat} {h h':AH} {ps ps':List Pc} {k:Nat} (s:Rr L h ps) (d:Dd 0 h h' ps ps' k):Rr L h' ps' := by
 obtain ⟨N,e⟩:=s.ro
 have:=s.far
 exact ⟨d.sh,d.gd,s.far,N,(d.fr L (.inr (by lia))).trans e⟩
abbrev eRd (n:Nat) (v:AV) (L T:Nat) (o5 o6:Option AV):En:=[some (.ref 0),some (.int n),some v,some (.ref L),some (.int T),o5,o6]
theorem zbM {L n:Nat} {v:AV} {w:Option Nat} {h:AH} {ps:List Pc} {X:Str} {bs:List Bk} (s:Rr L h ps) (T:TxZ ps n X) (eX:X.cps.toList=fB bs) (hX:X.length<=1000000000000000000) (sr:Src h bs v w) (BL:v ≠ .ref L) (ok:∀ x∈bs,Ok x) (hl:bs.length<=100) :
  ∃ h',ybS [.ref 0,.int n,v,.ref L] h = .ok (.bl true) h'/\Fr L h h' := by
 have xl:(fB bs).length=X.length:=by rw [<- eX,<- zad]
 have sg:=zaW sr ok hl
 obtain ⟨m,em,sm⟩:=T.meas
 have fs:=zaf s.sh em
 rw [sm] at fs
 obtain ⟨h1,qs,fp,F1,hq,lq,_⟩:=zeq sr s.ro ok hl (by lia)
 rw [xl] at sg hq
 have s1:=s.fr F1
 have B1:=sr.fr BL F1
 have ne1:fNe (.int X.length) (.int X.length) h = .ok (.bl false) h:=by simp
 obtain ⟨e',h2,r1,r2⟩:=yc9 (w:=none) (all:=qs.map AV.int) (t:=.nm 5) (b:=ybJ) (xs:=qs.map AV.int) (en:=eRd n v L X.length none none) (h:=h1)
  (fun j en hh=>∃ (r:AH) (o5 o6:Option AV),en=eRd n v L X.length o5 o6/\hh=h1++r)
  ⟨[],none,none,rfl,(List.append_nil _).symm⟩ (fun _ _ _ _=>rfl) (by
   rintro j u en hh hu ⟨r,o5,o6,rfl,rfl⟩
   rw [List.getElem?_map] at hu
   obtain ⟨q,eq,rfl⟩:=Option.map_eq_some_iff.mp hu
   obtain ⟨q0,q1⟩:=hq q (List.mem_of_getElem? eq)
   obtain ⟨a,rfl⟩:∃ a:Nat,q=a:=⟨q.toNat,by lia⟩
   have s2:=s1.app r
   have B2:=B1.app r
   obtain ⟨hc,ehc⟩:∃ hc,hc=h1++r:=⟨_,rfl⟩
   rw [<- ehc] at s2 B2 ⊢
   obtain ⟨E,eE⟩:∃ E,E=min X.length (a+9):=⟨_,rfl⟩
   obtain ⟨z,r3,st,ez⟩:=zhp s2.sh s2.gd (b:=a) (e:=E) T (by lia) (by lia) (by lia)
   have B3:=B2.app r3
   obtain ⟨z2,o,ls,ez2⟩:=zfg (b:=a) (e:=E) B3 ok hl (by lia)
   have zz:z2=z:=zae (by rw [ez2,ez,eX])
   subst zz
   have ad:=ydO (a:=a) (b:=9) rfl hc
   have ad':fAdd (.int a) (.int 9) hc = .ok (.int ((a+9:Nat):Int)) hc:=ad
   have mn:=yfi X.length (a+9) hc
   rw [<- eE] at mn
   have ne2:fNe (.str z2) (.str z2) (hc++r3++[o]) = .ok (.bl false) (hc++r3++[o]):=by simp
   show thn (ybJ (eRd n v L X.length (some (.int a)) o6) hc) _
   have ev:ybJ (eRd n v L X.length (some (.int a)) o6) hc = .nx (eRd n v L X.length (some (.int a)) (some (.int E))) (hc++r3++[o]):=by
    clear s2 B2 B3 ehc ez ez2 ad eE
    simp only [eRd]
    generalize hc++r3++[o]=H4 at *
    generalize hc++r3=H3 at *
    generalize ((a+9:Nat):Int)=A9 at *
    generalize (X.length:Int)=XL at *
    generalize (E:Int)=EE at *
    simp [ybJ,ad',mn,st,ls,ne2,-fAdd,-ycq,-fNe]
   rw [ev]
   exact ⟨r++r3++[o],_,_,rfl,by rw [ehc,List.append_assoc,List.append_assoc,List.append_assoc]⟩)
 obtain ⟨r,o5,o6,rfl,rfl⟩:=r2
 have it:iVal (yaf ybZ (yab (sVar 2) (yab (sVar 3) sNil))) (eRd n v L X.length none none) h = .ok (qs.map AV.int,none) h1:=by
  generalize qs.map AV.int=Q at *
  simp [eRd,fp]
 have l1:=(ycw (t:=.nm 5) (b:=ybJ) it).trans r1
 refine ⟨h1++r,?_,F1.app r⟩
 have ob:=s.sh.ob
 clear s s1 T F1 B1 r1 it fp
 unfold ybS
 generalize sFor (iVal (yaf ybZ (yab (sVar 2) (yab (sVar 3) sNil)))) (.nm 5) ybJ=L1 at *
 simp only [eRd] at l1
 generalize h1++r=H9 at *
 generalize (X.length:Int)=XL at *
 simp [sg,ob,fs,ne1,l1,-fNe]
end Sk
namespace Sk
open PySem PySem.Spec L2 Sm
theorem zdn {h:AH} {p n a:Nat} {ps:List Pc} {x:Str} (S:ShelfAt h p ps) (g:Good ps) (T:TxZ ps n x) (ha:a<=x.length) (hz:ps.length<14000000) :
  ∃ (r:Nat) (ps':List Pc) (h':AH),Dn (yaw 90 [.ref p,.int n,.int a]) p h h' ps ps' (32*(htOf ps n+1).toNat) r/\TxZ ps' r (tkS x a)/\htOf ps' r<=htOf ps n:=by
 by_cases a0:a=0
 ·subst a0
  have dv:Dn (yaw 90 [.ref p,.int n,.int (0:Nat)]) p h h ps ps 0 0:=Dn.val S g fun hh pp S' _ pr=>fr_0
  exact ⟨0,ps,h,dv.as S g (fun _ _ _ _ _=>rfl) (Nat.zero_le _),.inl ⟨rfl,tk_0 x⟩,by rw [zbG];exact za1 T⟩
 ·obtain ⟨m,f,l,T1⟩:=T.pos (by lia)
  have h82:=ht82 g T1
  have m0:=T1.ky.ht
  obtain ⟨r,ps',h',m',f',l',d,T',q1,_⟩:=zdh 90 (p:=p) (a:=a) S g T1 (by lia) ha (by lia) (by lia)
  have r0:=T'.ky.ht
  rw [yb9 T1.ms]
  exact ⟨r,ps',h',d.as S g (fun _ _ _ _ _=>rfl) (by lia),.inr ⟨_,_,_,T'⟩,by rw [yb9 T'.ms];exact q1⟩
theorem zd0 {h:AH} {p n a:Nat} {ps:List Pc} {x:Str} (S:ShelfAt h p ps) (g:Good ps) (T:TxZ ps n x) (ha:a<=x.length) (hz:ps.length<14000000) :
  ∃ (r:Nat) (ps':List Pc) (h':AH),Dn (yaA 90 [.ref p,.int n,.int a]) p h h' ps ps' (32*(htOf ps n+1).toNat) r/\TxZ ps' r (dpS x a)/\htOf ps' r<=htOf ps n:=by
 by_cases a0:a=0
 ·subst a0
  have dv:Dn (yaA 90 [.ref p,.int n,.int (0:Nat)]) p h h ps ps 0 n:=Dn.val S g fun hh pp S' _ pr=>bk_0
  exact ⟨n,ps,h,dv.as S g (fun _ _ _ _ _=>rfl) (Nat.zero_le _),by rw [dp_0];exact T,Int.le_refl _⟩
 ·obtain ⟨m,f,l,T1⟩:=T.pos (by lia)
  have sg:=T1.ky.sg
  by_cases ea:a=m.sg
  ·have dv:Dn (yaA 90 [.ref p,.int n,.int a]) p h h ps ps 0 0:=Dn.val S g fun hh pp S' _ pr=>yhd S' (zac pr T1.ms) a0 ea
   exact ⟨0,ps,h,dv.as S g (fun _ _ _ _ _=>rfl) (Nat.zero_le _),.inl ⟨rfl,yhb (by lia)⟩,by rw [zbG];exact za1 T⟩
  ·have h82:=ht82 g T1
   have m0:=T1.ky.ht
   obtain ⟨r,ps',h',m',f',l',d,T',q1,_⟩:=zdX 90 (p:=p) (a:=a) S g T1 (by lia) (by lia) (by lia)
   have r0:=T'.ky.ht
   rw [yb9 T1.ms]
   exact ⟨r,ps',h',d.as S g (fun _ _ _ _ _=>rfl) (by lia),.inr ⟨_,_,_,T'⟩,by rw [yb9 T'.ms];exact q1⟩
theorem zaR {ps ps':List Pc} {n:Nat} {x:Str} (T:TxZ ps n x) (pr:ps <+: ps'):htOf ps' n=htOf ps n:=by
 obtain ⟨m,em,_⟩:=T.meas
 rw [yb9 em,yb9 (zac pr em)]
theorem yih {i:Int} (hi:1000000000000000000<i) (h:AH):ybj [.int i] h = .ex 5 h:=by
 simp [ybj,hi]
theorem zih {h:AH} {p n u:Nat} {ps:List Pc} {m m2:Ms} {b:Nat} (S:ShelfAt h p ps) (em:(meas ps)[n]? = some m) (em2:(meas ps)[u]? = some m2) (hb:b<=m.sg) (hl:1000000000000000000<m.sg+m2.sg):ydb [.ref p,.int n,.int b,.int u] h = .ex 5 h:=by
 have f0:=zaf S em
 have f1:=zaf S em2
 have ob:=S.ob
 have g1:=zf4 S em hb
 have lk:=yih (i:=(m.sg:Int)+m2.sg) (by lia) h
 unfold ydb
 generalize yaw 90=FF
 generalize yaA 90=FB
 simp [ob,f0,f1,g1,lk]
theorem yhl {ps:List Pc} {n:Nat} (T:TxZ ps n ""):htOf ps n = -1:=by
 rcases T with ⟨rfl,_⟩ | ⟨m,f,l,T⟩
 ·exact zbG ps
 ·have a:=T.ky.sg
  obtain ⟨k,c⟩:=T.ky.cnt
  have f1:=T.ky.f1
  have:("" : Str).length=0:=rfl
  rcases c with c | c<;>lia
theorem yfO {ps:List Pc} {n:Nat} {x:Str} (T:TxZ ps n x) (h:htOf ps n = -1):x = "" := by
 rcases T with ⟨_,rfl⟩ | ⟨m,f,l,T⟩
 ·rfl
 ·have:=T.ky.ht
  rw [yb9 T.ms] at h
  lia
theorem yhm {h h1 h2 h3 h4:AH} {p a b t r1 r2 r3 r:Nat} {ps:List Pc} {ma mb:Ms} (S:ShelfAt h p ps) (ema:(meas ps)[a]? = some ma) (emb:(meas ps)[b]? = some mb) (tx:t<=ma.sg) (hx:ma.sg+mb.sg<=1000000000000000000)
  (e1:yaw 90 [.ref p,.int a,.int t] h = .ok (.int r1) h1) (e2:yat [.ref p,.int r1,.int b] h1 = .ok (.int r2) h2) (e3:yaA 90 [.ref p,.int a,.int t] h2 = .ok (.int r3) h3) (e4:yat [.ref p,.int r2,.int r3] h3 = .ok (.int r) h4):ydb [.ref p,.int a,.int t,.int b] h = .ok (.int r) h4:=by
 have ck:=zf4 S ema tx
 have f1:=zaf S ema
 have f2:=zaf S emb
 have lk:=zbi (i:=(ma.sg:Int)+mb.sg) (by lia) h
 have ob:=S.ob
 unfold ydb
 generalize yaw 90=FF at *
 generalize yaA 90=FB at *
 simp [ob,f1,f2,ck,lk,e1,e2,e3,e4]
theorem yhn {h:AH} {p a b t:Nat} {ps:List Pc} {x y:Str} (S:ShelfAt h p ps) (g:Good ps) (A:TxZ ps a x) (B:TxZ ps b y) (tx:t<=x.length) (hx:x.length+y.length<=1000000000000000000) (hz:ps.length<13000000) :
  ∃ (r:Nat) (ps':List Pc) (h':AH),ydb [.ref p,.int a,.int t,.int b] h = .ok (.int r) h'/\Dd p h h' ps ps' (200*(1+max (htOf ps a) (htOf ps b)).toNat)/\TxZ ps' r ((tkS x t++y)++dpS x t):=by
 obtain ⟨ma,ema,sma⟩:=A.meas
 obtain ⟨mb,emb,smb⟩:=B.meas
 have ha:=htZ g A
 have hb:=htZ g B
 obtain ⟨r1,ps1,h1,d1,T1,q1⟩:=zdn (a:=t) S g A tx (by lia)
 have z1:=d1.dd.len
 have l1:=ycx tx
 have g1:=za1 T1
 obtain ⟨r2,ps2,h2,d2,T2,q2⟩:=zcv d1.dd.sh d1.dd.gd T1 (B.pre d1.dd.pre) (by lia) (by lia)
 rw [zaR B d1.dd.pre] at d2 q2
 have z2:=d2.dd.len
 have g2:=za1 T2
 have l2:=zaj (tkS x t) y
 have p12:=d1.dd.pre.trans d2.dd.pre
 obtain ⟨r3,ps3,h3,d3,T3,q3⟩:=zd0 (a:=t) d2.dd.sh d2.dd.gd (A.pre p12) tx (by lia)
 rw [zaR A p12] at d3 q3
 have z3:=d3.dd.len
 have l3:=ycR x t
 have g3:=za1 T3
 obtain ⟨r,ps4,h4,d4,T4,_⟩:=zcv d3.dd.sh d3.dd.gd (T2.pre d3.dd.pre) T3 (by lia) (by lia)
 rw [zaR T2 d3.dd.pre] at d4
 refine ⟨r,ps4,h4,yhm S ema emb (by lia) (by lia) d1.ev d2.ev d3.ev d4.ev,((d1.dd.trans d2.dd (Nat.le_refl _)).trans d3.dd (Nat.le_refl _)).trans d4.dd ?_,T4⟩
 by_cases m:max (htOf ps a) (htOf ps b) = -1
 ·have xa:x = "" := yfO A (by lia)
  have yb:y = "" := yfO B (by lia)
  have e2:htOf ps2 r2 = -1:=by
   have t0:t=0:=by
    rw [xa] at tx
    have:("" : Str).length=0:=rfl
    lia
   have:tkS x t++y = "" := by
    rw [yb,t0,tk_0]
    exact zae (by rw [zai];rfl)
   rw [this] at T2
   exact yhl T2
  lia
 ·lia
theorem zii {h h1 h2 h3:AH} {p n b e r1 r2 r:Nat} {ps:List Pc} {m:Ms} (S:ShelfAt h p ps) (em:(meas ps)[n]? = some m) (be:b<=e) (hm:e<=m.sg) (e1:yaw 90 [.ref p,.int n,.int b] h = .ok (.int r1) h1) (e2:yaA 90 [.ref p,.int n,.int e] h1 = .ok (.int r2) h2) (e3:yat [.ref p,.int r1,.int r2] h2 = .ok (.int r) h3):yc5 [.ref p,.int n,.int b,.int e] h = .ok (.int r) h3:=by
 have ck:=zcx S em be hm
 unfold yc5
 generalize yaw 90=FF at *
 generalize yaA 90=FB at *
 simp [ck,e1,e2,e3]
theorem zij {h:AH} {p n b e:Nat} {ps:List Pc} {x:Str} (S:ShelfAt h p ps) (g:Good ps) (T:TxZ ps n x) (be:b<=e) (ex:e<=x.length) (hx:x.length<=1000000000000000000) (hz:ps.length<13000000) :
  ∃ (r:Nat) (ps':List Pc) (h':AH),yc5 [.ref p,.int n,.int b,.int e] h = .ok (.int r) h'/\Dd p h h' ps ps' (200*(1+htOf ps n).toNat)/\TxZ ps' r (tkS x b++dpS x e):=by
 obtain ⟨m,em,sm⟩:=T.meas
 have ht:=htZ g T
 obtain ⟨r1,ps1,h1,d1,T1,q1⟩:=zdn (a:=b) S g T (by lia) (by lia)
 have z1:=d1.dd.len
 obtain ⟨r2,ps2,h2,d2,T2,q2⟩:=zd0 (a:=e) d1.dd.sh d1.dd.gd (T.pre d1.dd.pre) ex (by lia)
 rw [zaR T d1.dd.pre] at d2 q2
 have z2:=d2.dd.len
 have l1:=ycx (x:=x) (a:=b) (by lia)
 have l2:=ycR x e
 obtain ⟨r,ps3,h3,d3,T3,_⟩:=zcv d2.dd.sh d2.dd.gd (T1.pre d2.dd.pre) T2 (by lia) (by lia)
 rw [zaR T1 d2.dd.pre] at d3
 have g1:=za1 T1
 have g2:=za1 T2
 exact ⟨r,ps3,h3,zii S em be (by lia) d1.ev d2.ev d3.ev,(d1.dd.trans d2.dd (Nat.le_refl _)).trans d3.dd (by lia),T3⟩
theorem zjv {h h1 h2:AH} {p n b e r1 r2:Nat} {ps:List Pc} {m:Ms} (S:ShelfAt h p ps) (em:(meas ps)[n]? = some m) (be:b<=e) (hm:e<=m.sg) (e1:yaw 90 [.ref p,.int n,.int e] h = .ok (.int r1) h1) (e2:yaA 90 [.ref p,.int r1,.int b] h1 = .ok (.int r2) h2):yc6 [.ref p,.int n,.int b,.int e] h = .ok (.int r2) h2:=by
 have ck:=zcx S em be hm
 unfold yc6
 generalize yaw 90=FF at *
 generalize yaA 90=FB at *
 simp [ck,e1,e2]
theorem zjw {h:AH} {p n b e:Nat} {ps:List Pc} {x:Str} (S:ShelfAt h p ps) (g:Good ps) (T:TxZ ps n x) (be:b<=e) (ex:e<=x.length) (hz:ps.length<13000000) :
  ∃ (r:Nat) (ps':List Pc) (h':AH),yc6 [.ref p,.int n,.int b,.int e] h = .ok (.int r) h'/\Dd p h h' ps ps' (200*(1+htOf ps n).toNat)/\TxZ ps' r (dpS (tkS x e) b):=by
 obtain ⟨m,em,sm⟩:=T.meas
 have ht:=htZ g T
 obtain ⟨r1,ps1,h1,d1,T1,q1⟩:=zdn (a:=e) S g T ex (by lia)
 have z1:=d1.dd.len
 have l1:=ycx ex
 have g1:=za1 T1
 obtain ⟨r2,ps2,h2,d2,T2,q2⟩:=zd0 (a:=b) d1.dd.sh d1.dd.gd T1 (by lia) (by lia)
 exact ⟨r2,ps2,h2,zjv S em be (by lia) d1.ev d2.ev,d1.dd.trans d2.dd (by lia),T2⟩
theorem yho {h:AH} {a b t:Nat} {ps:List Pc} {x y:Str} (S:ShelfAt h 0 ps) (g:Good ps) (A:TxZ ps a x) (B:TxZ ps b y) (tx:t<=x.length) (hz:ps.length<13000000) :
  (1000000000000000000<x.length+y.length/\ydc [.ref 0,.int a,.int t,.int b] h = .ok (.int (-1)) h) \/
  (x.length+y.length<=1000000000000000000/\∃ (r:Nat) (ps':List Pc) (h':AH),ydc [.ref 0,.int a,.int t,.int b] h = .ok (.int r) h'/\Dd 0 h h' ps ps' (200*(1+max (htOf ps a) (htOf ps b)).toNat)/\TxZ ps' r ((tkS x t++y)++dpS x t)):=by
 by_cases q:x.length+y.length<=1000000000000000000
 ·obtain ⟨r,ps',h',e,D,T⟩:=yhn S g A B tx q hz
  refine .inr ⟨q,r,ps',h',?_,D,T⟩
  simp [ydc,e]
 ·obtain ⟨ma,ema,sma⟩:=A.meas
  obtain ⟨mb,emb,smb⟩:=B.meas
  have e:=zih S ema emb (b:=t) (by lia) (by lia)
  refine .inl ⟨by lia,?_⟩
  simp [ydc,e,ydH]
end Sk
namespace Sk
open PySem PySem.Spec L2 Sm
theorem zeZ {h:AH} {a b:Nat} {xs ys:List AV} (ea:h[a]? = some (.lst xs)) (eb:h[b]? = some (.lst ys)) (hl:xs.length+ys.length<=1000):fAdd (.ref a) (.ref b) h = .ok (.fl (xs++ys)) h:=by
 have:xs.length+ys.length<=sizeLine:=Nat.le_trans hl (by decide)
 simp only [fAdd,yby,ea,eb,this,if_true]
theorem zjx {h:AH} {b:Nat} {xs ys:List AV} (eb:h[b]? = some (.lst ys)) (hl:xs.length+ys.length<=1000):fAdd (.fl xs) (.ref b) h = .ok (.fl (xs++ys)) h:=by
 have:xs.length+ys.length<=sizeLine:=Nat.le_trans hl (by decide)
 simp only [fAdd,yby,eb,this,if_true]
theorem zjy {a b c:List Bk} (ha:∀ x∈a,Ok x) (hb:∀ x∈b,Ok x) (hc:∀ x∈c,Ok x):∀ x∈(a++b)++c,Ok x:=by
 intro x hx
 rcases List.mem_append.mp hx with hx | hx
 ·rcases List.mem_append.mp hx with hx | hx
  ·exact ha x hx
  ·exact hb x hx
 ·exact hc x hx
theorem zf8 {x:Str} {bs:List Bk} (eX:x.cps.toList=fB bs) (t:Nat):clip 0 t (fB bs) 0=(tkS x t).cps.toList:=by
 rw [ycP,eX];unfold clip;simp
theorem zf9 {x:Str} {bs:List Bk} (eX:x.cps.toList=fB bs) (t:Nat):clip t x.length (fB bs) 0=(dpS x t).cps.toList:=by
 rw [ycQ,<- eX];unfold clip
 rw [Nat.sub_zero,Nat.sub_zero,zad,List.take_length]
theorem zjz {x:Str} {bs:List Bk} (eX:x.cps.toList=fB bs) (b e:Nat):clip b e (fB bs) 0=(dpS (tkS x e) b).cps.toList:=by
 rw [ycQ,ycP,<- eX];unfold clip
 rw [Nat.sub_zero,Nat.sub_zero]
theorem yhp {L B1 B2 n0 n1 t:Nat} {h:AH} {ps:List Pc} {x y:Str} {bs cs:List Bk} (s:Rr L h ps) (A:TxZ ps n0 x) (B:TxZ ps n1 y) (eX:x.cps.toList=fB bs) (eY:y.cps.toList=fB cs) (e1:h[B1]? = some (.lst (bs.map bv))) (e2:h[B2]? = some (.lst (cs.map bv))) (l1:B1≠L) (l2:B2≠L) (b1:8<B1) (b2:8<B2) (o1:∀ x∈bs,Ok x) (o2:∀ x∈cs,Ok x) (s1:bs.length<=3) (s2:cs.length<=3) (ht:t<=x.length) (hz:ps.length<9000000) :
  ∃ (h':AH) (ps':List Pc),ycf [.ref 0,.fl [.int n0,.int n1],.ref B1,.ref B2,.int t,.ref L] h = .ok (.bl true) h'/\Rr L h' ps'/\ps <+: ps'/\ps'.length<=ps.length+20000/\h'[B1]? = some (.lst (bs.map bv))/\h'[B2]? = some (.lst (cs.map bv)):=by
 have xl:(fB bs).length=x.length:=by rw [<- eX,<- zad]
 have yl:(fB cs).length=y.length:=by rw [<- eY,<- zad]
 have ha:=htZ s.gd A
 have hb:=htZ s.gd B
 have m0:=yed s.sh
 have ob0:=s.sh.ob
 have i0:∀ hh,fIx (.fl [.int n0,.int n1]) (.int 0) hh = .ok (.int n0) hh:=fun _=>rfl
 have i1:∀ hh,fIx (.fl [.int n0,.int n1]) (.int 1) hh = .ok (.int n1) hh:=fun _=>rfl
 rcases yho s.sh s.gd A B ht (by lia) with ⟨q,e⟩ | ⟨q,r,ps1,h1,e,D,T⟩
 ·have g1:=zaW (.ref e1) o1 (by lia)
  have g2:=zaW (.ref e2) o2 (by lia)
  rw [xl] at g1
  rw [yl] at g2
  have sb:fSub (.int ps.length) (.int ps.length) h = .ok (.int 0) h:=by simp
  have ad:fAdd (.int x.length) (.int y.length) h = .ok (.int ((x.length+y.length:Nat):Int)) h:=ydO rfl h
  have gt:fGt (.int ((x.length+y.length:Nat):Int)) (.int 1000000000000000000) h = .ok (.bl true) h:=by
   have:(1000000000000000000:Int)<((x.length+y.length:Nat):Int):=by lia
   simp only [fGt,this,decide_true]
  refine ⟨h,ps,?_,s,List.prefix_refl _,by lia,e1,e2⟩
  clear s A B e1 e2 ha hb
  generalize ((x.length+y.length:Nat):Int)=XY at *
  generalize (x.length:Int)=XL at *
  generalize (y.length:Int)=YL at *
  generalize (ps.length:Int)=PL at *
  simp [ycf,ob0,m0,i0,i1,e,sb,g1,g2,ad,gt,-fIx,-fSub,-fAdd,-fGt]
 ·have z1:=D.len
  have s1' := s.dd D
  have E1:h1[B1]? = some (.lst (bs.map bv)):=(D.fr B1 (.inr (by lia))).trans e1
  have E2:h1[B2]? = some (.lst (cs.map bv)):=(D.fr B2 (.inr (by lia))).trans e2
  have m1:=yed D.sh
  have ob1:=D.sh.ob
  have g1:=zaW (.ref E1) o1 (by lia)
  have g2:=zaW (.ref E2) o2 (by lia)
  rw [xl] at g1
  rw [yl] at g2
  have sb:fSub (.int ps1.length) (.int ps.length) h1 = .ok (.int ((ps1.length:Int)-ps.length)) h1:=rfl
  have ad:fAdd (.int x.length) (.int y.length) h1 = .ok (.int ((x.length+y.length:Nat):Int)) h1:=ydO rfl h1
  have gt:fGt (.int ((x.length+y.length:Nat):Int)) (.int 1000000000000000000) h1 = .ok (.bl false) h1:=by
   have : ¬ (1000000000000000000:Int)<((x.length+y.length:Nat):Int):=by lia
   simp only [fGt,this,decide_false]
  have eq:fEq (.int r) (.int (-1)) h1 = .ok (.bl false) h1:=by simp
  have f1:=zcw D.sh (A.pre D.pre)
  have f2:=zcw D.sh (B.pre D.pre)
  rw [zaR A D.pre] at f1
  rw [zaR B D.pre] at f2
  have mx:yb6 [.int (htOf ps n0),.int (htOf ps n1)] h1 = .ok (.int (max (htOf ps n0) (htOf ps n1))) h1:=by
   have:yb6 [.int (htOf ps n0),.int (htOf ps n1)] h1 = .ok (.int (if htOf ps n1 > htOf ps n0 then htOf ps n1 else htOf ps n0)) h1:=rfl
   rw [this]
   by_cases q:htOf ps n0<htOf ps n1
   ·rw [if_pos (by lia)];congr 2;lia
   ·rw [if_neg (by lia)];congr 2;lia
  have ad2:fAdd (.int 1) (.int (max (htOf ps n0) (htOf ps n1))) h1 = .ok (.int (1+max (htOf ps n0) (htOf ps n1))) h1:=rfl
  have ml:fMul (.int 200) (.int (1+max (htOf ps n0) (htOf ps n1))) h1 = .ok (.int (200*(1+max (htOf ps n0) (htOf ps n1)))) h1:=yeD (by decide)
  have gt2:fGt (.int ((ps1.length:Int)-ps.length)) (.int (200*(1+max (htOf ps n0) (htOf ps n1)))) h1 = .ok (.bl false) h1:=by
   have : ¬ (200*(1+max (htOf ps n0) (htOf ps n1))<(ps1.length:Int)-ps.length):=by lia
   simp only [fGt,this,decide_false]
  have p1:ya5 [.ref B1,.int 0,.int t] h1 = .ok (.ref h1.length) (h1++[.lst ((prt 0 t 0 bs).map bv)]):=zbH (b:=0) (e:=t) (.ref E1) o1 (by lia)
  have ok1:=ydV (b:=0) (e:=t) bs 0 o1
  have ln1:=zbg (b:=0) (e:=t) bs 0
  have fb1:=ydU (b:=0) (e:=t) bs 0 o1
  obtain ⟨q1,eq1⟩:∃ q1,q1=prt 0 t 0 bs:=⟨_,rfl⟩
  rw [<- eq1] at p1 ok1 ln1 fb1
  obtain ⟨h2,eh2⟩:∃ h2,h2=h1++[AO.lst (q1.map bv)]:=⟨_,rfl⟩
  have R2:h2[h1.length]? = some (.lst (q1.map bv)):=by rw [eh2];simp
  have E12:h2[B1]? = some (.lst (bs.map bv)):=by rw [eh2,List.getElem?_append_left (yaM E1)];exact E1
  have E22:h2[B2]? = some (.lst (cs.map bv)):=by rw [eh2,List.getElem?_append_left (yaM E2)];exact E2
  have s2':Rr L h2 ps1:=by rw [eh2];exact s1'.app _
  rw [<- eh2] at p1
  have ad3:=zeZ R2 E22 (by rw [List.length_map,List.length_map];lia)
  rw [<- List.map_append] at ad3
  have g3:=zaW (.ref E12) o1 (by lia)
  rw [xl] at g3
  have p2:=zbH (b:=t) (e:=x.length) (.ref E12) o1 (by lia)
  have ok2:=ydV (b:=t) (e:=x.length) bs 0 o1
  have ln2:=zbg (b:=t) (e:=x.length) bs 0
  have fb2:=ydU (b:=t) (e:=x.length) bs 0 o1
  obtain ⟨q2,eq2⟩:∃ q2,q2=prt t x.length 0 bs:=⟨_,rfl⟩
  rw [<- eq2] at p2 ok2 ln2 fb2
  obtain ⟨h3,eh3⟩:∃ h3,h3=h2++[AO.lst (q2.map bv)]:=⟨_,rfl⟩
  have R3:h3[h2.length]? = some (.lst (q2.map bv)):=by rw [eh3];simp
  have E13:h3[B1]? = some (.lst (bs.map bv)):=by rw [eh3,List.getElem?_append_left (yaM E12)];exact E12
  have E23:h3[B2]? = some (.lst (cs.map bv)):=by rw [eh3,List.getElem?_append_left (yaM E22)];exact E22
  have s3':Rr L h3 ps1:=by rw [eh3];exact s2'.app _
  rw [<- eh3] at p2
  have ad4:=zjx (xs:=(q1++cs).map bv) R3 (by rw [List.length_map,List.length_map,List.length_append];lia)
  rw [<- List.map_append] at ad4
  have tx:((tkS x t++y)++dpS x t).cps.toList=fB ((q1++cs)++q2):=by
   rw [zai,zai,ycS,ycS,fb1,fb2,eY,zf8 eX,zf9 eX]
  have ll:((tkS x t++y)++dpS x t).length<=1000000000000000000:=by
   rw [zaj,zaj,ycx ht,ycR];lia
  obtain ⟨h4,rd,F4⟩:=zbM s3' T tx ll .fl (fun z=>by cases z) (zjy ok1 o2 ok2) (by rw [List.length_append,List.length_append];lia)
  refine ⟨h4,ps1,?_,s3'.fr F4,D.pre,by lia,(F4.fr B1 (yaM E13) l1).trans E13,(F4.fr B2 (yaM E23) l2).trans E23⟩
  clear s s1' s2' s3' A B e1 e2 D T E1 E2 R2 R3 E12 E22 E13 E23 F4 ha hb eh2 eh3 tx ll
  generalize ((q1++cs)++q2).map bv=DUE at *
  generalize (q1++cs).map bv=DU1 at *
  generalize h1.length=A1 at *
  generalize h2.length=A2 at *
  generalize 200*(1+max (htOf ps n0) (htOf ps n1))=MM at *
  generalize 1+max (htOf ps n0) (htOf ps n1)=M1 at *
  generalize max (htOf ps n0) (htOf ps n1)=M0 at *
  generalize htOf ps n0=Ha at *
  generalize htOf ps n1=Hb at *
  generalize (ps1.length:Int)-ps.length=PD at *
  generalize ((x.length+y.length:Nat):Int)=XY at *
  generalize (x.length:Int)=XL at *
  generalize (y.length:Int)=YL at *
  generalize (ps.length:Int)=PL at *
  generalize (ps1.length:Int)=PL1 at *
  simp [ycf,ob0,m0,i0,i1,e,ob1,m1,sb,g1,g2,ad,gt,eq,f1,f2,mx,ad2,ml,gt2,p1,ad3,g3,p2,ad4,rd,-fIx,-fSub,-fAdd,-fGt,-fEq,-yb6,-fMul]
theorem yhq {L B1 n b e:Nat} {h:AH} {ps:List Pc} {x:Str} {bs:List Bk} (s:Rr L h ps) (A:TxZ ps n x) (eX:x.cps.toList=fB bs) (hx:x.length<=1000000000000000000) (e1:h[B1]? = some (.lst (bs.map bv))) (l1:B1≠L) (b1:8<B1) (o1:∀ x∈bs,Ok x) (s1:bs.length<=3) (be:b<=e) (ex:e<=x.length) (hz:ps.length<9000000) :
  ∃ (h':AH) (ps':List Pc),yb8 [.ref 0,.int n,.ref B1,.int b,.int e,.ref L] h = .ok (.bl true) h'/\Rr L h' ps'/\ps <+: ps'/\ps'.length<=ps.length+40000/\(∀ i,8<i->i<h.length->i≠L->h'[i]? = h[i]?):=by
 have xl:(fB bs).length=x.length:=by rw [<- eX,<- zad]
 have ha:=htZ s.gd A
 have g0:=zaW (.ref e1) o1 (by lia)
 rw [xl] at g0
 have fh:=zcw s.sh A
 have ad:fAdd (.int 1) (.int (htOf ps n)) h = .ok (.int (1+htOf ps n)) h:=rfl
 have ml:fMul (.int 200) (.int (1+htOf ps n)) h = .ok (.int (200*(1+htOf ps n))) h:=yeD (by decide)
 have m0:=yed s.sh
 have ob0:=s.sh.ob
 obtain ⟨r1,ps1,h1,t1,D1,T1⟩:=zij s.sh s.gd A be ex hx (by lia)
 have z1:=D1.len
 have m1:=yed D1.sh
 have ob1:=D1.sh.ob
 obtain ⟨r2,ps2,h2,t2,D2,T2⟩:=zjw D1.sh D1.gd (A.pre D1.pre) be ex (by lia)
 rw [zaR A D1.pre] at D2
 have z2:=D2.len
 have m2:=yed D2.sh
 have ob2:=D2.sh.ob
 have S2:=(s.dd D1).dd D2
 have E2:h2[B1]? = some (.lst (bs.map bv)):=(D2.fr B1 (.inr (by lia))).trans ((D1.fr B1 (.inr (by lia))).trans e1)
 have sb1:fSub (.int ps1.length) (.int ps.length) h2 = .ok (.int ((ps1.length:Int)-ps.length)) h2:=rfl
 have gt1:fGt (.int ((ps1.length:Int)-ps.length)) (.int (200*(1+htOf ps n))) h2 = .ok (.bl false) h2:=by
  have : ¬ (200*(1+htOf ps n)<(ps1.length:Int)-ps.length):=by lia
  simp only [fGt,this,decide_false]
 have sb2:fSub (.int ps2.length) (.int ps1.length) h2 = .ok (.int ((ps2.length:Int)-ps1.length)) h2:=rfl
 have gt2:fGt (.int ((ps2.length:Int)-ps1.length)) (.int (200*(1+htOf ps n))) h2 = .ok (.bl false) h2:=by
  have : ¬ (200*(1+htOf ps n)<(ps2.length:Int)-ps1.length):=by lia
  simp only [fGt,this,decide_false]
 have p3:=zbH (b:=b) (e:=e) (.ref E2) o1 (by lia)
 have ok3:=ydV (b:=b) (e:=e) bs 0 o1
 have ln3:=zbg (b:=b) (e:=e) bs 0
 have fb3:=ydU (b:=b) (e:=e) bs 0 o1
 obtain ⟨q3,eq3⟩:∃ q,q=prt b e 0 bs:=⟨_,rfl⟩
 rw [<- eq3] at p3 ok3 ln3 fb3
 obtain ⟨h3,eh3⟩:∃ h3,h3=h2++[AO.lst (q3.map bv)]:=⟨_,rfl⟩
 have R3:h3[h2.length]? = some (.lst (q3.map bv)):=by rw [eh3];simp
 have E3:h3[B1]? = some (.lst (bs.map bv)):=by rw [eh3,List.getElem?_append_left (yaM E2)];exact E2
 have S3:Rr L h3 ps2:=by rw [eh3];exact S2.app _
 rw [<- eh3] at p3
 obtain ⟨N2,eN2⟩:=S2.ro
 have Ll:=yaM eN2
 obtain ⟨h4,rd4,F4⟩:=zbM S3 T2 (by rw [fb3,zjz eX]) (by rw [ycR,ycx ex];lia) (.ref R3) (fun z=>by cases z;lia) ok3 (by lia)
 have S4:=S3.fr F4
 have E4:h4[B1]? = some (.lst (bs.map bv)):=(F4.fr B1 (yaM E3) l1).trans E3
 have p5:ya5 [.ref B1,.int 0,.int b] h4 = .ok (.ref h4.length) (h4++[.lst ((prt 0 b 0 bs).map bv)]):=zbH (b:=0) (e:=b) (.ref E4) o1 (by lia)
 have ok5:=ydV (b:=0) (e:=b) bs 0 o1
 have ln5:=zbg (b:=0) (e:=b) bs 0
 have fb5:=ydU (b:=0) (e:=b) bs 0 o1
 obtain ⟨q5,eq5⟩:∃ q,q=prt 0 b 0 bs:=⟨_,rfl⟩
 rw [<- eq5] at p5 ok5 ln5 fb5
 obtain ⟨h5,eh5⟩:∃ h5,h5=h4++[AO.lst (q5.map bv)]:=⟨_,rfl⟩
 have R5:h5[h4.length]? = some (.lst (q5.map bv)):=by rw [eh5];simp
 have E5:h5[B1]? = some (.lst (bs.map bv)):=by rw [eh5,List.getElem?_append_left (yaM E4)];exact E4
 have S5:Rr L h5 ps2:=by rw [eh5];exact S4.app _
 rw [<- eh5] at p5
 have p6:=zbH (b:=e) (e:=x.length) (.ref E5) o1 (by lia)
 have ok6:=ydV (b:=e) (e:=x.length) bs 0 o1
 have ln6:=zbg (b:=e) (e:=x.length) bs 0
 have fb6:=ydU (b:=e) (e:=x.length) bs 0 o1
 obtain ⟨q6,eq6⟩:∃ q,q=prt e x.length 0 bs:=⟨_,rfl⟩
 rw [<- eq6] at p6 ok6 ln6 fb6
 obtain ⟨h6,eh6⟩:∃ h6,h6=h5++[AO.lst (q6.map bv)]:=⟨_,rfl⟩
 have R6:h6[h5.length]? = some (.lst (q6.map bv)):=by rw [eh6];simp
 have R56:h6[h4.length]? = some (.lst (q5.map bv)):=by rw [eh6,List.getElem?_append_left (yaM R5)];exact R5
 have S6:Rr L h6 ps2:=by rw [eh6];exact S5.app _
 rw [<- eh6] at p6
 have ad6:=zeZ R56 R6 (by rw [List.length_map,List.length_map];lia)
 rw [<- List.map_append] at ad6
 obtain ⟨h7,rd7,F7⟩:=zbM S6 (T1.pre D2.pre) (bs:=q5++q6) (by rw [zai,ycS,fb5,fb6,zf8 eX,zf9 eX]) (by rw [zaj,ycx (by lia),ycR];lia) .fl (fun z=>by cases z) (fun y hy=>by
  rcases List.mem_append.mp hy with hy | hy
  ·exact ok5 y hy
  ·exact ok6 y hy) (by rw [List.length_append];lia)
 refine ⟨h7,ps2,?_,S6.fr F7,D1.pre.trans D2.pre,by lia,fun i i8 il iL=>?_⟩
 ·clear s S2 S3 S4 S5 S6 A T1 T2 D1 D2 e1 E2 E3 E4 E5 R3 R5 R6 R56 F4 F7 ha eh3 eh5 eh6 eN2
  generalize (q5++q6).map bv=DUE at *
  generalize h2.length=A2 at *
  generalize h4.length=A4 at *
  generalize h5.length=A5 at *
  generalize 200*(1+htOf ps n)=MM at *
  generalize 1+htOf ps n=M1 at *
  generalize htOf ps n=Ha at *
  generalize (ps1.length:Int)-ps.length=PD at *
  generalize (ps2.length:Int)-ps1.length=PE_ at *
  generalize (x.length:Int)=XL at *
  generalize (ps.length:Int)=PL at *
  generalize (ps1.length:Int)=PL1 at *
  generalize (ps2.length:Int)=PL2 at *
  simp [yb8,g0,ob0,fh,ad,ml,m0,t1,ob1,m1,t2,sb1,gt1,ob2,m2,sb2,gt2,p3,rd4,p5,p6,ad6,rd7,-fAdd,-fMul,-fSub,-fGt]
 ·have hl1:=D1.hl
  have hl2:=D2.hl
  have a2:h2[i]? = h[i]? := (D2.fr i (.inr (by lia))).trans (D1.fr i (.inr (by lia)))
  have i2:i<h2.length:=by lia
  have a3:h3[i]? = h2[i]? := by rw [eh3,List.getElem?_append_left i2]
  have n3:h2.length<=h3.length:=by rw [eh3,List.length_append];lia
  have a4:=F4.fr i (by lia) iL
  have n4:=F4.hl
  have a5:h5[i]? = h4[i]? := by rw [eh5,List.getElem?_append_left (by lia)]
  have n5:h4.length<=h5.length:=by rw [eh5,List.length_append];lia
  have a6:h6[i]? = h5[i]? := by rw [eh6,List.getElem?_append_left (by lia)]
  have n6:h5.length<=h6.length:=by rw [eh6,List.length_append];lia
  have a7:=F7.fr i (by lia) iL
  rw [a7,a6,a5,a4,a3,a2]
end Sk
namespace Sk
open PySem PySem.Spec L2 Sm
theorem ix5n (v:Nat) (hv:v<5):∃ M:Nat,(∀ h,fIx (.fl [.int 3,.int 40,.int 400,.int 1000000,.int 1000000000000000000]) (.int (v:Int)) h = .ok (.int M) h):=by
 have:v=0\/v=1\/v=2\/v=3\/v=4:=by lia
 rcases this with rfl | rfl | rfl | rfl | rfl
 ·exact ⟨3,fun _=>rfl⟩
 ·exact ⟨40,fun _=>rfl⟩
 ·exact ⟨400,fun _=>rfl⟩
 ·exact ⟨1000000,fun _=>rfl⟩
 ·exact ⟨1000000000000000000,fun _=>rfl⟩
theorem pz1:yaE "z" = true/\("z" : Str).length=1:=by decide +kernel
abbrev eBl (L R:Nat) (left:Nat) (o3 o4 o5 o6:Option AV):En:=[some (.ref L),some (.ref R),some (.int left),o3,o4,o5,o6]
theorem zik {L R left:Nat} {hh:AH} {bs:List Bk} {N:Int} {o3 o4 o5 o6:Option AV} (eL:hh[L]? = some (.lst [.int N])) (eR:hh[R]? = some (.lst (bs.map bv))) (LR:L≠R) (lb:bs.length<=10) (hleft:left<=1000000000000000000) :
  ∃ (h':AH) (x:List Bk) (N':Int) (left':Nat) (c4 c5 c6:Option AV),ybi (eBl L R left o3 o4 o5 o6) hh = .nx (eBl L R left' o3 c4 c5 c6) h'/\x.length<=1/\(∀ y∈x,Ok y/\yaE y.1=true)/\(fB x).length+left'=left/\h'[L]? = some (.lst [.int N'])/\h'[R]? = some (.lst ((bs++x).map bv))/\h'.length=hh.length/\∀ i,i≠L->i≠R->h'[i]? = hh[i]? := by
 obtain ⟨y,N1,p1,py,ly⟩:=zhm 19 (by decide) eL
 have p1':yc3 [.ref L,.int 19] hh = .ok (.str y) (hh.set L (.lst [.int N1])):=p1
 obtain ⟨h1,eh1⟩:∃ h1,h1=hh.set L (.lst [.int N1]):=⟨_,rfl⟩
 have L1:h1[L]? = some (.lst [.int N1]):=by rw [eh1];exact List.getElem?_set_self (yaM eL)
 have R1:h1[R]? = some (.lst (bs.map bv)):=by rw [eh1,List.getElem?_set_ne LR];exact eR
 have n1:h1.length=hh.length:=by rw [eh1,List.length_set]
 have k1:∀ i,i≠L->h1[i]? = hh[i]? := fun i q=>by rw [eh1];exact List.getElem?_set_ne (Ne.symm q)
 rw [<- eh1] at p1'
 obtain ⟨pz,lz⟩:=pz1
 obtain ⟨p,ep⟩:∃ p:Str,p=y ++ "z" := ⟨_,rfl⟩
 have lp:p.length=y.length+1:=by rw [ep,zaj,lz]
 have pp:yaE p=true:=by rw [ep,zaQ,py,pz];rfl
 have ad:fAdd (.str y) (.str "z") h1 = .ok (.str p) h1:=by
  have:y.length+("z" : Str).length<=sizeLine:=Nat.le_trans (m:=100) (by lia) (by decide)
  rw [ep]
  simp only [fAdd,this,if_true]
 obtain ⟨n,en⟩:∃ n,n=p.length:=⟨_,rfl⟩
 have ln:∀ h,fLen [.str p] h = .ok (.int n) h:=fun h=>by rw [en];rfl
 obtain ⟨q,eq⟩:∃ q,q=left / n:=⟨_,rfl⟩
 have dv:=yfk (a:=left) (b:=n) (by lia) (by lia) eq.symm h1
 obtain ⟨v2,N2,hv2,t2⟩:=zbe 5 L1 (by decide) (by decide)
 have t2':yay [.ref L,.int 5] h1 = .ok (.int v2) (h1.set L (.lst [.int N2])):=t2
 obtain ⟨h2,eh2⟩:∃ h2,h2=h1.set L (.lst [.int N2]):=⟨_,rfl⟩
 have L2:h2[L]? = some (.lst [.int N2]):=by rw [eh2];exact List.getElem?_set_self (yaM L1)
 have R2:h2[R]? = some (.lst (bs.map bv)):=by rw [eh2,List.getElem?_set_ne LR];exact R1
 have n2:h2.length=hh.length:=by rw [eh2,List.length_set,n1]
 have k2:∀ i,i≠L->h2[i]? = hh[i]? := fun i q=>by rw [eh2,List.getElem?_set_ne (Ne.symm q)];exact k1 i q
 rw [<- eh2] at t2'
 obtain ⟨M,ixM⟩:=ix5n v2 hv2
 have ixM' := ixM h2
 have mn:=yfi q M h2
 have ad2:fAdd (.int ((min q M:Nat):Int)) (.int 1) h2 = .ok (.int ((min q M+1:Nat):Int)) h2:=ydO (b:=1) rfl h2
 have qb:q<=left:=by rw [eq];exact Nat.div_le_self _ _
 obtain ⟨m,N3,hm,t3⟩:=zbe (min q M+1) L2 (by lia) (Nat.le_trans (m:=1000000000000000001) (by lia) (by decide))
 obtain ⟨h3,eh3⟩:∃ h3,h3=h2.set L (.lst [.int N3]):=⟨_,rfl⟩
 have L3:h3[L]? = some (.lst [.int N3]):=by rw [eh3];exact List.getElem?_set_self (yaM L2)
 have R3:h3[R]? = some (.lst (bs.map bv)):=by rw [eh3,List.getElem?_set_ne LR];exact R2
 have n3:h3.length=hh.length:=by rw [eh3,List.length_set,n2]
 have k3:∀ i,i≠L->h3[i]? = hh[i]? := fun i q=>by rw [eh3,List.getElem?_set_ne (Ne.symm q)];exact k2 i q
 rw [<- eh3] at t3
 have mb:n*m<=left:=by
  have a:m<=left / n:=by lia
  have b:=Nat.mul_le_mul_left n a
  have c:=Nat.mul_div_le left n
  lia
 have ml:∀ h,fMul (.int m) (.int n) h = .ok (.int ((n*m:Nat):Int)) h:=ye5 (by lia) (Nat.mul_comm _ _)
 obtain ⟨left',el⟩:∃ l',left=n*m+l' := ⟨left-n*m,by lia⟩
 have sb:∀ h,fSub (.int left) (.int ((n*m:Nat):Int)) h = .ok (.int left') h:=yd0 el
 have gt:∀ h,fGt (.int m) (.int 0) h = .ok (.bl (decide (0<m))) h:=fun h=>by simp
 have fl:(fB [((p,m):Bk)]).length=n*m:=by rw [ydT,zbf,en]
 by_cases z:0<m
 ·rw [decide_eq_true z] at gt
  have ap:=ap1 R3 (by rw [List.length_map];lia) (.tup [.str p,.int m])
  have isl:yaB (.ref R) h3=true:=by simp [R3]
  have e4:(bs.map bv)++[.tup [.str p,.int m]]=(bs++[((p,m):Bk)]).map bv:=by rw [List.map_append];rfl
  rw [e4] at ap
  refine ⟨h3.set R (.lst ((bs++[((p,m):Bk)]).map bv)),[(p,m)],N3,left',some (.str p),some (.int q),some (.int m),?_,Nat.le_refl _,fun y hy=>?_,by lia,by rw [List.getElem?_set_ne (Ne.symm LR)];exact L3,List.getElem?_set_self (yaM R3),by rw [List.length_set,n3],fun i a b=>by rw [List.getElem?_set_ne (Ne.symm b)];exact k3 i a⟩
  ·generalize h3.set R (.lst ((bs++[((p,m):Bk)]).map bv))=HF at *
   clear eL eR L1 R1 n1 k1 L2 R2 n2 k2 L3 R3 n3 k3 p1 t2 ixM eh1 eh2 eh3 ep en eq el fl mb e4
   simp only [eBl]
   generalize ((n*m:Nat):Int)=NM at *
   generalize ((min q M+1:Nat):Int)=MQ1 at *
   generalize ((min q M:Nat):Int)=MQ at *
   simp [ybi,p1',ad,ln,dv,t2',ixM',mn,ad2,t3,gt,isl,ap,ml,sb,-fAdd,-fLen,-fDiv,-fIx,-ycq,-fGt,-yaB,-yaD,-fMul,-fSub]
  ·rw [List.mem_singleton] at hy
   subst hy
   exact ⟨⟨by show 1<=p.length;lia,by show p.length<=20;lia,z⟩,pp⟩
 ·rw [decide_eq_false z] at gt
  have m0:m=0:=by lia
  refine ⟨h3,[],N3,left',some (.str p),some (.int q),some (.int m),?_,Nat.zero_le _,fun y hy=>(by cases hy),?_,L3,by rw [List.append_nil];exact R3,n3,fun i a _=>k3 i a⟩
  ·clear eL eR L1 R1 n1 k1 L2 R2 n2 k2 L3 R3 n3 k3 p1 t2 ixM eh1 eh2 eh3 ep en eq el fl mb
   simp only [eBl]
   generalize ((n*m:Nat):Int)=NM at *
   generalize ((min q M+1:Nat):Int)=MQ1 at *
   generalize ((min q M:Nat):Int)=MQ at *
   simp [ybi,p1',ad,ln,dv,t2',ixM',mn,ad2,t3,gt,ml,sb,-fAdd,-fLen,-fDiv,-fIx,-ycq,-fGt,-fMul,-fSub]
  ·have:(fB ([]:List Bk)).length=0:=rfl
   rw [m0,Nat.mul_zero] at el
   lia
theorem zdC {h:AH} {L:Nat} {N:Int} (eL:h[L]? = some (.lst [.int N])) :
  ∃ (h':AH) (bs:List Bk),ycM [.ref L] h = .ok (.ref h.length) h'/\(∀ x∈bs,Ok x/\yaE x.1=true)/\bs.length<=3/\(fB bs).length<=1000000000000000000/\h'[h.length]? = some (.lst (bs.map bv))/\h'.length=h.length+1/\∀ i,i≠L->i<h.length->h'[i]? = h[i]? := by
 have Ll:=yaM eL
 obtain ⟨H0,eH0⟩:∃ H0,H0=h++[AO.lst []]:=⟨_,rfl⟩
 have L0:H0[L]? = some (.lst [.int N]):=by rw [eH0,List.getElem?_append_left Ll];exact eL
 have R0:H0[h.length]? = some (.lst []):=by rw [eH0];simp
 have n0:H0.length=h.length+1:=by rw [eH0];simp
 obtain ⟨v,N1,hv,t1⟩:=zbe 3 L0 (by decide) (by decide)
 have t1':yay [.ref L,.int 3] H0 = .ok (.int v) (H0.set L (.lst [.int N1])):=t1
 obtain ⟨H1,eH1⟩:∃ H1,H1=H0.set L (.lst [.int N1]):=⟨_,rfl⟩
 rw [<- eH1] at t1'
 have LR:L≠h.length:=by lia
 have ad:fAdd (.int 1) (.int v) H1 = .ok (.int ((1+v:Nat):Int)) H1:=ydO (a:=1) rfl H1
 obtain ⟨e',H2,r1,r2⟩:=yc9 (w:=none) (all:=yaW 0 (1+v)) (t:=.nm 3) (b:=ybi) (xs:=yaW 0 (1+v)) (en:=eBl L h.length 1000000000000000000 none none none none) (h:=H1)
  (fun j en hh=>j<=3->∃ (bs:List Bk) (N':Int) (left:Nat) (o3 o4 o5 o6:Option AV),en=eBl L h.length left o3 o4 o5 o6/\(∀ x∈bs,Ok x/\yaE x.1=true)/\bs.length<=j/\(fB bs).length+left=1000000000000000000/\hh[L]? = some (.lst [.int N'])/\hh[h.length]? = some (.lst (bs.map bv))/\hh.length=h.length+1/\∀ i,i≠L->i<h.length->hh[i]? = h[i]?)
  (fun _=>⟨[],N1,1000000000000000000,none,none,none,none,rfl,fun x hx=>(by cases hx),Nat.le_refl _,by show 0+_=_;lia,by rw [eH1];exact List.getElem?_set_self (yaM L0),by rw [eH1,List.getElem?_set_ne LR];exact R0,by rw [eH1,List.length_set,n0],fun i a b=>by rw [eH1,List.getElem?_set_ne (Ne.symm a),eH0,List.getElem?_append_left b]⟩) (fun _ _ _ _=>rfl) (by
   intro j u en hh hu hp
   by_cases q:j<1+v
   ·obtain ⟨bs,N',left,o3,o4,o5,o6,rfl,b1,b2,b3,b4,b5,b6,b7⟩:=hp (by lia)
    obtain ⟨h',x,N'',left',c4,c5,c6,ev,x1,x2,x3,x4,x5,x6,x7⟩:=zik (o3:=some u) (o4:=o4) (o5:=o5) (o6:=o6) b4 b5 LR (by lia) (show left<=_ by lia)
    show thn (ybi (eBl L h.length left (some u) o4 o5 o6) hh) _
    rw [ev]
    refine fun _=>⟨bs++x,N'',left',_,c4,c5,c6,rfl,fun y hy=>?_,by rw [List.length_append];lia,by rw [ycS,List.length_append];lia,x4,x5,by lia,fun i a b=>(x7 i a (by lia)).trans (b7 i a b)⟩
    rcases List.mem_append.mp hy with hy | hy
    ·exact b1 y hy
    ·exact x2 y hy
   ·rw [zbv,if_neg q] at hu;cases hu)
 rw [zaM] at r2
 obtain ⟨bs,N',left,o3,o4,o5,o6,rfl,b1,b2,b3,b4,b5,b6,b7⟩:=r2 (by lia)
 have ea:sOp2 fAdd (sLit (.int 1)) (yaf yay (yab (sVar 0) (yab (sLit (.int 3)) sNil))) (eBl L h.length 1000000000000000000 none none none none) H0 = .ok (.int ((1+v:Nat):Int)) H1:=by
  simp only [eBl]
  generalize ((1+v:Nat):Int)=V1 at *
  simp [t1',ad,-fAdd]
 have l1:=(ycw (t:=.nm 3) (b:=ybi) (zbc ea (show 1+v<=10000000 by lia))).trans r1
 refine ⟨H2,bs,?_,b1,by lia,by lia,b5,b6,b7⟩
 clear b1 b2 b3 b4 b5 b6 b7 r1 ea L0 R0 eH1 t1 n0
 unfold ycM
 generalize sFor (yba (sOp2 fAdd (sLit (.int 1)) (yaf yay (yab (sVar 0) (yab (sLit (.int 3)) sNil))))) (.nm 3) ybi=L1 at *
 rw [eH0] at l1
 have l1':L1 [some (.ref L),some (.ref h.length),some (.int 1000000000000000000),none,none,none,none] (h++[.lst []]) = .nx [some (.ref L),some (.ref h.length),some (.int left),o3,o4,o5,o6] H2:=l1
 simp [l1']
theorem lnA {a b c j k:Nat} (h1:a<=b+k) (h2:b<=c+j*k):a<=c+(j+1)*k:=by rw [Nat.add_mul,Nat.one_mul];lia
abbrev eLg (B n:Nat) (o3 o4:Option AV):En:=[some (.ref 0),some (.ref B),some (.int n),o3,o4]
theorem ze0 {h:AH} {B:Nat} {ps:List Pc} {bs:List Bk} (S:ShelfAt h 0 ps) (g:Good ps) (eB:h[B]? = some (.lst (bs.map bv))) (B8:8<B) (ok:∀ x∈bs,Ok x/\yaE x.1=true) (hl:bs.length<=3) (hT:(fB bs).length<=1000000000000000000) (hz:ps.length<=1000000) :
  ∃ (n:Nat) (ps':List Pc) (h':AH) (X:Str),ydl [.ref 0,.ref B] h = .ok (.int n) h'/\Dd 0 h h' ps ps' 600000/\TxZ ps' n X/\X.cps.toList=fB bs:=by
 obtain ⟨e',h',r1,r2⟩:=yc9 (w:=some B) (all:=bs.map bv) (t:=.tup [3,4]) (b:=yb3) (xs:=bs.map bv) (en:=eLg B 0 none none) (h:=h)
  (fun j en hh=>hh[B]? = some (.lst (bs.map bv))/\(j<=bs.length->∃ (n:Nat) (ps':List Pc) (X:Str) (o3 o4:Option AV),en=eLg B n o3 o4/\Dd 0 h hh ps ps' (j*200000)/\TxZ ps' n X/\X.cps.toList=fB (bs.take j)))
  ⟨eB,fun _=>⟨0,ps, "",none,none,rfl,⟨S,g,List.prefix_refl _,by lia,fun _ _=>rfl,rfl⟩,.inl ⟨rfl,rfl⟩,rfl⟩⟩ (fun _ _ _ p=>by simp [p.1]) (by
   rintro j u en hh hu ⟨p1,p2⟩
   rw [List.getElem?_map] at hu
   obtain ⟨x,ex,rfl⟩:=Option.map_eq_some_iff.mp hu
   have hj:=(List.getElem?_eq_some_iff.mp ex).1
   obtain ⟨n,ps1,X,o3,o4,rfl,D,T,eX⟩:=p2 (by lia)
   have z0:=D.len
   obtain ⟨⟨k1,k2,k3⟩,kp⟩:=ok x (List.mem_of_getElem? ex)
   have sz:=ye3 (List.mem_of_getElem? ex)
   have xm:x.2<=x.1.length*x.2:=by
    have:=Nat.mul_le_mul_right x.2 k1
    lia
   obtain ⟨n2,ps2,h2,f2,D2,T2⟩:=zjj (x:=x.1) D.sh D.gd kp (by lia) (by lia)
   have z2:=D2.len
   obtain ⟨n3,ps3,h3,d3,T3⟩:=zgx (k:=x.2) (e:=60) D2.sh D2.gd T2 (Nat.lt_of_le_of_lt (m:=1000000000000000000) (by lia) (by decide)) (by decide) (by lia) (by lia)
   have f3:ycr [.ref 0,.int n2,.int x.2] h2 = .ok (.int n3) h3:=d3.ev
   have z3:=d3.dd.len
   have T1' := (T.pre D2.pre).pre d3.dd.pre
   have e1:fB (bs.take (j+1))=X.cps.toList++(repS x.1 x.2).cps.toList:=by
    rw [zcQ ex,ycS,ydT,eX];rfl
   have lt1:X.length+(repS x.1 x.2).length<=1000000000000000000:=by
    rw [zad,zad,<- List.length_append,<- e1]
    have:fB bs=fB (bs.take (j+1))++fB (bs.drop (j+1)):=by rw [<- ycS,List.take_append_drop]
    have:=congrArg List.length this
    rw [List.length_append] at this
    lia
   obtain ⟨n4,ps4,h4,f4,D4,T4⟩:=zjm d3.dd.sh d3.dd.gd T1' T3 lt1 (by lia)
   have DD:=((D.trans D2 (Nat.le_refl _)).trans d3.dd (Nat.le_refl _)).trans D4 (k2:=(j+1)*200000) (by rw [Nat.add_mul,Nat.one_mul];lia)
   show thn (yb3 (eLg B n (some (.str x.1)) (some (.int x.2))) hh) _
   have ev:yb3 (eLg B n (some (.str x.1)) (some (.int x.2))) hh = .nx (eLg B n4 (some (.str x.1)) (some (.int x.2))) h4:=by
    simp [yb3,eLg,f2,f3,f4]
   rw [ev]
   exact ⟨(DD.fr B (.inr (by lia))).trans eB,fun _=>⟨n4,ps4,_,_,_,rfl,DD,T4,by rw [zai];exact e1.symm⟩⟩)
 rw [List.length_map] at r2
 obtain ⟨n,ps',X,o3,o4,rfl,D,T,eX⟩:=r2.2 (Nat.le_refl _)
 rw [List.take_length] at eX
 have it:ybz (sVar 1) (eLg B 0 none none) h = .ok (bs.map bv,some B) h:=by simp [eLg,eB]
 have l1:=(ycw (t:=.tup [3,4]) (b:=yb3) it).trans r1
 refine ⟨n,ps',h',X,?_,{ D with len:=Nat.le_trans D.len (by lia) },T,eX⟩
 clear D T r1 it
 unfold ydl
 generalize sFor (ybz (sVar 1)) (.tup [3,4]) yb3=L1 at *
 have l1':L1 [some (.ref 0),some (.ref B),some (.int 0),none,none] h = .nx [some (.ref 0),some (.ref B),some (.int n),o3,o4] h' := l1
 simp [l1']
theorem zil {α:Type} (l:List α) (k:Nat):cutA l none (some (k:Int))=l.take k:=by
 unfold cutA
 rw [HT.sIx_nat,HT.sIx_none]
 by_cases hk:k<=l.length
 ·rw [Nat.min_eq_left hk];simp
 ·rw [Nat.min_eq_right (by lia),List.take_of_length_le (l:=l) (by lia)];simp
theorem cut4 (qs:List Int) (h:AH):ybg (.fl (qs.map AV.int)) none (some 4) h = .ok (.fl ((qs.take 4).map AV.int)) h:=by
 have:=zil (qs.map AV.int) 4
 have t8:((4:Nat):Int)=4:=rfl
 rw [t8] at this
 simp only [ybg,this,List.map_take]
theorem zim {h:AH} {L:Nat} {qs:List Int} (l0:1<=qs.length) (lq:qs.length<=1000) (eL:∃ N:Int,h[L]? = some (.lst [.int N])) (js:List Nat) (en:En) (hj:js.map (fun j=>(en[j]?).join)=[some (.fl (qs.map AV.int)),some (.ref L)]) :
  ∃ (a b:Int) (N:Int),ybn js (yba (sLit (.int 2))) sYes (sOp2 fIx (sVar 1) (yaf yay (yab (sVar 2) (yab (yaf fLen (yab (sVar 1) sNil)) sNil)))) en h = .ok (.fl [.int a,.int b]) (h.set L (.lst [.int N]))/\a∈qs/\b∈qs:=by
 obtain ⟨N0,eL⟩:=eL
 have Ll:=yaM eL
 obtain ⟨vs,h',c1,zs,N,e1,e2,e3,e4⟩:=yfH (js:=js) (en:=en) (all:=yaW 0 2) (e:=sOp2 fIx (sVar 1) (yaf yay (yab (sVar 2) (yab (yaf fLen (yab (sVar 1) sNil)) sNil)))) (xs:=yaW 0 2) (h:=h)
  (fun j ys hh=>∃ (zs:List Int) (N:Int),ys=zs.map AV.int/\hh=h.set L (.lst [.int N])/\zs.length=j/\∀ z∈zs,z∈qs) ⟨[],N0,rfl,(zeX eL).symm,rfl,fun _ z=>(nomatch z)⟩ (by
   rintro j v ys hh hv ⟨zs,N,rfl,rfl,lz,az⟩
   rw [hj]
   have e3:(h.set L (.lst [.int N]))[L]? = some (.lst [.int N]):=List.getElem?_set_self Ll
   obtain ⟨t,N4,ht,et⟩:=zbe qs.length e3 (by lia) (Nat.le_trans (m:=1000) (by lia) (by decide))
   rw [List.set_set] at et
   have ln:fLen [.fl (qs.map AV.int)] (h.set L (.lst [.int N])) = .ok (.int qs.length) (h.set L (.lst [.int N])):=by
    show Out.ok (AV.int ((qs.map AV.int).length:Int)) _=_
    rw [List.length_map]
   have gq:qs[t]? = some qs[t]:=List.getElem?_eq_getElem ht
   have ix:∀ hx,fIx (.fl (qs.map AV.int)) (.int t) hx = .ok (.int qs[t]) hx:=fun hx=>by
    simp only [fIx,zeN gq]
   have ev:sOp2 fIx (sVar 1) (yaf yay (yab (sVar 2) (yab (yaf fLen (yab (sVar 1) sNil)) sNil))) [some v,some (.fl (qs.map AV.int)),some (.ref L)] (h.set L (.lst [.int N])) = .ok (.int qs[t]) (h.set L (.lst [.int N4])):=by
    have ix' := ix (h.set L (.lst [.int N4]))
    generalize h.set L (.lst [.int N4])=h2 at *
    generalize h.set L (.lst [.int N])=h1 at *
    generalize qs.map AV.int=Q at *
    generalize (qs.length:Int)=QL at *
    simp [ln,et,ix',-fLen,-fIx]
   rw [ev]
   refine ⟨zs++[qs[t]],N4,by simp,rfl,by simp [lz],?_⟩
   intro z hz
   rcases List.mem_append.mp hz with hz | hz
   ·exact az z hz
   ·rw [List.mem_singleton.mp hz];exact List.getElem_mem ht) (by rw [zaM];decide)
 rw [zaM] at e3
 have it:yba (sLit (.int 2)) en h = .ok (yaW 0 2,none) h:=zbc rfl (by decide)
 match zs,e3,e1,e4 with
 | [a,b],_,e1,e4 =>
  refine ⟨a,b,N,?_,e4 a (by simp),e4 b (by simp)⟩
  simp only [ybn,it,c1,e1,e2]
  rfl
end Sk
namespace Sk
open PySem PySem.Spec L2 Sm
theorem yfP {a b:Nat} (h:a≠b):AV.ref a≠AV.ref b:=fun z=>h (by cases z;rfl)
abbrev e49 (sc:Option AV) (n0 n1:Nat) (Q:List AV) (o7 o8 o9:Option AV):En:=[sc,some (.ref 0),some (.ref 10),some (.ref 12),some (.fl [.int n0,.int n1]),some (.ref 13),some (.fl Q),o7,o8,o9]
structure Al (n0 n1:Nat) (x y:Str) (bs cs:List Bk) (h:AH) (ps:List Pc):Prop where
 s:Rr 13 h ps
 A:TxZ ps n0 x
 B:TxZ ps n1 y
 e1:h[10]? = some (.lst (bs.map bv))
 e2:h[12]? = some (.lst (cs.map bv))
structure Fx (x y:Str) (bs cs:List Bk):Prop where
 eX:x.cps.toList=fB bs
 eY:y.cps.toList=fB cs
 o1:∀ z∈bs,Ok z
 o2:∀ z∈cs,Ok z
 s1:bs.length<=3
 s2:cs.length<=3
 hx:x.length<=1000000000000000000
 hy:y.length<=1000000000000000000
theorem yhr {n0 n1:Nat} {x y:Str} {bs cs:List Bk} {h:AH} {ps:List Pc} {qs:List Int} {sc o7 o8 o9:Option AV} (f:Fx x y bs cs) (a:Al n0 n1 x y bs cs h ps) (hq:∀ q∈qs,0<=q/\q<=(x.length:Int)) (hz:ps.length<5000000) :
  ∃ (h':AH) (ps':List Pc) (c7:Option AV),sFor (iVal (sCut (sVar 6) none (some (sLit (.int 4))))) (.nm 7) ydq (e49 sc n0 n1 (qs.map AV.int) o7 o8 o9) h = .nx (e49 sc n0 n1 (qs.map AV.int) c7 o8 o9) h'/\Al n0 n1 x y bs cs h' ps'/\ps'.length<=ps.length+80000:=by
 have ct:=cut4 qs h
 obtain ⟨rs,ers⟩:∃ rs,rs=qs.take 4:=⟨_,rfl⟩
 rw [<- ers] at ct
 have lr:rs.length<=4:=by rw [ers,List.length_take];lia
 have hr:∀ q∈rs,0<=q/\q<=(x.length:Int):=fun q z=>by rw [ers] at z;exact hq q (List.mem_of_mem_take z)
 obtain ⟨e',h',r1,r2⟩:=yc9 (w:=none) (all:=rs.map AV.int) (t:=.nm 7) (b:=ydq) (xs:=rs.map AV.int) (en:=e49 sc n0 n1 (qs.map AV.int) o7 o8 o9) (h:=h)
  (fun j en hh=>j<=4->∃ (ps':List Pc) (c7:Option AV),en=e49 sc n0 n1 (qs.map AV.int) c7 o8 o9/\Al n0 n1 x y bs cs hh ps'/\ps'.length<=ps.length+j*20000)
  (fun _=>⟨ps,o7,rfl,a,by lia⟩) (fun _ _ _ _=>rfl) (by
   intro j u en hh hu hp
   rw [List.getElem?_map] at hu
   obtain ⟨q,eq,rfl⟩:=Option.map_eq_some_iff.mp hu
   have hj:=(List.getElem?_eq_some_iff.mp eq).1
   obtain ⟨q0,q1⟩:=hr q (List.mem_of_getElem? eq)
   obtain ⟨t,rfl⟩:∃ t:Nat,q=t:=⟨q.toNat,by lia⟩
   obtain ⟨ps1,c7,rfl,a1,z1⟩:=hp (by lia)
   obtain ⟨h2,ps2,ev,R2,p2,z2,E1,E2⟩:=yhp (t:=t) a1.s a1.A a1.B f.eX f.eY a1.e1 a1.e2 (by decide) (by decide) (by decide) (by decide) f.o1 f.o2 f.s1 f.s2 (by lia) (by lia)
   show thn (ydq (e49 sc n0 n1 (qs.map AV.int) (some (.int t)) o8 o9) hh) _
   have eb:ydq (e49 sc n0 n1 (qs.map AV.int) (some (.int t)) o8 o9) hh = .nx (e49 sc n0 n1 (qs.map AV.int) (some (.int t)) o8 o9) h2:=by
    generalize qs.map AV.int=Q at *
    simp [ydq,e49,ev]
   rw [eb]
   exact fun _=>⟨ps2,_,rfl,⟨R2,a1.A.pre p2,a1.B.pre p2,E1,E2⟩,lnA z2 z1⟩)
 rw [List.length_map] at r2
 obtain ⟨ps',c7,rfl,a',z'⟩:=r2 lr
 have it:iVal (sCut (sVar 6) none (some (sLit (.int 4)))) (e49 sc n0 n1 (qs.map AV.int) o7 o8 o9) h = .ok (rs.map AV.int,none) h:=by
  generalize qs.map AV.int=Q at *
  generalize rs.map AV.int=R at *
  simp [e49,ct,-ybg]
 refine ⟨h',ps',c7,(ycw it).trans r1,a',?_⟩
 have:rs.length*20000<=4*20000:=Nat.mul_le_mul_right _ lr
 lia
theorem yhs {n0 n1:Nat} {x y:Str} {bs cs:List Bk} {h:AH} {ps:List Pc} {qs:List Int} {sc o7 o8 o9:Option AV} (f:Fx x y bs cs) (a:Al n0 n1 x y bs cs h ps) (hq:∀ q∈qs,0<=q/\q<=(x.length:Int)) (l0:1<=qs.length) (lq:qs.length<=1000) (hz:ps.length<5000000) :
  ∃ (h':AH) (ps':List Pc) (c8 c9:Option AV),sFor (yba (sLit (.int 4))) (.nm 8) ydr (e49 sc n0 n1 (qs.map AV.int) o7 o8 o9) h = .nx (e49 sc n0 n1 (qs.map AV.int) o7 c8 c9) h'/\Al n0 n1 x y bs cs h' ps'/\ps'.length<=ps.length+160000:=by
 obtain ⟨e',h',r1,r2⟩:=yc9 (w:=none) (all:=yaW 0 4) (t:=.nm 8) (b:=ydr) (xs:=yaW 0 4) (en:=e49 sc n0 n1 (qs.map AV.int) o7 o8 o9) (h:=h)
  (fun j en hh=>j<=4->∃ (ps':List Pc) (c8 c9:Option AV),en=e49 sc n0 n1 (qs.map AV.int) o7 c8 c9/\Al n0 n1 x y bs cs hh ps'/\ps'.length<=ps.length+j*40000)
  (fun _=>⟨ps,o8,o9,rfl,a,by lia⟩) (fun _ _ _ _=>rfl) (by
   intro j u en hh hu hp
   by_cases q:j<4
   ·obtain ⟨ps1,c8,c9,rfl,a1,z1⟩:=hp (by lia)
    obtain ⟨p,r,N,ec,hp1,hp2⟩:=zim l0 lq a1.s.ro [6,5] (e49 sc n0 n1 (qs.map AV.int) o7 (some u) c9) rfl
    have F0:Fr 13 hh (hh.set 13 (.lst [.int N])):=by
     obtain ⟨N0,e0⟩:=a1.s.ro
     exact (⟨fun _ _ _=>rfl,Nat.le_refl _,N0,e0⟩:Fr 13 hh hh).set N
    have R1:=a1.s.fr F0
    have E1:(hh.set 13 (.lst [.int N]))[10]? = some (.lst (bs.map bv)):=by rw [List.getElem?_set_ne (by decide)];exact a1.e1
    have E2:(hh.set 13 (.lst [.int N]))[12]? = some (.lst (cs.map bv)):=by rw [List.getElem?_set_ne (by decide)];exact a1.e2
    obtain ⟨H1,eH1⟩:∃ H1,H1=hh.set 13 (.lst [.int N]):=⟨_,rfl⟩
    rw [<- eH1] at ec R1 E1 E2
    obtain ⟨p0,p1⟩:=hq p hp1
    obtain ⟨r0,r1⟩:=hq r hp2
    obtain ⟨pn,rfl⟩:∃ t:Nat,p=t:=⟨p.toNat,by lia⟩
    obtain ⟨rn,rfl⟩:∃ t:Nat,r=t:=⟨r.toNat,by lia⟩
    have mn:yem [.fl [.int pn,.int rn]] H1 = .ok (.int ((min pn rn:Nat):Int)) H1:=by
     have:yem [.fl [.int pn,.int rn]] H1 = .ok (.int (if (rn:Int)<pn then (rn:Int) else pn)) H1:=rfl
     rw [this]
     by_cases q:rn<pn
     ·rw [if_pos (by lia)];congr 2;lia
     ·rw [if_neg (by lia)];congr 2;lia
    have mx:yen [.fl [.int pn,.int rn]] H1 = .ok (.int ((max pn rn:Nat):Int)) H1:=by
     have:yen [.fl [.int pn,.int rn]] H1 = .ok (.int (if (rn:Int) > pn then (rn:Int) else pn)) H1:=rfl
     rw [this]
     by_cases q:pn<rn
     ·rw [if_pos (by lia)];congr 2;lia
     ·rw [if_neg (by lia)];congr 2;lia
    obtain ⟨h2,ps2,ev,R2,p2,z2,k2⟩:=yhq (b:=min pn rn) (e:=max pn rn) R1 a1.A f.eX f.hx E1 (by decide) (by decide) f.o1 f.s1 (by lia) (by lia) (by lia)
    have i0:fIx (.fl [.int n0,.int n1]) (.int 0) H1 = .ok (.int n0) H1:=rfl
    show thn (ydr (e49 sc n0 n1 (qs.map AV.int) o7 (some u) c9) hh) _
    have eb:ydr (e49 sc n0 n1 (qs.map AV.int) o7 (some u) c9) hh = .nx (e49 sc n0 n1 (qs.map AV.int) o7 (some u) (some (.fl [.int pn,.int rn]))) h2:=by
     unfold ydr
     generalize ybn [6,5] (yba (sLit (.int 2))) sYes (sOp2 fIx (sVar 1) (yaf yay (yab (sVar 2) (yab (yaf fLen (yab (sVar 1) sNil)) sNil))))=CP at *
     clear eH1 E1 E2 R1 F0 k2 R2 p2
     simp only [e49] at ec
     generalize qs.map AV.int=Q at *
     generalize ((min pn rn:Nat):Int)=MN at *
     generalize ((max pn rn:Nat):Int)=MX at *
     simp [e49,ec,mn,mx,i0,ev,-yem,-yen,-fIx]
    rw [eb]
    exact fun _=>⟨ps2,_,_,rfl,⟨R2,a1.A.pre p2,a1.B.pre p2,(k2 10 (by decide) (yaM E1) (by decide)).trans E1,(k2 12 (by decide) (yaM E2) (by decide)).trans E2⟩,lnA z2 z1⟩
   ·rw [zbv,if_neg q] at hu;cases hu)
 rw [zaM] at r2
 obtain ⟨ps',c8,c9,rfl,a',z'⟩:=r2 (Nat.le_refl _)
 exact ⟨h',ps',c8,c9,(ycw (zbc rfl (by decide))).trans r1,a',by lia⟩
theorem law_true (ns:List Int) (hl:ns.length<=63):∃ h',yfh [.fl (ns.map AV.int)] [] = .ok (.bl true) h' := by
 have mk:=yg6 [some (.fl (ns.map AV.int)),none,none,none,none,none,none,none,none,none] []
 have l0:([]:AH).length=0:=rfl
 rw [l0,List.nil_append] at mk
 have S0:ShelfAt (yda 0) 0 []:=by have:=yg7 [] [];simpa using this
 obtain ⟨N0,s0⟩:=zdi ns hl 0 (by decide) (yda 0)
 have s0':ybd [.fl (ns.map AV.int),.int 0] (yda 0) = .ok (.ref 9) (yda 0++[.lst [.int N0]]):=s0
 have e1:(yda 0++[AO.lst [.int N0]])[9]? = some (.lst [.int N0]):=rfl
 have n1:(yda 0++[AO.lst [.int N0]]).length=10:=rfl
 have S1:ShelfAt (yda 0++[AO.lst [.int N0]]) 0 []:=S0.app _
 generalize yda 0++[AO.lst [.int N0]]=H1 at *
 obtain ⟨H2,bs,f2,ok,lb,hT,eB,n2,k2⟩:=zdC e1
 rw [n1] at f2 eB n2 k2
 replace n2:H2.length=11:=n2
 have S2:ShelfAt H2 0 []:=S1.keep fun i _ i8=>k2 i (by lia) (by lia)
 obtain ⟨N3,s3⟩:=zdi ns hl 1 (by decide) H2
 have s3':ybd [.fl (ns.map AV.int),.int 1] H2 = .ok (.ref 11) (H2++[.lst [.int N3]]):=by rw [<- n2];exact s3
 have e3:(H2++[AO.lst [.int N3]])[11]? = some (.lst [.int N3]):=by rw [<- n2];simp
 have n3:(H2++[AO.lst [.int N3]]).length=12:=by rw [List.length_append,n2];rfl
 have S3:=S2.app [.lst [.int N3]]
 have B3:(H2++[AO.lst [.int N3]])[10]? = some (.lst (bs.map bv)):=by rw [List.getElem?_append_left (by lia)];exact eB
 obtain ⟨H3,eH3⟩:∃ H3,H3=H2++[AO.lst [.int N3]]:=⟨_,rfl⟩
 rw [<- eH3] at s3' e3 n3 S3 B3
 obtain ⟨H4,cs,f4,ok4,lb4,hT4,eB4,n4,k4⟩:=zdC e3
 rw [n3] at f4 eB4 n4 k4
 have S4:ShelfAt H4 0 []:=S3.keep fun i _ i8=>k4 i (by lia) (by lia)
 have B4:H4[10]? = some (.lst (bs.map bv)):=(k4 10 (by decide) (by lia)).trans B3
 obtain ⟨n,ps5,H5,X,f5,D5,T5,eX⟩:=ze0 S4 .nil B4 (by lia) ok lb hT (by decide)
 have z5:ps5.length<=600000:=Nat.le_trans D5.len (by show 0+600000<=_;lia)
 have C5:H5[12]? = some (.lst (cs.map bv)):=(D5.fr 12 (.inr (by lia))).trans eB4
 obtain ⟨m,ps6,H6,Y,f6,D6,T6,eY⟩:=ze0 D5.sh D5.gd C5 (by lia) ok4 lb4 hT4 (by lia)
 have z6:=D6.len
 have B6:H6[10]? = some (.lst (bs.map bv)):=(D6.fr 10 (.inr (by lia))).trans ((D5.fr 10 (.inr (by lia))).trans B4)
 have C6:H6[12]? = some (.lst (cs.map bv)):=(D6.fr 12 (.inr (by lia))).trans C5
 have n6:H6.length=13:=D6.hl.trans (D5.hl.trans n4)
 have xl:(fB bs).length=X.length:=by rw [<- eX,<- zad]
 have yl:(fB cs).length=Y.length:=by rw [<- eY,<- zad]
 have fx:Fx X Y bs cs:=⟨eX,eY,fun z hz=>(ok z hz).1,fun z hz=>(ok4 z hz).1,lb,lb4,by lia,by lia⟩
 obtain ⟨N7,s7⟩:=zdi ns hl 2 (by decide) H6
 have s7':ybd [.fl (ns.map AV.int),.int 2] H6 = .ok (.ref 13) (H6++[.lst [.int N7]]):=by rw [<- n6];exact s7
 have R7:Rr 13 (H6++[.lst [.int N7]]) ps6:=⟨D6.sh.app _,D6.gd,by lia,N7,by rw [<- n6];simp⟩
 have B7:(H6++[AO.lst [.int N7]])[10]? = some (.lst (bs.map bv)):=by rw [List.getElem?_append_left (by lia)];exact B6
 have C7:(H6++[AO.lst [.int N7]])[12]? = some (.lst (cs.map bv)):=by rw [List.getElem?_append_left (by lia)];exact C6
 obtain ⟨H7,eH7⟩:∃ H7,H7=H6++[AO.lst [.int N7]]:=⟨_,rfl⟩
 rw [<- eH7] at s7' R7 B7 C7
 obtain ⟨H8,qs,f8,F8,hq,lq,lq1⟩:=zeq (.ref B7) R7.ro fx.o1 (by lia) (by lia)
 rw [xl] at hq
 have a8:Al n m X Y bs cs H8 ps6:=⟨R7.fr F8,T5.pre D6.pre,T6,(F8.fr 10 (yaM B7) (by decide)).trans B7,(F8.fr 12 (yaM C7) (by decide)).trans C7⟩
 obtain ⟨sc,esc⟩:∃ sc:Option AV,sc=some (.fl (ns.map AV.int)):=⟨_,rfl⟩
 obtain ⟨H9,ps9,c7,l1,a9,z9⟩:=yhr (sc:=sc) (o7:=none) (o8:=none) (o9:=none) fx a8 hq (by lia)
 obtain ⟨HA,psA,c8,c9,l2,aA,zA⟩:=yhs (sc:=sc) (o7:=c7) (o8:=none) (o9:=none) fx a9 hq lq1 lq (by lia)
 obtain ⟨HB,rB,FB⟩:=zbM aA.s aA.A eX fx.hx (.ref aA.e1) (yfP (by decide)) fx.o1 (by lia)
 have C9:HB[12]? = some (.lst (cs.map bv)):=(FB.fr 12 (yaM aA.e2) (by decide)).trans aA.e2
 obtain ⟨HC,rC,FC⟩:=zbM (aA.s.fr FB) aA.B eY fx.hy (.ref C9) (yfP (by decide)) fx.o2 (by lia)
 have i0:fIx (.fl [.int n,.int m]) (.int 0) HA = .ok (.int n) HA:=rfl
 have i1:fIx (.fl [.int n,.int m]) (.int 1) HB = .ok (.int m) HB:=rfl
 refine ⟨HC,?_⟩
 clear S0 S1 S2 S3 S4 D5 D6 T5 T6 R7 B3 B4 B6 B7 C5 C6 C7 C9 F8 FB FC a8 a9 aA fx s0 s3 s7 eB eB4 e1 e3 ok ok4 hq
 subst esc
 unfold yfh
 generalize sFor (iVal (sCut (sVar 6) none (some (sLit (.int 4))))) (.nm 7) ydq=L1 at *
 generalize sFor (yba (sLit (.int 4))) (.nm 8) ydr=L2 at *
 generalize yeL 0 8 ycL sNil=MK at *
 simp only [e49] at l1 l2
 generalize yda 0=HN at *
 generalize qs.map AV.int=QS at *
 generalize ns.map AV.int=ZN at *
 simp [mk,s0',f2,s3',f4,f5,f6,s7',f8,l1,l2,i0,rB,i1,rC,-fIx]
end Sk
namespace Sk
open PySem PySem.Spec L2 Sm
def top (i:Nat):Stmt:=PySem.Challenge.pw_skeinwood_k49_long_put_in_taken_kept.main.body.getD i (.Pass ⟨0,0,0,0⟩)
abbrev yck:Stmt:=ybo (top 18) 0
abbrev ycW:Stmt:=top 48
abbrev ycy:Stmt:=top 49
abbrev ycl:Stmt:=top 50
abbrev ycz:Stmt:=top 46
abbrev yb4:Stmt:=top 47
abbrev yb5:Stmt:=top 55
abbrev ybV:Stmt:=top 23
abbrev ycX:Stmt:=top 11
abbrev ybp:Stmt:=ybo (top 18) 11
abbrev ybb:Stmt:=ybo (top 18) 12
abbrev ybk:Stmt:=ybo (top 18) 13
abbrev yca:Stmt:=ybo (top 18) 5
abbrev ybq:Stmt:=ybo (top 18) 10
abbrev ybl:Stmt:=ybo (top 18) 9
abbrev ycA:Stmt:=top 24
abbrev ycb:Stmt:=ybo (top 18) 4
abbrev ybm:Stmt:=ybo (top 18) 14
abbrev ycB:Stmt:=ybo (top 18) 17
abbrev ybw:Stmt:=ybo (top 18) 16
abbrev ycm:Stmt:=ybo (top 18) 2
abbrev ycC:Stmt:=top 29
abbrev ybW:Stmt:=ybo (top 18) 8
abbrev ycc:Stmt:=top 26
abbrev ybD:Stmt:=top 30
abbrev ybX:Stmt:=top 27
abbrev yds:Stmt:=top 25
abbrev ybE:Stmt:=top 13
abbrev yct:Stmt:=top 12
abbrev ycY:Stmt:=top 14
abbrev ydd:Stmt:=top 15
abbrev ybx:Stmt:=ybo (top 18) 15
abbrev ycn:Stmt:=ybo (top 18) 1
abbrev ydt:Stmt:=top 28
abbrev ydu:Stmt:=top 20
abbrev yde:Stmt:=top 32
abbrev ycZ:Stmt:=top 22
abbrev ydv:Stmt:=top 31
abbrev ydw:Stmt:=top 21
abbrev yc0:Stmt:=top 52
abbrev ycg:Stmt:=top 51
abbrev ybF:Stmt:=top 35
abbrev ybG:Stmt:=top 44
abbrev yco:Stmt:=top 43
abbrev yc1:Stmt:=top 53
abbrev ybK:Stmt:=top 54
abbrev ycD:Stmt:=top 56
abbrev ycp:Stmt:=ybo (top 18) 3
abbrev ycE:Stmt:=top 34
abbrev yc2:Stmt:=top 40
abbrev ydf:Stmt:=top 41
abbrev ydx:Stmt:=top 37
abbrev ydg:Stmt:=top 57
abbrev ybH:Stmt:=top 58
abbrev ycF:Stmt:=top 38
abbrev ycG:Stmt:=top 39
abbrev ybc:Stmt:=top 59
abbrev yd1:Stmt:=top 60
def flds:Nat->List Str
 | 0=>["pieces", "numbers", "sign_counts", "end_counts", "leaf_counts", "heights", "first_leaves", "last_leaves"]
 | _=>[]
theorem zjA:∀ c,(flds c).Nodup
 | 0=>by decide +kernel
 | _+1=>List.nodup_nil
theorem zin:∀ c,(flds c).length<=500
 | 0=>by decide +kernel
 | _+1=>Nat.zero_le _
abbrev mkT (K:PySem.W.Frag) (cls exc:Nat->Option Addr):Tb:=⟨K,cls,exc,flds,zjA,zin⟩
structure Facts (P:Program) (w:World) (K:PySem.W.Frag) (cls exc:Nat->Option Addr) (mg:Str->Option Value) (base:Heap):Prop where
 b_abs:mg "abs" = none
 b_all:mg "all" = none
 b_bool:mg "bool" = none
 b_int:mg "int" = none
 b_isinstance:mg "isinstance" = none
 b_len:mg "len" = none
 b_max:mg "max" = none
 b_min:mg "min" = none
 b_range:mg "range" = none
 b_str:mg "str" = none
 b_sum:mg "sum" = none
 c_LEAF_SIGNS:∃ t,mg "LEAF_SIGNS" = some (.int 8 t)
 c_MOST_PLAIN:∃ t,mg "MOST_PLAIN" = some (.int 10000 t)
 c_MOST_SIGNS:∃ t,mg "MOST_SIGNS" = some (.int 1000000000000000000 t)
 cf_Shelf:CF (mkT K cls exc) 0
 x_NoText:GX (mkT K cls exc) mg base 1 "NoText"
 x_NoPiece:GX (mkT K cls exc) mg base 2 "NoPiece"
 x_Loose:GX (mkT K cls exc) mg base 3 "Loose"
 x_Unlevel:GX (mkT K cls exc) mg base 4 "Unlevel"
 x_TooLong:GX (mkT K cls exc) mg base 5 "TooLong"
 x_NoPlace:GX (mkT K cls exc) mg base 6 "NoPlace"
 ct_TooLong:∃ C,mg "TooLong" = some (.ref C)/\∀ c C',ydH c=true->exc c=some C'->PySem.W.exmOne K (.ref C') (.ref C)=some true
 d_Shelf_init:∃ C f fd,cls 0=some C/\mg "Shelf" = some (.ref C)/\Mk K C f/\Binds K fd ["self"] []/\Fun K "__init__" "Shelf.__init__" yck f fd
 d_law_take:DG K mg "_law_take" ycW ["stream", "many"]
 d_law_plain:DG K mg "_law_plain" ycy ["stream", "most"]
 d_law_blocks:DG K mg "_law_blocks" ycl ["stream"]
 d_law_mixed:DG K mg "_law_mixed" ycz ["cell", "k"]
 d_law_stream:DG K mg "_law_stream" yb4 ["script", "k"]
 d_law_places:DG K mg "_law_places" yb5 ["blocks", "stream"]
 d_check_length:DG K mg "check_length" ybV ["signs"]
 d_is_whole:DG K mg "is_whole" ycX ["thing"]
 d_Shelf_has_piece:∃ C f fd,cls 0=some C/\Cls K C/\Meth K C "has_piece" f/\Binds K fd ["self", "number"] []/\Fun K "has_piece" "Shelf.has_piece" ybp f fd
 d_Shelf_check_piece:∃ C f fd,cls 0=some C/\Cls K C/\Meth K C "check_piece" f/\Binds K fd ["self", "number"] []/\Fun K "check_piece" "Shelf.check_piece" ybb f fd
 d_Shelf_check_text:∃ C f fd,cls 0=some C/\Cls K C/\Meth K C "check_text" f/\Binds K fd ["self", "text"] []/\Fun K "check_text" "Shelf.check_text" ybk f fd
 d_Shelf_signs:∃ C f fd,cls 0=some C/\Cls K C/\Meth K C "signs" f/\Binds K fd ["self", "text"] []/\Fun K "signs" "Shelf.signs" yca f fd
 d_Shelf_last_leaf:∃ C f fd,cls 0=some C/\Cls K C/\Meth K C "last_leaf" f/\Binds K fd ["self", "text"] []/\Fun K "last_leaf" "Shelf.last_leaf" ybq f fd
 d_Shelf_first_leaf:∃ C f fd,cls 0=some C/\Cls K C/\Meth K C "first_leaf" f/\Binds K fd ["self", "text"] []/\Fun K "first_leaf" "Shelf.first_leaf" ybl f fd
 d_are_close:DG K mg "are_close" ycA ["shelf", "one", "other"]
 d_Shelf_piece:∃ C f fd,cls 0=some C/\Cls K C/\Meth K C "piece" f/\Binds K fd ["self", "number"] []/\Fun K "piece" "Shelf.piece" ycb f fd
 d_Shelf_check_fork:∃ C f fd,cls 0=some C/\Cls K C/\Meth K C "check_fork" f/\Binds K fd ["self", "one", "other"] []/\Fun K "check_fork" "Shelf.check_fork" ybm f fd
 d_Shelf_lay:∃ C f fd,cls 0=some C/\Cls K C/\Meth K C "lay" f/\Binds K fd ["self", "made"] []/\Fun K "lay" "Shelf.lay" ycB f fd
 d_Shelf_lay_fork:∃ C f fd,cls 0=some C/\Cls K C/\Meth K C "lay_fork" f/\Binds K fd ["self", "made"] []/\Fun K "lay_fork" "Shelf.lay_fork" ybw f fd
 d_Shelf_fork:∃ C f fd,cls 0=some C/\Cls K C/\Meth K C "fork" f/\Binds K fd ["self", "one", "other"] []/\Fun K "fork" "Shelf.fork" ycm f fd
 d_with_last:DG K mg "with_last" ycC ["shelf", "text", "leaf"]
 d_Shelf_height:∃ C f fd,cls 0=some C/\Cls K C/\Meth K C "height" f/\Binds K fd ["self", "text"] []/\Fun K "height" "Shelf.height" ybW f fd
 d_turned_left:DG K mg "turned_left" ycc ["shelf", "one", "other"]
 d_without_first:DG K mg "without_first" ybD ["shelf", "text"]
 d_turned_right:DG K mg "turned_right" ybX ["shelf", "one", "other"]
 d_linked:DG K mg "linked" yds ["shelf", "one", "other"]
 d_is_plain_sign:DG K mg "is_plain_sign" ybE ["sign"]
 d_is_plain:DG K mg "is_plain" yct ["thing"]
 d_is_short:DG K mg "is_short" ycY ["thing"]
 d_ends_in:DG K mg "ends_in" ydd ["plain"]
 d_Shelf_lay_leaf:∃ C f fd,cls 0=some C/\Cls K C/\Meth K C "lay_leaf" f/\Binds K fd ["self", "made"] []/\Fun K "lay_leaf" "Shelf.lay_leaf" ybx f fd
 d_Shelf_leaf:∃ C f fd,cls 0=some C/\Cls K C/\Meth K C "leaf" f/\Binds K fd ["self", "plain"] []/\Fun K "leaf" "Shelf.leaf" ycn f fd
 d_welded:DG K mg "welded" ydt ["shelf", "one", "other"]
 d_joined:DG K mg "joined" ydu ["shelf", "one", "other"]
 d_doubled:DG K mg "doubled" yde ["shelf", "text", "many"]
 d_repeated:DG K mg "repeated" ycZ ["shelf", "text", "many"]
 d_halved:DG K mg "halved" ydv ["shelf", "leaves"]
 d_built:DG K mg "built" ydw ["shelf", "plain"]
 d_law_long:DG K mg "_law_long" yc0 ["shelf", "blocks"]
 d_law_signs:DG K mg "_law_signs" ycg ["blocks"]
 d_check_stretch:DG K mg "check_stretch" ybF ["shelf", "text", "begin", "end"]
 d_signs_between:DG K mg "signs_between" ybG ["shelf", "text", "begin", "end"]
 d_stretch_of:DG K mg "stretch_of" yco ["shelf", "text", "begin", "end"]
 d_law_part:DG K mg "_law_part" yc1 ["blocks", "begin", "end"]
 d_law_stretch:DG K mg "_law_stretch" ybK ["blocks", "begin", "end"]
 d_law_reads:DG K mg "_law_reads" ycD ["shelf", "text", "blocks", "stream"]
 d_Shelf_many:∃ C f fd,cls 0=some C/\Cls K C/\Meth K C "many" f/\Binds K fd ["self"] []/\Fun K "many" "Shelf.many" ycp f fd
 d_check_gap:DG K mg "check_gap" ycE ["shelf", "text", "at"]
 d_front_of:DG K mg "front_of" yc2 ["shelf", "text", "at"]
 d_back_of:DG K mg "back_of" ydf ["shelf", "text", "at"]
 d_put_in:DG K mg "put_in" ydx ["shelf", "text", "at", "other"]
 d_law_put:DG K mg "_law_put" ydg ["shelf", "text", "place", "other"]
 d_law_put_right:DG K mg "_law_put_right" ybH ["shelf", "texts", "blocks", "other", "place", "stream"]
 d_taken_out:DG K mg "taken_out" ycF ["shelf", "text", "begin", "end"]
 d_kept_part:DG K mg "kept_part" ycG ["shelf", "text", "begin", "end"]
 d_law_stretch_right:DG K mg "_law_stretch_right" ybc ["shelf", "text", "blocks", "begin", "end", "stream"]
 d_law:DG K mg "law" yd1 ["script"]
theorem zeu:FnScope ["self"] ["self"] (yad yck):=⟨rfl,rfl,rfl,by decide +kernel,rfl,by decide +kernel,by decide +kernel⟩
theorem ze1 {P:Program} {w:World} {K:PySem.W.Frag} {cls exc:Nat->Option Addr} {mg:Str->Option Value} {base:Heap} (Z:Facts P w K cls exc mg base):GK P w (mkT K cls exc) mg base 1 0 "Shelf" ycL:=by
 obtain ⟨C0,f,fd,h0,h1,h2,h3,h4⟩:=Z.d_Shelf_init
 refine ⟨C0,f,fd,_,h0,h1,h2,h3,okA h4 rfl zeu fun cdv A outer s H E hr C=>?_⟩
 have hu:=hu64 hr
 exact (zab (zaV rfl Z.cf_Shelf (yaa 0) (ybN yac))
  (zab (zaV rfl Z.cf_Shelf (yaa 0) ziY)
  (zab (zaV rfl Z.cf_Shelf (yaa 0) (ybN (zaa yae yac)))
  (zab (zaV rfl Z.cf_Shelf (yaa 0) (ybN (zaa yae yac)))
  (zab (zaV rfl Z.cf_Shelf (yaa 0) (ybN (zaa yae yac)))
  (zab (zaV rfl Z.cf_Shelf (yaa 0) (ybN (zaa (ydK yae) yac)))
  (zab (zaV rfl Z.cf_Shelf (yaa 0) (ybN (zaa yae yac)))
  (yag (zaV rfl Z.cf_Shelf (yaa 0) (ybN (zaa yae yac)))))))))))
theorem zc0:FnScope ["stream", "many", "digit"] ["stream", "many"] (yad ycW):=⟨rfl,rfl,rfl,by decide +kernel,rfl,by decide +kernel,by decide +kernel⟩
theorem zaE {P:Program} {w:World} {K:PySem.W.Frag} {cls exc:Nat->Option Addr} {mg:Str->Option Value} {base:Heap} (Z:Facts P w K cls exc mg base):GF P w (mkT K cls exc) mg base 1 "_law_take" yay:=by
 obtain ⟨f,fd,h1,h2,h3,h4⟩:=Z.d_law_take
 refine ⟨f,fd,_,h1,h2,h3,okA h4 rfl zc0 fun cdv A outer s H E hr C=>?_⟩
 have hu:=hu64 hr
 exact (zab (yak (i:=2) zc0.nd (yaj ydW (r_ix rfl hu (yaa 0) yae) (yaa 1)))
  (zab (zfL hu (yaa 0) yae (yaj yej (r_ix rfl hu (yaa 0) yae) (yaa 1)))
  (yag (yap (yaa 2)))))
theorem zaH:FnScope ["stream", "most", "letters", "wide", "signs", "plain", "k"] ["stream", "most"] (yad ycy):=⟨rfl,rfl,rfl,by decide +kernel,rfl,by decide +kernel,by decide +kernel⟩
theorem zfh {P:Program} {w:World} {K:PySem.W.Frag} {cls exc:Nat->Option Addr} {mg:Str->Option Value} {base:Heap} (Z:Facts P w K cls exc mg base):GF P w (mkT K cls exc) mg base 2 "_law_plain" yc3:=by
 obtain ⟨f,fd,h1,h2,h3,h4⟩:=Z.d_law_plain
 refine ⟨f,fd,_,h1,h2,h3,okA h4 rfl zaH fun cdv A outer s H E hr C=>?_⟩
 have hu:=hu64 hr
 exact (zab (yak (i:=2) zaH.nd yaX)
  (zab (yak (i:=3) zaH.nd (yaj (yaR rfl) (yaj (yaR rfl) (yaa 2) (yf2 rfl PySem.F.plainAttrs_str PySem.F.slot_str_upper PySem.F.type_str_upper (zi9) zcL (yaa 2))) yaX))
  (zab (yak (i:=4) zaH.nd (r_ix rfl hu (yeN (zaa yaX (zaa yaX (zaa yaX (zaa yaX (zaa (yaa 3) yac)))))) (yai rfl C (zaE Z) (hr.mono (show 1<=1 by decide)) rfl (zaa (yaa 0) (zaa yae yac)))))
  (zab (yak (i:=5) zaH.nd yaX)
  (zab (yc7 rfl (za9 (E:=EN) rfl Z.b_range (yai rfl (C.nox) (zaE Z) (hr.mono (show 1<=1 by decide)) rfl (zaa (yaa 0) (zaa (yaj (yaR rfl) (yaa 1) yae) yac)))) (za0 (i:=6) zaH.nd) (yag (yak (i:=5) zaH.nd (yaj (yaR rfl) (yaa 5) (r_ix rfl hu (yaa 4) (yai rfl (C.nox) (zaE Z) (hr.mono (show 1<=1 by decide)) rfl (zaa (yaa 0) (zaa (r_bi (b_len rfl) rfl Z.b_len PySem.boot_len (zaa (yaa 4) yac)) yac))))))))
  (yag (yap (yaa 5))))))))
theorem zaz:FnScope ["stream", "blocks", "left", "k", "plain", "most", "many"] ["stream"] (yad ycl):=⟨rfl,rfl,rfl,by decide +kernel,rfl,by decide +kernel,by decide +kernel⟩
theorem zcy {P:Program} {w:World} {K:PySem.W.Frag} {cls exc:Nat->Option Addr} {mg:Str->Option Value} {base:Heap} (Z:Facts P w K cls exc mg base):GF P w (mkT K cls exc) mg base 3 "_law_blocks" ycM:=by
 obtain ⟨f,fd,h1,h2,h3,h4⟩:=Z.d_law_blocks
 refine ⟨f,fd,_,h1,h2,h3,okA h4 rfl zaz fun cdv A outer s H E hr C=>?_⟩
 have hu:=hu64 hr
 exact (zab (yak (i:=1) zaz.nd (ybN yac))
  (zab (yak (i:=2) zaz.nd (yaj ydA yae yae))
  (zab (yc7 rfl (za9 (E:=EN) rfl Z.b_range (yaj (yaR rfl) yae (yai rfl (C.nox) (zaE Z) (hr.mono (show 1<=2 by decide)) rfl (zaa (yaa 0) (zaa yae yac))))) (za0 (i:=3) zaz.nd) (zab (yak (i:=4) zaz.nd (yaj (yaR rfl) (yai rfl (C.nox) (zfh Z) (hr.mono (show 2<=2 by decide)) rfl (zaa (yaa 0) (zaa yae yac))) yaX))
  (zab (yak (i:=5) zaz.nd (yaj yej (yaa 2) (r_bi (b_len rfl) rfl Z.b_len PySem.boot_len (zaa (yaa 4) yac))))
  (zab (yak (i:=6) zaz.nd (yai rfl (C.nox) (zaE Z) (hr.mono (show 1<=2 by decide)) rfl (zaa (yaa 0) (zaa (yaj (yaR rfl) (r_bi (ye0) rfl Z.b_min PyProof.Rows.boot_min (zaa (yaa 5) (zaa (r_ix rfl hu (yeN (zaa yae (zaa yae (zaa yae (zaa (yaj ydA yae yae) (zaa (yaj ydA yae yae) yac)))))) (yai rfl (C.nox) (zaE Z) (hr.mono (show 1<=2 by decide)) rfl (zaa (yaa 0) (zaa yae yac)))) yac))) yae) yac))))
  (zab (r_if (yax o_gt (yaa 6) yae (yau _)) (yag (yaF (r_bm rfl PySem.F.plainAttrs_list PySem.F.slot_list_append PySem.F.type_list_append (zam) zao (yaa 1) (zaa (ydB (zaa (yaa 4) (zaa (yaa 6) yac))) yac)))) yar)
  (yag (yak (i:=2) zaz.nd (yaj ybf (yaa 2) (yaj yb7 (yaa 6) (r_bi (b_len rfl) rfl Z.b_len PySem.boot_len (zaa (yaa 4) yac)))))))))))
  (yag (yap (yaa 1))))))
theorem zcz:FnScope ["cell", "k", "one"] ["cell", "k"] (yad ycz):=⟨rfl,rfl,rfl,by decide +kernel,rfl,by decide +kernel,by decide +kernel⟩
theorem zfi {P:Program} {w:World} {K:PySem.W.Frag} {cls exc:Nat->Option Addr} {mg:Str->Option Value} {base:Heap} (Z:Facts P w K cls exc mg base):GF P w (mkT K cls exc) mg base 1 "_law_mixed" ydD:=by
 obtain ⟨f,fd,h1,h2,h3,h4⟩:=Z.d_law_mixed
 refine ⟨f,fd,_,h1,h2,h3,okA h4 rfl zcz fun cdv A outer s H E hr C=>?_⟩
 have hu:=hu64 hr
 exact (zab (yak (i:=2) zcz.nd (yaj ydW (yaj yb7 (yaj (yaR rfl) (yaj (yaR rfl) (yaj ydW (yaa 0) yae) (yaj yb7 yae (yaa 1))) yae) yae) yae))
  (yag (yap (yaj ydW (yaj yb7 (yaj ydW (yaj yb7 (yaa 2) (yaa 2)) yae) yae) yae))))
theorem zaA:FnScope ["script", "k", "cell", "j", "found"] ["script", "k"] (yad yb4):=⟨rfl,rfl,rfl,by decide +kernel,rfl,by decide +kernel,by decide +kernel⟩
theorem zbN {P:Program} {w:World} {K:PySem.W.Frag} {cls exc:Nat->Option Addr} {mg:Str->Option Value} {base:Heap} (Z:Facts P w K cls exc mg base):GF P w (mkT K cls exc) mg base 2 "_law_stream" ybd:=by
 obtain ⟨f,fd,h1,h2,h3,h4⟩:=Z.d_law_stream
 refine ⟨f,fd,_,h1,h2,h3,okA h4 rfl zaA fun cdv A outer s H E hr C=>?_⟩
 have hu:=hu64 hr
 exact (zab (yak (i:=2) zaA.nd yae)
  (zab (yc7 rfl (zeg (E:=EN) rfl Z.b_range (yaa 1) (r_bi (b_len rfl) rfl Z.b_len PySem.boot_len (zaa (yaa 0) yac)) yae) (za0 (i:=3) zaA.nd) (yag (yak (i:=2) zaA.nd (yaj (yaR rfl) (yaj yb7 (yaa 2) (yaj yb7 (yaj ydA yae yae) (yaj ydA yae yae))) (yaj ydW (r_ix rfl hu (yaa 0) (yaa 3)) (yaj yb7 (yaj ydA yae yae) (yaj ydA yae yae)))))))
  (zab (r_if (yax o_ge (yaa 2) (yaj ydA yae yae) (yau _)) (yag (yap (ybN (zaa (yaa 2) yac)))) yar)
  (zab (yak (i:=2) zaA.nd (yaj (yaR rfl) (yaa 2) (r_bi (b_sum rfl) rfl Z.b_sum PyProof.Rows.boot_sum (zaa (yeY (jf:=[]) (zba (N:=["script", "k", "cell", "j", "found"]) (sc:=yad yb4) rfl (fun _=>rfl) (by decide +kernel)) rfl (yd5 (E:=(fun _=>E)) rfl (yaa 0)) (fun _ _ _ _ _=>zbE) (fun _ _ _ _ _=>(yaj ydW (yaa 0) (yaj ydA yae yae)))) yac))))
  (zab (yak (i:=4) zaA.nd yae)
  (zab (yc7 rfl (za9 (E:=EN) rfl Z.b_range yae) (za0 (i:=3) zaA.nd) (yag (yak (i:=4) zaA.nd (yaj (yaR rfl) (yaj yb7 (yaa 4) yae) (yai rfl (C.nox) (zfi Z) (hr.mono (show 1<=1 by decide)) rfl (zaa (yaj (yaR rfl) (yaj (yaR rfl) (yaa 2) (yaj yb7 yae (yaa 1))) (r_bi (b_len rfl) rfl Z.b_len PySem.boot_len (zaa (yaa 0) yac))) (zaa (yaa 3) yac)))))))
  (yag (yap (ybN (zaa (yaa 4) yac))))))))))
theorem zaF:FnScope ["blocks", "stream", "ends", "plain", "many", "places", "end", "k"] ["blocks", "stream"] (yad yb5):=⟨rfl,rfl,rfl,by decide +kernel,rfl,by decide +kernel,by decide +kernel⟩
theorem zcA {P:Program} {w:World} {K:PySem.W.Frag} {cls exc:Nat->Option Addr} {mg:Str->Option Value} {base:Heap} (Z:Facts P w K cls exc mg base):GF P w (mkT K cls exc) mg base 2 "_law_places" ybZ:=by
 obtain ⟨f,fd,h1,h2,h3,h4⟩:=Z.d_law_places
 refine ⟨f,fd,_,h1,h2,h3,okA h4 rfl zaF fun cdv A outer s H E hr C=>?_⟩
 have hu:=hu64 hr
 exact (zab (yak (i:=2) zaF.nd (ybN (zaa yae yac)))
  (zab (yc7 rfl (zbY (E:=EN) rfl (yaa 0)) (yeX rfl rfl (zbp (i:=3) zaF.nd (zbp (i:=4) zaF.nd zdP))) (yag (yaF (r_bm rfl PySem.F.plainAttrs_list PySem.F.slot_list_append PySem.F.type_list_append (zam) zao (yaa 2) (zaa (yaj (yaR rfl) (r_ix rfl hu (yaa 2) (ydK yae)) (yaj yb7 (r_bi (b_len rfl) rfl Z.b_len PySem.boot_len (zaa (yaa 3) yac)) (yaa 4))) yac)))))
  (zab (yak (i:=5) zaF.nd (ybN yac))
  (zab (yc7 rfl (yd5 (E:=EN) rfl (yaa 2)) (za0 (i:=6) zaF.nd) (yag (yaF (r_bm rfl PySem.F.plainAttrs_list PySem.F.slot_list_extend PySem.F.type_list_extend (ygU) zao (yaa 5) (zaa (ybN (zaa (yaa 6) (zaa (yaj ybf (yaa 6) yae) (zaa (yaj (yaR rfl) (yaa 6) yae) (zaa (yaj ybf (yaa 6) (yai rfl (C.nox) (zaE Z) (hr.mono (show 1<=1 by decide)) rfl (zaa (yaa 1) (zaa yae yac)))) (zaa (yaj (yaR rfl) (yaa 6) (yai rfl (C.nox) (zaE Z) (hr.mono (show 1<=1 by decide)) rfl (zaa (yaa 1) (zaa yae yac)))) yac)))))) yac)))))
  (zab (yc7 rfl (za9 (E:=EN) rfl Z.b_range yae) (za0 (i:=7) zaF.nd) (yag (yaF (r_bm rfl PySem.F.plainAttrs_list PySem.F.slot_list_append PySem.F.type_list_append (zam) zao (yaa 5) (zaa (yai rfl (C.nox) (zaE Z) (hr.mono (show 1<=1 by decide)) rfl (zaa (yaa 1) (zaa (yaj (yaR rfl) (r_ix rfl hu (yaa 2) (ydK yae)) yae) yac))) yac)))))
  (yag (yap (yeY (jf:=[(2, "ends")]) (zba (N:=["blocks", "stream", "ends", "plain", "many", "places", "end", "k"]) (sc:=yad yb5) rfl (fun _=>rfl) (by decide +kernel)) rfl (yd5 (E:=(fun _=>E)) rfl (yaa 5)) (fun _ _ _ _ _=>zi3 (zeJ o_le o_le yae (yaa 0) (r_ix rfl hu (yaa 1) (ydK yae)))) (fun _ _ _ _ _=>(yaa 0))))))))))
theorem zdD:FnScope ["signs"] ["signs"] (yad ybV):=⟨rfl,rfl,rfl,by decide +kernel,rfl,by decide +kernel,by decide +kernel⟩
theorem zbr {P:Program} {w:World} {K:PySem.W.Frag} {cls exc:Nat->Option Addr} {mg:Str->Option Value} {base:Heap} (Z:Facts P w K cls exc mg base):GF P w (mkT K cls exc) mg base 1 "check_length" ybj:=by
 obtain ⟨f,fd,h1,h2,h3,h4⟩:=Z.d_check_length
 refine ⟨f,fd,_,h1,h2,h3,okA h4 rfl zdD fun cdv A outer s H E hr C=>?_⟩
 have hu:=hu64 hr
 exact (yag (r_if (yax o_gt (yaa 0) (r_gI rfl Z.c_MOST_SIGNS) (yau _)) (yag (zaL Z.x_TooLong zaK rfl (zaa yaX yac))) yar))
theorem zfj:FnScope ["thing"] ["thing"] (yad ycX):=⟨rfl,rfl,rfl,by decide +kernel,rfl,by decide +kernel,by decide +kernel⟩
theorem zgA {P:Program} {w:World} {K:PySem.W.Frag} {cls exc:Nat->Option Addr} {mg:Str->Option Value} {base:Heap} (Z:Facts P w K cls exc mg base):GF P w (mkT K cls exc) mg base 1 "is_whole" ydL:=by
 obtain ⟨f,fd,h1,h2,h3,h4⟩:=Z.d_is_whole
 refine ⟨f,fd,_,h1,h2,h3,okA h4 rfl zfj fun cdv A outer s H E hr C=>?_⟩
 have hu:=hu64 hr
 exact (yag (yap (yex (yfd rfl rfl Z.b_isinstance (yaa 0) rfl Z.b_int ygI (by decide)) (yek (yhX (yfd rfl rfl Z.b_isinstance (yaa 0) rfl Z.b_bool ziQ (by decide)))))))
theorem zcB:FnScope ["self", "number"] ["self", "number"] (yad ybp):=⟨rfl,rfl,rfl,by decide +kernel,rfl,by decide +kernel,by decide +kernel⟩
theorem zcS {P:Program} {w:World} {K:PySem.W.Frag} {cls exc:Nat->Option Addr} {mg:Str->Option Value} {base:Heap} (Z:Facts P w K cls exc mg base):GM P w (mkT K cls exc) mg base 2 0 "has_piece" ych:=by
 obtain ⟨C0,f,fd,h0,hc,h1,h3,h4⟩:=Z.d_Shelf_has_piece
 refine ⟨⟨C0,f,fd,_,h0,hc,h1,h3,okA h4 rfl zcB fun cdv A outer s H E hr C=>?_⟩,(show ("has_piece" : Str)∉flds 0 from by decide +kernel)⟩
 have hu:=hu64 hr
 exact (yag (yap (yex (yai rfl C (zgA Z) (hr.mono (show 1<=1 by decide)) rfl (zaa (yaa 1) yac)) (yek (zdO o_le o_le yae (yaa 1) (r_bi (b_len rfl) rfl Z.b_len PySem.boot_len (zaa (yaP rfl Z.cf_Shelf (yaa 0)) yac)))))))
theorem zcg:FnScope ["self", "number"] ["self", "number"] (yad ybb):=⟨rfl,rfl,rfl,by decide +kernel,rfl,by decide +kernel,by decide +kernel⟩
theorem zaJ {P:Program} {w:World} {K:PySem.W.Frag} {cls exc:Nat->Option Addr} {mg:Str->Option Value} {base:Heap} (Z:Facts P w K cls exc mg base):GM P w (mkT K cls exc) mg base 3 0 "check_piece" ya4:=by
 obtain ⟨C0,f,fd,h0,hc,h1,h3,h4⟩:=Z.d_Shelf_check_piece
 refine ⟨⟨C0,f,fd,_,h0,hc,h1,h3,okA h4 rfl zcg fun cdv A outer s H E hr C=>?_⟩,(show ("check_piece" : Str)∉flds 0 from by decide +kernel)⟩
 have hu:=hu64 hr
 exact (yag (r_if (ydi (zaU rfl (yal rfl C (zcS Z) (hr.mono (show 2<=2 by decide)) (yaa 0) (zaa (yaa 1) yac)))) (yag (zaL Z.x_NoPiece zaK rfl (zaa yaX yac))) yar))
theorem zcl:FnScope ["self", "text"] ["self", "text"] (yad ybk):=⟨rfl,rfl,rfl,by decide +kernel,rfl,by decide +kernel,by decide +kernel⟩
theorem zaN {P:Program} {w:World} {K:PySem.W.Frag} {cls exc:Nat->Option Addr} {mg:Str->Option Value} {base:Heap} (Z:Facts P w K cls exc mg base):GM P w (mkT K cls exc) mg base 4 0 "check_text" ya0:=by
 obtain ⟨C0,f,fd,h0,hc,h1,h3,h4⟩:=Z.d_Shelf_check_text
 refine ⟨⟨C0,f,fd,_,h0,hc,h1,h3,okA h4 rfl zcl fun cdv A outer s H E hr C=>?_⟩,(show ("check_text" : Str)∉flds 0 from by decide +kernel)⟩
 have hu:=hu64 hr
 exact (yag (r_if (yax (o_ne rfl hu) (yaa 1) yae (yau _)) (yag (yaF (yal rfl C (zaJ Z) (hr.mono (show 3<=3 by decide)) (yaa 0) (zaa (yaa 1) yac)))) yar))
theorem zd1:FnScope ["self", "text"] ["self", "text"] (yad yca):=⟨rfl,rfl,rfl,by decide +kernel,rfl,by decide +kernel,by decide +kernel⟩
theorem zah {P:Program} {w:World} {K:PySem.W.Frag} {cls exc:Nat->Option Addr} {mg:Str->Option Value} {base:Heap} (Z:Facts P w K cls exc mg base):GM P w (mkT K cls exc) mg base 5 0 "signs" yaz:=by
 obtain ⟨C0,f,fd,h0,hc,h1,h3,h4⟩:=Z.d_Shelf_signs
 refine ⟨⟨C0,f,fd,_,h0,hc,h1,h3,okA h4 rfl zd1 fun cdv A outer s H E hr C=>?_⟩,(show ("signs" : Str)∉flds 0 from by decide +kernel)⟩
 have hu:=hu64 hr
 exact (zab (yaF (yal rfl C (zaN Z) (hr.mono (show 4<=4 by decide)) (yaa 0) (zaa (yaa 1) yac)))
  (yag (yap (r_ix rfl hu (yaP rfl Z.cf_Shelf (yaa 0)) (yaa 1)))))
theorem zcC:FnScope ["self", "text"] ["self", "text"] (yad ybq):=⟨rfl,rfl,rfl,by decide +kernel,rfl,by decide +kernel,by decide +kernel⟩
theorem zbA {P:Program} {w:World} {K:PySem.W.Frag} {cls exc:Nat->Option Addr} {mg:Str->Option Value} {base:Heap} (Z:Facts P w K cls exc mg base):GM P w (mkT K cls exc) mg base 5 0 "last_leaf" ybO:=by
 obtain ⟨C0,f,fd,h0,hc,h1,h3,h4⟩:=Z.d_Shelf_last_leaf
 refine ⟨⟨C0,f,fd,_,h0,hc,h1,h3,okA h4 rfl zcC fun cdv A outer s H E hr C=>?_⟩,(show ("last_leaf" : Str)∉flds 0 from by decide +kernel)⟩
 have hu:=hu64 hr
 exact (zab (yaF (yal rfl C (zaN Z) (hr.mono (show 4<=4 by decide)) (yaa 0) (zaa (yaa 1) yac)))
  (yag (yap (r_ix rfl hu (yaP rfl Z.cf_Shelf (yaa 0)) (yaa 1)))))
theorem zcm:FnScope ["self", "text"] ["self", "text"] (yad ybl):=⟨rfl,rfl,rfl,by decide +kernel,rfl,by decide +kernel,by decide +kernel⟩
theorem zbx {P:Program} {w:World} {K:PySem.W.Frag} {cls exc:Nat->Option Addr} {mg:Str->Option Value} {base:Heap} (Z:Facts P w K cls exc mg base):GM P w (mkT K cls exc) mg base 5 0 "first_leaf" ybA:=by
 obtain ⟨C0,f,fd,h0,hc,h1,h3,h4⟩:=Z.d_Shelf_first_leaf
 refine ⟨⟨C0,f,fd,_,h0,hc,h1,h3,okA h4 rfl zcm fun cdv A outer s H E hr C=>?_⟩,(show ("first_leaf" : Str)∉flds 0 from by decide +kernel)⟩
 have hu:=hu64 hr
 exact (zab (yaF (yal rfl C (zaN Z) (hr.mono (show 4<=4 by decide)) (yaa 0) (zaa (yaa 1) yac)))
  (yag (yap (r_ix rfl hu (yaP rfl Z.cf_Shelf (yaa 0)) (yaa 1)))))
theorem ze2:FnScope ["shelf", "one", "other"] ["shelf", "one", "other"] (yad ycA):=⟨rfl,rfl,rfl,by decide +kernel,rfl,by decide +kernel,by decide +kernel⟩
theorem zfk {P:Program} {w:World} {K:PySem.W.Frag} {cls exc:Nat->Option Addr} {mg:Str->Option Value} {base:Heap} (Z:Facts P w K cls exc mg base):GF P w (mkT K cls exc) mg base 6 "are_close" ydE:=by
 obtain ⟨f,fd,h1,h2,h3,h4⟩:=Z.d_are_close
 refine ⟨f,fd,_,h1,h2,h3,okA h4 rfl ze2 fun cdv A outer s H E hr C=>?_⟩
 have hu:=hu64 hr
 exact (yag (yap (yeM o_gt (yaj (yaR rfl) (yal rfl C (zah Z) (hr.mono (show 5<=5 by decide)) (yaa 0) (zaa (yal rfl C (zbA Z) (hr.mono (show 5<=5 by decide)) (yaa 0) (zaa (yaa 1) yac)) yac)) (yal rfl C (zah Z) (hr.mono (show 5<=5 by decide)) (yaa 0) (zaa (yal rfl C (zbx Z) (hr.mono (show 5<=5 by decide)) (yaa 0) (zaa (yaa 2) yac)) yac))) (r_gI rfl Z.c_LEAF_SIGNS) (yau _))))
theorem zd2:FnScope ["self", "number"] ["self", "number"] (yad ycb):=⟨rfl,rfl,rfl,by decide +kernel,rfl,by decide +kernel,by decide +kernel⟩
theorem zaq {P:Program} {w:World} {K:PySem.W.Frag} {cls exc:Nat->Option Addr} {mg:Str->Option Value} {base:Heap} (Z:Facts P w K cls exc mg base):GM P w (mkT K cls exc) mg base 4 0 "piece" yaG:=by
 obtain ⟨C0,f,fd,h0,hc,h1,h3,h4⟩:=Z.d_Shelf_piece
 refine ⟨⟨C0,f,fd,_,h0,hc,h1,h3,okA h4 rfl zd2 fun cdv A outer s H E hr C=>?_⟩,(show ("piece" : Str)∉flds 0 from by decide +kernel)⟩
 have hu:=hu64 hr
 exact (zab (yaF (yal rfl C (zaJ Z) (hr.mono (show 3<=3 by decide)) (yaa 0) (zaa (yaa 1) yac)))
  (yag (yap (r_ix rfl hu (yaP rfl Z.cf_Shelf (yaa 0)) (yaj ybf (yaa 1) yae)))))
theorem zbn:FnScope ["self", "one", "other", "seam"] ["self", "one", "other"] (yad ybm):=⟨rfl,rfl,rfl,by decide +kernel,rfl,by decide +kernel,by decide +kernel⟩
theorem zcD {P:Program} {w:World} {K:PySem.W.Frag} {cls exc:Nat->Option Addr} {mg:Str->Option Value} {base:Heap} (Z:Facts P w K cls exc mg base):GM P w (mkT K cls exc) mg base 4 0 "check_fork" ya1:=by
 obtain ⟨C0,f,fd,h0,hc,h1,h3,h4⟩:=Z.d_Shelf_check_fork
 refine ⟨⟨C0,f,fd,_,h0,hc,h1,h3,okA h4 rfl zbn fun cdv A outer s H E hr C=>?_⟩,(show ("check_fork" : Str)∉flds 0 from by decide +kernel)⟩
 have hu:=hu64 hr
 exact (zab (yaF (yal rfl C (zaJ Z) (hr.mono (show 3<=3 by decide)) (yaa 0) (zaa (yaa 1) yac)))
  (zab (yaF (yal rfl C (zaJ Z) (hr.mono (show 3<=3 by decide)) (yaa 0) (zaa (yaa 2) yac)))
  (zab (yak (i:=3) zbn.nd (yaj (yaR rfl) (r_ix rfl hu (yaP rfl Z.cf_Shelf (yaa 0)) (r_ix rfl hu (yaP rfl Z.cf_Shelf (yaa 0)) (yaa 1))) (r_ix rfl hu (yaP rfl Z.cf_Shelf (yaa 0)) (r_ix rfl hu (yaP rfl Z.cf_Shelf (yaa 0)) (yaa 2)))))
  (zab (r_if (yax o_le (yaa 3) (r_gI rfl Z.c_LEAF_SIGNS) (yau _)) (yag (zaL Z.x_Loose zaK rfl (zaa yaX yac))) yar)
  (zab (r_if (yax o_gt (r_bi (b_abs) rfl Z.b_abs PyProof.Rows.boot_abs (zaa (yaj ybf (r_ix rfl hu (yaP rfl Z.cf_Shelf (yaa 0)) (yaa 1)) (r_ix rfl hu (yaP rfl Z.cf_Shelf (yaa 0)) (yaa 2))) yac)) yae (yau _)) (yag (zaL Z.x_Unlevel zaK rfl (zaa yaX yac))) yar)
  (yag (r_if (yax o_gt (yaj (yaR rfl) (r_ix rfl hu (yaP rfl Z.cf_Shelf (yaa 0)) (yaa 1)) (r_ix rfl hu (yaP rfl Z.cf_Shelf (yaa 0)) (yaa 2))) (r_gI rfl Z.c_MOST_SIGNS) (yau _)) (yag (zaL Z.x_TooLong zaK rfl (zaa yaX yac))) yar)))))))
theorem zcE:FnScope ["self", "made", "number"] ["self", "made"] (yad ycB):=⟨rfl,rfl,rfl,by decide +kernel,rfl,by decide +kernel,by decide +kernel⟩
theorem zc1 {P:Program} {w:World} {K:PySem.W.Frag} {cls exc:Nat->Option Addr} {mg:Str->Option Value} {base:Heap} (Z:Facts P w K cls exc mg base):GM P w (mkT K cls exc) mg base 1 0 "lay" yc4:=by
 obtain ⟨C0,f,fd,h0,hc,h1,h3,h4⟩:=Z.d_Shelf_lay
 refine ⟨⟨C0,f,fd,_,h0,hc,h1,h3,okA h4 rfl zcE fun cdv A outer s H E hr C=>?_⟩,(show ("lay" : Str)∉flds 0 from by decide +kernel)⟩
 have hu:=hu64 hr
 exact (zab (yaF (r_bm rfl PySem.F.plainAttrs_list PySem.F.slot_list_append PySem.F.type_list_append (zam) zao (yaP rfl Z.cf_Shelf (yaa 0)) (zaa (yaa 1) yac)))
  (zab (yak (i:=2) zcE.nd (r_bi (b_len rfl) rfl Z.b_len PySem.boot_len (zaa (yaP rfl Z.cf_Shelf (yaa 0)) yac)))
  (zab (zfL hu (yaP rfl Z.cf_Shelf (yaa 0)) (yaa 1) (yaa 2))
  (yag (yap (yaa 2))))))
theorem za3:FnScope ["self", "made", "one", "other"] ["self", "made"] (yad ybw):=⟨rfl,rfl,rfl,by decide +kernel,rfl,by decide +kernel,by decide +kernel⟩
theorem zdo {P:Program} {w:World} {K:PySem.W.Frag} {cls exc:Nat->Option Addr} {mg:Str->Option Value} {base:Heap} (Z:Facts P w K cls exc mg base):GM P w (mkT K cls exc) mg base 2 0 "lay_fork" yb0:=by
 obtain ⟨C0,f,fd,h0,hc,h1,h3,h4⟩:=Z.d_Shelf_lay_fork
 refine ⟨⟨C0,f,fd,_,h0,hc,h1,h3,okA h4 rfl za3 fun cdv A outer s H E hr C=>?_⟩,(show ("lay_fork" : Str)∉flds 0 from by decide +kernel)⟩
 have hu:=hu64 hr
 exact (zab (yaF (yal rfl C (zc1 Z) (hr.mono (show 1<=1 by decide)) (yaa 0) (zaa (yaa 1) yac)))
  (zab (yak (i:=2) za3.nd (r_ix rfl hu (yaa 1) yae))
  (zab (yak (i:=3) za3.nd (r_ix rfl hu (yaa 1) yae))
  (zab (yaF (r_bm rfl PySem.F.plainAttrs_list PySem.F.slot_list_append PySem.F.type_list_append (zam) zao (yaP rfl Z.cf_Shelf (yaa 0)) (zaa (yaj (yaR rfl) (r_ix rfl hu (yaP rfl Z.cf_Shelf (yaa 0)) (yaa 2)) (r_ix rfl hu (yaP rfl Z.cf_Shelf (yaa 0)) (yaa 3))) yac)))
  (zab (yaF (r_bm rfl PySem.F.plainAttrs_list PySem.F.slot_list_append PySem.F.type_list_append (zam) zao (yaP rfl Z.cf_Shelf (yaa 0)) (zaa (yaj (yaR rfl) (r_ix rfl hu (yaP rfl Z.cf_Shelf (yaa 0)) (yaa 2)) (r_ix rfl hu (yaP rfl Z.cf_Shelf (yaa 0)) (yaa 3))) yac)))
  (zab (yaF (r_bm rfl PySem.F.plainAttrs_list PySem.F.slot_list_append PySem.F.type_list_append (zam) zao (yaP rfl Z.cf_Shelf (yaa 0)) (zaa (yaj (yaR rfl) (r_ix rfl hu (yaP rfl Z.cf_Shelf (yaa 0)) (yaa 2)) (r_ix rfl hu (yaP rfl Z.cf_Shelf (yaa 0)) (yaa 3))) yac)))
  (zab (yaF (r_bm rfl PySem.F.plainAttrs_list PySem.F.slot_list_append PySem.F.type_list_append (zam) zao (yaP rfl Z.cf_Shelf (yaa 0)) (zaa (yaj (yaR rfl) (r_bi (yeA) rfl Z.b_max PyProof.Rows.boot_max (zaa (r_ix rfl hu (yaP rfl Z.cf_Shelf (yaa 0)) (yaa 2)) (zaa (r_ix rfl hu (yaP rfl Z.cf_Shelf (yaa 0)) (yaa 3)) yac))) yae) yac)))
  (zab (yaF (r_bm rfl PySem.F.plainAttrs_list PySem.F.slot_list_append PySem.F.type_list_append (zam) zao (yaP rfl Z.cf_Shelf (yaa 0)) (zaa (r_ix rfl hu (yaP rfl Z.cf_Shelf (yaa 0)) (yaa 2)) yac)))
  (yag (yaF (r_bm rfl PySem.F.plainAttrs_list PySem.F.slot_list_append PySem.F.type_list_append (zam) zao (yaP rfl Z.cf_Shelf (yaa 0)) (zaa (r_ix rfl hu (yaP rfl Z.cf_Shelf (yaa 0)) (yaa 3)) yac))))))))))))
theorem zci:FnScope ["self", "one", "other", "made"] ["self", "one", "other"] (yad ycm):=⟨rfl,rfl,rfl,by decide +kernel,rfl,by decide +kernel,by decide +kernel⟩
theorem zan {P:Program} {w:World} {K:PySem.W.Frag} {cls exc:Nat->Option Addr} {mg:Str->Option Value} {base:Heap} (Z:Facts P w K cls exc mg base):GM P w (mkT K cls exc) mg base 5 0 "fork" yah:=by
 obtain ⟨C0,f,fd,h0,hc,h1,h3,h4⟩:=Z.d_Shelf_fork
 refine ⟨⟨C0,f,fd,_,h0,hc,h1,h3,okA h4 rfl zci fun cdv A outer s H E hr C=>?_⟩,(show ("fork" : Str)∉flds 0 from by decide +kernel)⟩
 have hu:=hu64 hr
 exact (zab (yaF (yal rfl C (zcD Z) (hr.mono (show 4<=4 by decide)) (yaa 0) (zaa (yaa 1) (zaa (yaa 2) yac))))
  (zab (yak (i:=3) zci.nd (ydB (zaa yaX (zaa (yaa 1) (zaa (yaa 2) yac)))))
  (zab (r_if (yax (zfM rfl hu) (yaa 3) (yaP rfl Z.cf_Shelf (yaa 0)) rfl) (yag (yaF (yal rfl C (zdo Z) (hr.mono (show 2<=4 by decide)) (yaa 0) (zaa (yaa 3) yac)))) yar)
  (yag (yap (r_ix rfl hu (yaP rfl Z.cf_Shelf (yaa 0)) (yaa 3)))))))
theorem zbO:FnScope ["shelf", "text", "leaf", "piece"] ["shelf", "text", "leaf"] (yad ycC):=⟨rfl,rfl,rfl,by decide +kernel,rfl,by decide +kernel,by decide +kernel⟩
theorem zc2 {P:Program} {w:World} {K:PySem.W.Frag} {cls exc:Nat->Option Addr} {mg:Str->Option Value} {base:Heap} (Z:Facts P w K cls exc mg base):∀ d,GF P w (mkT K cls exc) mg base (5+d+1) "with_last" (ya8 d)
 | 0=>by
  obtain ⟨f,fd,h1,h2,h3,h4⟩:=Z.d_with_last
  refine ⟨f,fd,_,h1,h2,h3,okA h4 rfl zbO fun cdv A outer s H E hr C=>?_⟩
  exact ydR
 | d+1=>by
  obtain ⟨f,fd,h1,h2,h3,h4⟩:=Z.d_with_last
  refine ⟨f,fd,_,h1,h2,h3,okA h4 rfl zbO fun cdv A outer s H E hr C=>?_⟩
  have hu:=hu64 hr
  exact (zab (yak (i:=3) zbO.nd (yal rfl C (zaq Z) (hr.mono (show 4<=5+(d+1) by lia)) (yaa 0) (zaa (yaa 1) yac)))
  (zab (r_if (yax (o_eq rfl hu) (r_ix rfl hu (yaa 3) yae) yaX (yau _)) (yag (yap (yaa 2))) yar)
  (yag (yap (yal rfl C (zan Z) (hr.mono (show 5<=5+(d+1) by lia)) (yaa 0) (zaa (r_ix rfl hu (yaa 3) yae) (zaa (yai rfl C (zc2 Z d) (hr.mono (by lia)) rfl (zaa (yaa 0) (zaa (r_ix rfl hu (yaa 3) yae) (zaa (yaa 2) yac)))) yac)))))))
theorem zdE:FnScope ["self", "text"] ["self", "text"] (yad ybW):=⟨rfl,rfl,rfl,by decide +kernel,rfl,by decide +kernel,by decide +kernel⟩
theorem zal {P:Program} {w:World} {K:PySem.W.Frag} {cls exc:Nat->Option Addr} {mg:Str->Option Value} {base:Heap} (Z:Facts P w K cls exc mg base):GM P w (mkT K cls exc) mg base 5 0 "height" yaJ:=by
 obtain ⟨C0,f,fd,h0,hc,h1,h3,h4⟩:=Z.d_Shelf_height
 refine ⟨⟨C0,f,fd,_,h0,hc,h1,h3,okA h4 rfl zdE fun cdv A outer s H E hr C=>?_⟩,(show ("height" : Str)∉flds 0 from by decide +kernel)⟩
 have hu:=hu64 hr
 exact (zab (yaF (yal rfl C (zaN Z) (hr.mono (show 4<=4 by decide)) (yaa 0) (zaa (yaa 1) yac)))
  (yag (yap (r_ix rfl hu (yaP rfl Z.cf_Shelf (yaa 0)) (yaa 1)))))
theorem zaP:FnScope ["shelf", "one", "other", "piece", "near", "far", "inner"] ["shelf", "one", "other"] (yad ycc):=⟨rfl,rfl,rfl,by decide +kernel,rfl,by decide +kernel,by decide +kernel⟩
theorem zcj {P:Program} {w:World} {K:PySem.W.Frag} {cls exc:Nat->Option Addr} {mg:Str->Option Value} {base:Heap} (Z:Facts P w K cls exc mg base):GF P w (mkT K cls exc) mg base 6 "turned_left" yaU:=by
 obtain ⟨f,fd,h1,h2,h3,h4⟩:=Z.d_turned_left
 refine ⟨f,fd,_,h1,h2,h3,okA h4 rfl zaP fun cdv A outer s H E hr C=>?_⟩
 have hu:=hu64 hr
 exact (zab (r_if (yax o_lt (yaj ybf (yal rfl C (zal Z) (hr.mono (show 5<=5 by decide)) (yaa 0) (zaa (yaa 2) yac)) (yal rfl C (zal Z) (hr.mono (show 5<=5 by decide)) (yaa 0) (zaa (yaa 1) yac))) yae (yau _)) (yag (yap (yal rfl C (zan Z) (hr.mono (show 5<=5 by decide)) (yaa 0) (zaa (yaa 1) (zaa (yaa 2) yac))))) yar)
  (zab (yak (i:=3) zaP.nd (yal rfl C (zaq Z) (hr.mono (show 4<=5 by decide)) (yaa 0) (zaa (yaa 2) yac)))
  (zab (yak (i:=4) zaP.nd (r_ix rfl hu (yaa 3) yae))
  (zab (yak (i:=5) zaP.nd (r_ix rfl hu (yaa 3) yae))
  (zab (r_if (yax o_le (yal rfl C (zal Z) (hr.mono (show 5<=5 by decide)) (yaa 0) (zaa (yaa 4) yac)) (yal rfl C (zal Z) (hr.mono (show 5<=5 by decide)) (yaa 0) (zaa (yaa 5) yac)) (yau _)) (yag (yap (yal rfl C (zan Z) (hr.mono (show 5<=5 by decide)) (yaa 0) (zaa (yal rfl C (zan Z) (hr.mono (show 5<=5 by decide)) (yaa 0) (zaa (yaa 1) (zaa (yaa 4) yac))) (zaa (yaa 5) yac))))) yar)
  (zab (yak (i:=6) zaP.nd (yal rfl C (zaq Z) (hr.mono (show 4<=5 by decide)) (yaa 0) (zaa (yaa 4) yac)))
  (yag (yap (yal rfl C (zan Z) (hr.mono (show 5<=5 by decide)) (yaa 0) (zaa (yal rfl C (zan Z) (hr.mono (show 5<=5 by decide)) (yaa 0) (zaa (yaa 1) (zaa (r_ix rfl hu (yaa 6) yae) yac))) (zaa (yal rfl C (zan Z) (hr.mono (show 5<=5 by decide)) (yaa 0) (zaa (r_ix rfl hu (yaa 6) yae) (zaa (yaa 5) yac))) yac)))))))))))
theorem zaS:FnScope ["shelf", "text", "piece", "rest"] ["shelf", "text"] (yad ybD):=⟨rfl,rfl,rfl,by decide +kernel,rfl,by decide +kernel,by decide +kernel⟩
theorem zbT {P:Program} {w:World} {K:PySem.W.Frag} {cls exc:Nat->Option Addr} {mg:Str->Option Value} {base:Heap} (Z:Facts P w K cls exc mg base):∀ d,GF P w (mkT K cls exc) mg base (6+d+1) "without_first" (yaH d)
 | 0=>by
  obtain ⟨f,fd,h1,h2,h3,h4⟩:=Z.d_without_first
  refine ⟨f,fd,_,h1,h2,h3,okA h4 rfl zaS fun cdv A outer s H E hr C=>?_⟩
  exact ydR
 | d+1=>by
  obtain ⟨f,fd,h1,h2,h3,h4⟩:=Z.d_without_first
  refine ⟨f,fd,_,h1,h2,h3,okA h4 rfl zaS fun cdv A outer s H E hr C=>?_⟩
  have hu:=hu64 hr
  exact (zab (yak (i:=2) zaS.nd (yal rfl C (zaq Z) (hr.mono (show 4<=6+(d+1) by lia)) (yaa 0) (zaa (yaa 1) yac)))
  (zab (r_if (yax (o_eq rfl hu) (r_ix rfl hu (yaa 2) yae) yaX (yau _)) (yag (yap yae)) yar)
  (zab (yak (i:=3) zaS.nd (yai rfl C (zbT Z d) (hr.mono (by lia)) rfl (zaa (yaa 0) (zaa (r_ix rfl hu (yaa 2) yae) yac))))
  (zab (r_if (yax (o_eq rfl hu) (yaa 3) yae (yau _)) (yag (yap (r_ix rfl hu (yaa 2) yae))) yar)
  (yag (yap (yai rfl C (zcj Z) (hr.mono (show 6<=6+(d+1) by lia)) rfl (zaa (yaa 0) (zaa (yaa 3) (zaa (r_ix rfl hu (yaa 2) yae) yac))))))))))
theorem zaO:FnScope ["shelf", "one", "other", "piece", "far", "near", "inner"] ["shelf", "one", "other"] (yad ybX):=⟨rfl,rfl,rfl,by decide +kernel,rfl,by decide +kernel,by decide +kernel⟩
theorem zd3 {P:Program} {w:World} {K:PySem.W.Frag} {cls exc:Nat->Option Addr} {mg:Str->Option Value} {base:Heap} (Z:Facts P w K cls exc mg base):GF P w (mkT K cls exc) mg base 6 "turned_right" yaZ:=by
 obtain ⟨f,fd,h1,h2,h3,h4⟩:=Z.d_turned_right
 refine ⟨f,fd,_,h1,h2,h3,okA h4 rfl zaO fun cdv A outer s H E hr C=>?_⟩
 have hu:=hu64 hr
 exact (zab (r_if (yax o_lt (yaj ybf (yal rfl C (zal Z) (hr.mono (show 5<=5 by decide)) (yaa 0) (zaa (yaa 1) yac)) (yal rfl C (zal Z) (hr.mono (show 5<=5 by decide)) (yaa 0) (zaa (yaa 2) yac))) yae (yau _)) (yag (yap (yal rfl C (zan Z) (hr.mono (show 5<=5 by decide)) (yaa 0) (zaa (yaa 1) (zaa (yaa 2) yac))))) yar)
  (zab (yak (i:=3) zaO.nd (yal rfl C (zaq Z) (hr.mono (show 4<=5 by decide)) (yaa 0) (zaa (yaa 1) yac)))
  (zab (yak (i:=4) zaO.nd (r_ix rfl hu (yaa 3) yae))
  (zab (yak (i:=5) zaO.nd (r_ix rfl hu (yaa 3) yae))
  (zab (r_if (yax o_le (yal rfl C (zal Z) (hr.mono (show 5<=5 by decide)) (yaa 0) (zaa (yaa 5) yac)) (yal rfl C (zal Z) (hr.mono (show 5<=5 by decide)) (yaa 0) (zaa (yaa 4) yac)) (yau _)) (yag (yap (yal rfl C (zan Z) (hr.mono (show 5<=5 by decide)) (yaa 0) (zaa (yaa 4) (zaa (yal rfl C (zan Z) (hr.mono (show 5<=5 by decide)) (yaa 0) (zaa (yaa 5) (zaa (yaa 2) yac))) yac))))) yar)
  (zab (yak (i:=6) zaO.nd (yal rfl C (zaq Z) (hr.mono (show 4<=5 by decide)) (yaa 0) (zaa (yaa 5) yac)))
  (yag (yap (yal rfl C (zan Z) (hr.mono (show 5<=5 by decide)) (yaa 0) (zaa (yal rfl C (zan Z) (hr.mono (show 5<=5 by decide)) (yaa 0) (zaa (yaa 4) (zaa (r_ix rfl hu (yaa 6) yae) yac))) (zaa (yal rfl C (zan Z) (hr.mono (show 5<=5 by decide)) (yaa 0) (zaa (r_ix rfl hu (yaa 6) yae) (zaa (yaa 2) yac))) yac)))))))))))
theorem zby:FnScope ["shelf", "one", "other", "tilt", "piece"] ["shelf", "one", "other"] (yad yds):=⟨rfl,rfl,rfl,by decide +kernel,rfl,by decide +kernel,by decide +kernel⟩
theorem zch {P:Program} {w:World} {K:PySem.W.Frag} {cls exc:Nat->Option Addr} {mg:Str->Option Value} {base:Heap} (Z:Facts P w K cls exc mg base):∀ d,GF P w (mkT K cls exc) mg base (6+d+1) "linked" (ya7 d)
 | 0=>by
  obtain ⟨f,fd,h1,h2,h3,h4⟩:=Z.d_linked
  refine ⟨f,fd,_,h1,h2,h3,okA h4 rfl zby fun cdv A outer s H E hr C=>?_⟩
  exact ydR
 | d+1=>by
  obtain ⟨f,fd,h1,h2,h3,h4⟩:=Z.d_linked
  refine ⟨f,fd,_,h1,h2,h3,okA h4 rfl zby fun cdv A outer s H E hr C=>?_⟩
  have hu:=hu64 hr
  exact (zab (yak (i:=3) zby.nd (yaj ybf (yal rfl C (zal Z) (hr.mono (show 5<=6+(d+1) by lia)) (yaa 0) (zaa (yaa 1) yac)) (yal rfl C (zal Z) (hr.mono (show 5<=6+(d+1) by lia)) (yaa 0) (zaa (yaa 2) yac))))
  (zab (r_if (yax o_gt (yaa 3) yae (yau _)) (zab (yak (i:=4) zby.nd (yal rfl C (zaq Z) (hr.mono (show 4<=6+(d+1) by lia)) (yaa 0) (zaa (yaa 1) yac)))
  (yag (yap (yai rfl C (zcj Z) (hr.mono (show 6<=6+(d+1) by lia)) rfl (zaa (yaa 0) (zaa (r_ix rfl hu (yaa 4) yae) (zaa (yai rfl C (zch Z d) (hr.mono (by lia)) rfl (zaa (yaa 0) (zaa (r_ix rfl hu (yaa 4) yae) (zaa (yaa 2) yac)))) yac))))))) yar)
  (zab (r_if (yax o_lt (yaa 3) (ydK yae) (yau _)) (zab (yak (i:=4) zby.nd (yal rfl C (zaq Z) (hr.mono (show 4<=6+(d+1) by lia)) (yaa 0) (zaa (yaa 2) yac)))
  (yag (yap (yai rfl C (zd3 Z) (hr.mono (show 6<=6+(d+1) by lia)) rfl (zaa (yaa 0) (zaa (yai rfl C (zch Z d) (hr.mono (by lia)) rfl (zaa (yaa 0) (zaa (yaa 1) (zaa (r_ix rfl hu (yaa 4) yae) yac)))) (zaa (r_ix rfl hu (yaa 4) yae) yac))))))) yar)
  (yag (yap (yal rfl C (zan Z) (hr.mono (show 5<=6+(d+1) by lia)) (yaa 0) (zaa (yaa 1) (zaa (yaa 2) yac))))))))
theorem zdp:FnScope ["sign"] ["sign"] (yad ybE):=⟨rfl,rfl,rfl,by decide +kernel,rfl,by decide +kernel,by decide +kernel⟩
theorem zdF {P:Program} {w:World} {K:PySem.W.Frag} {cls exc:Nat->Option Addr} {mg:Str->Option Value} {base:Heap} (Z:Facts P w K cls exc mg base):GF P w (mkT K cls exc) mg base 1 "is_plain_sign" yce:=by
 obtain ⟨f,fd,h1,h2,h3,h4⟩:=Z.d_is_plain_sign
 refine ⟨f,fd,_,h1,h2,h3,okA h4 rfl zdp fun cdv A outer s H E hr C=>?_⟩
 have hu:=hu64 hr
 exact (yag (yap (r_or (yeM (o_eq rfl hu) (yaa 0) yaX (yau _)) (yek (zdO o_le o_le yaX (yaa 0) yaX)))))
theorem zfl:FnScope ["thing"] ["thing"] (yad yct):=⟨rfl,rfl,rfl,by decide +kernel,rfl,by decide +kernel,by decide +kernel⟩
theorem zdG {P:Program} {w:World} {K:PySem.W.Frag} {cls exc:Nat->Option Addr} {mg:Str->Option Value} {base:Heap} (Z:Facts P w K cls exc mg base):GF P w (mkT K cls exc) mg base 2 "is_plain" ydk:=by
 obtain ⟨f,fd,h1,h2,h3,h4⟩:=Z.d_is_plain
 refine ⟨f,fd,_,h1,h2,h3,okA h4 rfl zfl fun cdv A outer s H E hr C=>?_⟩
 have hu:=hu64 hr
 exact (zab (r_if (ydi (zaU rfl (yfd rfl rfl Z.b_isinstance (yaa 0) rfl Z.b_str ygJ (by decide)))) (yag (yap r_bl)) yar)
  (yag (yap (r_bi (b_all rfl) rfl Z.b_all PyProof.Rows.boot_all (zaa (yeY (jf:=[]) (zba (N:=["thing"]) (sc:=yad yct) rfl (fun _=>rfl) (by decide +kernel)) rfl (yd5 (E:=(fun _=>E)) rfl (yaa 0)) (fun _ _ _ _ _=>zbE) (fun _ _ _ _ _=>(yai rfl (CA.never rfl) (zdF Z) (hr.mono (show 1<=1 by decide)) rfl (zaa (yaa 0) yac)))) yac)))))
theorem zfm:FnScope ["thing"] ["thing"] (yad ycY):=⟨rfl,rfl,rfl,by decide +kernel,rfl,by decide +kernel,by decide +kernel⟩
theorem zgB {P:Program} {w:World} {K:PySem.W.Frag} {cls exc:Nat->Option Addr} {mg:Str->Option Value} {base:Heap} (Z:Facts P w K cls exc mg base):GF P w (mkT K cls exc) mg base 3 "is_short" ydM:=by
 obtain ⟨f,fd,h1,h2,h3,h4⟩:=Z.d_is_short
 refine ⟨f,fd,_,h1,h2,h3,okA h4 rfl zfm fun cdv A outer s H E hr C=>?_⟩
 have hu:=hu64 hr
 exact (yag (yap (yex (yai rfl C (zdG Z) (hr.mono (show 2<=2 by decide)) rfl (zaa (yaa 0) yac)) (yek (zdO o_le o_le yae (r_bi (b_len rfl) rfl Z.b_len PySem.boot_len (zaa (yaa 0) yac)) (r_gI rfl Z.c_LEAF_SIGNS))))))
theorem zgC:FnScope ["plain"] ["plain"] (yad ydd):=⟨rfl,rfl,rfl,by decide +kernel,rfl,by decide +kernel,by decide +kernel⟩
theorem zhr {P:Program} {w:World} {K:PySem.W.Frag} {cls exc:Nat->Option Addr} {mg:Str->Option Value} {base:Heap} (Z:Facts P w K cls exc mg base):GF P w (mkT K cls exc) mg base 1 "ends_in" ydY:=by
 obtain ⟨f,fd,h1,h2,h3,h4⟩:=Z.d_ends_in
 refine ⟨f,fd,_,h1,h2,h3,okA h4 rfl zgC fun cdv A outer s H E hr C=>?_⟩
 have hu:=hu64 hr
 exact (yag (yap (r_bm rfl PySem.F.plainAttrs_str PySem.F.slot_str_count PySem.F.type_str_count (zh1) zcL (yaa 0) (zaa yaX yac))))
theorem za4:FnScope ["self", "made", "number", "plain"] ["self", "made"] (yad ybx):=⟨rfl,rfl,rfl,by decide +kernel,rfl,by decide +kernel,by decide +kernel⟩
theorem zdq {P:Program} {w:World} {K:PySem.W.Frag} {cls exc:Nat->Option Addr} {mg:Str->Option Value} {base:Heap} (Z:Facts P w K cls exc mg base):GM P w (mkT K cls exc) mg base 2 0 "lay_leaf" yb1:=by
 obtain ⟨C0,f,fd,h0,hc,h1,h3,h4⟩:=Z.d_Shelf_lay_leaf
 refine ⟨⟨C0,f,fd,_,h0,hc,h1,h3,okA h4 rfl za4 fun cdv A outer s H E hr C=>?_⟩,(show ("lay_leaf" : Str)∉flds 0 from by decide +kernel)⟩
 have hu:=hu64 hr
 exact (zab (yak (i:=2) za4.nd (yal rfl C (zc1 Z) (hr.mono (show 1<=1 by decide)) (yaa 0) (zaa (yaa 1) yac)))
  (zab (yak (i:=3) za4.nd (r_ix rfl hu (yaa 1) yae))
  (zab (yaF (r_bm rfl PySem.F.plainAttrs_list PySem.F.slot_list_append PySem.F.type_list_append (zam) zao (yaP rfl Z.cf_Shelf (yaa 0)) (zaa (r_bi (b_len rfl) rfl Z.b_len PySem.boot_len (zaa (yaa 3) yac)) yac)))
  (zab (yaF (r_bm rfl PySem.F.plainAttrs_list PySem.F.slot_list_append PySem.F.type_list_append (zam) zao (yaP rfl Z.cf_Shelf (yaa 0)) (zaa (yai rfl C (zhr Z) (hr.mono (show 1<=1 by decide)) rfl (zaa (yaa 3) yac)) yac)))
  (zab (yaF (r_bm rfl PySem.F.plainAttrs_list PySem.F.slot_list_append PySem.F.type_list_append (zam) zao (yaP rfl Z.cf_Shelf (yaa 0)) (zaa yae yac)))
  (zab (yaF (r_bm rfl PySem.F.plainAttrs_list PySem.F.slot_list_append PySem.F.type_list_append (zam) zao (yaP rfl Z.cf_Shelf (yaa 0)) (zaa yae yac)))
  (zab (yaF (r_bm rfl PySem.F.plainAttrs_list PySem.F.slot_list_append PySem.F.type_list_append (zam) zao (yaP rfl Z.cf_Shelf (yaa 0)) (zaa (yaa 2) yac)))
  (yag (yaF (r_bm rfl PySem.F.plainAttrs_list PySem.F.slot_list_append PySem.F.type_list_append (zam) zao (yaP rfl Z.cf_Shelf (yaa 0)) (zaa (yaa 2) yac)))))))))))
theorem zck:FnScope ["self", "plain", "made"] ["self", "plain"] (yad ycn):=⟨rfl,rfl,rfl,by decide +kernel,rfl,by decide +kernel,by decide +kernel⟩
theorem zbj {P:Program} {w:World} {K:PySem.W.Frag} {cls exc:Nat->Option Addr} {mg:Str->Option Value} {base:Heap} (Z:Facts P w K cls exc mg base):GM P w (mkT K cls exc) mg base 4 0 "leaf" yaK:=by
 obtain ⟨C0,f,fd,h0,hc,h1,h3,h4⟩:=Z.d_Shelf_leaf
 refine ⟨⟨C0,f,fd,_,h0,hc,h1,h3,okA h4 rfl zck fun cdv A outer s H E hr C=>?_⟩,(show ("leaf" : Str)∉flds 0 from by decide +kernel)⟩
 have hu:=hu64 hr
 exact (zab (r_if (ydi (zaU rfl (yai rfl C (zgB Z) (hr.mono (show 3<=3 by decide)) rfl (zaa (yaa 1) yac)))) (yag (zaL Z.x_NoText zaK rfl (zaa yaX yac))) yar)
  (zab (yak (i:=2) zck.nd (ydB (zaa yaX (zaa (yaa 1) yac))))
  (zab (r_if (yax (zfM rfl hu) (yaa 2) (yaP rfl Z.cf_Shelf (yaa 0)) rfl) (yag (yaF (yal rfl C (zdq Z) (hr.mono (show 2<=3 by decide)) (yaa 0) (zaa (yaa 2) yac)))) yar)
  (yag (yap (r_ix rfl hu (yaP rfl Z.cf_Shelf (yaa 0)) (yaa 2)))))))
theorem zbU:FnScope ["shelf", "one", "other", "seam", "front", "back"] ["shelf", "one", "other"] (yad ydt):=⟨rfl,rfl,rfl,by decide +kernel,rfl,by decide +kernel,by decide +kernel⟩
theorem zio {P:Program} {w:World} {K:PySem.W.Frag} {cls exc:Nat->Option Addr} {mg:Str->Option Value} {base:Heap} (Z:Facts P w K cls exc mg base):GF P w (mkT K cls exc) mg base 98 "welded" ycN:=by
 obtain ⟨f,fd,h1,h2,h3,h4⟩:=Z.d_welded
 refine ⟨f,fd,_,h1,h2,h3,okA h4 rfl zbU fun cdv A outer s H E hr C=>?_⟩
 have hu:=hu64 hr
 exact (zab (yak (i:=3) zbU.nd (yaj (yaR rfl) (r_ix rfl hu (yal rfl C (zaq Z) (hr.mono (show 4<=97 by decide)) (yaa 0) (zaa (yal rfl C (zbA Z) (hr.mono (show 5<=97 by decide)) (yaa 0) (zaa (yaa 1) yac)) yac)) yae) (r_ix rfl hu (yal rfl C (zaq Z) (hr.mono (show 4<=97 by decide)) (yaa 0) (zaa (yal rfl C (zbx Z) (hr.mono (show 5<=97 by decide)) (yaa 0) (zaa (yaa 2) yac)) yac)) yae)))
  (zab (yak (i:=4) zbU.nd (yai rfl C (zc2 Z 90) (hr.mono (show 96<=97 by decide)) rfl (zaa (yaa 0) (zaa (yaa 1) (zaa (yal rfl C (zbj Z) (hr.mono (show 4<=97 by decide)) (yaa 0) (zaa (yaa 3) yac)) yac)))))
  (zab (yak (i:=5) zbU.nd (yai rfl C (zbT Z 90) (hr.mono (show 97<=97 by decide)) rfl (zaa (yaa 0) (zaa (yaa 2) yac))))
  (zab (r_if (yax (o_eq rfl hu) (yaa 5) yae (yau _)) (yag (yap (yaa 4))) yar)
  (yag (yap (yai rfl C (zch Z 90) (hr.mono (show 97<=97 by decide)) rfl (zaa (yaa 0) (zaa (yaa 4) (zaa (yaa 5) yac))))))))))
theorem zhs:FnScope ["shelf", "one", "other"] ["shelf", "one", "other"] (yad ydu):=⟨rfl,rfl,rfl,by decide +kernel,rfl,by decide +kernel,by decide +kernel⟩
theorem zaX {P:Program} {w:World} {K:PySem.W.Frag} {cls exc:Nat->Option Addr} {mg:Str->Option Value} {base:Heap} (Z:Facts P w K cls exc mg base):GF P w (mkT K cls exc) mg base 99 "joined" yat:=by
 obtain ⟨f,fd,h1,h2,h3,h4⟩:=Z.d_joined
 refine ⟨f,fd,_,h1,h2,h3,okA h4 rfl zhs fun cdv A outer s H E hr C=>?_⟩
 have hu:=hu64 hr
 exact (zab (yaF (yai rfl C (zbr Z) (hr.mono (show 1<=98 by decide)) rfl (zaa (yaj (yaR rfl) (yal rfl C (zah Z) (hr.mono (show 5<=98 by decide)) (yaa 0) (zaa (yaa 1) yac)) (yal rfl C (zah Z) (hr.mono (show 5<=98 by decide)) (yaa 0) (zaa (yaa 2) yac))) yac)))
  (zab (r_if (yax (o_eq rfl hu) (yaa 1) yae (yau _)) (yag (yap (yaa 2))) yar)
  (zab (r_if (yax (o_eq rfl hu) (yaa 2) yae (yau _)) (yag (yap (yaa 1))) yar)
  (zab (r_if (zaU rfl (yai rfl C (zfk Z) (hr.mono (show 6<=98 by decide)) rfl (zaa (yaa 0) (zaa (yaa 1) (zaa (yaa 2) yac))))) (yag (yap (yai rfl C (zch Z 90) (hr.mono (show 97<=98 by decide)) rfl (zaa (yaa 0) (zaa (yaa 1) (zaa (yaa 2) yac)))))) yar)
  (yag (yap (yai rfl C (zio Z) (hr.mono (show 98<=98 by decide)) rfl (zaa (yaa 0) (zaa (yaa 1) (zaa (yaa 2) yac))))))))))
theorem zbB:FnScope ["shelf", "text", "many", "half", "twice"] ["shelf", "text", "many"] (yad yde):=⟨rfl,rfl,rfl,by decide +kernel,rfl,by decide +kernel,by decide +kernel⟩
theorem zer {P:Program} {w:World} {K:PySem.W.Frag} {cls exc:Nat->Option Addr} {mg:Str->Option Value} {base:Heap} (Z:Facts P w K cls exc mg base):∀ d,GF P w (mkT K cls exc) mg base (99+d+1) "doubled" (ya2 d)
 | 0=>by
  obtain ⟨f,fd,h1,h2,h3,h4⟩:=Z.d_doubled
  refine ⟨f,fd,_,h1,h2,h3,okA h4 rfl zbB fun cdv A outer s H E hr C=>?_⟩
  exact ydR
 | d+1=>by
  obtain ⟨f,fd,h1,h2,h3,h4⟩:=Z.d_doubled
  refine ⟨f,fd,_,h1,h2,h3,okA h4 rfl zbB fun cdv A outer s H E hr C=>?_⟩
  have hu:=hu64 hr
  exact (zab (r_if (yax (o_eq rfl hu) (yaa 2) yae (yau _)) (yag (yap yae)) yar)
  (zab (yak (i:=3) zbB.nd (yai rfl C (zer Z d) (hr.mono (by lia)) rfl (zaa (yaa 0) (zaa (yaa 1) (zaa (yaj yej (yaa 2) yae) yac)))))
  (zab (yak (i:=4) zbB.nd (yai rfl C (zaX Z) (hr.mono (show 99<=99+(d+1) by lia)) rfl (zaa (yaa 0) (zaa (yaa 3) (zaa (yaa 3) yac)))))
  (zab (r_if (yax (o_eq rfl hu) (yaj ydW (yaa 2) yae) yae (yau _)) (yag (yap (yaa 4))) yar)
  (yag (yap (yai rfl C (zaX Z) (hr.mono (show 99<=99+(d+1) by lia)) rfl (zaa (yaa 0) (zaa (yaa 4) (zaa (yaa 1) yac))))))))))
theorem zc3:FnScope ["shelf", "text", "many", "signs"] ["shelf", "text", "many"] (yad ycZ):=⟨rfl,rfl,rfl,by decide +kernel,rfl,by decide +kernel,by decide +kernel⟩
theorem zgD {P:Program} {w:World} {K:PySem.W.Frag} {cls exc:Nat->Option Addr} {mg:Str->Option Value} {base:Heap} (Z:Facts P w K cls exc mg base):GF P w (mkT K cls exc) mg base 165 "repeated" ycr:=by
 obtain ⟨f,fd,h1,h2,h3,h4⟩:=Z.d_repeated
 refine ⟨f,fd,_,h1,h2,h3,okA h4 rfl zc3 fun cdv A outer s H E hr C=>?_⟩
 have hu:=hu64 hr
 exact (zab (yak (i:=3) zc3.nd (yal rfl C (zah Z) (hr.mono (show 5<=164 by decide)) (yaa 0) (zaa (yaa 1) yac)))
  (zab (r_if (yax o_lt (yaa 2) yae (yau _)) (yag (zaL Z.x_NoPlace zaK rfl (zaa yaX yac))) yar)
  (zab (yaF (yai rfl C (zbr Z) (hr.mono (show 1<=164 by decide)) rfl (zaa (yaj yb7 (yaa 3) (yaa 2)) yac)))
  (zab (r_if (yax (o_eq rfl hu) (yaa 1) yae (yau _)) (yag (yap yae)) yar)
  (yag (yap (yai rfl C (zer Z 64) (hr.mono (show 164<=164 by decide)) rfl (zaa (yaa 0) (zaa (yaa 1) (zaa (yaa 2) yac))))))))))
theorem zcF:FnScope ["shelf", "leaves", "middle"] ["shelf", "leaves"] (yad ydv):=⟨rfl,rfl,rfl,by decide +kernel,rfl,by decide +kernel,by decide +kernel⟩
theorem zdr {P:Program} {w:World} {K:PySem.W.Frag} {cls exc:Nat->Option Addr} {mg:Str->Option Value} {base:Heap} (Z:Facts P w K cls exc mg base):∀ d,GF P w (mkT K cls exc) mg base (5+d+1) "halved" (yb2 d)
 | 0=>by
  obtain ⟨f,fd,h1,h2,h3,h4⟩:=Z.d_halved
  refine ⟨f,fd,_,h1,h2,h3,okA h4 rfl zcF fun cdv A outer s H E hr C=>?_⟩
  exact ydR
 | d+1=>by
  obtain ⟨f,fd,h1,h2,h3,h4⟩:=Z.d_halved
  refine ⟨f,fd,_,h1,h2,h3,okA h4 rfl zcF fun cdv A outer s H E hr C=>?_⟩
  have hu:=hu64 hr
  exact (zab (r_if (yax (o_eq rfl hu) (r_bi (b_len rfl) rfl Z.b_len PySem.boot_len (zaa (yaa 1) yac)) yae (yau _)) (yag (yap (r_ix rfl hu (yaa 1) yae))) yar)
  (zab (yak (i:=2) zcF.nd (yaj yej (r_bi (b_len rfl) rfl Z.b_len PySem.boot_len (zaa (yaa 1) yac)) yae))
  (yag (yap (yal rfl C (zan Z) (hr.mono (show 5<=5+(d+1) by lia)) (yaa 0) (zaa (yai rfl C (zdr Z d) (hr.mono (by lia)) rfl (zaa (yaa 0) (zaa (zaT rfl (yaa 1) zbq (zaG (yaa 2))) yac))) (zaa (yai rfl C (zdr Z d) (hr.mono (by lia)) rfl (zaa (yaa 0) (zaa (zaT rfl (yaa 1) (zaG (yaa 2)) zbq) yac))) yac)))))))
theorem ze3:FnScope ["shelf", "plain", "leaves"] ["shelf", "plain"] (yad ydw):=⟨rfl,rfl,rfl,by decide +kernel,rfl,by decide +kernel,by decide +kernel⟩
theorem zjB {P:Program} {w:World} {K:PySem.W.Frag} {cls exc:Nat->Option Addr} {mg:Str->Option Value} {base:Heap} (Z:Facts P w K cls exc mg base):GF P w (mkT K cls exc) mg base 27 "built" yd6:=by
 obtain ⟨f,fd,h1,h2,h3,h4⟩:=Z.d_built
 refine ⟨f,fd,_,h1,h2,h3,okA h4 rfl ze3 fun cdv A outer s H E hr C=>?_⟩
 have hu:=hu64 hr
 exact (zab (r_if (ydi (zaU rfl (yai rfl C (zdG Z) (hr.mono (show 2<=26 by decide)) rfl (zaa (yaa 1) yac)))) (yag (zaL Z.x_NoText zaK rfl (zaa yaX yac))) yar)
  (zab (r_if (yax o_gt (r_bi (b_len rfl) rfl Z.b_len PySem.boot_len (zaa (yaa 1) yac)) (r_gI rfl Z.c_MOST_PLAIN) (yau _)) (yag (zaL Z.x_TooLong zaK rfl (zaa yaX yac))) yar)
  (zab (r_if (yax (o_eq rfl hu) (yaa 1) yaX (yau _)) (yag (yap yae)) yar)
  (zab (zfH (jf:=[(0, "shelf"),(1, "plain")]) (zba (N:=["shelf", "plain", "leaves"]) (sc:=yad ydw) rfl (fun _=>rfl) (by decide +kernel)) rfl (zeg (E:=(fun _=>E)) rfl Z.b_range yae (r_bi (b_len rfl) rfl Z.b_len PySem.boot_len (zaa (yaa 1) yac)) (r_gI rfl Z.c_LEAF_SIGNS)) (fun _ _ _ _ _=>zbE) (fun _ _ _ _ _=>(yal rfl (CA.never rfl) (zbj Z) (hr.mono (show 4<=26 by decide)) (yaa 1) (zaa (zaT rfl (yaa 2) (zaG (yaa 0)) (zaG (yaj (yaR rfl) (yaa 0) (r_gI rfl Z.c_LEAF_SIGNS)))) yac))) ze3.nd (i:=2))
  (yag (yap (yai rfl C (zdr Z 20) (hr.mono (show 26<=26 by decide)) rfl (zaa (yaa 0) (zaa (yaa 2) yac)))))))))
theorem za5:FnScope ["shelf", "blocks", "text", "plain", "many"] ["shelf", "blocks"] (yad yc0):=⟨rfl,rfl,rfl,by decide +kernel,rfl,by decide +kernel,by decide +kernel⟩
theorem zdH {P:Program} {w:World} {K:PySem.W.Frag} {cls exc:Nat->Option Addr} {mg:Str->Option Value} {base:Heap} (Z:Facts P w K cls exc mg base):GF P w (mkT K cls exc) mg base 166 "_law_long" ydl:=by
 obtain ⟨f,fd,h1,h2,h3,h4⟩:=Z.d_law_long
 refine ⟨f,fd,_,h1,h2,h3,okA h4 rfl za5 fun cdv A outer s H E hr C=>?_⟩
 have hu:=hu64 hr
 exact (zab (yak (i:=2) za5.nd yae)
  (zab (yc7 rfl (zbY (E:=EN) rfl (yaa 1)) (yeX rfl rfl (zbp (i:=3) za5.nd (zbp (i:=4) za5.nd zdP))) (yag (yak (i:=2) za5.nd (yai rfl (C.nox) (zaX Z) (hr.mono (show 99<=165 by decide)) rfl (zaa (yaa 0) (zaa (yaa 2) (zaa (yai rfl (C.nox) (zgD Z) (hr.mono (show 165<=165 by decide)) rfl (zaa (yaa 0) (zaa (yai rfl (C.nox) (zjB Z) (hr.mono (show 27<=165 by decide)) rfl (zaa (yaa 0) (zaa (yaa 3) yac))) (zaa (yaa 4) yac)))) yac)))))))
  (yag (yap (yaa 2)))))
theorem ze4:FnScope ["blocks"] ["blocks"] (yad ycg):=⟨rfl,rfl,rfl,by decide +kernel,rfl,by decide +kernel,by decide +kernel⟩
theorem za6 {P:Program} {w:World} {K:PySem.W.Frag} {cls exc:Nat->Option Addr} {mg:Str->Option Value} {base:Heap} (Z:Facts P w K cls exc mg base):GF P w (mkT K cls exc) mg base 1 "_law_signs" ybR:=by
 obtain ⟨f,fd,h1,h2,h3,h4⟩:=Z.d_law_signs
 refine ⟨f,fd,_,h1,h2,h3,okA h4 rfl ze4 fun cdv A outer s H E hr C=>?_⟩
 have hu:=hu64 hr
 exact (yag (yap (r_bi (b_sum rfl) rfl Z.b_sum PyProof.Rows.boot_sum (zaa (zfP rfl (jf:=[]) (zdz (N:=["blocks"]) (sc:=yad ycg) rfl (fun _=>rfl) (by decide +kernel)) rfl (zbY (E:=(fun _=>E)) rfl (yaa 0)) (fun _ _ _ _ _=>zbE) (fun _ _ _ _ _=>(yaj yb7 (r_bi (b_len rfl) rfl Z.b_len PySem.boot_len (zaa (yaa 0) yac)) (yaa 1)))) yac))))
theorem zbP:FnScope ["shelf", "text", "begin", "end", "signs"] ["shelf", "text", "begin", "end"] (yad ybF):=⟨rfl,rfl,rfl,by decide +kernel,rfl,by decide +kernel,by decide +kernel⟩
theorem zbk {P:Program} {w:World} {K:PySem.W.Frag} {cls exc:Nat->Option Addr} {mg:Str->Option Value} {base:Heap} (Z:Facts P w K cls exc mg base):GF P w (mkT K cls exc) mg base 6 "check_stretch" ybC:=by
 obtain ⟨f,fd,h1,h2,h3,h4⟩:=Z.d_check_stretch
 refine ⟨f,fd,_,h1,h2,h3,okA h4 rfl zbP fun cdv A outer s H E hr C=>?_⟩
 have hu:=hu64 hr
 exact (zab (yak (i:=4) zbP.nd (yal rfl C (zah Z) (hr.mono (show 5<=5 by decide)) (yaa 0) (zaa (yaa 1) yac)))
  (yag (r_if (ydi (zhc o_le o_le o_le yae (yaa 2) (yaa 3) (yaa 4))) (yag (zaL Z.x_NoPlace zaK rfl (zaa yaX yac))) yar)))
theorem zay:FnScope ["shelf", "text", "begin", "end", "found", "ahead", "step", "number", "start", "piece"] ["shelf", "text", "begin", "end"] (yad ybG):=⟨rfl,rfl,rfl,by decide +kernel,rfl,by decide +kernel,by decide +kernel⟩
theorem zdI {P:Program} {w:World} {K:PySem.W.Frag} {cls exc:Nat->Option Addr} {mg:Str->Option Value} {base:Heap} (Z:Facts P w K cls exc mg base):GF P w (mkT K cls exc) mg base 6 "signs_between" ycI:=by
 obtain ⟨f,fd,h1,h2,h3,h4⟩:=Z.d_signs_between
 refine ⟨f,fd,_,h1,h2,h3,okA h4 rfl zay fun cdv A outer s H E hr C=>?_⟩
 have hu:=hu64 hr
 exact (zab (yak (i:=4) zay.nd (ybN yac))
  (zab (yak (i:=5) zay.nd (ybN (zaa (ydB (zaa (yaa 1) (zaa yae yac))) yac)))
  (zab (ziZ yeB (yax (o_ne rfl hu) (yaa 5) (yeN yac) (yau _)) (zab (yak (i:=6) zay.nd (yf2 rfl PySem.F.plainAttrs_list PySem.F.slot_list_pop PySem.F.type_list_pop (yh5) zao (yaa 5)))
  (zab (yak (i:=7) zay.nd (r_ix rfl hu (yaa 6) yae))
  (zab (yak (i:=8) zay.nd (r_ix rfl hu (yaa 6) yae))
  (zab (r_if (rt_w (yfb (yax o_ge (yaa 8) (yaa 3) (yau _)) (yeW (yax o_le (yaj (yaR rfl) (yaa 8) (yal rfl (C.nox) (zah Z) (hr.mono (show 5<=5 by decide)) (yaa 0) (zaa (yaa 7) yac))) (yaa 2) (yau _))))) (yag zgq) yar)
  (zab (yak (i:=9) zay.nd (yal rfl (C.nox) (zaq Z) (hr.mono (show 4<=5 by decide)) (yaa 0) (zaa (yaa 7) yac)))
  (yag (r_if (yax (o_eq rfl hu) (r_ix rfl hu (yaa 9) yae) yaX (yau _)) (yag (yaF (r_bm rfl PySem.F.plainAttrs_list PySem.F.slot_list_append PySem.F.type_list_append (zam) zao (yaa 4) (zaa (zaT rfl (r_ix rfl hu (yaa 9) yae) (zaG (r_bi (yeA) rfl Z.b_max PyProof.Rows.boot_max (zaa (yaj ybf (yaa 2) (yaa 8)) (zaa yae yac)))) (zaG (yaj ybf (yaa 3) (yaa 8)))) yac)))) (zab (yaF (r_bm rfl PySem.F.plainAttrs_list PySem.F.slot_list_append PySem.F.type_list_append (zam) zao (yaa 5) (zaa (ydB (zaa (r_ix rfl hu (yaa 9) yae) (zaa (yaj (yaR rfl) (yaa 8) (yal rfl (C.nox) (zah Z) (hr.mono (show 5<=5 by decide)) (yaa 0) (zaa (r_ix rfl hu (yaa 9) yae) yac))) yac))) yac)))
  (yag (yaF (r_bm rfl PySem.F.plainAttrs_list PySem.F.slot_list_append PySem.F.type_list_append (zam) zao (yaa 5) (zaa (ydB (zaa (r_ix rfl hu (yaa 9) yae) (zaa (yaa 8) yac))) yac)))))))))))))
  (yag (yap (r_bm rfl PySem.F.plainAttrs_str PySem.F.slot_str_join PySem.F.type_str_join (yfF rfl) zcL yaX (zaa (yaa 4) yac)))))))
theorem zev:FnScope ["shelf", "text", "begin", "end"] ["shelf", "text", "begin", "end"] (yad yco):=⟨rfl,rfl,rfl,by decide +kernel,rfl,by decide +kernel,by decide +kernel⟩
theorem ze5 {P:Program} {w:World} {K:PySem.W.Frag} {cls exc:Nat->Option Addr} {mg:Str->Option Value} {base:Heap} (Z:Facts P w K cls exc mg base):GF P w (mkT K cls exc) mg base 7 "stretch_of" ydm:=by
 obtain ⟨f,fd,h1,h2,h3,h4⟩:=Z.d_stretch_of
 refine ⟨f,fd,_,h1,h2,h3,okA h4 rfl zev fun cdv A outer s H E hr C=>?_⟩
 have hu:=hu64 hr
 exact (zab (yaF (yai rfl C (zbk Z) (hr.mono (show 6<=6 by decide)) rfl (zaa (yaa 0) (zaa (yaa 1) (zaa (yaa 2) (zaa (yaa 3) yac))))))
  (zab (r_if (yax o_gt (yaj ybf (yaa 3) (yaa 2)) (r_gI rfl Z.c_MOST_PLAIN) (yau _)) (yag (zaL Z.x_TooLong zaK rfl (zaa yaX yac))) yar)
  (yag (yap (yai rfl C (zdI Z) (hr.mono (show 6<=6 by decide)) rfl (zaa (yaa 0) (zaa (yaa 1) (zaa (yaa 2) (zaa (yaa 3) yac)))))))))
theorem zau:FnScope ["blocks", "begin", "end", "found", "here", "plain", "many", "size", "low", "high", "first", "last", "begun"] ["blocks", "begin", "end"] (yad yc1):=⟨rfl,rfl,rfl,by decide +kernel,rfl,by decide +kernel,by decide +kernel⟩
theorem za2 {P:Program} {w:World} {K:PySem.W.Frag} {cls exc:Nat->Option Addr} {mg:Str->Option Value} {base:Heap} (Z:Facts P w K cls exc mg base):GF P w (mkT K cls exc) mg base 1 "_law_part" ya5:=by
 obtain ⟨f,fd,h1,h2,h3,h4⟩:=Z.d_law_part
 refine ⟨f,fd,_,h1,h2,h3,okA h4 rfl zau fun cdv A outer s H E hr C=>?_⟩
 have hu:=hu64 hr
 exact (zab (yak (i:=3) zau.nd (ybN yac))
  (zab (yak (i:=4) zau.nd yae)
  (zab (yc7 rfl (zbY (E:=EN) rfl (yaa 0)) (yeX rfl rfl (zbp (i:=5) zau.nd (zbp (i:=6) zau.nd zdP))) (zab (yak (i:=7) zau.nd (yaj yb7 (r_bi (b_len rfl) rfl Z.b_len PySem.boot_len (zaa (yaa 5) yac)) (yaa 6)))
  (zab (yak (i:=8) zau.nd (yaj ybf (r_bi (yeA) rfl Z.b_max PyProof.Rows.boot_max (zaa (yaa 1) (zaa (yaa 4) yac))) (yaa 4)))
  (zab (yak (i:=9) zau.nd (yaj ybf (r_bi (ye0) rfl Z.b_min PyProof.Rows.boot_min (zaa (yaa 2) (zaa (yaj (yaR rfl) (yaa 4) (yaa 7)) yac))) (yaa 4)))
  (zab (yak (i:=4) zau.nd (yaj (yaR rfl) (yaa 4) (yaa 7)))
  (yag (r_if (yax o_lt (yaa 8) (yaa 9) (yau _)) (zab (yak (i:=10) zau.nd (yaj yej (yaa 8) (r_bi (b_len rfl) rfl Z.b_len PySem.boot_len (zaa (yaa 5) yac))))
  (zab (yak (i:=11) zau.nd (yaj yej (yaj ybf (yaa 9) yae) (r_bi (b_len rfl) rfl Z.b_len PySem.boot_len (zaa (yaa 5) yac))))
  (zab (yak (i:=12) zau.nd (yaj yb7 (yaa 10) (r_bi (b_len rfl) rfl Z.b_len PySem.boot_len (zaa (yaa 5) yac))))
  (yag (r_if (yax (o_eq rfl hu) (yaa 10) (yaa 11) (yau _)) (yag (yaF (r_bm rfl PySem.F.plainAttrs_list PySem.F.slot_list_append PySem.F.type_list_append (zam) zao (yaa 3) (zaa (ydB (zaa (zaT rfl (yaa 5) (zaG (yaj ybf (yaa 8) (yaa 12))) (zaG (yaj ybf (yaa 9) (yaa 12)))) (zaa yae yac))) yac)))) (zab (yaF (r_bm rfl PySem.F.plainAttrs_list PySem.F.slot_list_append PySem.F.type_list_append (zam) zao (yaa 3) (zaa (ydB (zaa (zaT rfl (yaa 5) (zaG (yaj ybf (yaa 8) (yaa 12))) zbq) (zaa yae yac))) yac)))
  (zab (r_if (yax o_gt (yaa 11) (yaj (yaR rfl) (yaa 10) yae) (yau _)) (yag (yaF (r_bm rfl PySem.F.plainAttrs_list PySem.F.slot_list_append PySem.F.type_list_append (zam) zao (yaa 3) (zaa (ydB (zaa (yaa 5) (zaa (yaj ybf (yaj ybf (yaa 11) (yaa 10)) yae) yac))) yac)))) yar)
  (yag (yaF (r_bm rfl PySem.F.plainAttrs_list PySem.F.slot_list_append PySem.F.type_list_append (zam) zao (yaa 3) (zaa (ydB (zaa (zaT rfl (yaa 5) zbq (zaG (yaj ybf (yaa 9) (yaj yb7 (yaa 11) (r_bi (b_len rfl) rfl Z.b_len PySem.boot_len (zaa (yaa 5) yac)))))) (zaa yae yac))) yac))))))))))) yar)))))))
  (yag (yap (yaa 3))))))
theorem zd4:FnScope ["blocks", "begin", "end"] ["blocks", "begin", "end"] (yad ybK):=⟨rfl,rfl,rfl,by decide +kernel,rfl,by decide +kernel,by decide +kernel⟩
theorem zew {P:Program} {w:World} {K:PySem.W.Frag} {cls exc:Nat->Option Addr} {mg:Str->Option Value} {base:Heap} (Z:Facts P w K cls exc mg base):GF P w (mkT K cls exc) mg base 2 "_law_stretch" yc8:=by
 obtain ⟨f,fd,h1,h2,h3,h4⟩:=Z.d_law_stretch
 refine ⟨f,fd,_,h1,h2,h3,okA h4 rfl zd4 fun cdv A outer s H E hr C=>?_⟩
 have hu:=hu64 hr
 exact (yag (yap (r_bm rfl PySem.F.plainAttrs_str PySem.F.slot_str_join PySem.F.type_str_join (yfF rfl) zcL yaX (zaa (zfP rfl (jf:=[]) (zdz (N:=["blocks", "begin", "end"]) (sc:=yad ybK) rfl (fun _=>rfl) (by decide +kernel)) rfl (zbY (E:=(fun _=>E)) rfl (yai rfl C (za2 Z) (hr.mono (show 1<=1 by decide)) rfl (zaa (yaa 0) (zaa (yaa 1) (zaa (yaa 2) yac))))) (fun _ _ _ _ _=>zbE) (fun _ _ _ _ _=>(yaj ygX (yaa 0) (yaa 1)))) yac))))
theorem zbl:FnScope ["shelf", "text", "blocks", "stream", "total", "place", "end"] ["shelf", "text", "blocks", "stream"] (yad ycD):=⟨rfl,rfl,rfl,by decide +kernel,rfl,by decide +kernel,by decide +kernel⟩
theorem za7 {P:Program} {w:World} {K:PySem.W.Frag} {cls exc:Nat->Option Addr} {mg:Str->Option Value} {base:Heap} (Z:Facts P w K cls exc mg base):GF P w (mkT K cls exc) mg base 8 "_law_reads" ybS:=by
 obtain ⟨f,fd,h1,h2,h3,h4⟩:=Z.d_law_reads
 refine ⟨f,fd,_,h1,h2,h3,okA h4 rfl zbl fun cdv A outer s H E hr C=>?_⟩
 have hu:=hu64 hr
 exact (zab (yak (i:=4) zbl.nd (yai rfl C (za6 Z) (hr.mono (show 1<=7 by decide)) rfl (zaa (yaa 2) yac)))
  (zab (r_if (yax (o_ne rfl hu) (yal rfl C (zah Z) (hr.mono (show 5<=7 by decide)) (yaa 0) (zaa (yaa 1) yac)) (yaa 4) (yau _)) (yag (yap r_bl)) yar)
  (zab (yc7 rfl (yd5 (E:=EN) rfl (yai rfl (C.nox) (zcA Z) (hr.mono (show 2<=7 by decide)) rfl (zaa (yaa 2) (zaa (yaa 3) yac)))) (za0 (i:=5) zbl.nd) (zab (yak (i:=6) zbl.nd (r_bi (ye0) rfl Z.b_min PyProof.Rows.boot_min (zaa (yaa 4) (zaa (yaj (yaR rfl) (yaa 5) yae) yac))))
  (yag (r_if (yax (o_ne rfl hu) (yai rfl (C.nox) (ze5 Z) (hr.mono (show 7<=7 by decide)) rfl (zaa (yaa 0) (zaa (yaa 1) (zaa (yaa 5) (zaa (yaa 6) yac))))) (yai rfl (C.nox) (zew Z) (hr.mono (show 2<=7 by decide)) rfl (zaa (yaa 2) (zaa (yaa 5) (zaa (yaa 6) yac)))) (yau _)) (yag (yap r_bl)) yar))))
  (yag (yap r_bl)))))
theorem zex:FnScope ["self"] ["self"] (yad ycp):=⟨rfl,rfl,rfl,by decide +kernel,rfl,by decide +kernel,by decide +kernel⟩
theorem zaY {P:Program} {w:World} {K:PySem.W.Frag} {cls exc:Nat->Option Addr} {mg:Str->Option Value} {base:Heap} (Z:Facts P w K cls exc mg base):GM P w (mkT K cls exc) mg base 1 0 "many" ybB:=by
 obtain ⟨C0,f,fd,h0,hc,h1,h3,h4⟩:=Z.d_Shelf_many
 refine ⟨⟨C0,f,fd,_,h0,hc,h1,h3,okA h4 rfl zex fun cdv A outer s H E hr C=>?_⟩,(show ("many" : Str)∉flds 0 from by decide +kernel)⟩
 have hu:=hu64 hr
 exact (yag (yap (r_bi (b_len rfl) rfl Z.b_len PySem.boot_len (zaa (yaP rfl Z.cf_Shelf (yaa 0)) yac))))
theorem zcG:FnScope ["shelf", "text", "at", "signs"] ["shelf", "text", "at"] (yad ycE):=⟨rfl,rfl,rfl,by decide +kernel,rfl,by decide +kernel,by decide +kernel⟩
theorem zfn {P:Program} {w:World} {K:PySem.W.Frag} {cls exc:Nat->Option Addr} {mg:Str->Option Value} {base:Heap} (Z:Facts P w K cls exc mg base):GF P w (mkT K cls exc) mg base 6 "check_gap" ydF:=by
 obtain ⟨f,fd,h1,h2,h3,h4⟩:=Z.d_check_gap
 refine ⟨f,fd,_,h1,h2,h3,okA h4 rfl zcG fun cdv A outer s H E hr C=>?_⟩
 have hu:=hu64 hr
 exact (zab (yak (i:=3) zcG.nd (yal rfl C (zah Z) (hr.mono (show 5<=5 by decide)) (yaa 0) (zaa (yaa 1) yac)))
  (yag (r_if (ydi (zeJ o_le o_le yae (yaa 2) (yaa 3))) (yag (zaL Z.x_NoPlace zaK rfl (zaa yaX yac))) yar)))
theorem zbu:FnScope ["shelf", "text", "at", "piece", "ahead"] ["shelf", "text", "at"] (yad yc2):=⟨rfl,rfl,rfl,by decide +kernel,rfl,by decide +kernel,by decide +kernel⟩
theorem zbm {P:Program} {w:World} {K:PySem.W.Frag} {cls exc:Nat->Option Addr} {mg:Str->Option Value} {base:Heap} (Z:Facts P w K cls exc mg base):∀ d,GF P w (mkT K cls exc) mg base (99+d+1) "front_of" (yaw d)
 | 0=>by
  obtain ⟨f,fd,h1,h2,h3,h4⟩:=Z.d_front_of
  refine ⟨f,fd,_,h1,h2,h3,okA h4 rfl zbu fun cdv A outer s H E hr C=>?_⟩
  exact ydR
 | d+1=>by
  obtain ⟨f,fd,h1,h2,h3,h4⟩:=Z.d_front_of
  refine ⟨f,fd,_,h1,h2,h3,okA h4 rfl zbu fun cdv A outer s H E hr C=>?_⟩
  have hu:=hu64 hr
  exact (zab (r_if (yax (o_eq rfl hu) (yaa 2) yae (yau _)) (yag (yap yae)) yar)
  (zab (r_if (yax (o_eq rfl hu) (yaa 2) (yal rfl C (zah Z) (hr.mono (show 5<=99+(d+1) by lia)) (yaa 0) (zaa (yaa 1) yac)) (yau _)) (yag (yap (yaa 1))) yar)
  (zab (yak (i:=3) zbu.nd (yal rfl C (zaq Z) (hr.mono (show 4<=99+(d+1) by lia)) (yaa 0) (zaa (yaa 1) yac)))
  (zab (r_if (yax (o_eq rfl hu) (r_ix rfl hu (yaa 3) yae) yaX (yau _)) (yag (yap (yal rfl C (zbj Z) (hr.mono (show 4<=99+(d+1) by lia)) (yaa 0) (zaa (zaT rfl (r_ix rfl hu (yaa 3) yae) zbq (zaG (yaa 2))) yac)))) yar)
  (zab (yak (i:=4) zbu.nd (yal rfl C (zah Z) (hr.mono (show 5<=99+(d+1) by lia)) (yaa 0) (zaa (r_ix rfl hu (yaa 3) yae) yac)))
  (zab (r_if (yax o_le (yaa 2) (yaa 4) (yau _)) (yag (yap (yai rfl C (zbm Z d) (hr.mono (by lia)) rfl (zaa (yaa 0) (zaa (r_ix rfl hu (yaa 3) yae) (zaa (yaa 2) yac)))))) yar)
  (yag (yap (yai rfl C (zaX Z) (hr.mono (show 99<=99+(d+1) by lia)) rfl (zaa (yaa 0) (zaa (r_ix rfl hu (yaa 3) yae) (zaa (yai rfl C (zbm Z d) (hr.mono (by lia)) rfl (zaa (yaa 0) (zaa (r_ix rfl hu (yaa 3) yae) (zaa (yaj ybf (yaa 2) (yaa 4)) yac)))) yac))))))))))))
theorem zbC:FnScope ["shelf", "text", "at", "piece", "ahead"] ["shelf", "text", "at"] (yad ydf):=⟨rfl,rfl,rfl,by decide +kernel,rfl,by decide +kernel,by decide +kernel⟩
theorem zbz {P:Program} {w:World} {K:PySem.W.Frag} {cls exc:Nat->Option Addr} {mg:Str->Option Value} {base:Heap} (Z:Facts P w K cls exc mg base):∀ d,GF P w (mkT K cls exc) mg base (99+d+1) "back_of" (yaA d)
 | 0=>by
  obtain ⟨f,fd,h1,h2,h3,h4⟩:=Z.d_back_of
  refine ⟨f,fd,_,h1,h2,h3,okA h4 rfl zbC fun cdv A outer s H E hr C=>?_⟩
  exact ydR
 | d+1=>by
  obtain ⟨f,fd,h1,h2,h3,h4⟩:=Z.d_back_of
  refine ⟨f,fd,_,h1,h2,h3,okA h4 rfl zbC fun cdv A outer s H E hr C=>?_⟩
  have hu:=hu64 hr
  exact (zab (r_if (yax (o_eq rfl hu) (yaa 2) yae (yau _)) (yag (yap (yaa 1))) yar)
  (zab (r_if (yax (o_eq rfl hu) (yaa 2) (yal rfl C (zah Z) (hr.mono (show 5<=99+(d+1) by lia)) (yaa 0) (zaa (yaa 1) yac)) (yau _)) (yag (yap yae)) yar)
  (zab (yak (i:=3) zbC.nd (yal rfl C (zaq Z) (hr.mono (show 4<=99+(d+1) by lia)) (yaa 0) (zaa (yaa 1) yac)))
  (zab (r_if (yax (o_eq rfl hu) (r_ix rfl hu (yaa 3) yae) yaX (yau _)) (yag (yap (yal rfl C (zbj Z) (hr.mono (show 4<=99+(d+1) by lia)) (yaa 0) (zaa (zaT rfl (r_ix rfl hu (yaa 3) yae) (zaG (yaa 2)) zbq) yac)))) yar)
  (zab (yak (i:=4) zbC.nd (yal rfl C (zah Z) (hr.mono (show 5<=99+(d+1) by lia)) (yaa 0) (zaa (r_ix rfl hu (yaa 3) yae) yac)))
  (zab (r_if (yax o_ge (yaa 2) (yaa 4) (yau _)) (yag (yap (yai rfl C (zbz Z d) (hr.mono (by lia)) rfl (zaa (yaa 0) (zaa (r_ix rfl hu (yaa 3) yae) (zaa (yaj ybf (yaa 2) (yaa 4)) yac)))))) yar)
  (yag (yap (yai rfl C (zaX Z) (hr.mono (show 99<=99+(d+1) by lia)) rfl (zaa (yaa 0) (zaa (yai rfl C (zbz Z d) (hr.mono (by lia)) rfl (zaa (yaa 0) (zaa (r_ix rfl hu (yaa 3) yae) (zaa (yaa 2) yac)))) (zaa (r_ix rfl hu (yaa 3) yae) yac))))))))))))
theorem zcH:FnScope ["shelf", "text", "at", "other", "together", "front"] ["shelf", "text", "at", "other"] (yad ydx):=⟨rfl,rfl,rfl,by decide +kernel,rfl,by decide +kernel,by decide +kernel⟩
theorem ziq {P:Program} {w:World} {K:PySem.W.Frag} {cls exc:Nat->Option Addr} {mg:Str->Option Value} {base:Heap} (Z:Facts P w K cls exc mg base):GF P w (mkT K cls exc) mg base 191 "put_in" ydb:=by
 obtain ⟨f,fd,h1,h2,h3,h4⟩:=Z.d_put_in
 refine ⟨f,fd,_,h1,h2,h3,okA h4 rfl zcH fun cdv A outer s H E hr C=>?_⟩
 have hu:=hu64 hr
 exact (zab (yak (i:=4) zcH.nd (yaj (yaR rfl) (yal rfl C (zah Z) (hr.mono (show 5<=190 by decide)) (yaa 0) (zaa (yaa 1) yac)) (yal rfl C (zah Z) (hr.mono (show 5<=190 by decide)) (yaa 0) (zaa (yaa 3) yac))))
  (zab (yaF (yai rfl C (zfn Z) (hr.mono (show 6<=190 by decide)) rfl (zaa (yaa 0) (zaa (yaa 1) (zaa (yaa 2) yac)))))
  (zab (yaF (yai rfl C (zbr Z) (hr.mono (show 1<=190 by decide)) rfl (zaa (yaa 4) yac)))
  (zab (yak (i:=5) zcH.nd (yai rfl C (zaX Z) (hr.mono (show 99<=190 by decide)) rfl (zaa (yaa 0) (zaa (yai rfl C (zbm Z 90) (hr.mono (show 190<=190 by decide)) rfl (zaa (yaa 0) (zaa (yaa 1) (zaa (yaa 2) yac)))) (zaa (yaa 3) yac)))))
  (yag (yap (yai rfl C (zaX Z) (hr.mono (show 99<=190 by decide)) rfl (zaa (yaa 0) (zaa (yaa 5) (zaa (yai rfl C (zbz Z 90) (hr.mono (show 190<=190 by decide)) rfl (zaa (yaa 0) (zaa (yaa 1) (zaa (yaa 2) yac)))) yac))))))))))
theorem zbD:FnScope ["shelf", "text", "place", "other", "told"] ["shelf", "text", "place", "other"] (yad ydg):=⟨rfl,rfl,rfl,by decide +kernel,rfl,by decide +kernel,by decide +kernel⟩
theorem zht {P:Program} {w:World} {K:PySem.W.Frag} {cls exc:Nat->Option Addr} {mg:Str->Option Value} {base:Heap} (Z:Facts P w K cls exc mg base):GF P w (mkT K cls exc) mg base 192 "_law_put" ydc:=by
 obtain ⟨f,fd,h1,h2,h3,h4⟩:=Z.d_law_put
 refine ⟨f,fd,_,h1,h2,h3,okA h4 rfl zbD fun cdv A outer s H E hr C=>?_⟩
 have hu:=hu64 hr
 exact (zab (yak (i:=4) zbD.nd (ydK yae))
  (zab (ygY rfl rfl Z.ct_TooLong (fun _ _ Ex2 C2 R2=>(yag (yak (i:=4) zbD.nd (yai rfl C2 (ziq Z) (hr.mono (show 191<=191 by decide)) rfl (zaa (yaa 0) (zaa (yaa 1) (zaa (yaa 2) (zaa (yaa 3) yac)))))))) (fun _ C3=>(yag (yak (i:=4) zbD.nd (ydK yae)))))
  (yag (yap (yaa 4)))))
theorem zaI:FnScope ["shelf", "texts", "blocks", "other", "place", "stream", "ahead", "told", "made", "due"] ["shelf", "texts", "blocks", "other", "place", "stream"] (yad ybH):=⟨rfl,rfl,rfl,by decide +kernel,rfl,by decide +kernel,by decide +kernel⟩
theorem zdJ {P:Program} {w:World} {K:PySem.W.Frag} {cls exc:Nat->Option Addr} {mg:Str->Option Value} {base:Heap} (Z:Facts P w K cls exc mg base):GF P w (mkT K cls exc) mg base 193 "_law_put_right" ycf:=by
 obtain ⟨f,fd,h1,h2,h3,h4⟩:=Z.d_law_put_right
 refine ⟨f,fd,_,h1,h2,h3,okA h4 rfl zaI fun cdv A outer s H E hr C=>?_⟩
 have hu:=hu64 hr
 exact (zab (yak (i:=6) zaI.nd (zbZ rfl C (zaY Z) (hr.mono (show 1<=192 by decide)) (yaa 0)))
  (zab (yak (i:=7) zaI.nd (yai rfl C (zht Z) (hr.mono (show 192<=192 by decide)) rfl (zaa (yaa 0) (zaa (r_ix rfl hu (yaa 1) yae) (zaa (yaa 4) (zaa (r_ix rfl hu (yaa 1) yae) yac))))))
  (zab (yak (i:=8) zaI.nd (yaj ybf (zbZ rfl C (zaY Z) (hr.mono (show 1<=192 by decide)) (yaa 0)) (yaa 6)))
  (zab (r_if (yax o_gt (yaj (yaR rfl) (yai rfl C (za6 Z) (hr.mono (show 1<=192 by decide)) rfl (zaa (yaa 2) yac)) (yai rfl C (za6 Z) (hr.mono (show 1<=192 by decide)) rfl (zaa (yaa 3) yac))) (yaj ydA yae yae) (yau _)) (yag (yap (yex (yeM (o_eq rfl hu) (yaa 7) (ydK yae) (yau _)) (yek (yeM (o_eq rfl hu) (yaa 8) yae (yau _)))))) yar)
  (zab (r_if (rt_w (yfb (yax (o_eq rfl hu) (yaa 7) (ydK yae) (yau _)) (yeW (yax o_gt (yaa 8) (yaj yb7 yae (yaj (yaR rfl) yae (r_bi (yeA) rfl Z.b_max PyProof.Rows.boot_max (zaa (yal rfl C (zal Z) (hr.mono (show 5<=192 by decide)) (yaa 0) (zaa (r_ix rfl hu (yaa 1) yae) yac)) (zaa (yal rfl C (zal Z) (hr.mono (show 5<=192 by decide)) (yaa 0) (zaa (r_ix rfl hu (yaa 1) yae) yac)) yac))))) (yau _))))) (yag (yap r_bl)) yar)
  (zab (yak (i:=9) zaI.nd (yaj (yaR rfl) (yaj (yaR rfl) (yai rfl C (za2 Z) (hr.mono (show 1<=192 by decide)) rfl (zaa (yaa 2) (zaa yae (zaa (yaa 4) yac)))) (yaa 3)) (yai rfl C (za2 Z) (hr.mono (show 1<=192 by decide)) rfl (zaa (yaa 2) (zaa (yaa 4) (zaa (yai rfl C (za6 Z) (hr.mono (show 1<=192 by decide)) rfl (zaa (yaa 2) yac)) yac))))))
  (yag (yap (yai rfl C (za7 Z) (hr.mono (show 8<=192 by decide)) rfl (zaa (yaa 0) (zaa (yaa 7) (zaa (yaa 9) (zaa (yaa 5) yac)))))))))))))
theorem ze6:FnScope ["shelf", "text", "begin", "end"] ["shelf", "text", "begin", "end"] (yad ycF):=⟨rfl,rfl,rfl,by decide +kernel,rfl,by decide +kernel,by decide +kernel⟩
theorem zfo {P:Program} {w:World} {K:PySem.W.Frag} {cls exc:Nat->Option Addr} {mg:Str->Option Value} {base:Heap} (Z:Facts P w K cls exc mg base):GF P w (mkT K cls exc) mg base 191 "taken_out" yc5:=by
 obtain ⟨f,fd,h1,h2,h3,h4⟩:=Z.d_taken_out
 refine ⟨f,fd,_,h1,h2,h3,okA h4 rfl ze6 fun cdv A outer s H E hr C=>?_⟩
 have hu:=hu64 hr
 exact (zab (yaF (yai rfl C (zbk Z) (hr.mono (show 6<=190 by decide)) rfl (zaa (yaa 0) (zaa (yaa 1) (zaa (yaa 2) (zaa (yaa 3) yac))))))
  (yag (yap (yai rfl C (zaX Z) (hr.mono (show 99<=190 by decide)) rfl (zaa (yaa 0) (zaa (yai rfl C (zbm Z 90) (hr.mono (show 190<=190 by decide)) rfl (zaa (yaa 0) (zaa (yaa 1) (zaa (yaa 2) yac)))) (zaa (yai rfl C (zbz Z 90) (hr.mono (show 190<=190 by decide)) rfl (zaa (yaa 0) (zaa (yaa 1) (zaa (yaa 3) yac)))) yac)))))))
theorem ze7:FnScope ["shelf", "text", "begin", "end"] ["shelf", "text", "begin", "end"] (yad ycG):=⟨rfl,rfl,rfl,by decide +kernel,rfl,by decide +kernel,by decide +kernel⟩
theorem zfp {P:Program} {w:World} {K:PySem.W.Frag} {cls exc:Nat->Option Addr} {mg:Str->Option Value} {base:Heap} (Z:Facts P w K cls exc mg base):GF P w (mkT K cls exc) mg base 191 "kept_part" yc6:=by
 obtain ⟨f,fd,h1,h2,h3,h4⟩:=Z.d_kept_part
 refine ⟨f,fd,_,h1,h2,h3,okA h4 rfl ze7 fun cdv A outer s H E hr C=>?_⟩
 have hu:=hu64 hr
 exact (zab (yaF (yai rfl C (zbk Z) (hr.mono (show 6<=190 by decide)) rfl (zaa (yaa 0) (zaa (yaa 1) (zaa (yaa 2) (zaa (yaa 3) yac))))))
  (yag (yap (yai rfl C (zbz Z 90) (hr.mono (show 190<=190 by decide)) rfl (zaa (yaa 0) (zaa (yai rfl C (zbm Z 90) (hr.mono (show 190<=190 by decide)) rfl (zaa (yaa 0) (zaa (yaa 1) (zaa (yaa 3) yac)))) (zaa (yaa 2) yac)))))))
theorem zar:FnScope ["shelf", "text", "blocks", "begin", "end", "stream", "total", "most", "ahead", "taken", "amid", "kept", "rest"] ["shelf", "text", "blocks", "begin", "end", "stream"] (yad ybc):=⟨rfl,rfl,rfl,by decide +kernel,rfl,by decide +kernel,by decide +kernel⟩
theorem zcn {P:Program} {w:World} {K:PySem.W.Frag} {cls exc:Nat->Option Addr} {mg:Str->Option Value} {base:Heap} (Z:Facts P w K cls exc mg base):GF P w (mkT K cls exc) mg base 192 "_law_stretch_right" yb8:=by
 obtain ⟨f,fd,h1,h2,h3,h4⟩:=Z.d_law_stretch_right
 refine ⟨f,fd,_,h1,h2,h3,okA h4 rfl zar fun cdv A outer s H E hr C=>?_⟩
 have hu:=hu64 hr
 exact (zab (yak (i:=6) zar.nd (yai rfl C (za6 Z) (hr.mono (show 1<=191 by decide)) rfl (zaa (yaa 2) yac)))
  (zab (yak (i:=7) zar.nd (yaj yb7 yae (yaj (yaR rfl) yae (yal rfl C (zal Z) (hr.mono (show 5<=191 by decide)) (yaa 0) (zaa (yaa 1) yac)))))
  (zab (yak (i:=8) zar.nd (zbZ rfl C (zaY Z) (hr.mono (show 1<=191 by decide)) (yaa 0)))
  (zab (yak (i:=9) zar.nd (yai rfl C (zfo Z) (hr.mono (show 191<=191 by decide)) rfl (zaa (yaa 0) (zaa (yaa 1) (zaa (yaa 3) (zaa (yaa 4) yac))))))
  (zab (yak (i:=10) zar.nd (zbZ rfl C (zaY Z) (hr.mono (show 1<=191 by decide)) (yaa 0)))
  (zab (yak (i:=11) zar.nd (yai rfl C (zfp Z) (hr.mono (show 191<=191 by decide)) rfl (zaa (yaa 0) (zaa (yaa 1) (zaa (yaa 3) (zaa (yaa 4) yac))))))
  (zab (r_if (rt_w (yfb (yax o_gt (yaj ybf (yaa 10) (yaa 8)) (yaa 7) (yau _)) (yeW (yax o_gt (yaj ybf (zbZ rfl C (zaY Z) (hr.mono (show 1<=191 by decide)) (yaa 0)) (yaa 10)) (yaa 7) (yau _))))) (yag (yap r_bl)) yar)
  (zab (r_if (ydi (zaU rfl (yai rfl C (za7 Z) (hr.mono (show 8<=191 by decide)) rfl (zaa (yaa 0) (zaa (yaa 11) (zaa (yai rfl C (za2 Z) (hr.mono (show 1<=191 by decide)) rfl (zaa (yaa 2) (zaa (yaa 3) (zaa (yaa 4) yac)))) (zaa (yaa 5) yac))))))) (yag (yap r_bl)) yar)
  (zab (yak (i:=12) zar.nd (yaj (yaR rfl) (yai rfl C (za2 Z) (hr.mono (show 1<=191 by decide)) rfl (zaa (yaa 2) (zaa yae (zaa (yaa 3) yac)))) (yai rfl C (za2 Z) (hr.mono (show 1<=191 by decide)) rfl (zaa (yaa 2) (zaa (yaa 4) (zaa (yaa 6) yac))))))
  (yag (yap (yai rfl C (za7 Z) (hr.mono (show 8<=191 by decide)) rfl (zaa (yaa 0) (zaa (yaa 9) (zaa (yaa 12) (zaa (yaa 5) yac))))))))))))))))
theorem sc_law:FnScope ["script", "shelf", "blocks", "other", "texts", "stream", "places", "place", "k", "pair"] ["script"] (yad yd1):=⟨rfl,rfl,rfl,by decide +kernel,rfl,by decide +kernel,by decide +kernel⟩
theorem yii {P:Program} {w:World} {K:PySem.W.Frag} {cls exc:Nat->Option Addr} {mg:Str->Option Value} {base:Heap} (Z:Facts P w K cls exc mg base) {f:Addr} {fd:FuncData} (h4:Fun K "law" "law" yd1 f fd):FnOk P w K mg base (CXE P w) 194 f fd ["script"] (spA (mkT K cls exc) yfh):=by
 refine okA h4 rfl sc_law fun cdv A outer s H E hr C=>?_
 have hu:=hu64 hr
 exact (zab (yak (i:=1) sc_law.nd (zi5 rfl C (ze1 Z) (hr.mono (show 2<=193 by decide)) rfl))
  (zab (yak (i:=2) sc_law.nd (yai rfl C (zcy Z) (hr.mono (show 3<=193 by decide)) rfl (zaa (yai rfl C (zbN Z) (hr.mono (show 2<=193 by decide)) rfl (zaa (yaa 0) (zaa yae yac))) yac)))
  (zab (yak (i:=3) sc_law.nd (yai rfl C (zcy Z) (hr.mono (show 3<=193 by decide)) rfl (zaa (yai rfl C (zbN Z) (hr.mono (show 2<=193 by decide)) rfl (zaa (yaa 0) (zaa yae yac))) yac)))
  (zab (yak (i:=4) sc_law.nd (yeN (zaa (yai rfl C (zdH Z) (hr.mono (show 166<=193 by decide)) rfl (zaa (yaa 1) (zaa (yaa 2) yac))) (zaa (yai rfl C (zdH Z) (hr.mono (show 166<=193 by decide)) rfl (zaa (yaa 1) (zaa (yaa 3) yac))) yac))))
  (zab (yak (i:=5) sc_law.nd (yai rfl C (zbN Z) (hr.mono (show 2<=193 by decide)) rfl (zaa (yaa 0) (zaa yae yac))))
  (zab (yak (i:=6) sc_law.nd (yai rfl C (zcA Z) (hr.mono (show 2<=193 by decide)) rfl (zaa (yaa 2) (zaa (yaa 5) yac))))
  (zab (yc7 rfl (yd5 (E:=EN) rfl (zaT rfl (yaa 6) zbq (zaG yae))) (za0 (i:=7) sc_law.nd) (yag (r_if (ydi (zaU rfl (yai rfl (C.nox) (zdJ Z) (hr.mono (show 193<=193 by decide)) rfl (zaa (yaa 1) (zaa (yaa 4) (zaa (yaa 2) (zaa (yaa 3) (zaa (yaa 7) (zaa (yaa 5) yac))))))))) (yag (yap r_bl)) yar)))
  (zab (yc7 rfl (za9 (E:=EN) rfl Z.b_range yae) (za0 (i:=8) sc_law.nd) (zab (zfH (jf:=[(6, "places"),(5, "stream")]) (zba (N:=["script", "shelf", "blocks", "other", "texts", "stream", "places", "place", "k", "pair"]) (sc:=yad yd1) rfl (fun _=>rfl) (by decide +kernel)) rfl (za9 (E:=EN) rfl Z.b_range yae) (fun _ _ _ _ _=>zbE) (fun _ _ _ _ _=>(r_ix rfl hu (yaa 1) (yai rfl (CA.never rfl) (zaE Z) (hr.mono (show 1<=193 by decide)) rfl (zaa (yaa 2) (zaa (r_bi (b_len rfl) rfl Z.b_len PySem.boot_len (zaa (yaa 1) yac)) yac))))) sc_law.nd (i:=9))
  (yag (r_if (ydi (zaU rfl (yai rfl (C.nox) (zcn Z) (hr.mono (show 192<=193 by decide)) rfl (zaa (yaa 1) (zaa (r_ix rfl hu (yaa 4) yae) (zaa (yaa 2) (zaa (r_bi (ygZ rfl) rfl Z.b_min PyProof.Rows.boot_min (zaa (yaa 9) yac)) (zaa (r_bi (yg0 rfl) rfl Z.b_max PyProof.Rows.boot_max (zaa (yaa 9) yac)) (zaa (yaa 5) yac))))))))) (yag (yap r_bl)) yar))))
  (yag (yap (yex (yai rfl C (za7 Z) (hr.mono (show 8<=193 by decide)) rfl (zaa (yaa 1) (zaa (r_ix rfl hu (yaa 4) yae) (zaa (yaa 2) (zaa (yaa 5) yac))))) (yek (yai rfl C (za7 Z) (hr.mono (show 8<=193 by decide)) rfl (zaa (yaa 1) (zaa (r_ix rfl hu (yaa 4) yae) (zaa (yaa 3) (zaa (yaa 5) yac)))))))))))))))))
end Sk
namespace Sk
open PySem PySem.Spec L2 Sm
theorem all_mk {l:PySem.W.OpenLaw} {w:World} {K:PySem.W.Frag} {h:Heap} {mg:Str->Option Value} {fa f0 f1 f2 f3 f4 f5 f6 f7 f8 f9 f10 f11 f12 f13 f14 f15 f16 f17 f18 f19 f20 f21 f22 f23 f24 f25 f26 f27 f28 f29 f30 f31 f32 f33 f34 f35 f36 f37 f38 f39 f40 f41 f42 f43 f44 f45 f46 f47 f48 f49 f50 f51 f52 f53 f54 f55 f56 f57 C0 X0 X1 X2 X3 X4 X5 X6:Addr} {tk_LEAF_SIGNS tk_MOST_PLAIN tk_MOST_SIGNS:Tok} (X:K.In h) (G:h.Ns mainGlobals mg) (hfa:mg "law" = some (.ref fa))
  {od0 an0 od1 an1 od2 an2 od3 an3 od4 an4 od5 an5 od6 an6 od7 an7 od8 an8 od9 an9 od10 an10 od11 an11 od12 an12 od13 an13 od14 an14 od15 an15 od16 an16 od17 an17 od18 an18 od19 an19 od20 an20 od21 an21 od22 an22 od23 an23 od24 an24 od25 an25 od26 an26 od27 an27 od28 an28 od29 an29 od30 an30 od31 an31 od32 an32 od33 an33 od34 an34 od35 an35 od36 an36 od37 an37 od38 an38 od39 an39 od40 an40 od41 an41 od42 an42 od43 an43 od44 an44 od45 an45 od46 an46 od47 an47 od48 an48 od49 an49 od50 an50 od51 an51 od52 an52 od53 an53 od54 an54 od55 an55 od56 an56 od57 an57:Option Addr} {sl0 sl1 sl2 sl3 sl4 sl5 sl6 sl7 sl8 sl9 sl10 sl11 sl12 sl13 sl14 sl15 sl16 sl17 sl18 sl19 sl20 sl21 sl22 sl23 sl24 sl25 sl26 sl27 sl28 sl29 sl30 sl31 sl32 sl33 sl34 sl35 sl36 sl37 sl38 sl39 sl40 sl41 sl42 sl43 sl44 sl45 sl46 sl47 sl48 sl49 sl50 sl51 sl52 sl53 sl54 sl55 sl56 sl57:Array (Option Value)} {oc0 kV0 dc0 pm0 cd0 ct0 oc1 kV1 dc1 pm1 cd1 ct1 oc2 kV2 dc2 pm2 cd2 ct2 oc3 kV3 dc3 pm3 cd3 ct3 oc4 kV4 dc4 pm4 cd4 ct4 oc5 kV5 dc5 pm5 cd5 ct5 oc6 kV6 dc6 pm6 cd6 ct6 oc7 kV7 dc7 pm7 cd7 ct7 oc8 kV8 dc8 pm8 cd8 ct8 oc9 kV9 dc9 pm9 cd9 ct9 oc10 kV10 dc10 pm10 cd10 ct10 oc11 kV11 dc11 pm11 cd11 ct11 oc12 kV12 dc12 pm12 cd12 ct12 oc13 kV13 dc13 pm13 cd13 ct13 oc14 kV14 dc14 pm14 cd14 ct14 oc15 kV15 dc15 pm15 cd15 ct15 oc16 kV16 dc16 pm16 cd16 ct16 oc17 kV17 dc17 pm17 cd17 ct17 oc18 kV18 dc18 pm18 cd18 ct18 oc19 kV19 dc19 pm19 cd19 ct19 oc20 kV20 dc20 pm20 cd20 ct20 oc21 kV21 dc21 pm21 cd21 ct21 oc22 kV22 dc22 pm22 cd22 ct22 oc23 kV23 dc23 pm23 cd23 ct23 oc24 kV24 dc24 pm24 cd24 ct24 oc25 kV25 dc25 pm25 cd25 ct25 oc26 kV26 dc26 pm26 cd26 ct26 oc27 kV27 dc27 pm27 cd27 ct27 oc28 kV28 dc28 pm28 cd28 ct28 oc29 kV29 dc29 pm29 cd29 ct29 oc30 kV30 dc30 pm30 cd30 ct30 oc31 kV31 dc31 pm31 cd31 ct31 oc32 kV32 dc32 pm32 cd32 ct32 oc33 kV33 dc33 pm33 cd33 ct33 oc34 kV34 dc34 pm34 cd34 ct34 oc35 kV35 dc35 pm35 cd35 ct35 oc36 kV36 dc36 pm36 cd36 ct36 oc37 kV37 dc37 pm37 cd37 ct37 oc38 kV38 dc38 pm38 cd38 ct38 oc39 kV39 dc39 pm39 cd39 ct39 oc40 kV40 dc40 pm40 cd40 ct40 oc41 kV41 dc41 pm41 cd41 ct41 oc42 kV42 dc42 pm42 cd42 ct42 oc43 kV43 dc43 pm43 cd43 ct43 oc44 kV44 dc44 pm44 cd44 ct44 oc45 kV45 dc45 pm45 cd45 ct45 oc46 kV46 dc46 pm46 cd46 ct46 oc47 kV47 dc47 pm47 cd47 ct47 oc48 kV48 dc48 pm48 cd48 ct48 oc49 kV49 dc49 pm49 cd49 ct49 oc50 kV50 dc50 pm50 cd50 ct50 oc51 kV51 dc51 pm51 cd51 ct51 oc52 kV52 dc52 pm52 cd52 ct52 oc53 kV53 dc53 pm53 cd53 ct53 oc54 kV54 dc54 pm54 cd54 ct54 oc55 kV55 dc55 pm55 cd55 ct55 oc56 kV56 dc56 pm56 cd56 ct56 oc57 kV57 dc57 pm57 cd57 ct57:Value}
  (aC0:PySem.W.nsIn K mainGlobals "Shelf" = some (some (.ref C0)))
  (a0:PySem.W.findIn K (.ref C0) "__init__" = some (some (.ref f0)))
  (i0:PySem.W.isFn K (.ref f0)=true)
  (l0:K.lookup f0=some ⟨oc0,od0,.func (PySem.W.fnOf "__init__" "Shelf.__init__" (yao yck) (yan yck) (yad yck) .none kV0 dc0 pm0 an0 cd0 ct0),sl0⟩)
  (c0:PySem.W.codeIn K cd0 "Shelf.__init__" = true)
  (k0:PySem.W.keepIn K (.ref f0)=true)
  (a9:PySem.W.findIn K (.ref C0) "has_piece" = some (some (.ref f9)))
  (i9:PySem.W.isFn K (.ref f9)=true)
  (l9:K.lookup f9=some ⟨oc9,od9,.func (PySem.W.fnOf "has_piece" "Shelf.has_piece" (yao ybp) (yan ybp) (yad ybp) .none kV9 dc9 pm9 an9 cd9 ct9),sl9⟩)
  (c9:PySem.W.codeIn K cd9 "Shelf.has_piece" = true)
  (k9:PySem.W.keepIn K (.ref f9)=true)
  (a10:PySem.W.findIn K (.ref C0) "check_piece" = some (some (.ref f10)))
  (i10:PySem.W.isFn K (.ref f10)=true)
  (l10:K.lookup f10=some ⟨oc10,od10,.func (PySem.W.fnOf "check_piece" "Shelf.check_piece" (yao ybb) (yan ybb) (yad ybb) .none kV10 dc10 pm10 an10 cd10 ct10),sl10⟩)
  (c10:PySem.W.codeIn K cd10 "Shelf.check_piece" = true)
  (k10:PySem.W.keepIn K (.ref f10)=true)
  (a11:PySem.W.findIn K (.ref C0) "check_text" = some (some (.ref f11)))
  (i11:PySem.W.isFn K (.ref f11)=true)
  (l11:K.lookup f11=some ⟨oc11,od11,.func (PySem.W.fnOf "check_text" "Shelf.check_text" (yao ybk) (yan ybk) (yad ybk) .none kV11 dc11 pm11 an11 cd11 ct11),sl11⟩)
  (c11:PySem.W.codeIn K cd11 "Shelf.check_text" = true)
  (k11:PySem.W.keepIn K (.ref f11)=true)
  (a12:PySem.W.findIn K (.ref C0) "signs" = some (some (.ref f12)))
  (i12:PySem.W.isFn K (.ref f12)=true)
  (l12:K.lookup f12=some ⟨oc12,od12,.func (PySem.W.fnOf "signs" "Shelf.signs" (yao yca) (yan yca) (yad yca) .none kV12 dc12 pm12 an12 cd12 ct12),sl12⟩)
  (c12:PySem.W.codeIn K cd12 "Shelf.signs" = true)
  (k12:PySem.W.keepIn K (.ref f12)=true)
  (a13:PySem.W.findIn K (.ref C0) "last_leaf" = some (some (.ref f13)))
  (i13:PySem.W.isFn K (.ref f13)=true)
  (l13:K.lookup f13=some ⟨oc13,od13,.func (PySem.W.fnOf "last_leaf" "Shelf.last_leaf" (yao ybq) (yan ybq) (yad ybq) .none kV13 dc13 pm13 an13 cd13 ct13),sl13⟩)
  (c13:PySem.W.codeIn K cd13 "Shelf.last_leaf" = true)
  (k13:PySem.W.keepIn K (.ref f13)=true)
  (a14:PySem.W.findIn K (.ref C0) "first_leaf" = some (some (.ref f14)))
  (i14:PySem.W.isFn K (.ref f14)=true)
  (l14:K.lookup f14=some ⟨oc14,od14,.func (PySem.W.fnOf "first_leaf" "Shelf.first_leaf" (yao ybl) (yan ybl) (yad ybl) .none kV14 dc14 pm14 an14 cd14 ct14),sl14⟩)
  (c14:PySem.W.codeIn K cd14 "Shelf.first_leaf" = true)
  (k14:PySem.W.keepIn K (.ref f14)=true)
  (a16:PySem.W.findIn K (.ref C0) "piece" = some (some (.ref f16)))
  (i16:PySem.W.isFn K (.ref f16)=true)
  (l16:K.lookup f16=some ⟨oc16,od16,.func (PySem.W.fnOf "piece" "Shelf.piece" (yao ycb) (yan ycb) (yad ycb) .none kV16 dc16 pm16 an16 cd16 ct16),sl16⟩)
  (c16:PySem.W.codeIn K cd16 "Shelf.piece" = true)
  (k16:PySem.W.keepIn K (.ref f16)=true)
  (a17:PySem.W.findIn K (.ref C0) "check_fork" = some (some (.ref f17)))
  (i17:PySem.W.isFn K (.ref f17)=true)
  (l17:K.lookup f17=some ⟨oc17,od17,.func (PySem.W.fnOf "check_fork" "Shelf.check_fork" (yao ybm) (yan ybm) (yad ybm) .none kV17 dc17 pm17 an17 cd17 ct17),sl17⟩)
  (c17:PySem.W.codeIn K cd17 "Shelf.check_fork" = true)
  (k17:PySem.W.keepIn K (.ref f17)=true)
  (a18:PySem.W.findIn K (.ref C0) "lay" = some (some (.ref f18)))
  (i18:PySem.W.isFn K (.ref f18)=true)
  (l18:K.lookup f18=some ⟨oc18,od18,.func (PySem.W.fnOf "lay" "Shelf.lay" (yao ycB) (yan ycB) (yad ycB) .none kV18 dc18 pm18 an18 cd18 ct18),sl18⟩)
  (c18:PySem.W.codeIn K cd18 "Shelf.lay" = true)
  (k18:PySem.W.keepIn K (.ref f18)=true)
  (a19:PySem.W.findIn K (.ref C0) "lay_fork" = some (some (.ref f19)))
  (i19:PySem.W.isFn K (.ref f19)=true)
  (l19:K.lookup f19=some ⟨oc19,od19,.func (PySem.W.fnOf "lay_fork" "Shelf.lay_fork" (yao ybw) (yan ybw) (yad ybw) .none kV19 dc19 pm19 an19 cd19 ct19),sl19⟩)
  (c19:PySem.W.codeIn K cd19 "Shelf.lay_fork" = true)
  (k19:PySem.W.keepIn K (.ref f19)=true)
  (a20:PySem.W.findIn K (.ref C0) "fork" = some (some (.ref f20)))
  (i20:PySem.W.isFn K (.ref f20)=true)
  (l20:K.lookup f20=some ⟨oc20,od20,.func (PySem.W.fnOf "fork" "Shelf.fork" (yao ycm) (yan ycm) (yad ycm) .none kV20 dc20 pm20 an20 cd20 ct20),sl20⟩)
  (c20:PySem.W.codeIn K cd20 "Shelf.fork" = true)
  (k20:PySem.W.keepIn K (.ref f20)=true)
  (a22:PySem.W.findIn K (.ref C0) "height" = some (some (.ref f22)))
  (i22:PySem.W.isFn K (.ref f22)=true)
  (l22:K.lookup f22=some ⟨oc22,od22,.func (PySem.W.fnOf "height" "Shelf.height" (yao ybW) (yan ybW) (yad ybW) .none kV22 dc22 pm22 an22 cd22 ct22),sl22⟩)
  (c22:PySem.W.codeIn K cd22 "Shelf.height" = true)
  (k22:PySem.W.keepIn K (.ref f22)=true)
  (a31:PySem.W.findIn K (.ref C0) "lay_leaf" = some (some (.ref f31)))
  (i31:PySem.W.isFn K (.ref f31)=true)
  (l31:K.lookup f31=some ⟨oc31,od31,.func (PySem.W.fnOf "lay_leaf" "Shelf.lay_leaf" (yao ybx) (yan ybx) (yad ybx) .none kV31 dc31 pm31 an31 cd31 ct31),sl31⟩)
  (c31:PySem.W.codeIn K cd31 "Shelf.lay_leaf" = true)
  (k31:PySem.W.keepIn K (.ref f31)=true)
  (a32:PySem.W.findIn K (.ref C0) "leaf" = some (some (.ref f32)))
  (i32:PySem.W.isFn K (.ref f32)=true)
  (l32:K.lookup f32=some ⟨oc32,od32,.func (PySem.W.fnOf "leaf" "Shelf.leaf" (yao ycn) (yan ycn) (yad ycn) .none kV32 dc32 pm32 an32 cd32 ct32),sl32⟩)
  (c32:PySem.W.codeIn K cd32 "Shelf.leaf" = true)
  (k32:PySem.W.keepIn K (.ref f32)=true)
  (a47:PySem.W.findIn K (.ref C0) "many" = some (some (.ref f47)))
  (i47:PySem.W.isFn K (.ref f47)=true)
  (l47:K.lookup f47=some ⟨oc47,od47,.func (PySem.W.fnOf "many" "Shelf.many" (yao ycp) (yan ycp) (yad ycp) .none kV47 dc47 pm47 an47 cd47 ct47),sl47⟩)
  (c47:PySem.W.codeIn K cd47 "Shelf.many" = true)
  (k47:PySem.W.keepIn K (.ref f47)=true)
  (a1:PySem.W.nsIn K mainGlobals "_law_take" = some (some (.ref f1)))
  (l1:K.lookup f1=some ⟨oc1,od1,.func (PySem.W.fnOf "_law_take" "_law_take" (yao ycW) (yan ycW) (yad ycW) .none kV1 dc1 pm1 an1 cd1 ct1),sl1⟩)
  (c1:PySem.W.codeIn K cd1 "_law_take" = true)
  (k1:PySem.W.keepIn K (.ref f1)=true)
  (a2:PySem.W.nsIn K mainGlobals "_law_plain" = some (some (.ref f2)))
  (l2:K.lookup f2=some ⟨oc2,od2,.func (PySem.W.fnOf "_law_plain" "_law_plain" (yao ycy) (yan ycy) (yad ycy) .none kV2 dc2 pm2 an2 cd2 ct2),sl2⟩)
  (c2:PySem.W.codeIn K cd2 "_law_plain" = true)
  (k2:PySem.W.keepIn K (.ref f2)=true)
  (a3:PySem.W.nsIn K mainGlobals "_law_blocks" = some (some (.ref f3)))
  (l3:K.lookup f3=some ⟨oc3,od3,.func (PySem.W.fnOf "_law_blocks" "_law_blocks" (yao ycl) (yan ycl) (yad ycl) .none kV3 dc3 pm3 an3 cd3 ct3),sl3⟩)
  (c3:PySem.W.codeIn K cd3 "_law_blocks" = true)
  (k3:PySem.W.keepIn K (.ref f3)=true)
  (a4:PySem.W.nsIn K mainGlobals "_law_mixed" = some (some (.ref f4)))
  (l4:K.lookup f4=some ⟨oc4,od4,.func (PySem.W.fnOf "_law_mixed" "_law_mixed" (yao ycz) (yan ycz) (yad ycz) .none kV4 dc4 pm4 an4 cd4 ct4),sl4⟩)
  (c4:PySem.W.codeIn K cd4 "_law_mixed" = true)
  (k4:PySem.W.keepIn K (.ref f4)=true)
  (a5:PySem.W.nsIn K mainGlobals "_law_stream" = some (some (.ref f5)))
  (l5:K.lookup f5=some ⟨oc5,od5,.func (PySem.W.fnOf "_law_stream" "_law_stream" (yao yb4) (yan yb4) (yad yb4) .none kV5 dc5 pm5 an5 cd5 ct5),sl5⟩)
  (c5:PySem.W.codeIn K cd5 "_law_stream" = true)
  (k5:PySem.W.keepIn K (.ref f5)=true)
  (a6:PySem.W.nsIn K mainGlobals "_law_places" = some (some (.ref f6)))
  (l6:K.lookup f6=some ⟨oc6,od6,.func (PySem.W.fnOf "_law_places" "_law_places" (yao yb5) (yan yb5) (yad yb5) .none kV6 dc6 pm6 an6 cd6 ct6),sl6⟩)
  (c6:PySem.W.codeIn K cd6 "_law_places" = true)
  (k6:PySem.W.keepIn K (.ref f6)=true)
  (a7:PySem.W.nsIn K mainGlobals "check_length" = some (some (.ref f7)))
  (l7:K.lookup f7=some ⟨oc7,od7,.func (PySem.W.fnOf "check_length" "check_length" (yao ybV) (yan ybV) (yad ybV) .none kV7 dc7 pm7 an7 cd7 ct7),sl7⟩)
  (c7:PySem.W.codeIn K cd7 "check_length" = true)
  (k7:PySem.W.keepIn K (.ref f7)=true)
  (a8:PySem.W.nsIn K mainGlobals "is_whole" = some (some (.ref f8)))
  (l8:K.lookup f8=some ⟨oc8,od8,.func (PySem.W.fnOf "is_whole" "is_whole" (yao ycX) (yan ycX) (yad ycX) .none kV8 dc8 pm8 an8 cd8 ct8),sl8⟩)
  (c8:PySem.W.codeIn K cd8 "is_whole" = true)
  (k8:PySem.W.keepIn K (.ref f8)=true)
  (a15:PySem.W.nsIn K mainGlobals "are_close" = some (some (.ref f15)))
  (l15:K.lookup f15=some ⟨oc15,od15,.func (PySem.W.fnOf "are_close" "are_close" (yao ycA) (yan ycA) (yad ycA) .none kV15 dc15 pm15 an15 cd15 ct15),sl15⟩)
  (c15:PySem.W.codeIn K cd15 "are_close" = true)
  (k15:PySem.W.keepIn K (.ref f15)=true)
  (a21:PySem.W.nsIn K mainGlobals "with_last" = some (some (.ref f21)))
  (l21:K.lookup f21=some ⟨oc21,od21,.func (PySem.W.fnOf "with_last" "with_last" (yao ycC) (yan ycC) (yad ycC) .none kV21 dc21 pm21 an21 cd21 ct21),sl21⟩)
  (c21:PySem.W.codeIn K cd21 "with_last" = true)
  (k21:PySem.W.keepIn K (.ref f21)=true)
  (a23:PySem.W.nsIn K mainGlobals "turned_left" = some (some (.ref f23)))
  (l23:K.lookup f23=some ⟨oc23,od23,.func (PySem.W.fnOf "turned_left" "turned_left" (yao ycc) (yan ycc) (yad ycc) .none kV23 dc23 pm23 an23 cd23 ct23),sl23⟩)
  (c23:PySem.W.codeIn K cd23 "turned_left" = true)
  (k23:PySem.W.keepIn K (.ref f23)=true)
  (a24:PySem.W.nsIn K mainGlobals "without_first" = some (some (.ref f24)))
  (l24:K.lookup f24=some ⟨oc24,od24,.func (PySem.W.fnOf "without_first" "without_first" (yao ybD) (yan ybD) (yad ybD) .none kV24 dc24 pm24 an24 cd24 ct24),sl24⟩)
  (c24:PySem.W.codeIn K cd24 "without_first" = true)
  (k24:PySem.W.keepIn K (.ref f24)=true)
  (a25:PySem.W.nsIn K mainGlobals "turned_right" = some (some (.ref f25)))
  (l25:K.lookup f25=some ⟨oc25,od25,.func (PySem.W.fnOf "turned_right" "turned_right" (yao ybX) (yan ybX) (yad ybX) .none kV25 dc25 pm25 an25 cd25 ct25),sl25⟩)
  (c25:PySem.W.codeIn K cd25 "turned_right" = true)
  (k25:PySem.W.keepIn K (.ref f25)=true)
  (a26:PySem.W.nsIn K mainGlobals "linked" = some (some (.ref f26)))
  (l26:K.lookup f26=some ⟨oc26,od26,.func (PySem.W.fnOf "linked" "linked" (yao yds) (yan yds) (yad yds) .none kV26 dc26 pm26 an26 cd26 ct26),sl26⟩)
  (c26:PySem.W.codeIn K cd26 "linked" = true)
  (k26:PySem.W.keepIn K (.ref f26)=true)
  (a27:PySem.W.nsIn K mainGlobals "is_plain_sign" = some (some (.ref f27)))
  (l27:K.lookup f27=some ⟨oc27,od27,.func (PySem.W.fnOf "is_plain_sign" "is_plain_sign" (yao ybE) (yan ybE) (yad ybE) .none kV27 dc27 pm27 an27 cd27 ct27),sl27⟩)
  (c27:PySem.W.codeIn K cd27 "is_plain_sign" = true)
  (k27:PySem.W.keepIn K (.ref f27)=true)
  (a28:PySem.W.nsIn K mainGlobals "is_plain" = some (some (.ref f28)))
  (l28:K.lookup f28=some ⟨oc28,od28,.func (PySem.W.fnOf "is_plain" "is_plain" (yao yct) (yan yct) (yad yct) .none kV28 dc28 pm28 an28 cd28 ct28),sl28⟩)
  (c28:PySem.W.codeIn K cd28 "is_plain" = true)
  (k28:PySem.W.keepIn K (.ref f28)=true)
  (a29:PySem.W.nsIn K mainGlobals "is_short" = some (some (.ref f29)))
  (l29:K.lookup f29=some ⟨oc29,od29,.func (PySem.W.fnOf "is_short" "is_short" (yao ycY) (yan ycY) (yad ycY) .none kV29 dc29 pm29 an29 cd29 ct29),sl29⟩)
  (c29:PySem.W.codeIn K cd29 "is_short" = true)
  (k29:PySem.W.keepIn K (.ref f29)=true)
  (a30:PySem.W.nsIn K mainGlobals "ends_in" = some (some (.ref f30)))
  (l30:K.lookup f30=some ⟨oc30,od30,.func (PySem.W.fnOf "ends_in" "ends_in" (yao ydd) (yan ydd) (yad ydd) .none kV30 dc30 pm30 an30 cd30 ct30),sl30⟩)
  (c30:PySem.W.codeIn K cd30 "ends_in" = true)
  (k30:PySem.W.keepIn K (.ref f30)=true)
  (a33:PySem.W.nsIn K mainGlobals "welded" = some (some (.ref f33)))
  (l33:K.lookup f33=some ⟨oc33,od33,.func (PySem.W.fnOf "welded" "welded" (yao ydt) (yan ydt) (yad ydt) .none kV33 dc33 pm33 an33 cd33 ct33),sl33⟩)
  (c33:PySem.W.codeIn K cd33 "welded" = true)
  (k33:PySem.W.keepIn K (.ref f33)=true)
  (a34:PySem.W.nsIn K mainGlobals "joined" = some (some (.ref f34)))
  (l34:K.lookup f34=some ⟨oc34,od34,.func (PySem.W.fnOf "joined" "joined" (yao ydu) (yan ydu) (yad ydu) .none kV34 dc34 pm34 an34 cd34 ct34),sl34⟩)
  (c34:PySem.W.codeIn K cd34 "joined" = true)
  (k34:PySem.W.keepIn K (.ref f34)=true)
  (a35:PySem.W.nsIn K mainGlobals "doubled" = some (some (.ref f35)))
  (l35:K.lookup f35=some ⟨oc35,od35,.func (PySem.W.fnOf "doubled" "doubled" (yao yde) (yan yde) (yad yde) .none kV35 dc35 pm35 an35 cd35 ct35),sl35⟩)
  (c35:PySem.W.codeIn K cd35 "doubled" = true)
  (k35:PySem.W.keepIn K (.ref f35)=true)
  (a36:PySem.W.nsIn K mainGlobals "repeated" = some (some (.ref f36)))
  (l36:K.lookup f36=some ⟨oc36,od36,.func (PySem.W.fnOf "repeated" "repeated" (yao ycZ) (yan ycZ) (yad ycZ) .none kV36 dc36 pm36 an36 cd36 ct36),sl36⟩)
  (c36:PySem.W.codeIn K cd36 "repeated" = true)
  (k36:PySem.W.keepIn K (.ref f36)=true)
  (a37:PySem.W.nsIn K mainGlobals "halved" = some (some (.ref f37)))
  (l37:K.lookup f37=some ⟨oc37,od37,.func (PySem.W.fnOf "halved" "halved" (yao ydv) (yan ydv) (yad ydv) .none kV37 dc37 pm37 an37 cd37 ct37),sl37⟩)
  (c37:PySem.W.codeIn K cd37 "halved" = true)
  (k37:PySem.W.keepIn K (.ref f37)=true)
  (a38:PySem.W.nsIn K mainGlobals "built" = some (some (.ref f38)))
  (l38:K.lookup f38=some ⟨oc38,od38,.func (PySem.W.fnOf "built" "built" (yao ydw) (yan ydw) (yad ydw) .none kV38 dc38 pm38 an38 cd38 ct38),sl38⟩)
  (c38:PySem.W.codeIn K cd38 "built" = true)
  (k38:PySem.W.keepIn K (.ref f38)=true)
  (a39:PySem.W.nsIn K mainGlobals "_law_long" = some (some (.ref f39)))
  (l39:K.lookup f39=some ⟨oc39,od39,.func (PySem.W.fnOf "_law_long" "_law_long" (yao yc0) (yan yc0) (yad yc0) .none kV39 dc39 pm39 an39 cd39 ct39),sl39⟩)
  (c39:PySem.W.codeIn K cd39 "_law_long" = true)
  (k39:PySem.W.keepIn K (.ref f39)=true)
  (a40:PySem.W.nsIn K mainGlobals "_law_signs" = some (some (.ref f40)))
  (l40:K.lookup f40=some ⟨oc40,od40,.func (PySem.W.fnOf "_law_signs" "_law_signs" (yao ycg) (yan ycg) (yad ycg) .none kV40 dc40 pm40 an40 cd40 ct40),sl40⟩)
  (c40:PySem.W.codeIn K cd40 "_law_signs" = true)
  (k40:PySem.W.keepIn K (.ref f40)=true)
  (a41:PySem.W.nsIn K mainGlobals "check_stretch" = some (some (.ref f41)))
  (l41:K.lookup f41=some ⟨oc41,od41,.func (PySem.W.fnOf "check_stretch" "check_stretch" (yao ybF) (yan ybF) (yad ybF) .none kV41 dc41 pm41 an41 cd41 ct41),sl41⟩)
  (c41:PySem.W.codeIn K cd41 "check_stretch" = true)
  (k41:PySem.W.keepIn K (.ref f41)=true)
  (a42:PySem.W.nsIn K mainGlobals "signs_between" = some (some (.ref f42)))
  (l42:K.lookup f42=some ⟨oc42,od42,.func (PySem.W.fnOf "signs_between" "signs_between" (yao ybG) (yan ybG) (yad ybG) .none kV42 dc42 pm42 an42 cd42 ct42),sl42⟩)
  (c42:PySem.W.codeIn K cd42 "signs_between" = true)
  (k42:PySem.W.keepIn K (.ref f42)=true)
  (a43:PySem.W.nsIn K mainGlobals "stretch_of" = some (some (.ref f43)))
  (l43:K.lookup f43=some ⟨oc43,od43,.func (PySem.W.fnOf "stretch_of" "stretch_of" (yao yco) (yan yco) (yad yco) .none kV43 dc43 pm43 an43 cd43 ct43),sl43⟩)
  (c43:PySem.W.codeIn K cd43 "stretch_of" = true)
  (k43:PySem.W.keepIn K (.ref f43)=true)
  (a44:PySem.W.nsIn K mainGlobals "_law_part" = some (some (.ref f44)))
  (l44:K.lookup f44=some ⟨oc44,od44,.func (PySem.W.fnOf "_law_part" "_law_part" (yao yc1) (yan yc1) (yad yc1) .none kV44 dc44 pm44 an44 cd44 ct44),sl44⟩)
  (c44:PySem.W.codeIn K cd44 "_law_part" = true)
  (k44:PySem.W.keepIn K (.ref f44)=true)
  (a45:PySem.W.nsIn K mainGlobals "_law_stretch" = some (some (.ref f45)))
  (l45:K.lookup f45=some ⟨oc45,od45,.func (PySem.W.fnOf "_law_stretch" "_law_stretch" (yao ybK) (yan ybK) (yad ybK) .none kV45 dc45 pm45 an45 cd45 ct45),sl45⟩)
  (c45:PySem.W.codeIn K cd45 "_law_stretch" = true)
  (k45:PySem.W.keepIn K (.ref f45)=true)
  (a46:PySem.W.nsIn K mainGlobals "_law_reads" = some (some (.ref f46)))
  (l46:K.lookup f46=some ⟨oc46,od46,.func (PySem.W.fnOf "_law_reads" "_law_reads" (yao ycD) (yan ycD) (yad ycD) .none kV46 dc46 pm46 an46 cd46 ct46),sl46⟩)
  (c46:PySem.W.codeIn K cd46 "_law_reads" = true)
  (k46:PySem.W.keepIn K (.ref f46)=true)
  (a48:PySem.W.nsIn K mainGlobals "check_gap" = some (some (.ref f48)))
  (l48:K.lookup f48=some ⟨oc48,od48,.func (PySem.W.fnOf "check_gap" "check_gap" (yao ycE) (yan ycE) (yad ycE) .none kV48 dc48 pm48 an48 cd48 ct48),sl48⟩)
  (c48:PySem.W.codeIn K cd48 "check_gap" = true)
  (k48:PySem.W.keepIn K (.ref f48)=true)
  (a49:PySem.W.nsIn K mainGlobals "front_of" = some (some (.ref f49)))
  (l49:K.lookup f49=some ⟨oc49,od49,.func (PySem.W.fnOf "front_of" "front_of" (yao yc2) (yan yc2) (yad yc2) .none kV49 dc49 pm49 an49 cd49 ct49),sl49⟩)
  (c49:PySem.W.codeIn K cd49 "front_of" = true)
  (k49:PySem.W.keepIn K (.ref f49)=true)
  (a50:PySem.W.nsIn K mainGlobals "back_of" = some (some (.ref f50)))
  (l50:K.lookup f50=some ⟨oc50,od50,.func (PySem.W.fnOf "back_of" "back_of" (yao ydf) (yan ydf) (yad ydf) .none kV50 dc50 pm50 an50 cd50 ct50),sl50⟩)
  (c50:PySem.W.codeIn K cd50 "back_of" = true)
  (k50:PySem.W.keepIn K (.ref f50)=true)
  (a51:PySem.W.nsIn K mainGlobals "put_in" = some (some (.ref f51)))
  (l51:K.lookup f51=some ⟨oc51,od51,.func (PySem.W.fnOf "put_in" "put_in" (yao ydx) (yan ydx) (yad ydx) .none kV51 dc51 pm51 an51 cd51 ct51),sl51⟩)
  (c51:PySem.W.codeIn K cd51 "put_in" = true)
  (k51:PySem.W.keepIn K (.ref f51)=true)
  (a52:PySem.W.nsIn K mainGlobals "_law_put" = some (some (.ref f52)))
  (l52:K.lookup f52=some ⟨oc52,od52,.func (PySem.W.fnOf "_law_put" "_law_put" (yao ydg) (yan ydg) (yad ydg) .none kV52 dc52 pm52 an52 cd52 ct52),sl52⟩)
  (c52:PySem.W.codeIn K cd52 "_law_put" = true)
  (k52:PySem.W.keepIn K (.ref f52)=true)
  (a53:PySem.W.nsIn K mainGlobals "_law_put_right" = some (some (.ref f53)))
  (l53:K.lookup f53=some ⟨oc53,od53,.func (PySem.W.fnOf "_law_put_right" "_law_put_right" (yao ybH) (yan ybH) (yad ybH) .none kV53 dc53 pm53 an53 cd53 ct53),sl53⟩)
  (c53:PySem.W.codeIn K cd53 "_law_put_right" = true)
  (k53:PySem.W.keepIn K (.ref f53)=true)
  (a54:PySem.W.nsIn K mainGlobals "taken_out" = some (some (.ref f54)))
  (l54:K.lookup f54=some ⟨oc54,od54,.func (PySem.W.fnOf "taken_out" "taken_out" (yao ycF) (yan ycF) (yad ycF) .none kV54 dc54 pm54 an54 cd54 ct54),sl54⟩)
  (c54:PySem.W.codeIn K cd54 "taken_out" = true)
  (k54:PySem.W.keepIn K (.ref f54)=true)
  (a55:PySem.W.nsIn K mainGlobals "kept_part" = some (some (.ref f55)))
  (l55:K.lookup f55=some ⟨oc55,od55,.func (PySem.W.fnOf "kept_part" "kept_part" (yao ycG) (yan ycG) (yad ycG) .none kV55 dc55 pm55 an55 cd55 ct55),sl55⟩)
  (c55:PySem.W.codeIn K cd55 "kept_part" = true)
  (k55:PySem.W.keepIn K (.ref f55)=true)
  (a56:PySem.W.nsIn K mainGlobals "_law_stretch_right" = some (some (.ref f56)))
  (l56:K.lookup f56=some ⟨oc56,od56,.func (PySem.W.fnOf "_law_stretch_right" "_law_stretch_right" (yao ybc) (yan ybc) (yad ybc) .none kV56 dc56 pm56 an56 cd56 ct56),sl56⟩)
  (c56:PySem.W.codeIn K cd56 "_law_stretch_right" = true)
  (k56:PySem.W.keepIn K (.ref f56)=true)
  (a57:PySem.W.nsIn K mainGlobals "law" = some (some (.ref f57)))
  (l57:K.lookup f57=some ⟨oc57,od57,.func (PySem.W.fnOf "law" "law" (yao yd1) (yan yd1) (yad yd1) .none kV57 dc57 pm57 an57 cd57 ct57),sl57⟩)
  (c57:PySem.W.codeIn K cd57 "law" = true)
  (k57:PySem.W.keepIn K (.ref f57)=true)
  (pg0:PySem.W.plainGet K C0 Str.empty=true)
  (hd0:PySem.W.hasDictIn K C0=true)
  (po0:PySem.W.plainOver K C0=true)
  (sa0:PySem.W.findIn K (.ref C0) "__setattr__" = some (some (.builtin "object.__setattr__")))
  (mk0:PySem.W.makesIn K C0=true)
  (kc0:PySem.W.keepIn K (.ref C0)=true)
  (nf0_0:PySem.W.findIn K (.ref C0) "pieces" = some none)
  (nf0_1:PySem.W.findIn K (.ref C0) "numbers" = some none)
  (nf0_2:PySem.W.findIn K (.ref C0) "sign_counts" = some none)
  (nf0_3:PySem.W.findIn K (.ref C0) "end_counts" = some none)
  (nf0_4:PySem.W.findIn K (.ref C0) "leaf_counts" = some none)
  (nf0_5:PySem.W.findIn K (.ref C0) "heights" = some none)
  (nf0_6:PySem.W.findIn K (.ref C0) "first_leaves" = some none)
  (nf0_7:PySem.W.findIn K (.ref C0) "last_leaves" = some none)
  (z_abs:PySem.W.nsIn K mainGlobals "abs" = some none)
  (z_all:PySem.W.nsIn K mainGlobals "all" = some none)
  (z_bool:PySem.W.nsIn K mainGlobals "bool" = some none)
  (z_int:PySem.W.nsIn K mainGlobals "int" = some none)
  (z_isinstance:PySem.W.nsIn K mainGlobals "isinstance" = some none)
  (z_len:PySem.W.nsIn K mainGlobals "len" = some none)
  (z_max:PySem.W.nsIn K mainGlobals "max" = some none)
  (z_min:PySem.W.nsIn K mainGlobals "min" = some none)
  (z_range:PySem.W.nsIn K mainGlobals "range" = some none)
  (z_str:PySem.W.nsIn K mainGlobals "str" = some none)
  (z_sum:PySem.W.nsIn K mainGlobals "sum" = some none)
  (e_SkeinError:PySem.W.nsIn K mainGlobals "SkeinError" = some (some (.ref X0)))
  (e_NoText:PySem.W.nsIn K mainGlobals "NoText" = some (some (.ref X1)))
  (x_NoText:PySem.W.excIn K X1 [.type "ValueError",.type "Exception",.type "BaseException",.type "object"] "ValueError.__new__" = true)
  (e_NoPiece:PySem.W.nsIn K mainGlobals "NoPiece" = some (some (.ref X2)))
  (x_NoPiece:PySem.W.excIn K X2 [.type "ValueError",.type "Exception",.type "BaseException",.type "object"] "ValueError.__new__" = true)
  (e_Loose:PySem.W.nsIn K mainGlobals "Loose" = some (some (.ref X3)))
  (x_Loose:PySem.W.excIn K X3 [.type "ValueError",.type "Exception",.type "BaseException",.type "object"] "ValueError.__new__" = true)
  (e_Unlevel:PySem.W.nsIn K mainGlobals "Unlevel" = some (some (.ref X4)))
  (x_Unlevel:PySem.W.excIn K X4 [.type "ValueError",.type "Exception",.type "BaseException",.type "object"] "ValueError.__new__" = true)
  (e_TooLong:PySem.W.nsIn K mainGlobals "TooLong" = some (some (.ref X5)))
  (x_TooLong:PySem.W.excIn K X5 [.type "ValueError",.type "Exception",.type "BaseException",.type "object"] "ValueError.__new__" = true)
  (e_NoPlace:PySem.W.nsIn K mainGlobals "NoPlace" = some (some (.ref X6)))
  (x_NoPlace:PySem.W.excIn K X6 [.type "ValueError",.type "Exception",.type "BaseException",.type "object"] "ValueError.__new__" = true)
  (m_LEAF_SIGNS:PySem.W.nsIn K mainGlobals "LEAF_SIGNS" = some (some (.int 8 tk_LEAF_SIGNS)))
  (m_MOST_PLAIN:PySem.W.nsIn K mainGlobals "MOST_PLAIN" = some (some (.int 10000 tk_MOST_PLAIN)))
  (m_MOST_SIGNS:PySem.W.nsIn K mainGlobals "MOST_SIGNS" = some (some (.int 1000000000000000000 tk_MOST_SIGNS)))
  (em_TooLong_5:PySem.W.exmOne K (.ref X5) (.ref X5)=some true)
  : ∃ fd:FuncData,(∀ (s:Shared) (v:Value),BindsTo s fd ⟨[v],[]⟩ [("script",v)])/\∀ base:Heap,K.In base->base.Ns mainGlobals mg->FnOk l.prog w K mg base (CXE l.prog w) 194 fa fd ["script"] (spL K):=by
 have e:=hfa.symm.trans (PySem.W.mg_of X G a57)
 cases e
 have F0:=yaq (st:=yck) l0 c0 k0
 have b0:=F0.binds (ps:=["self"]) fun _ _ _ _ _ _ us hl=>by obtain ⟨_,rfl⟩:=el1 hl;rfl
 have F1:=yaq (st:=ycW) l1 c1 k1
 have b1:=F1.binds (ps:=["stream", "many"]) fun _ _ _ _ _ _ us hl=>by obtain ⟨_,_,rfl⟩:=el2 hl;rfl
 have F2:=yaq (st:=ycy) l2 c2 k2
 have b2:=F2.binds (ps:=["stream", "most"]) fun _ _ _ _ _ _ us hl=>by obtain ⟨_,_,rfl⟩:=el2 hl;rfl
 have F3:=yaq (st:=ycl) l3 c3 k3
 have b3:=F3.binds (ps:=["stream"]) fun _ _ _ _ _ _ us hl=>by obtain ⟨_,rfl⟩:=el1 hl;rfl
 have F4:=yaq (st:=ycz) l4 c4 k4
 have b4:=F4.binds (ps:=["cell", "k"]) fun _ _ _ _ _ _ us hl=>by obtain ⟨_,_,rfl⟩:=el2 hl;rfl
 have F5:=yaq (st:=yb4) l5 c5 k5
 have b5:=F5.binds (ps:=["script", "k"]) fun _ _ _ _ _ _ us hl=>by obtain ⟨_,_,rfl⟩:=el2 hl;rfl
 have F6:=yaq (st:=yb5) l6 c6 k6
 have b6:=F6.binds (ps:=["blocks", "stream"]) fun _ _ _ _ _ _ us hl=>by obtain ⟨_,_,rfl⟩:=el2 hl;rfl
 have F7:=yaq (st:=ybV) l7 c7 k7
 have b7:=F7.binds (ps:=["signs"]) fun _ _ _ _ _ _ us hl=>by obtain ⟨_,rfl⟩:=el1 hl;rfl
 have F8:=yaq (st:=ycX) l8 c8 k8
 have b8:=F8.binds (ps:=["thing"]) fun _ _ _ _ _ _ us hl=>by obtain ⟨_,rfl⟩:=el1 hl;rfl
 have F9:=yaq (st:=ybp) l9 c9 k9
 have b9:=F9.binds (ps:=["self", "number"]) fun _ _ _ _ _ _ us hl=>by obtain ⟨_,_,rfl⟩:=el2 hl;rfl
 have F10:=yaq (st:=ybb) l10 c10 k10
 have b10:=F10.binds (ps:=["self", "number"]) fun _ _ _ _ _ _ us hl=>by obtain ⟨_,_,rfl⟩:=el2 hl;rfl
 have F11:=yaq (st:=ybk) l11 c11 k11
 have b11:=F11.binds (ps:=["self", "text"]) fun _ _ _ _ _ _ us hl=>by obtain ⟨_,_,rfl⟩:=el2 hl;rfl
 have F12:=yaq (st:=yca) l12 c12 k12
 have b12:=F12.binds (ps:=["self", "text"]) fun _ _ _ _ _ _ us hl=>by obtain ⟨_,_,rfl⟩:=el2 hl;rfl
 have F13:=yaq (st:=ybq) l13 c13 k13
 have b13:=F13.binds (ps:=["self", "text"]) fun _ _ _ _ _ _ us hl=>by obtain ⟨_,_,rfl⟩:=el2 hl;rfl
 have F14:=yaq (st:=ybl) l14 c14 k14
 have b14:=F14.binds (ps:=["self", "text"]) fun _ _ _ _ _ _ us hl=>by obtain ⟨_,_,rfl⟩:=el2 hl;rfl
 have F15:=yaq (st:=ycA) l15 c15 k15
 have b15:=F15.binds (ps:=["shelf", "one", "other"]) fun _ _ _ _ _ _ us hl=>by obtain ⟨_,_,_,rfl⟩:=el3 hl;rfl
 have F16:=yaq (st:=ycb) l16 c16 k16
 have b16:=F16.binds (ps:=["self", "number"]) fun _ _ _ _ _ _ us hl=>by obtain ⟨_,_,rfl⟩:=el2 hl;rfl
 have F17:=yaq (st:=ybm) l17 c17 k17
 have b17:=F17.binds (ps:=["self", "one", "other"]) fun _ _ _ _ _ _ us hl=>by obtain ⟨_,_,_,rfl⟩:=el3 hl;rfl
 have F18:=yaq (st:=ycB) l18 c18 k18
 have b18:=F18.binds (ps:=["self", "made"]) fun _ _ _ _ _ _ us hl=>by obtain ⟨_,_,rfl⟩:=el2 hl;rfl
 have F19:=yaq (st:=ybw) l19 c19 k19
 have b19:=F19.binds (ps:=["self", "made"]) fun _ _ _ _ _ _ us hl=>by obtain ⟨_,_,rfl⟩:=el2 hl;rfl
 have F20:=yaq (st:=ycm) l20 c20 k20
 have b20:=F20.binds (ps:=["self", "one", "other"]) fun _ _ _ _ _ _ us hl=>by obtain ⟨_,_,_,rfl⟩:=el3 hl;rfl
 have F21:=yaq (st:=ycC) l21 c21 k21
 have b21:=F21.binds (ps:=["shelf", "text", "leaf"]) fun _ _ _ _ _ _ us hl=>by obtain ⟨_,_,_,rfl⟩:=el3 hl;rfl
 have F22:=yaq (st:=ybW) l22 c22 k22
 have b22:=F22.binds (ps:=["self", "text"]) fun _ _ _ _ _ _ us hl=>by obtain ⟨_,_,rfl⟩:=el2 hl;rfl
 have F23:=yaq (st:=ycc) l23 c23 k23
 have b23:=F23.binds (ps:=["shelf", "one", "other"]) fun _ _ _ _ _ _ us hl=>by obtain ⟨_,_,_,rfl⟩:=el3 hl;rfl
 have F24:=yaq (st:=ybD) l24 c24 k24
 have b24:=F24.binds (ps:=["shelf", "text"]) fun _ _ _ _ _ _ us hl=>by obtain ⟨_,_,rfl⟩:=el2 hl;rfl
 have F25:=yaq (st:=ybX) l25 c25 k25
 have b25:=F25.binds (ps:=["shelf", "one", "other"]) fun _ _ _ _ _ _ us hl=>by obtain ⟨_,_,_,rfl⟩:=el3 hl;rfl
 have F26:=yaq (st:=yds) l26 c26 k26
 have b26:=F26.binds (ps:=["shelf", "one", "other"]) fun _ _ _ _ _ _ us hl=>by obtain ⟨_,_,_,rfl⟩:=el3 hl;rfl
 have F27:=yaq (st:=ybE) l27 c27 k27
 have b27:=F27.binds (ps:=["sign"]) fun _ _ _ _ _ _ us hl=>by obtain ⟨_,rfl⟩:=el1 hl;rfl
 have F28:=yaq (st:=yct) l28 c28 k28
 have b28:=F28.binds (ps:=["thing"]) fun _ _ _ _ _ _ us hl=>by obtain ⟨_,rfl⟩:=el1 hl;rfl
 have F29:=yaq (st:=ycY) l29 c29 k29
 have b29:=F29.binds (ps:=["thing"]) fun _ _ _ _ _ _ us hl=>by obtain ⟨_,rfl⟩:=el1 hl;rfl
 have F30:=yaq (st:=ydd) l30 c30 k30
 have b30:=F30.binds (ps:=["plain"]) fun _ _ _ _ _ _ us hl=>by obtain ⟨_,rfl⟩:=el1 hl;rfl
 have F31:=yaq (st:=ybx) l31 c31 k31
 have b31:=F31.binds (ps:=["self", "made"]) fun _ _ _ _ _ _ us hl=>by obtain ⟨_,_,rfl⟩:=el2 hl;rfl
 have F32:=yaq (st:=ycn) l32 c32 k32
 have b32:=F32.binds (ps:=["self", "plain"]) fun _ _ _ _ _ _ us hl=>by obtain ⟨_,_,rfl⟩:=el2 hl;rfl
 have F33:=yaq (st:=ydt) l33 c33 k33
 have b33:=F33.binds (ps:=["shelf", "one", "other"]) fun _ _ _ _ _ _ us hl=>by obtain ⟨_,_,_,rfl⟩:=el3 hl;rfl
 have F34:=yaq (st:=ydu) l34 c34 k34
 have b34:=F34.binds (ps:=["shelf", "one", "other"]) fun _ _ _ _ _ _ us hl=>by obtain ⟨_,_,_,rfl⟩:=el3 hl;rfl
 have F35:=yaq (st:=yde) l35 c35 k35
 have b35:=F35.binds (ps:=["shelf", "text", "many"]) fun _ _ _ _ _ _ us hl=>by obtain ⟨_,_,_,rfl⟩:=el3 hl;rfl
 have F36:=yaq (st:=ycZ) l36 c36 k36
 have b36:=F36.binds (ps:=["shelf", "text", "many"]) fun _ _ _ _ _ _ us hl=>by obtain ⟨_,_,_,rfl⟩:=el3 hl;rfl
 have F37:=yaq (st:=ydv) l37 c37 k37
 have b37:=F37.binds (ps:=["shelf", "leaves"]) fun _ _ _ _ _ _ us hl=>by obtain ⟨_,_,rfl⟩:=el2 hl;rfl
 have F38:=yaq (st:=ydw) l38 c38 k38
 have b38:=F38.binds (ps:=["shelf", "plain"]) fun _ _ _ _ _ _ us hl=>by obtain ⟨_,_,rfl⟩:=el2 hl;rfl
 have F39:=yaq (st:=yc0) l39 c39 k39
 have b39:=F39.binds (ps:=["shelf", "blocks"]) fun _ _ _ _ _ _ us hl=>by obtain ⟨_,_,rfl⟩:=el2 hl;rfl
 have F40:=yaq (st:=ycg) l40 c40 k40
 have b40:=F40.binds (ps:=["blocks"]) fun _ _ _ _ _ _ us hl=>by obtain ⟨_,rfl⟩:=el1 hl;rfl
 have F41:=yaq (st:=ybF) l41 c41 k41
 have b41:=F41.binds (ps:=["shelf", "text", "begin", "end"]) fun _ _ _ _ _ _ us hl=>by obtain ⟨_,_,_,_,rfl⟩:=el4 hl;rfl
 have F42:=yaq (st:=ybG) l42 c42 k42
 have b42:=F42.binds (ps:=["shelf", "text", "begin", "end"]) fun _ _ _ _ _ _ us hl=>by obtain ⟨_,_,_,_,rfl⟩:=el4 hl;rfl
 have F43:=yaq (st:=yco) l43 c43 k43
 have b43:=F43.binds (ps:=["shelf", "text", "begin", "end"]) fun _ _ _ _ _ _ us hl=>by obtain ⟨_,_,_,_,rfl⟩:=el4 hl;rfl
 have F44:=yaq (st:=yc1) l44 c44 k44
 have b44:=F44.binds (ps:=["blocks", "begin", "end"]) fun _ _ _ _ _ _ us hl=>by obtain ⟨_,_,_,rfl⟩:=el3 hl;rfl
 have F45:=yaq (st:=ybK) l45 c45 k45
 have b45:=F45.binds (ps:=["blocks", "begin", "end"]) fun _ _ _ _ _ _ us hl=>by obtain ⟨_,_,_,rfl⟩:=el3 hl;rfl
 have F46:=yaq (st:=ycD) l46 c46 k46
 have b46:=F46.binds (ps:=["shelf", "text", "blocks", "stream"]) fun _ _ _ _ _ _ us hl=>by obtain ⟨_,_,_,_,rfl⟩:=el4 hl;rfl
 have F47:=yaq (st:=ycp) l47 c47 k47
 have b47:=F47.binds (ps:=["self"]) fun _ _ _ _ _ _ us hl=>by obtain ⟨_,rfl⟩:=el1 hl;rfl
 have F48:=yaq (st:=ycE) l48 c48 k48
 have b48:=F48.binds (ps:=["shelf", "text", "at"]) fun _ _ _ _ _ _ us hl=>by obtain ⟨_,_,_,rfl⟩:=el3 hl;rfl
 have F49:=yaq (st:=yc2) l49 c49 k49
 have b49:=F49.binds (ps:=["shelf", "text", "at"]) fun _ _ _ _ _ _ us hl=>by obtain ⟨_,_,_,rfl⟩:=el3 hl;rfl
 have F50:=yaq (st:=ydf) l50 c50 k50
 have b50:=F50.binds (ps:=["shelf", "text", "at"]) fun _ _ _ _ _ _ us hl=>by obtain ⟨_,_,_,rfl⟩:=el3 hl;rfl
 have F51:=yaq (st:=ydx) l51 c51 k51
 have b51:=F51.binds (ps:=["shelf", "text", "at", "other"]) fun _ _ _ _ _ _ us hl=>by obtain ⟨_,_,_,_,rfl⟩:=el4 hl;rfl
 have F52:=yaq (st:=ydg) l52 c52 k52
 have b52:=F52.binds (ps:=["shelf", "text", "place", "other"]) fun _ _ _ _ _ _ us hl=>by obtain ⟨_,_,_,_,rfl⟩:=el4 hl;rfl
 have F53:=yaq (st:=ybH) l53 c53 k53
 have b53:=F53.binds (ps:=["shelf", "texts", "blocks", "other", "place", "stream"]) fun _ _ _ _ _ _ us hl=>by obtain ⟨_,_,_,_,_,_,rfl⟩:=el6 hl;rfl
 have F54:=yaq (st:=ycF) l54 c54 k54
 have b54:=F54.binds (ps:=["shelf", "text", "begin", "end"]) fun _ _ _ _ _ _ us hl=>by obtain ⟨_,_,_,_,rfl⟩:=el4 hl;rfl
 have F55:=yaq (st:=ycG) l55 c55 k55
 have b55:=F55.binds (ps:=["shelf", "text", "begin", "end"]) fun _ _ _ _ _ _ us hl=>by obtain ⟨_,_,_,_,rfl⟩:=el4 hl;rfl
 have F56:=yaq (st:=ybc) l56 c56 k56
 have b56:=F56.binds (ps:=["shelf", "text", "blocks", "begin", "end", "stream"]) fun _ _ _ _ _ _ us hl=>by obtain ⟨_,_,_,_,_,_,rfl⟩:=el6 hl;rfl
 have F57:=yaq (st:=yd1) l57 c57 k57
 have b57:=F57.binds (ps:=["script"]) fun _ _ _ _ _ _ us hl=>by obtain ⟨_,rfl⟩:=el1 hl;rfl
 have Z:∀ base:Heap,K.In base->Facts l.prog w K (fun n=>[C0][n]?) (fun n=>[X0,X1,X2,X3,X4,X5,X6][n]?) mg base:=fun base KB=>{
   b_abs:=PySem.W.mg_none_of X G z_abs,
   b_all:=PySem.W.mg_none_of X G z_all,
   b_bool:=PySem.W.mg_none_of X G z_bool,
   b_int:=PySem.W.mg_none_of X G z_int,
   b_isinstance:=PySem.W.mg_none_of X G z_isinstance,
   b_len:=PySem.W.mg_none_of X G z_len,
   b_max:=PySem.W.mg_none_of X G z_max,
   b_min:=PySem.W.mg_none_of X G z_min,
   b_range:=PySem.W.mg_none_of X G z_range,
   b_str:=PySem.W.mg_none_of X G z_str,
   b_sum:=PySem.W.mg_none_of X G z_sum,
   c_LEAF_SIGNS:=⟨_,PySem.W.mg_of X G m_LEAF_SIGNS⟩,
   c_MOST_PLAIN:=⟨_,PySem.W.mg_of X G m_MOST_PLAIN⟩,
   c_MOST_SIGNS:=⟨_,PySem.W.mg_of X G m_MOST_SIGNS⟩,
   cf_Shelf:=⟨C0,rfl,⟨pg0,hd0,po0,sa0⟩,fun f hf=>by
   have hf2:f∈flds 0:=hf
   simp only [flds,List.mem_cons,List.not_mem_nil,or_false] at hf2
   rcases hf2 with rfl | rfl | rfl | rfl | rfl | rfl | rfl | rfl
   ·exact nf0_0
   ·exact nf0_1
   ·exact nf0_2
   ·exact nf0_3
   ·exact nf0_4
   ·exact nf0_5
   ·exact nf0_6
   ·exact nf0_7⟩,
   x_NoText:=⟨X1,rfl,zbo KB (PySem.W.mg_of X G e_NoText) x_NoText⟩,
   x_NoPiece:=⟨X2,rfl,zbo KB (PySem.W.mg_of X G e_NoPiece) x_NoPiece⟩,
   x_Loose:=⟨X3,rfl,zbo KB (PySem.W.mg_of X G e_Loose) x_Loose⟩,
   x_Unlevel:=⟨X4,rfl,zbo KB (PySem.W.mg_of X G e_Unlevel) x_Unlevel⟩,
   x_TooLong:=⟨X5,rfl,zbo KB (PySem.W.mg_of X G e_TooLong) x_TooLong⟩,
   x_NoPlace:=⟨X6,rfl,zbo KB (PySem.W.mg_of X G e_NoPlace) x_NoPlace⟩,
   d_Shelf_init:=⟨C0,f0,_,rfl,PySem.W.mg_of X G aC0,⟨mk0,a0,i0,kc0⟩,b0,F0⟩,
   d_law_take:=⟨_,_,PySem.W.mg_of X G a1,k1,b1,F1⟩,
   d_law_plain:=⟨_,_,PySem.W.mg_of X G a2,k2,b2,F2⟩,
   d_law_blocks:=⟨_,_,PySem.W.mg_of X G a3,k3,b3,F3⟩,
   d_law_mixed:=⟨_,_,PySem.W.mg_of X G a4,k4,b4,F4⟩,
   d_law_stream:=⟨_,_,PySem.W.mg_of X G a5,k5,b5,F5⟩,
   d_law_places:=⟨_,_,PySem.W.mg_of X G a6,k6,b6,F6⟩,
   d_check_length:=⟨_,_,PySem.W.mg_of X G a7,k7,b7,F7⟩,
   d_is_whole:=⟨_,_,PySem.W.mg_of X G a8,k8,b8,F8⟩,
   d_Shelf_has_piece:=⟨C0,f9,_,rfl,⟨pg0,hd0,po0,sa0⟩,⟨a9,i9,k9⟩,b9,F9⟩,
   d_Shelf_check_piece:=⟨C0,f10,_,rfl,⟨pg0,hd0,po0,sa0⟩,⟨a10,i10,k10⟩,b10,F10⟩,
   d_Shelf_check_text:=⟨C0,f11,_,rfl,⟨pg0,hd0,po0,sa0⟩,⟨a11,i11,k11⟩,b11,F11⟩,
   d_Shelf_signs:=⟨C0,f12,_,rfl,⟨pg0,hd0,po0,sa0⟩,⟨a12,i12,k12⟩,b12,F12⟩,
   d_Shelf_last_leaf:=⟨C0,f13,_,rfl,⟨pg0,hd0,po0,sa0⟩,⟨a13,i13,k13⟩,b13,F13⟩,
   d_Shelf_first_leaf:=⟨C0,f14,_,rfl,⟨pg0,hd0,po0,sa0⟩,⟨a14,i14,k14⟩,b14,F14⟩,
   d_are_close:=⟨_,_,PySem.W.mg_of X G a15,k15,b15,F15⟩,
   d_Shelf_piece:=⟨C0,f16,_,rfl,⟨pg0,hd0,po0,sa0⟩,⟨a16,i16,k16⟩,b16,F16⟩,
   d_Shelf_check_fork:=⟨C0,f17,_,rfl,⟨pg0,hd0,po0,sa0⟩,⟨a17,i17,k17⟩,b17,F17⟩,
   d_Shelf_lay:=⟨C0,f18,_,rfl,⟨pg0,hd0,po0,sa0⟩,⟨a18,i18,k18⟩,b18,F18⟩,
   d_Shelf_lay_fork:=⟨C0,f19,_,rfl,⟨pg0,hd0,po0,sa0⟩,⟨a19,i19,k19⟩,b19,F19⟩,
   d_Shelf_fork:=⟨C0,f20,_,rfl,⟨pg0,hd0,po0,sa0⟩,⟨a20,i20,k20⟩,b20,F20⟩,
   d_with_last:=⟨_,_,PySem.W.mg_of X G a21,k21,b21,F21⟩,
   d_Shelf_height:=⟨C0,f22,_,rfl,⟨pg0,hd0,po0,sa0⟩,⟨a22,i22,k22⟩,b22,F22⟩,
   d_turned_left:=⟨_,_,PySem.W.mg_of X G a23,k23,b23,F23⟩,
   d_without_first:=⟨_,_,PySem.W.mg_of X G a24,k24,b24,F24⟩,
   d_turned_right:=⟨_,_,PySem.W.mg_of X G a25,k25,b25,F25⟩,
   d_linked:=⟨_,_,PySem.W.mg_of X G a26,k26,b26,F26⟩,
   d_is_plain_sign:=⟨_,_,PySem.W.mg_of X G a27,k27,b27,F27⟩,
   d_is_plain:=⟨_,_,PySem.W.mg_of X G a28,k28,b28,F28⟩,
   d_is_short:=⟨_,_,PySem.W.mg_of X G a29,k29,b29,F29⟩,
   d_ends_in:=⟨_,_,PySem.W.mg_of X G a30,k30,b30,F30⟩,
   d_Shelf_lay_leaf:=⟨C0,f31,_,rfl,⟨pg0,hd0,po0,sa0⟩,⟨a31,i31,k31⟩,b31,F31⟩,
   d_Shelf_leaf:=⟨C0,f32,_,rfl,⟨pg0,hd0,po0,sa0⟩,⟨a32,i32,k32⟩,b32,F32⟩,
   d_welded:=⟨_,_,PySem.W.mg_of X G a33,k33,b33,F33⟩,
   d_joined:=⟨_,_,PySem.W.mg_of X G a34,k34,b34,F34⟩,
   d_doubled:=⟨_,_,PySem.W.mg_of X G a35,k35,b35,F35⟩,
   d_repeated:=⟨_,_,PySem.W.mg_of X G a36,k36,b36,F36⟩,
   d_halved:=⟨_,_,PySem.W.mg_of X G a37,k37,b37,F37⟩,
   d_built:=⟨_,_,PySem.W.mg_of X G a38,k38,b38,F38⟩,
   d_law_long:=⟨_,_,PySem.W.mg_of X G a39,k39,b39,F39⟩,
   d_law_signs:=⟨_,_,PySem.W.mg_of X G a40,k40,b40,F40⟩,
   d_check_stretch:=⟨_,_,PySem.W.mg_of X G a41,k41,b41,F41⟩,
   d_signs_between:=⟨_,_,PySem.W.mg_of X G a42,k42,b42,F42⟩,
   d_stretch_of:=⟨_,_,PySem.W.mg_of X G a43,k43,b43,F43⟩,
   d_law_part:=⟨_,_,PySem.W.mg_of X G a44,k44,b44,F44⟩,
   d_law_stretch:=⟨_,_,PySem.W.mg_of X G a45,k45,b45,F45⟩,
   d_law_reads:=⟨_,_,PySem.W.mg_of X G a46,k46,b46,F46⟩,
   d_Shelf_many:=⟨C0,f47,_,rfl,⟨pg0,hd0,po0,sa0⟩,⟨a47,i47,k47⟩,b47,F47⟩,
   d_check_gap:=⟨_,_,PySem.W.mg_of X G a48,k48,b48,F48⟩,
   d_front_of:=⟨_,_,PySem.W.mg_of X G a49,k49,b49,F49⟩,
   d_back_of:=⟨_,_,PySem.W.mg_of X G a50,k50,b50,F50⟩,
   d_put_in:=⟨_,_,PySem.W.mg_of X G a51,k51,b51,F51⟩,
   d_law_put:=⟨_,_,PySem.W.mg_of X G a52,k52,b52,F52⟩,
   d_law_put_right:=⟨_,_,PySem.W.mg_of X G a53,k53,b53,F53⟩,
   d_taken_out:=⟨_,_,PySem.W.mg_of X G a54,k54,b54,F54⟩,
   d_kept_part:=⟨_,_,PySem.W.mg_of X G a55,k55,b55,F55⟩,
   d_law_stretch_right:=⟨_,_,PySem.W.mg_of X G a56,k56,b56,F56⟩,
   d_law:=⟨_,_,PySem.W.mg_of X G a57,k57,b57,F57⟩,
   ct_TooLong:=⟨X5,PySem.W.mg_of X G e_TooLong,(fun c C' z h=>match c,C',z,h with
    | 0,_,z,_=>nomatch z
    | 1,_,z,_=>nomatch z
    | 2,_,z,_=>nomatch z
    | 3,_,z,_=>nomatch z
    | 4,_,z,_=>nomatch z
    | 5,_,_,rfl=>em_TooLong_5
    | 6,_,z,_=>nomatch z
    | _+7,_,_,h=>nomatch h)⟩ }
 refine ⟨_,fun s v=>.of_eq rfl,fun base KB _=>FnOk.imp (yii (Z base KB) F57) (zi8 (T:=mkT K (fun n=>[C0][n]?) (fun n=>[X0,X1,X2,X3,X4,X5,X6][n]?)) law_true)⟩
theorem walk {l:PySem.W.OpenLaw} {q:Program} {loose:List Str} {XP:(Str->Option Value)->Heap->Prop} {YP:World->Heap->Prop} {d:DefRec} {K:Params->PySem.W.Frag} (hn:l.most=some 63) (hdf:d.params.defaults=[])
  (hY:∀ (w:World) (h:Heap),YP w h->(K w.params).In h)
  (F:∀ (w:World) (mg:Str->Option Value) (fa:Addr) (h:Heap),(K w.params).In h->h.Ns mainGlobals mg->mg d.name=some (.ref fa) ->
   ∃ fd:FuncData,(∀ (s:Shared) (u:Value),BindsTo s fd ⟨[u],[]⟩ [("script",u)])/\∀ base:Heap,(K w.params).In base->base.Ns mainGlobals mg->FnOk l.prog w (K w.params) mg base (CXE l.prog w) 194 fa fd ["script"] (spL (K w.params))) :
  PySem.W.WalkO q loose XP YP l.row.toRowW d [] (fun f vs=>PySem.call f vs) :=
 L2.walk_of (n:=63) (k:=194) (x := "script") (CX:=fun w=>CXE l.prog w) (sp:=fun w=>spL (K w.params)) hn (by decide) hdf ⟨rfl,by decide,by decide⟩ hY F (fun _ _ a ns hl _ hS=>⟨a,ns,rfl,hS,hl,fun _=>rfl⟩) fun _ _ _ _ _ z=>zhb z
end Sk
open PySem PySem.W PyProof.Rows
section
namespace PySem.W.Fast
def tw12210137448440336207:=0
def tw5270389750857721194:=0
def tw2885682139751403455:=0
def tw17143901864853624735:=0
def tw14299058951028698879:=0
def tw11802374880793141855:=0
def tw5745670115055786559:=0
def tw2324577471040202207:=0
def tw5804254935816446399:=0
def tw4746405036268575135:=0
def tw12318695299406014847:=0
def tw1635511803573516671:=0
def tw3401813996392306943:=0
def tw6060577235193033919:=0
def tw3300082926453135391:=0
def tw11075277195188304670:=0
def tw10838405539436403486:=0
def tw17456243881125571326:=0
def tw11552944354639374046:=0
def tw16040299271739342494:=0
def tw8834496071608963742:=0
def tw11639971518329099870:=0
def tw14178691682388274718:=0
def tw363458606648072638:=0
def tw10713435204337918302:=0
def tw17009728018808614142:=0
def tw12250280379248231582:=0
def tw14434836840158153565:=0
def tw51184214179097373:=0
def tw17660547282278830813:=0
def tw11853820693463453405:=0
def tw2838943361016032861:=0
def tw9203984025443386845:=0
def tw9244925434915632445:=0
def tw3761143428536594653:=0
def tw12093157916622483645:=0
def tw12302995093256893533:=0
def tw14188410877647154269:=0
def tw12047840352396144636:=0
def tw17624780968777243612:=0
def tw14660816500289479548:=0
def tw15985446838331019004:=0
def tw11411903052588438172:=0
def tw1745298375465012860:=0
def tw17278794603744754268:=0
def tw6695747787674921532:=0
def tw10805097370612268508:=0
def tw202025247039055324:=0
def tw16516901055436064124:=0
def tw8780875015313816828:=0
def tw16317227205731335420:=0
def tw5351372084030964924:=0
def tw11699032544478934172:=0
def tw4527318664620566491:=0
def tw16030382383376389083:=0
def tw17134575779245534875:=0
def tw14506430391294059131:=0
def tw3004414577469905307:=0
def tw534844942528015707:=0
def tw720105615365770491:=0
def tw12476594791375677659:=0
def tw2476252162671925467:=0
def tw5775448114240732347:=0
def tw493159354704897914:=0
def tw3844838254850733882:=0
def tw7825231833165849306:=0
def tw2352303705483829882:=0
def tw16078472332433864282:=0
def tw12077604841155826202:=0
def tw8104078571158986234:=0
def tw2707693790119145914:=0
def tw1650345521065094586:=0
def tw15813006593682021754:=0
def tw2356067517429355834:=0
def tw16276299445505469658:=0
def tw8344165865159518298:=0
def tw1143118231794065337:=0
def tw12364534311255482265:=0
def tw16058575375389716377:=0
def tw12602348754558481241:=0
def tw10560654141423265561:=0
def tw17844152496515055193:=0
def tw8696830159066518105:=0
def tw10343598361343237689:=0
def tw1459509721210264089:=0
def tw2637535016635919833:=0
def tw10655751237931458009:=0
def tw10036698255020838329:=0
def tw16861264490953420217:=0
def tw10810827446566592889:=0
def tw8435893024903121017:=0
def tw15238160407630294041:=0
def tw8106216045666583577:=0
def tw13864631360213023736:=0
def tw4896613462517742424:=0
def tw9314189159307179832:=0
def tw8545401654798407448:=0
def tw1213565444274933112:=0
def tw14236831199693027512:=0
def tw14818858755595093144:=0
def tw11782087735531339319:=0
def tw7254583614717096343:=0
def tw4417504784607189047:=0
def tw2757537292007702358:=0
def tw14881506351666473814:=0
def tw14041764119701481270:=0
def tw13142748349070003830:=0
def tw17180678667584942678:=0
def tw13924372382659455574:=0
def tw5414119510388596982:=0
def tw10809589836531287286:=0
def tw7036150971241706357:=0
def tw2036180043314835285:=0
def tw10300534080085615285:=0
def tw6597391348149970485:=0
def tw15906584726652845557:=0
def tw5272401813341805973:=0
def tw7473871366168455573:=0
def tw4474233967431465333:=0
def tw16822734017329126645:=0
def tw2615140814035615957:=0
def tw14527306977583201429:=0
def tw17586185298341516373:=0
def tw9223274045012282421:=0
def tw6612938317120465941:=0
def tw12688955966765353876:=0
def tw13546834294903734132:=0
def tw12326659966960622292:=0
def tw9886040380442215060:=0
def tw3215067482460610164:=0
def tw1341469598415706516:=0
def tw6802259437633694100:=0
def tw10677449634333380756:=0
def tw320784406131522676:=0
def tw6191780467740252276:=0
def tw1937706797713102964:=0
def tw5015947038503976787:=0
def tw2423435953697256211:=0
def tw975000346195552979:=0
def tw442325129517307603:=0
def tw18139321888901366451:=0
def tw12844923378052865715:=0
def tw16961739051138158259:=0
def tw3605696709029511795:=0
def tw1218028296956398099:=0
def tw3296750830384816659:=0
def tw2073909720305016307:=0
def tw6348587600289656211:=0
def tw2792957175327793555:=0
def tw5759095640569488627:=0
def tw12432606519592161459:=0
def tw1127102447111658547:=0
def tw4164082970186758098:=0
def tw135759419160727442:=0
def tw4851005842288918130:=0
def tw8768274704214256210:=0
def tw11790963141732106770:=0
def tw2110448150753257938:=0
def tw17143461443954262418:=0
def tw12001430221455573362:=0
def tw7137775009559011442:=0
def tw15139625110370592818:=0
def tw1613772983761022769:=0
def tw902163359435540209:=0
def tw8206120815312774801:=0
def tw9813524747198801457:=0
def tw10623277749525871057:=0
def tw15131869599354635505:=0
def tw16402205245796310161:=0
def tw16118748618267711569:=0
def tw9311517808369389520:=0
def tw16154140948404036496:=0
def tw61577730204524432:=0
def tw4355825199107106672:=0
def tw6263779967402019696:=0
def tw4529180193368030032:=0
def tw7849765621373018896:=0
def tw17108154997382016720:=0
def tw2789702263709095440:=0
def tw4876990410411313680:=0
def tw16490725367880997296:=0
def tw17639179774049317232:=0
def tw10324847827202654544:=0
def tw1003151692000093488:=0
def tw8323346253997458704:=0
def tw4803192901789710384:=0
def tw11342058952549902352:=0
def tw15844932136163984367:=0
def tw17884446074143783919:=0
def tw3967344620581164975:=0
def tw17402346552411095407:=0
def tw490468263496748367:=0
def tw433356629010047183:=0
def tw7883652700852392111:=0
def tw15403453052244473999:=0
def tw2831505562969978991:=0
def tw5617915125339466767:=0
def tw14121493548672750574:=0
def tw10966223256415907726:=0
def tw14140766643687163502:=0
def tw15027063243911787022:=0
def tw3636117050142303598:=0
def tw12971742777882556558:=0
def tw17299825491380495406:=0
def tw11730479554960506894:=0
def tw11860476328104096653:=0
def tw17671695069766570893:=0
def tw7265230849162306253:=0
def tw304381873755200077:=0
def tw15558032108448728589:=0
def tw4784032307865486637:=0
def tw84203248850037965:=0
def tw5798144288327433261:=0
def tw6626391812993947628:=0
def tw9595728991098367852:=0
def tw16416577320131286860:=0
def tw13330732665931149964:=0
def tw15448131800223645260:=0
def tw16680370225935815212:=0
def tw10390559977710901740:=0
def tw17652212199236283852:=0
def tw905196498411261356:=0
def tw7773255577659033900:=0
def tw4850113653999138795:=0
def tw13071188158276030411:=0
def tw16369914287125401547:=0
def tw13156793032974044107:=0
def tw13669609984813608875:=0
def tw8456915232283205483:=0
def tw7490103269629647659:=0
def tw8508679925939639787:=0
def tw1002755167019171307:=0
def tw2166207130194435531:=0
def tw8904388404721914219:=0
def tw16076128412826887531:=0
def tw3599134906031630507:=0
def tw6460374167417117642:=0
def tw8125584375816768426:=0
def tw10002720830549565290:=0
def tw7869486142378394410:=0
def tw15010701834223875850:=0
def tw17649004857254705898:=0
def tw5717594801609902826:=0
def tw12006065711923748490:=0
def tw12278760498878764682:=0
def tw13331264781699327594:=0
def tw1717573048807216618:=0
def tw15353486075911623082:=0
def tw4400571650611869066:=0
def tw10898293921625451882:=0
def tw5128065613170780394:=0
def tw15835020075425335466:=0
def tw9943884185305080874:=0
def tw4177853956871352265:=0
def tw14291822222589814697:=0
def tw17020444565985831849:=0
def tw8737956294538221417:=0
def tw17698889164171399913:=0
def tw3237752701204350697:=0
def tw7626972837771649737:=0
def tw1698341341992587977:=0
def tw1951404291579804297:=0
def tw17570405905420093033:=0
def tw10765361089624049033:=0
def tw6727005245198457225:=0
def tw14246832837318822217:=0
def tw15224843606175697225:=0
def tw14860322773460565129:=0
def tw18180807795515470985:=0
def tw18020379083910425609:=0
def tw5218703059949481960:=0
def tw17460632183387957992:=0
def tw4885048388458521256:=0
def tw12638386402031731368:=0
def tw7941363344889274728:=0
def tw10257623400098648168:=0
def tw14119195565617016583:=0
def tw10596006168975332999:=0
def tw12587752514392240775:=0
def tw10867367617627579975:=0
def tw16613415960045133191:=0
def tw15610709989464292391:=0
def tw18035781257852234791:=0
def tw7786862140434257927:=0
def tw3274592231783357350:=0
def tw15578072925071762310:=0
def tw9868975568625997670:=0
def tw6530150251395912518:=0
def tw9876610345928258246:=0
def tw515720969492360902:=0
def tw11884774009885855206:=0
def tw5492179116192885158:=0
def tw7058899048705047942:=0
def tw17263610619268065638:=0
def tw13664413523176800518:=0
def tw582933550789788934:=0
def tw5555270041242101990:=0
def tw6651250194717151366:=0
def tw7070898498629022693:=0
def tw17449509462282405797:=0
def tw1641991841128101765:=0
def tw17386091563869121413:=0
def tw13157303410659748549:=0
def tw13166982125680742021:=0
def tw18318967405532328485:=0
def tw1075632221550438853:=0
def tw13146680479960042885:=0
def tw2250856565653648741:=0
def tw13100552581078294757:=0
def tw6024032680194987237:=0
def tw10083790374905902277:=0
def tw7190869475427718341:=0
def tw7889414964439493765:=0
def tw4963674422588037092:=0
def tw13152018511138006948:=0
def tw5030206337986133860:=0
def tw12235194074778312452:=0
def tw8453089153113470500:=0
def tw13203728411987029540:=0
def tw3222790994516738596:=0
def tw10558976744364694020:=0
def tw4416086244934931972:=0
def tw8342862940469326276:=0
def tw568867278248511940:=0
def tw12649085915221111204:=0
def tw8105095224809950404:=0
def tw16183792428988411044:=0
def tw9885046475704042596:=0
def tw18094319767507874884:=0
def tw6044233224940253987:=0
def tw16268992313771228931:=0
def tw1901503127969932803:=0
def tw10625612776797028835:=0
def tw17198088304476663203:=0
def tw414381458214701315:=0
def tw7210950416620436707:=0
def tw3175446471325733027:=0
def tw6669658416593127459:=0
def tw5595936175241503522:=0
def tw11251772782016840450:=0
def tw16976401121506178562:=0
def tw17806257721502145954:=0
def tw16370644305528200610:=0
def tw15799588609456628994:=0
def tw17588722369532549346:=0
def tw4625859333826710626:=0
def tw14913603441559439458:=0
def tw12317736365941502849:=0
def tw7115402411012300673:=0
def tw367514644096946945:=0
def tw13515170624729062049:=0
def tw12173537735535615521:=0
def tw13246638083634541089:=0
def tw3862232007884843393:=0
def tw4449355539375976705:=0
def tw12410348820299222241:=0
def tw2086502441780593857:=0
def tw16689194889043213441:=0
def tw14224072452225948673:=0
def tw12318483237382169504:=0
def tw6266374526141141888:=0
def tw14304584324968382080:=0
def tw1190021473254789376:=0
def tw12660456700163031168:=0
def tw791713910588519552:=0
def tw7326635349439434752:=0
end PySem.W.Fast
end
set_option maxRecDepth 100000 in
set_option maxHeartbeats 0 in
theorem PySem.Challenge.cw_skeinwood_k49_long_put_in_taken_kept_holds : PySem.Challenge.rw_skeinwood_k49_long_put_in_taken_kept.Holds := by
 w_on; o_law; k_head; (case hw => w_witness2)
 k_fill
 refine Sk.walk (l := PySem.Challenge.rw_skeinwood_k49_long_put_in_taken_kept) rfl rfl (fun w h Y => PySem.W.kIn_of Y) ?F
 case F =>
  intro w mg fa h KX G hmg
  refine' Sk.all_mk KX G hmg ?aC0 ?a0 ?i0 ?l0 ?c0 ?k0 ?a9 ?i9 ?l9 ?c9 ?k9 ?a10 ?i10 ?l10 ?c10 ?k10 ?a11 ?i11 ?l11 ?c11 ?k11 ?a12 ?i12 ?l12 ?c12 ?k12 ?a13 ?i13 ?l13 ?c13 ?k13 ?a14 ?i14 ?l14 ?c14 ?k14 ?a16 ?i16 ?l16 ?c16 ?k16 ?a17 ?i17 ?l17 ?c17 ?k17 ?a18 ?i18 ?l18 ?c18 ?k18 ?a19 ?i19 ?l19 ?c19 ?k19 ?a20 ?i20 ?l20 ?c20 ?k20 ?a22 ?i22 ?l22 ?c22 ?k22 ?a31 ?i31 ?l31 ?c31 ?k31 ?a32 ?i32 ?l32 ?c32 ?k32 ?a47 ?i47 ?l47 ?c47 ?k47 ?a1 ?l1 ?c1 ?k1 ?a2 ?l2 ?c2 ?k2 ?a3 ?l3 ?c3 ?k3 ?a4 ?l4 ?c4 ?k4 ?a5 ?l5 ?c5 ?k5 ?a6 ?l6 ?c6 ?k6 ?a7 ?l7 ?c7 ?k7 ?a8 ?l8 ?c8 ?k8 ?a15 ?l15 ?c15 ?k15 ?a21 ?l21 ?c21 ?k21 ?a23 ?l23 ?c23 ?k23 ?a24 ?l24 ?c24 ?k24 ?a25 ?l25 ?c25 ?k25 ?a26 ?l26 ?c26 ?k26 ?a27 ?l27 ?c27 ?k27 ?a28 ?l28 ?c28 ?k28 ?a29 ?l29 ?c29 ?k29 ?a30 ?l30 ?c30 ?k30 ?a33 ?l33 ?c33 ?k33 ?a34 ?l34 ?c34 ?k34 ?a35 ?l35 ?c35 ?k35 ?a36 ?l36 ?c36 ?k36 ?a37 ?l37 ?c37 ?k37 ?a38 ?l38 ?c38 ?k38 ?a39 ?l39 ?c39 ?k39 ?a40 ?l40 ?c40 ?k40 ?a41 ?l41 ?c41 ?k41 ?a42 ?l42 ?c42 ?k42 ?a43 ?l43 ?c43 ?k43 ?a44 ?l44 ?c44 ?k44 ?a45 ?l45 ?c45 ?k45 ?a46 ?l46 ?c46 ?k46 ?a48 ?l48 ?c48 ?k48 ?a49 ?l49 ?c49 ?k49 ?a50 ?l50 ?c50 ?k50 ?a51 ?l51 ?c51 ?k51 ?a52 ?l52 ?c52 ?k52 ?a53 ?l53 ?c53 ?k53 ?a54 ?l54 ?c54 ?k54 ?a55 ?l55 ?c55 ?k55 ?a56 ?l56 ?c56 ?k56 ?a57 ?l57 ?c57 ?k57 ?pg0 ?hd0 ?po0 ?sa0 ?mk0 ?kc0 ?nf0_0 ?nf0_1 ?nf0_2 ?nf0_3 ?nf0_4 ?nf0_5 ?nf0_6 ?nf0_7 ?z_abs ?z_all ?z_bool ?z_int ?z_isinstance ?z_len ?z_max ?z_min ?z_range ?z_str ?z_sum ?e_SkeinError ?e_NoText ?x_NoText ?e_NoPiece ?x_NoPiece ?e_Loose ?x_Loose ?e_Unlevel ?x_Unlevel ?e_TooLong ?x_TooLong ?e_NoPlace ?x_NoPlace ?m_LEAF_SIGNS ?m_MOST_PLAIN ?m_MOST_SIGNS ?em_TooLong_5
  (case aC0 => k_is)
  (case a0 => k_is)
  (case i0 => k_is)
  (case l0 => k_is)
  (case c0 => k_is)
  (case k0 => k_is)
  (case a9 => k_is)
  (case i9 => k_is)
  (case l9 => k_is)
  (case c9 => k_is)
  (case k9 => k_is)
  (case a10 => k_is)
  (case i10 => k_is)
  (case l10 => k_is)
  (case c10 => k_is)
  (case k10 => k_is)
  (case a11 => k_is)
  (case i11 => k_is)
  (case l11 => k_is)
  (case c11 => k_is)
  (case k11 => k_is)
  (case a12 => k_is)
  (case i12 => k_is)
  (case l12 => k_is)
  (case c12 => k_is)
  (case k12 => k_is)
  (case a13 => k_is)
  (case i13 => k_is)
  (case l13 => k_is)
  (case c13 => k_is)
  (case k13 => k_is)
  (case a14 => k_is)
  (case i14 => k_is)
  (case l14 => k_is)
  (case c14 => k_is)
  (case k14 => k_is)
  (case a16 => k_is)
  (case i16 => k_is)
  (case l16 => k_is)
  (case c16 => k_is)
  (case k16 => k_is)
  (case a17 => k_is)
  (case i17 => k_is)
  (case l17 => k_is)
  (case c17 => k_is)
  (case k17 => k_is)
  (case a18 => k_is)
  (case i18 => k_is)
  (case l18 => k_is)
  (case c18 => k_is)
  (case k18 => k_is)
  (case a19 => k_is)
  (case i19 => k_is)
  (case l19 => k_is)
  (case c19 => k_is)
  (case k19 => k_is)
  (case a20 => k_is)
  (case i20 => k_is)
  (case l20 => k_is)
  (case c20 => k_is)
  (case k20 => k_is)
  (case a22 => k_is)
  (case i22 => k_is)
  (case l22 => k_is)
  (case c22 => k_is)
  (case k22 => k_is)
  (case a31 => k_is)
  (case i31 => k_is)
  (case l31 => k_is)
  (case c31 => k_is)
  (case k31 => k_is)
  (case a32 => k_is)
  (case i32 => k_is)
  (case l32 => k_is)
  (case c32 => k_is)
  (case k32 => k_is)
  (case a47 => k_is)
  (case i47 => k_is)
  (case l47 => k_is)
  (case c47 => k_is)
  (case k47 => k_is)
  (case a1 => k_is)
  (case l1 => k_is)
  (case c1 => k_is)
  (case k1 => k_is)
  (case a2 => k_is)
  (case l2 => k_is)
  (case c2 => k_is)
  (case k2 => k_is)
  (case a3 => k_is)
  (case l3 => k_is)
  (case c3 => k_is)
  (case k3 => k_is)
  (case a4 => k_is)
  (case l4 => k_is)
  (case c4 => k_is)
  (case k4 => k_is)
  (case a5 => k_is)
  (case l5 => k_is)
  (case c5 => k_is)
  (case k5 => k_is)
  (case a6 => k_is)
  (case l6 => k_is)
  (case c6 => k_is)
  (case k6 => k_is)
  (case a7 => k_is)
  (case l7 => k_is)
  (case c7 => k_is)
  (case k7 => k_is)
  (case a8 => k_is)
  (case l8 => k_is)
  (case c8 => k_is)
  (case k8 => k_is)
  (case a15 => k_is)
  (case l15 => k_is)
  (case c15 => k_is)
  (case k15 => k_is)
  (case a21 => k_is)
  (case l21 => k_is)
  (case c21 => k_is)
  (case k21 => k_is)
  (case a23 => k_is)
  (case l23 => k_is)
  (case c23 => k_is)
  (case k23 => k_is)
  (case a24 => k_is)
  (case l24 => k_is)
  (case c24 => k_is)
  (case k24 => k_is)
  (case a25 => k_is)
  (case l25 => k_is)
  (case c25 => k_is)
  (case k25 => k_is)
  (case a26 => k_is)
  (case l26 => k_is)
  (case c26 => k_is)
  (case k26 => k_is)
  (case a27 => k_is)
  (case l27 => k_is)
  (case c27 => k_is)
  (case k27 => k_is)
  (case a28 => k_is)
  (case l28 => k_is)
  (case c28 => k_is)
  (case k28 => k_is)
  (case a29 => k_is)
  (case l29 => k_is)
  (case c29 => k_is)
  (case k29 => k_is)
  (case a30 => k_is)
  (case l30 => k_is)
  (case c30 => k_is)
  (case k30 => k_is)
  (case a33 => k_is)
  (case l33 => k_is)
  (case c33 => k_is)
  (case k33 => k_is)
  (case a34 => k_is)
  (case l34 => k_is)
  (case c34 => k_is)
  (case k34 => k_is)
  (case a35 => k_is)
  (case l35 => k_is)
  (case c35 => k_is)
  (case k35 => k_is)
  (case a36 => k_is)
  (case l36 => k_is)
  (case c36 => k_is)
  (case k36 => k_is)
  (case a37 => k_is)
  (case l37 => k_is)
  (case c37 => k_is)
  (case k37 => k_is)
  (case a38 => k_is)
  (case l38 => k_is)
  (case c38 => k_is)
  (case k38 => k_is)
  (case a39 => k_is)
  (case l39 => k_is)
  (case c39 => k_is)
  (case k39 => k_is)
  (case a40 => k_is)
  (case l40 => k_is)
  (case c40 => k_is)
  (case k40 => k_is)
  (case a41 => k_is)
  (case l41 => k_is)
  (case c41 => k_is)
  (case k41 => k_is)
  (case a42 => k_is)
  (case l42 => k_is)
  (case c42 => k_is)
  (case k42 => k_is)
  (case a43 => k_is)
  (case l43 => k_is)
  (case c43 => k_is)
  (case k43 => k_is)
  (case a44 => k_is)
  (case l44 => k_is)
  (case c44 => k_is)
  (case k44 => k_is)
  (case a45 => k_is)
  (case l45 => k_is)
  (case c45 => k_is)
  (case k45 => k_is)
  (case a46 => k_is)
  (case l46 => k_is)
  (case c46 => k_is)
  (case k46 => k_is)
  (case a48 => k_is)
  (case l48 => k_is)
  (case c48 => k_is)
  (case k48 => k_is)
  (case a49 => k_is)
  (case l49 => k_is)
  (case c49 => k_is)
  (case k49 => k_is)
  (case a50 => k_is)
  (case l50 => k_is)
  (case c50 => k_is)
  (case k50 => k_is)
  (case a51 => k_is)
  (case l51 => k_is)
  (case c51 => k_is)
  (case k51 => k_is)
  (case a52 => k_is)
  (case l52 => k_is)
  (case c52 => k_is)
  (case k52 => k_is)
  (case a53 => k_is)
  (case l53 => k_is)
  (case c53 => k_is)
  (case k53 => k_is)
  (case a54 => k_is)
  (case l54 => k_is)
  (case c54 => k_is)
  (case k54 => k_is)
  (case a55 => k_is)
  (case l55 => k_is)
  (case c55 => k_is)
  (case k55 => k_is)
  (case a56 => k_is)
  (case l56 => k_is)
  (case c56 => k_is)
  (case k56 => k_is)
  (case a57 => k_is)
  (case l57 => k_is)
  (case c57 => k_is)
  (case k57 => k_is)
  (case pg0 => k_is)
  (case hd0 => k_is)
  (case po0 => k_is)
  (case sa0 => k_is)
  (case mk0 => k_is)
  (case kc0 => k_is)
  (case nf0_0 => k_is)
  (case nf0_1 => k_is)
  (case nf0_2 => k_is)
  (case nf0_3 => k_is)
  (case nf0_4 => k_is)
  (case nf0_5 => k_is)
  (case nf0_6 => k_is)
  (case nf0_7 => k_is)
  (case z_abs => k_is)
  (case z_all => k_is)
  (case z_bool => k_is)
  (case z_int => k_is)
  (case z_isinstance => k_is)
  (case z_len => k_is)
  (case z_max => k_is)
  (case z_min => k_is)
  (case z_range => k_is)
  (case z_str => k_is)
  (case z_sum => k_is)
  (case e_SkeinError => k_is)
  (case e_NoText => k_is)
  (case x_NoText => k_exc)
  (case e_NoPiece => k_is)
  (case x_NoPiece => k_exc)
  (case e_Loose => k_is)
  (case x_Loose => k_exc)
  (case e_Unlevel => k_is)
  (case x_Unlevel => k_exc)
  (case e_TooLong => k_is)
  (case x_TooLong => k_exc)
  (case e_NoPlace => k_is)
  (case x_NoPlace => k_exc)
  (case m_LEAF_SIGNS => k_is)
  (case m_MOST_PLAIN => k_is)
  (case m_MOST_SIGNS => k_is)
  (case em_TooLong_5 => kts_exm)
