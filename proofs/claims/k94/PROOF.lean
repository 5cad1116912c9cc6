import PyProof.Rows.All
import Wide.All
import OpenK.AllK
import Wide.FinOn
import Lean
import PyProof.EqAt
import PyProof.EqKinds
import PyProof.TupleCall
import PyProof.StrCalls2
import PyProof.SumAny
import PyProof.Rows.Range3
import PyProof.StrBlockI
import PyProof.SliceStr2
import PyProof.IsRules
import PyProof.StrBlock2
import PyProof.ListRange
import KE.KRevSl
import PyProof.StrLawsIn
import PySem.Challenge.RW_skeinwood_k94_whole_deeds_on_long_texts
set_option Elab.async false
set_option linter.all false
set_option maxRecDepth 100000
noncomputable section
namespace L2
open PySem PySem.Spec PyProof.Rows
abbrev Key:=Sum Int Str
abbrev b01 (b:Bool):Int:=if b then 1 else 0
def ydR:Key->Value->Bool
 | .inl k,.bool b=>decide (k=b01 b)
 | .inl k,v=>Value.isInt k v
 | .inr x,v=>Value.isStrOf x v
def keyH (w:World):Key->Int
 | .inl k=>hashInt k
 | .inr x=>hashStr w x
theorem zaw:∀ {k:Key} {v:Value},ydR k v=true->(∃ i t,k=Sum.inl i/\v=Value.int i t)\/(∃ b,k=Sum.inl (b01 b)/\v=Value.bool b)\/(∃ x t,k=Sum.inr x/\v=Value.str x t)
 | .inl i,v,h=>by
  cases v with
  | bool b=>exact .inr (.inl ⟨b,by rw [of_decide_eq_true (show decide (i=b01 b)=true from h)],rfl⟩)
  | int j t =>
   obtain ⟨t,e⟩:=Value.isInt_shape (k:=i) (v:=.int j t) h
   exact .inl ⟨i,t,rfl,e⟩
  | _=>exact absurd h (by simp [ydR,Value.isInt])
 | .inr x,v,h=>by
  obtain ⟨t,e⟩:=Value.isStrOf_shape (x:=x) (v:=v) h
  exact .inr (.inr ⟨x,t,rfl,e⟩)
theorem zgu (i:Int) (t:Tok):ydR (.inl i) (.int i t)=true:=by simp [ydR,Value.isInt]
theorem zgv (x:Str) (t:Tok):ydR (.inr x) (.str x t)=true:=by simp [ydR,Value.isStrOf]
theorem ye1 (a b:Int):decide ((Sum.inl a:Key)=Sum.inl b)=(a == b):=by
 by_cases e:a=b
 ·subst e;simp
 ·have h : ¬ (Sum.inl a:Key)=Sum.inl b:=fun q=>e (Sum.inl.inj q)
  rw [decide_eq_false h]
  exact (beq_eq_false_iff_ne.mpr e).symm
theorem ygh (a b:Str):decide ((Sum.inr a:Key)=Sum.inr b)=decide (a=b):=by
 by_cases e:a=b
 ·subst e;simp
 ·have h : ¬ (Sum.inr a:Key)=Sum.inr b:=fun q=>e (Sum.inr.inj q)
  rw [decide_eq_false h,decide_eq_false e]
theorem yfn (a:Int) (b:Str):decide ((Sum.inl a:Key)=Sum.inr b)=false:=decide_eq_false (fun q=>nomatch q)
theorem yfo (a:Str) (b:Int):decide ((Sum.inr a:Key)=Sum.inl b)=false:=decide_eq_false (fun q=>nomatch q)
theorem zck {prog:Program} {w:World} {A:Around} {E:Value->Shared->Prop} {s:Shared} {b:Bool} {Q:Int->Shared->Prop} (h:Q (hashInt (b01 b)) { s with toks:=s.toks+1 }) :
  wpAny (model prog w) A (pyHash (.bool b)) Q E s:=by
 unfold pyHash
 unfold pyHashByItsType
 have hv:[Value.bool b].any Value.onHeap=false:=rfl
 refine wpAny_bind ?_
 rw [cRoomFor,if_neg (by rw [hv];exact Bool.false_ne_true)];refine wpAny_pure ?_
 refine wpAny_bind (wpAny_specialOf (PySem.typeIs_bool s b) PySem.F.slot_bool_hash.lookup ?_)
 show wpAny _ _ (if (some (Value.builtin "int.__hash__") == some Value.none)=true then _ else _) Q E s
 rw [if_neg (by rw [beq_builtin_none];exact Bool.false_ne_true)]
 refine wpAny_bind (wpAny_specialOf (PySem.typeIs_bool s b) PySem.F.slot_bool_hash.lookup ?_)
 show wpAny _ _ (callSpecialIfBoundUnlessNone? (.bool b) "__hash__" _ >>= _) Q E s
 cases b with
 | false =>
  refine wpAny_bind (wpAny_callSpecialIfBoundUnlessNone?_slot (PySem.typeIs_bool s false) PySem.F.slot_bool_hash
   (wpAny_call_entry PySem.F.slot_bool_hash (PySem.typeIs_bool s false) entry_int_hash
    (show wpAny _ _ (do ret (<- mkInt 0)) _ _ s from wpAny_ret_mkInt ?_) (args_int_hash _)))
  exact wpAny_pure h
 | true =>
  refine wpAny_bind (wpAny_callSpecialIfBoundUnlessNone?_slot (PySem.typeIs_bool s true) PySem.F.slot_bool_hash
   (wpAny_call_entry PySem.F.slot_bool_hash (PySem.typeIs_bool s true) entry_int_hash
    (show wpAny _ _ (do ret (<- mkInt 1)) _ _ s from wpAny_ret_mkInt ?_) (args_int_hash _)))
  exact wpAny_pure h
theorem zii (a b:Bool):(a == b)=decide ((Sum.inl (b01 a):Key)=Sum.inl (b01 b)):=by cases a<;>cases b<;>decide
def ybj (prog:Program) (w:World):PySem.KeyKind prog w Key where
 is:=ydR
 hash:=keyH w
 inj:=fun v a b ha hb=>by
  rcases zaw ha with ⟨i,t,rfl,rfl⟩ | ⟨c,rfl,rfl⟩ | ⟨x,t,rfl,rfl⟩
  ·rcases zaw hb with ⟨j,u,rfl,e⟩ | ⟨d,rfl,e⟩ | ⟨y,u,rfl,e⟩
   ·injection e with e1 _;rw [e1]
   ·exact nomatch e
   ·exact nomatch e
  ·rcases zaw hb with ⟨j,u,rfl,e⟩ | ⟨d,rfl,e⟩ | ⟨y,u,rfl,e⟩
   ·exact nomatch e
   ·injection e with e1;rw [e1]
   ·exact nomatch e
  ·rcases zaw hb with ⟨j,u,rfl,e⟩ | ⟨d,rfl,e⟩ | ⟨y,u,rfl,e⟩
   ·exact nomatch e
   ·exact nomatch e
   ·injection e with e1 _;rw [e1]
 byValue:=fun k v h=>by
  rcases zaw h with ⟨i,t,rfl,rfl⟩ | ⟨c,rfl,rfl⟩ | ⟨x,t,rfl,rfl⟩<;>rfl
 pyHash:=fun hv h=>by
  rcases zaw hv with ⟨i,t,rfl,rfl⟩ | ⟨c,rfl,rfl⟩ | ⟨x,t,rfl,rfl⟩
  ·exact wpAny_pyHash_int h
  ·exact zck h
  ·exact wpAny_pyHash_str h
 eqBool:=fun hu hv h=>by
  rcases zaw hu with ⟨i,t,rfl,rfl⟩ | ⟨c,rfl,rfl⟩ | ⟨x,t,rfl,rfl⟩
  ·rcases zaw hv with ⟨j,u,rfl,rfl⟩ | ⟨d,rfl,rfl⟩ | ⟨y,u,rfl,rfl⟩
   ·rw [ye1] at h;exact wpAny_eqBool_int h
   ·rw [ye1] at h;exact SeqAt.EqAt.int_bool i t d _ _ _ _ h
   ·rw [yfn] at h;exact SeqAt.EqAt.int_str i t y u _ _ _ _ h
  ·rcases zaw hv with ⟨j,u,rfl,rfl⟩ | ⟨d,rfl,rfl⟩ | ⟨y,u,rfl,rfl⟩
   ·rw [ye1] at h;exact SeqAt.EqAt.bool_int c j u _ _ _ _ h
   ·rw [<- zii] at h;exact SeqAt.EqAt.bool_bool c d _ _ _ _ h
   ·rw [yfn] at h;exact SeqAt.EqAt.bool_str c y u _ _ _ _ h
  ·rcases zaw hv with ⟨j,u,rfl,rfl⟩ | ⟨d,rfl,rfl⟩ | ⟨y,u,rfl,rfl⟩
   ·rw [yfo] at h;exact SeqAt.EqAt.str_int x t j u _ _ _ _ h
   ·rw [yfo] at h;exact SeqAt.EqAt.str_bool x t d _ _ _ _ h
   ·rw [ygh] at h;exact wpAny_eqBool_str h
 «strs» := fun k x t v h=>by
  rcases zaw h with ⟨i,u,rfl,e⟩ | ⟨d,rfl,e⟩ | ⟨y,u,rfl,e⟩
  ·exact nomatch e
  ·exact nomatch e
  ·injection e with e1 _
   subst e1
   cases v<;>rfl
theorem zcp (prog:Program) (w:World) (i:Int) (t:Tok):(ybj prog w).is (.inl i) (.int i t)=true:=zgu i t
theorem zcq (prog:Program) (w:World) (x:Str) (t:Tok):(ybj prog w).is (.inr x) (.str x t)=true:=zgv x t
end L2
namespace L2
open PySem PySem.Spec PyProof.Rows
inductive V where
 | non | bl (b:Bool) | int (i:Int) | str (x:Str) | byt (b:Array UInt8) | flt (b:UInt64) | ref (a:Addr) | ty (n:String)
 deriving DecidableEq
def RelV:V->Value->Prop
 | .non,u=>u=Value.none
 | .bl b,u=>u=Value.bool b
 | .int i,u=>∃ t,u=Value.int i t
 | .str x,u=>∃ t,u=Value.str x t
 | .byt b,u=>∃ t,u=Value.bytes b t
 | .flt b,u=>∃ t,u=Value.float b t
 | .ref a,u=>u=Value.ref a
 | .ty n,u=>u=Value.type n
abbrev Vals:List V->List Value->Prop:=Paired RelV
theorem Vals.length {xs:List V} {us:List Value} (r:Vals xs us):xs.length=us.length:=Paired.length r
theorem Vals.get:∀ {xs:List V} {us:List Value} {i:Nat} {x:V},Vals xs us->xs[i]? = some x->∃ u,us[i]? = some u/\RelV x u
 | _,_,_,_,.nil,e=>by simp at e
 | _,_,0,_,.cons r _,e=>by simp at e;subst e;exact ⟨_,rfl,r⟩
 | _,_,i+1,x,.cons _ t,e=>by
  obtain ⟨u,h1,h2⟩:=Vals.get (i:=i) (x:=x) t (by simpa using e)
  exact ⟨u,by simpa using h1,h2⟩
theorem Vals.set {x:V} {u:Value} (r:RelV x u):∀ {xs:List V} {us:List Value} (i:Nat),Vals xs us->Vals (xs.set i x) (us.set i u)
 | _,_,_,.nil=>.nil
 | _,_,0,.cons _ t=>.cons r t
 | _,_,i+1,.cons q t=>.cons q (Vals.set r i t)
theorem Vals.append:∀ {xs ys:List V} {us ws:List Value},Vals xs us->Vals ys ws->Vals (xs++ys) (us++ws)
 | _,_,_,_,.nil,s=>s
 | _,_,_,_,.cons r t,s=>.cons r (Vals.append t s)
theorem Vals.take:∀ {xs:List V} {us:List Value} (n:Nat),Vals xs us->Vals (xs.take n) (us.take n)
 | _,_,0,_=>.nil
 | _,_,_+1,.nil=>.nil
 | _,_,n+1,.cons r t=>.cons r (Vals.take n t)
theorem Vals.drop:∀ {xs:List V} {us:List Value} (n:Nat),Vals xs us->Vals (xs.drop n) (us.drop n)
 | _,_,0,r=>r
 | _,_,_+1,.nil=>.nil
 | _,_,n+1,.cons _ t=>Vals.drop n t
def RelO:Option V->Option Value->Prop
 | some v,some u=>RelV v u
 | none,none=>True
 | _,_=>False
def KV {κ:Type}:List (κ×V)->List (κ×Value)->Prop:=Paired fun (p:κ×V) (q:κ×Value)=>p.1=q.1/\RelV p.2 q.2
def kV:Key->V
 | .inl i=>.int i
 | .inr x=>.str x
def kOf:V->Option Key
 | .int i=>some (.inl i)
 | .bl b=>some (.inl (b01 b))
 | .str x=>some (.inr x)
 | _=>none
theorem ygi (k:Key):kOf (kV k)=some k:=by cases k<;>rfl
inductive HO where
 | lst (xs:List V)
 | tup (xs:List V)
 | dK (kvs:List (Key×V)) | dT (kvs:List (List Key×V))
 | set (S:Int->Bool) (n:Nat)
 | ins (C dx:Addr) (fs:List (Str×V))
 | own (x:Addr)
 | xd (fs:List (Str×V))
 | met (f x:Addr)
 | rng (lo hi:Int)
 | frz (o:Obj) (u:HO)
 | tbl (ps:Array Value)
 | ext (φ:Heap->Prop)
abbrev Hp:=Addr->Option HO
def upd (H:Hp) (a:Addr) (o:HO):Hp:=fun b=>if b=a then some o else H b
theorem zas {H:Hp} {a:Addr} {o:HO}:upd H a o a=some o:=by unfold upd;rw [if_pos rfl]
theorem yay {H:Hp} {a b:Addr} {o:HO} (h:b≠a):upd H a o b=H b:=by unfold upd;rw [if_neg h]
theorem yhu {H:Hp} {a b:Addr} {o u:HO} (h:H a=some o) (h':H b=some u) (d:o≠u):a≠b:=by
 intro e;subst e;rw [h] at h';exact d (Option.some.inj h')
theorem zat {H:Hp} {a b:Addr} {o:HO} (h:H a=some o) (h':H b=none):a≠b:=by
 intro e;subst e;rw [h] at h';cases h'
section
variable (P:Program) (w:World)
def ObjOk (H:Hp) (h:Heap) (a:Addr):HO->Prop
 | .lst xs=>xs.length<=sizeLine/\∃ (its:List Value) (n:Nat),Vals xs its/\h.get? a=some { cls:=.type "list",data:=.seq its.toArray n }
 | .tup xs=>xs.length<=sizeLine/\∃ its:List Value,Vals xs its/\IsTup h a its.toArray
 | .dK kvs=>kvs.length<=sizeLine/\(a == sysModules)=false/\∃ vs,KV kvs vs/\h.DictOf (ybj P w) a vs
 | .dT kvs=>kvs.length<=sizeLine/\(a == sysModules)=false/\∃ xs:List (List Key×Addr×Value),
   Paired (fun (p:List Key×V) (q:List Key×Addr×Value)=>p.1=q.1/\(∃ ys,H q.2.1=some (.tup ys)/\ys.map kOf=p.1.map some)/\RelV p.2 q.2.2) kvs xs /\
   ∃ o es ep,h.get? a=some o/\o.ExactDict/\o.data = .dict es ep/\es.toList=xs.map (entryOfKey (tupleKind (ybj P w)))/\(xs.map (·.1)).Nodup
 | .set S n=>h.SetOf (intKind P w) a S n
 | .ins C dx fs=>H dx=some (.own a)/\fs.length<=1000/\dx≠a/\h.get? a=some (PySem.W.instObj C dx) /\
   ∃ mA,h.Ns1 dx mA/\(∀ f,RelO (fs.lookup f) (mA f))/\PySem.Within mA (fs.map (·.1))
 | .own _=>∃ o,h.get? a=some o
 | .xd fs=>∃ mA,h.Ns1 a mA/\∀ f,RelO (fs.lookup f) (mA f)
 | .rng lo hi=>∃ t u v,h.get? a=some { cls:=.type "range",data:=.fields #[.int lo t,.int hi u,.int 1 v] }
 | .frz o u=>h.get? a=some o/\ObjOk H h a u
 | .tbl ps=>h.get? a=some { cls:=.none,data:=.fields ps }
 | .met f x=>h.get? a=some (PySem.W.methodObj (.ref f) (.ref x))
 | .ext φ=>φ h/\(∃ o,h.get? a=some o)/\∀ h1 h2:Heap,φ h1->(∀ o,h1.get? a=some o->h2.get? a=some o)->φ h2
def HOk (H:Hp) (h:Heap):Prop:=∀ a o,H a=some o->ObjOk P w H h a o
end
section
variable {P:Program} {w:World} {H H':Hp} {h h':Heap} {a:Addr} {o:HO}
theorem ObjOk.lt (x:ObjOk P w H h a o):a<h.objs.size:=by
 cases o with
 | lst xs=>obtain ⟨_,_,_,_,e⟩:=x;exact Heap.lt_size e
 | tup xs=>obtain ⟨_,_,_,p⟩:=x;exact p.lt
 | dK kvs=>obtain ⟨_,_,_,_,o,_,_,e,_⟩:=x;exact Heap.lt_size e
 | dT kvs=>obtain ⟨_,_,_,_,o,_,_,e,_⟩:=x;exact Heap.lt_size e
 | set S n=>obtain ⟨o,_,_,_,e,_⟩:=x;exact Heap.lt_size e
 | ins C dx fs=>obtain ⟨_,_,_,e,_⟩:=x;exact Heap.lt_size e
 | own y=>obtain ⟨_,e⟩:=x;exact Heap.lt_size e
 | xd fs=>obtain ⟨_,⟨_,_,_,e,_⟩,_⟩:=x;exact Heap.lt_size e
 | rng lo hi=>obtain ⟨_,_,_,e⟩:=x;exact Heap.lt_size e
 | frz ob u=>obtain ⟨e,_⟩:=x;exact Heap.lt_size e
 | tbl ps=>exact Heap.lt_size (show h.get? a=some _ from x)
 | met f y=>exact Heap.lt_size (show h.get? a=some _ from x)
 | ext φ=>obtain ⟨_,⟨_,e⟩,_⟩:=x;exact Heap.lt_size e
theorem Paired.mapP {α β:Type} {F G:α->β->Prop}:∀ {l₁:List α} {l₂:List β},Paired F l₁ l₂->(∀ a b,F a b->G a b)->Paired G l₁ l₂
 | _,_,.nil,_=>.nil
 | _,_,.cons r t,f=>.cons (f _ _ r) (Paired.mapP t f)
theorem ObjOk.stay (x:ObjOk P w H h a o) (k:∀ b u,(b=a\/H b=some (.own a))->h.get? b=some u->h'.get? b=some u)
  (ho:∀ b,H b=some (.own a)->H' b=some (.own a)) (ht:∀ b xs,H b=some (.tup xs)->H' b=some (.tup xs)):ObjOk P w H' h' a o:=by
 induction o with
 | lst xs=>obtain ⟨z,its,n,r,e⟩:=x;exact ⟨z,its,n,r,k _ _ (.inl rfl) e⟩
 | tup xs=>obtain ⟨z,its,r,ob,e,c⟩:=x;exact ⟨z,its,r,ob,k _ _ (.inl rfl) e,c⟩
 | dK kvs=>obtain ⟨z,y,vs,r,ob,es,ep,e,c⟩:=x;exact ⟨z,y,vs,r,ob,es,ep,k _ _ (.inl rfl) e,c⟩
 | dT kvs =>
  obtain ⟨z,y,xs,r,ob,es,ep,e,c⟩:=x
  exact ⟨z,y,xs,Paired.mapP r fun p q z=>⟨z.1,z.2.1.imp fun _ e=>⟨ht _ _ e.1,e.2⟩,z.2.2⟩,ob,es,ep,k _ _ (.inl rfl) e,c⟩
 | set S n=>obtain ⟨ob,es,ep,t,e,c⟩:=x;exact ⟨ob,es,ep,t,k _ _ (.inl rfl) e,c⟩
 | ins C dx fs =>
  obtain ⟨d,z,ne,e,mA,⟨od,es,ep,e2,c⟩,r⟩:=x
  exact ⟨ho _ d,z,ne,k _ _ (.inl rfl) e,mA,⟨od,es,ep,k _ _ (.inr d) e2,c⟩,r⟩
 | own y=>obtain ⟨ob,e⟩:=x;exact ⟨ob,k _ _ (.inl rfl) e⟩
 | xd fs=>obtain ⟨mA,⟨od,es,ep,e,c⟩,r⟩:=x;exact ⟨mA,⟨od,es,ep,k _ _ (.inl rfl) e,c⟩,r⟩
 | rng lo hi=>obtain ⟨t,u,v,e⟩:=x;exact ⟨t,u,v,k _ _ (.inl rfl) e⟩
 | frz ob u ih=>obtain ⟨e,q⟩:=x;exact ⟨k _ _ (.inl rfl) e,ih q⟩
 | tbl ps =>
  have e:h.get? a=some { cls:=.none,data:=.fields ps }:=x
  show h'.get? a=some { cls:=.none,data:=.fields ps }
  exact k a _ (.inl rfl) e
 | met f y =>
  have e:h.get? a=some (PySem.W.methodObj (.ref f) (.ref y)):=x
  show h'.get? a=some (PySem.W.methodObj (.ref f) (.ref y))
  exact k a _ (.inl rfl) e
 | ext φ=>obtain ⟨p,⟨o,e⟩,st⟩:=x;exact ⟨st _ _ p fun o q=>k _ _ (.inl rfl) q,⟨o,k _ _ (.inl rfl) e⟩,st⟩
theorem HOk.lt (x:HOk P w H h) (e:H a=some o):a<h.objs.size:=(x a o e).lt
theorem HOk.fresh (x:HOk P w H h) (e:h.objs.size<=a):H a=none:=by
 cases q:H a with
 | none=>rfl
 | some u=>exact absurd (Nat.lt_of_lt_of_le (x.lt q) e) (Nat.lt_irrefl _)
theorem HOk.kept (x:HOk P w H h) (k:∀ b u,h.get? b=some u->h'.get? b=some u):HOk P w H h' := fun a o e =>
 (x a o e).stay (fun b u _ q=>k b u q) (fun _ q=>q) fun _ _ q=>q
theorem HOk.laid (x:HOk P w H h) (k:∀ b u,h.get? b=some u->h'.get? b=some u) (hp:h.objs.size<=a) (new:ObjOk P w (upd H a o) h' a o):HOk P w (upd H a o) h' := fun b u e=>by
 have hn:=x.fresh hp
 by_cases hb:b=a
 ·subst hb;rw [zas] at e;cases e;exact new
 ·rw [yay hb] at e
  exact (x b u e).stay (fun c v _ q=>k c v q) (fun c q=>by rw [yay (zat q hn)];exact q) fun c xs q=>by rw [yay (zat q hn)];exact q
end
def Rd (H:Hp) (a:Addr) (u:HO):Prop:=H a=some u\/∃ o,H a=some (.frz o u)
theorem Rd.ok {P:Program} {w:World} {H:Hp} {h:Heap} {a:Addr} {u:HO} (r:Rd H a u) (x:HOk P w H h):ObjOk P w H h a u:=by
 rcases r with r | ⟨o,r⟩
 ·exact x a u r
 ·obtain ⟨_,q⟩:=x a _ r
  exact q
def Mut:Option HO->Prop
 | some (.lst _)=>True
 | some (.dK _)=>True
 | some (.dT _)=>True
 | some (.set _ _)=>True
 | some (.ins _ _ _)=>True
 | some (.ext _)=>True
 | _=>False
section
variable {P:Program} {w:World} {H:Hp} {h h':Heap} {x e:Addr} {o':HO}
theorem HOk.write (ok:HOk P w H h) (mu:Mut (H x)) (he:e=x\/H e=some (.own x)) (k:∀ b u,b≠e->h.get? b=some u->h'.get? b=some u) (heo:∃ u,h'.get? e=some u)
  (new:ObjOk P w (upd H x o') h' x o'):HOk P w (upd H x o') h' := fun b u q=>by
 have nown:∀ c y,H c=some (.own y)->c≠x:=fun c y r z=>by subst z;rw [r] at mu;exact mu
 have ntup:∀ c xs,H c=some (.tup xs)->c≠x:=fun c xs r z=>by subst z;rw [r] at mu;exact mu
 by_cases hb:b=x
 ·subst hb;rw [zas] at q;cases q;exact new
 ·rw [yay hb] at q
  by_cases hbe:b=e
  ·have q':H b=some (.own x):=by
    rcases he with z | z
    ·exact absurd (hbe.trans z) hb
    ·rw [hbe];exact z
   rw [q] at q';cases q'
   obtain ⟨v,hv⟩:=heo
   exact ⟨v,by rw [hbe];exact hv⟩
  ·refine (ok b u q).stay (fun c v hc r=>k c v ?_ r) (fun c r=>by rw [yay (nown c b r)];exact r) fun c xs r=>by rw [yay (ntup c xs r)];exact r
   rcases hc with rfl | hc
   ·exact hbe
   ·rintro rfl
    rcases he with z | z
    ·exact nown c b hc z
    ·rw [hc] at z;cases z;exact hb rfl
end
structure Un (fs ex:List Addr) (H H':Hp) (h h':Heap):Prop where
 keep:∀ b o,h.get? b=some o->H b=none->b∉fs->b∉ex->h'.get? b=some o
 slot:∀ b o,h.get? b=some o->H b=none->b∈fs->b∉ex->∃ sl,h'.get? b=some { o with slots:=sl }
 free:∀ b o,h.get? b=some o->H b=none->b∉ex->H' b=none
 there:∀ b o,h.get? b=some o->b∉ex->∃ o',h'.get? b=some o'
 tups:∀ b xs,H b=some (.tup xs)->H' b=some (.tup xs)
 frzs:∀ b o u,H b=some (.frz o u)->H' b=some (.frz o u)
 tbls:∀ b ps,H b=some (.tbl ps)->∃ more,H' b=some (.tbl (ps++more))
section
variable {fs fs' ex ex':List Addr} {H H1 H2:Hp} {h h1 h2 h':Heap} {a x e:Addr} {o:HO}
theorem Un.any (u:Un fs ex H H1 h h1) {b:Addr} {ob:Obj} (q:h.get? b=some ob) (n:H b=none) (hx:b∉ex):∃ sl,h1.get? b=some { ob with slots:=sl }:=by
 by_cases hb:b∈fs
 ·exact u.slot b ob q n hb hx
 ·exact ⟨ob.slots,u.keep b ob q n hb hx⟩
theorem Un.kept (k:∀ b u,h.get? b=some u->h'.get? b=some u):Un fs ex H H h h' :=
 ⟨fun b ob q _ _ _=>k b ob q,fun b ob q _ _ _=>⟨ob.slots,k b ob q⟩,fun _ _ _ n _=>n,fun b ob q _=>⟨ob,k b ob q⟩,fun _ _ q=>q,fun _ _ _ q=>q,fun _ ps q=>⟨#[],by rw [q];simp⟩⟩
theorem Un.refl:Un fs ex H H h h:=Un.kept fun _ _ q=>q
theorem Un.laid (k:∀ b u,h.get? b=some u->h'.get? b=some u) (hp:h.objs.size<=a) (hn:H a=none):Un fs ex H (upd H a o) h h' where
 keep:=fun b u q _ _ _=>k b u q
 slot:=fun b u q _ _ _=>⟨u.slots,k b u q⟩
 free:=fun b u q n _=>by rw [yay (Nat.ne_of_lt (Nat.lt_of_lt_of_le (Heap.lt_size q) hp))];exact n
 there:=fun b u q _=>⟨u,k b u q⟩
 tups:=fun b xs q=>by rw [yay (zat q hn)];exact q
 frzs:=fun b u xs q=>by rw [yay (zat q hn)];exact q
 tbls:=fun b ps q=>⟨#[],by rw [yay (zat q hn),q];simp⟩
theorem Un.write (mu:Mut (H x)) (he:e=x\/H e=some (.own x)) (k:∀ b u,b≠e->h.get? b=some u->h'.get? b=some u) (heo:∃ u,h'.get? e=some u):Un fs ex H (upd H x o) h h' := by
 have hx:∀ b,H b=none->b≠x:=fun b n z=>by subst z;rw [n] at mu;exact mu
 have hb:∀ b,H b=none->b≠e:=fun b n z=>by
  subst z
  rcases he with r | r
  ·exact hx b n r
  ·rw [n] at r;cases r
 have hm:∀ b u,H b=some u -> ¬ Mut (some u)->b≠x:=fun b u q nm z=>by subst z;rw [q] at mu;exact nm mu
 refine ⟨fun b u q n _ _=>k b u (hb b n) q,fun b u q n _ _=>⟨u.slots,k b u (hb b n) q⟩,fun b u q n _=>by rw [yay (hx b n)];exact n,fun b u q _=>?_,
  fun b xs q=>by rw [yay (hm b _ q fun z=>z)];exact q,fun b u xs q=>by rw [yay (hm b _ q fun z=>z)];exact q,fun b ps q=>⟨#[],by rw [yay (hm b _ q fun z=>z),q];simp⟩⟩
 by_cases hbe:b=e
 ·subst hbe;exact heo
 ·exact ⟨u,k b u hbe q⟩
end
def trk (h:Heap) (H:Hp):List Addr:=(List.range h.objs.size).filter fun a=>(H a).isSome
def hidT (h:Heap) (H:Hp):Heap:=PySem.W.hideAll h (trk h H)
theorem zgw (h:Heap) (H:Hp):(hidT h H).objs.size=h.objs.size:=PySem.W.hideAll_size _ _
theorem zhk {h:Heap} {H:Hp} {b:Addr} {o:Obj} (e:h.get? b=some o) (n:H b=none):(hidT h H).get? b=some o :=
 PySem.W.hideAll_get _ e fun hm=>by
  have q:(H b).isSome=true:=(List.mem_filter.mp hm).2
  rw [n] at q;simp at q
theorem zij {h:Heap} {H:Hp} {b:Addr} {o:Obj} (e:(hidT h H).get? b=some o):h.get? b=some o/\H b=none:=by
 have e':h.get? b=some o:=PySem.W.of_hideAll (trk h H) e
 refine ⟨e',?_⟩
 cases q:H b with
 | none=>rfl
 | some x =>
  have hm:b∈trk h H:=List.mem_filter.mpr ⟨List.mem_range.mpr (Heap.lt_size e'),by simp [q]⟩
  have z:(hidT h H).get? b=none:=PySem.W.hideAll_none (trk h H) hm
  rw [z] at e;cases e
end L2
namespace L2
open PySem PySem.Spec PyProof.Rows
structure Mod (K:PySem.W.Frag) (mg:Str->Option Value) (base:Heap):Prop where
 kin:K.In base
 glob:base.Ns mainGlobals mg
 blt:∃ mb,base.Ns builtinsNs mb/\∀ x:Str,x ≠ "__name__" -> mb x=bootBuiltins x
 nolimit:base.NoLimit
structure Cx where
 prog:Program
 w:World
 K:PySem.W.Frag
 mg:Str->Option Value
 base:Heap
 A:Around
 N:List Str
 s₀:Shared
 H₀:Hp
 env:Env
 outer:List Env
 stack:List Env
 ex:List Addr
 fn:Str->Bool
 calm:Bool
 pn:List (Addr×Obj)
 xe:Value->Shared->Prop
def frs (l:List Env):List Addr:=l.filterMap (·.frame)
abbrev Cx.fs (X:Cx):List Addr:=frs X.outer
def Vis (sc:Scope) (x:Str):Prop:=sc.names.lookup x=some .local\/sc.names.lookup x=some .cell\/sc.names.lookup x=some .free
def Loc (sc:Scope) (x:Str):Prop:=sc.names.lookup x=some .local\/sc.names.lookup x=some .cell
def Look (env:Env) (h:Heap) (m:Str->Option Value) (x:Str) (u:Value):Prop :=
 (env.kindOf x=some .local/\m x=some u)\/((env.kindOf x=some .cell\/env.kindOf x=some .free)/\∃ c,env.cells.lookup x=some c/\h.IsCell c (some u))
structure Cx.Ok (X:Cx):Prop where
 mod:Mod X.K X.mg X.base
 kind:X.env.scope.kind = .function
 glob:X.env.globals=mainGlobals
 blt:X.env.builtins=builtinsNs
 above:X.s₀.heap.objs.size<=X.env.locals
 inj:∀ x y c,X.env.cells.lookup x=some c->X.env.cells.lookup y=some c->x=y
 has:∀ x,(X.env.kindOf x=some .cell\/X.env.kindOf x=some .free)->∃ c,X.env.cells.lookup x=some c
 cab:∀ x c,X.fn x=true->X.env.cells.lookup x=some c->X.s₀.heap.objs.size<=c
 hd:X.calm=true->X.A.handled=none
 frames:X.A.frames=some X.stack
 stk:X.stack=X.outer\/(X.stack=X.env::X.outer/\X.env.frame=some X.env.locals)
 exf:∀ b∈X.ex,b≠X.env.locals/\∀ x c,X.env.cells.lookup x=some c->c≠b
 bs:∀ b o,X.base.get? b=some o->X.s₀.heap.get? b=some o/\X.H₀ b=none
 bsz:X.base.objs.size<=X.s₀.heap.objs.size
 noex:∀ b o,X.base.get? b=some o->b∉X.ex
 exfs:∀ b∈X.ex,b∉X.fs
 funs:X.s₀.heap.FunFrames X.base X.outer
 frf:∀ b∈X.fs,X.H₀ b=none
structure Inv (X:Cx) (pins:List (Addr×Obj)) (σ:List (Option V)) (H:Hp) (s:Shared):Prop where
 ok:X.Ok
 os:s.os=X.s₀.os
 bare:AllBare s.gens
 base:Un X.fs X.ex X.H₀ H X.s₀.heap s.heap
 loc:∃ m,s.heap.Ns X.env.locals m/\∀ (i:Nat) (x:Str) (v:V),X.N[i]? = some x->σ[i]? = some (some v)->Vis X.env.scope x->∃ u,RelV v u/\Look X.env s.heap m x u
 cell:∀ x c,X.env.cells.lookup x=some c->∃ v,s.heap.IsCell c v
 free:H X.env.locals=none
 freeC:∀ x c,X.env.cells.lookup x=some c->H c=none
 pin:∀ p∈X.pn++pins,s.heap.get? p.1=some p.2/\H p.1=none/\p.1≠X.env.locals/\p.1∉X.fs/\∀ v,p.2.data ≠ .cell v
 hok:HOk X.prog X.w H s.heap
 len:σ.length=X.N.length
section
variable {X:Cx} {pins:List (Addr×Obj)} {σ:List (Option V)} {H H':Hp} {s:Shared} {h':Heap}
theorem Cx.Ok.nofr (ok:X.Ok) {b:Addr} {o:Obj} (e:X.base.get? b=some o):b∉X.fs:=fun hb=>by
 have:=(ok.funs.mem hb).1
 rw [e] at this;cases this
theorem Inv.bs (I:Inv X pins σ H s):∀ b o,X.base.get? b=some o->s.heap.get? b=some o/\H b=none:=fun b o e =>
 ⟨I.base.keep b o (I.ok.bs b o e).1 (I.ok.bs b o e).2 (I.ok.nofr e) (I.ok.noex b o e),I.base.free b o (I.ok.bs b o e).1 (I.ok.bs b o e).2 (I.ok.noex b o e)⟩
theorem Inv.bk (I:Inv X pins σ H s):∀ b o,X.base.get? b=some o->s.heap.get? b=some o:=fun b o e=>(I.bs b o e).1
theorem Inv.mod (I:Inv X pins σ H s):Mod X.K X.mg X.base:=I.ok.mod
theorem Inv.kIn (I:Inv X pins σ H s):X.K.In s.heap:=I.ok.mod.kin.keeps I.bk
theorem Inv.fr (I:Inv X pins σ H s):∃ m,Fr X.base X.env.locals s.heap m :=
 let ⟨m,hn,_⟩:=I.loc
 ⟨m,hn,I.bk,Nat.le_trans I.ok.bsz I.ok.above⟩
theorem Inv.lt (I:Inv X pins σ H s):X.env.locals<s.heap.objs.size:=let ⟨_,hn,_⟩:=I.loc;hn.lt
theorem Inv.sz (I:Inv X pins σ H s):X.s₀.heap.objs.size<=s.heap.objs.size:=Nat.le_trans I.ok.above (Nat.le_of_lt I.lt)
theorem Inv.nofs (I:Inv X pins σ H s) {a:Addr} (h:s.heap.objs.size<=a):a∉X.fs:=fun hb=>by
 obtain ⟨_,o,ho,_⟩:=I.ok.funs.mem hb
 exact absurd (Nat.lt_of_lt_of_le (Heap.lt_size ho) (Nat.le_trans I.sz h)) (Nat.lt_irrefl _)
theorem Inv.cne (I:Inv X pins σ H s):∀ x c,X.env.cells.lookup x=some c->c≠X.env.locals:=fun x c e z=>by
 obtain ⟨v,o,ho,hd⟩:=I.cell x c e
 obtain ⟨m,⟨o',es,ep,ho',hd',_⟩,_⟩:=I.loc
 rw [z,ho'] at ho;cases ho;rw [hd'] at hd;cases hd
theorem Inv.funs (I:Inv X pins σ H s):s.heap.FunFrames X.base X.outer:=by
 have all:∀ (l:List Env),(∀ b∈frs l,b∈X.fs)->X.s₀.heap.FunFrames X.base l->s.heap.FunFrames X.base l:=by
  intro l
  induction l with
  | nil=>intro _ _;trivial
  | cons env r ih =>
   intro hs hl
   obtain ⟨hk,⟨L,o,hf,hn,ho,hd⟩,hr⟩:=hl
   have hL:L∈X.fs:=hs L (by unfold frs;rw [List.filterMap_cons,hf];exact List.mem_cons_self)
   obtain ⟨sl,e⟩:=I.base.slot L o ho (I.ok.frf L hL) hL fun z=>I.ok.exfs L z hL
   exact ⟨hk,⟨L,_,hf,hn,e,hd⟩,ih (fun b hb=>hs b (by unfold frs;rw [List.filterMap_cons,hf];exact List.mem_cons_of_mem _ hb)) hr⟩
 exact all X.outer (fun _ hb=>hb) I.ok.funs
theorem Inv.stack (I:Inv X pins σ H s):s.heap.FunFrames X.base X.stack:=by
 rcases I.ok.stk with e | ⟨e,hf⟩
 ·rw [e];exact I.funs
 ·rw [e]
  obtain ⟨m,hn,_⟩:=I.loc
  refine .cons (by rw [I.ok.kind];decide) hf hn ?_ I.funs
  exact Heap.get?_none_of_le (Nat.le_trans I.ok.bsz I.ok.above)
theorem Inv.stkSub (I:Inv X pins σ H s):∀ b∈frs X.stack,b∈X.env.locals::X.fs:=fun b hb=>by
 rcases I.ok.stk with e | ⟨e,hf⟩
 ·rw [e] at hb;exact List.mem_cons_of_mem _ hb
 ·rw [e] at hb
  unfold frs at hb
  rw [List.filterMap_cons,hf] at hb
  exact hb
theorem Inv.stkFree (I:Inv X pins σ H s):∀ b∈frs X.stack,H b=none:=fun b hb=>by
 rcases List.mem_cons.mp (I.stkSub b hb) with e | hb
 ·rw [e];exact I.free
 ·obtain ⟨_,o,ho,_⟩:=I.ok.funs.mem hb
  exact I.base.free b o ho (I.ok.frf b hb) fun z=>I.ok.exfs b z hb
theorem Inv.step {g':Array GenState} {t':Nat} {d':Drawn} {ch:List Addr} (I:Inv X pins σ H s)
  (hch:∀ b∈ch,(b∈X.ex\/X.s₀.heap.objs.size<=b)/\b≠X.env.locals/\(∀ x c,X.env.cells.lookup x=some c->c≠b)/\∀ p∈X.pn++pins,p.1≠b)
  (keep:∀ b o,b≠X.env.locals->b∉X.fs->b∉ch->s.heap.get? b=some o->H b=none->h'.get? b=some o)
  (slot:∀ b o,b≠X.env.locals->b∈X.fs->b∉ch->s.heap.get? b=some o->H b=none->∃ sl,h'.get? b=some { o with slots:=sl }) (free:∀ b o,b∉ch->s.heap.get? b=some o->H b=none->H' b=none)
  (there:∀ b o,b∉ch->s.heap.get? b=some o->∃ o',h'.get? b=some o')
  (tups:∀ b xs,H b=some (.tup xs)->H' b=some (.tup xs)) (frzs:∀ b o u,H b=some (.frz o u)->H' b=some (.frz o u)) (tbls:∀ b ps,H b=some (.tbl ps)->∃ more,H' b=some (.tbl (ps++more)))
  (ns:∀ m,s.heap.Ns X.env.locals m->h'.Ns X.env.locals m) (hok:HOk X.prog X.w H' h') (hg:AllBare g') :
  Inv X pins σ H' { s with heap:=h',gens:=g',drawn:=d',toks:=t' }:=by
 have neL:∀ b o,X.s₀.heap.get? b=some o->b≠X.env.locals:=fun b o e=>Nat.ne_of_lt (Nat.lt_of_lt_of_le (Heap.lt_size e) I.ok.above)
 have neC:∀ b o,X.s₀.heap.get? b=some o->b∉X.ex->b∉ch:=fun b o e hx hb=>by
  rcases (hch b hb).1 with z | z
  ·exact hx z
  ·exact absurd (Nat.lt_of_lt_of_le (Heap.lt_size e) z) (Nat.lt_irrefl _)
 have cellK:∀ x c,X.env.cells.lookup x=some c->∀ v,s.heap.IsCell c v->h'.IsCell c v:=fun x c e v ⟨o,ho,hd⟩=>by
  have nch:c∉ch:=fun z=>(hch c z).2.2.1 x c e rfl
  by_cases hc:c∈X.fs
  ·obtain ⟨sl,q⟩:=slot c o (I.cne x c e) hc nch ho (I.freeC x c e)
   exact ⟨_,q,hd⟩
  ·exact ⟨o,keep c o (I.cne x c e) hc nch ho (I.freeC x c e),hd⟩
 refine ⟨I.ok,I.os,hg,⟨fun b o e n hb hx=>?_,fun b o e n hb hx=>?_,fun b o e n hx=>?_,fun b o e hx=>?_,fun b xs e=>tups b xs (I.base.tups b xs e),fun b o xs e=>frzs b o xs (I.base.frzs b o xs e),fun b ps e=>?_⟩,?_,fun x c e=>?_,?_,fun x c e=>?_,fun p hp=>?_,hok,I.len⟩
 ·exact keep b o (neL b o e) hb (neC b o e hx) (I.base.keep b o e n hb hx) (I.base.free b o e n hx)
 ·obtain ⟨sl,e1⟩:=I.base.slot b o e n hb hx
  obtain ⟨sl',e2⟩:=slot b _ (neL b o e) hb (neC b o e hx) e1 (I.base.free b o e n hx)
  exact ⟨sl',e2⟩
 ·obtain ⟨o',e1⟩:=I.base.there b o e hx
  exact free b o' (neC b o e hx) e1 (I.base.free b o e n hx)
 ·obtain ⟨o',e1⟩:=I.base.there b o e hx
  exact there b o' (neC b o e hx) e1
 ·obtain ⟨m1,e1⟩:=I.base.tbls b ps e
  obtain ⟨m2,e2⟩:=tbls b _ e1
  exact ⟨m1++m2,by rw [e2,Array.append_assoc]⟩
 ·obtain ⟨m,hn,hl⟩:=I.loc
  refine ⟨m,ns m hn,fun i x v e1 e2 e3=>?_⟩
  obtain ⟨u,r,l⟩:=hl i x v e1 e2 e3
  refine ⟨u,r,?_⟩
  rcases l with l | ⟨k,c,e,z⟩
  ·exact .inl l
  ·exact .inr ⟨k,c,e,cellK x c e _ z⟩
 ·obtain ⟨v,z⟩:=I.cell x c e
  exact ⟨v,cellK x c e v z⟩
 ·obtain ⟨m,⟨o,_,_,ho,_⟩,_⟩:=I.loc
  exact free _ o (fun z=>(hch _ z).2.1 rfl) ho I.free
 ·obtain ⟨v,o,ho,hd⟩:=I.cell x c e
  exact free c o (fun z=>(hch c z).2.2.1 x c e rfl) ho (I.freeC x c e)
 ·obtain ⟨e,n,ne,nf,d⟩:=I.pin p hp
  have nch:p.1∉ch:=fun z=>(hch p.1 z).2.2.2 p hp rfl
  exact ⟨keep p.1 p.2 ne nf nch e n,free p.1 p.2 nch e n,ne,nf,d⟩
theorem Inv.un {t':Nat} (I:Inv X pins σ H s) (u:Un X.fs [] H H' s.heap h') (hok:HOk X.prog X.w H' h'):Inv X pins σ H' { s with heap:=h',toks:=t' }:=by
 obtain ⟨m,⟨o,es,ep,ho,r⟩,_⟩:=id I.loc
 obtain ⟨sl,hL⟩:=u.any ho I.free (by simp)
 exact I.step (g' := s.gens) (d' := s.drawn) (ch:=[]) (fun _ z=>nomatch z) (fun b o _ hb _ e n=>u.keep b o e n hb (by simp)) (fun b o _ hb _ e n=>u.slot b o e n hb (by simp)) (fun b o _ e n=>u.free b o e n (by simp)) (fun b o _ e=>u.there b o e (by simp)) u.tups u.frzs u.tbls (fun m' hm=>by
  obtain ⟨o',es',ep',ho',r'⟩:=hm
  rw [ho] at ho';cases ho'
  exact ⟨_,es',ep',hL,r'⟩) hok I.bare
theorem Inv.call {g':Array GenState} {t':Nat} {d':Drawn} {ch:List Addr} (I:Inv X pins σ H s) (u:Un (frs X.stack) ch H H' s.heap h') (hok:HOk X.prog X.w H' h') (hg:AllBare g')
  (hch:∀ b∈ch,(b∈X.ex\/X.s₀.heap.objs.size<=b)/\b≠X.env.locals/\(∀ x c,X.env.cells.lookup x=some c->c≠b)/\∀ p∈X.pn++pins,p.1≠b) :
  Inv X pins σ H' { s with heap:=h',gens:=g',drawn:=d',toks:=t' }:=by
 obtain ⟨m,⟨o,es,ep,ho,r⟩,_⟩:=id I.loc
 obtain ⟨sl,hL⟩:=u.any ho I.free fun z=>(hch _ z).2.1 rfl
 exact I.step (ch:=ch) hch (fun b o hL hb hc e n=>u.keep b o e n (fun z=>(List.mem_cons.mp (I.stkSub b z)).elim hL hb) hc) (fun b o _ _ hc e n=>u.any e n hc) (fun b o hc e n=>u.free b o e n hc) (fun b o hc e=>u.there b o e hc) u.tups u.frzs u.tbls (fun m' hm=>by
  obtain ⟨o',es',ep',ho',r'⟩:=hm
  rw [ho] at ho';cases ho'
  exact ⟨_,es',ep',hL,r'⟩) hok hg
theorem Inv.turned {t':Nat} {it:Addr} (I:Inv X pins σ H s) (k:∀ b o,b≠it->s.heap.get? b=some o->h'.get? b=some o) (hn:H it=none) (hL:it≠X.env.locals)
  (h1:it∈X.ex\/X.s₀.heap.objs.size<=it) (h2:∀ x c,X.env.cells.lookup x=some c->c≠it) (h3:∀ p∈X.pn++pins,p.1≠it):Inv X pins σ H { s with heap:=h',toks:=t' }:=by
 have nit:∀ b u,H b=some u->b≠it:=fun b u e z=>by rw [z,hn] at e;cases e
 refine I.step (g' := s.gens) (d' := s.drawn) (ch:=[it]) (fun b hb=>?_) (fun b o _ _ hc e _=>k b o (fun z=>hc (by simp [z])) e) (fun b o _ _ hc e _=>⟨o.slots,k b o (fun z=>hc (by simp [z])) e⟩) (fun _ _ _ _ n=>n)
  (fun b o hc e=>⟨o,k b o (fun z=>hc (by simp [z])) e⟩) (fun _ _ e=>e) (fun _ _ _ e=>e) (fun b ps e=>⟨#[],by rw [e];simp⟩) (fun m hm=>?_) (fun b u e=>?_) I.bare
 ·have e:b=it:=by simpa using hb
  subst e
  exact ⟨h1,hL,h2,h3⟩
 ·obtain ⟨o,es,ep,ho,r⟩:=hm
  exact ⟨o,es,ep,k _ o (Ne.symm hL) ho,r⟩
 ·refine (I.hok b u e).stay (fun c v hc q=>k c v ?_ q) (fun _ q=>q) fun _ _ q=>q
  rcases hc with z | z
  ·rw [z];exact nit b u e
  ·exact nit c _ z
theorem Inv.tok (I:Inv X pins σ H s) (t:Nat):Inv X pins σ H { s with toks:=t }:=I.un (h' := s.heap) (t' := t) Un.refl I.hok
theorem Inv.kept {t':Nat} (I:Inv X pins σ H s) (k:∀ b u,s.heap.get? b=some u->h'.get? b=some u):Inv X pins σ H { s with heap:=h',toks:=t' }:=I.un (Un.kept k) (I.hok.kept k)
theorem Inv.laid {a:Addr} {o:HO} {t':Nat} (I:Inv X pins σ H s) (k:∀ b u,s.heap.get? b=some u->h'.get? b=some u) (hp:s.heap.objs.size<=a) (new:ObjOk X.prog X.w (upd H a o) h' a o) :
  Inv X pins σ (upd H a o) { s with heap:=h',toks:=t' }:=I.un (Un.laid k hp (I.hok.fresh hp)) (I.hok.laid k hp new)
theorem Inv.write {x e:Addr} {o:HO} {t':Nat} (I:Inv X pins σ H s) (mu:Mut (H x)) (he:e=x\/H e=some (.own x)) (k:∀ b u,b≠e->s.heap.get? b=some u->h'.get? b=some u) (heo:∃ u,h'.get? e=some u)
  (new:ObjOk X.prog X.w (upd H x o) h' x o):Inv X pins σ (upd H x o) { s with heap:=h',toks:=t' }:=I.un (Un.write mu he k heo) (I.hok.write mu he k heo new)
theorem Inv.weak {σ':List (Option V)} (I:Inv X pins σ H s) (hl:σ'.length=σ.length) (w:∀ (i:Nat) v,σ'[i]? = some (some v)->σ[i]? = some (some v)):Inv X pins σ' H s :=
 ⟨I.ok,I.os,I.bare,I.base,let ⟨m,hn,hl'⟩:=I.loc;⟨m,hn,fun i x v e1 e2 e3=>hl' i x v e1 (w i v e2) e3⟩,I.cell,I.free,I.freeC,I.pin,I.hok,hl.trans I.len⟩
theorem Inv.pins_of {pins':List (Addr×Obj)} (I:Inv X pins σ H s) (h:∀ p∈pins',s.heap.get? p.1=some p.2/\H p.1=none/\p.1≠X.env.locals/\p.1∉X.fs/\∀ v,p.2.data ≠ .cell v):Inv X pins' σ H s :=
 ⟨I.ok,I.os,I.bare,I.base,I.loc,I.cell,I.free,I.freeC,fun p hp=>(List.mem_append.mp hp).elim (fun z=>I.pin p (List.mem_append_left _ z)) (h p),I.hok,I.len⟩
theorem zcE {N:List Str} (hN:N.Nodup) {i j:Nat} {x:Str} (a:N[i]? = some x) (b:N[j]? = some x):i=j:=by
 obtain ⟨h1,e1⟩:=List.getElem?_eq_some_iff.mp a
 obtain ⟨h2,e2⟩:=List.getElem?_eq_some_iff.mp b
 exact (List.getElem_inj hN).mp (e1.trans e2.symm)
theorem zdC {M:Model} {A:Around} {E:Value->Shared->Prop} {i:Nat} {x:Str} {v:V} {u:Value} {Q:Unit->Shared->Prop} (I:Inv X pins σ H s) (hN:X.N.Nodup) (hi:X.N[i]? = some x) (hx:Loc X.env.scope x) (r:RelV v u)
  (h:∀ s',Inv X pins (σ.set i (some v)) H s'->(∃ a,Heap.SameBut a s.heap s'.heap/\(a=X.env.locals\/X.env.cells.lookup x=some a))->Q () s') (hf:X.fn x=true\/X.env.scope.names.lookup x=some .local:=by first | exact .inl rfl | exact .inr rfl | assumption):wpAny M A (storeName X.env x u) Q E s:=by
 obtain ⟨m,hn,hl⟩:=id I.loc
 have hcls:(X.env.scope.kind == .class || (X.env.scope.kind == .module && X.env.locals != X.env.globals))=false:=by rw [I.ok.kind];rfl
 have hiσ:i<σ.length:=by rw [I.len];exact (List.getElem?_eq_some_iff.mp hi).1
 have cne:=I.cne
 have tracked:∀ {a:Addr} {h':Heap},(∃ o,s.heap.get? a=some o/\H a=none)->Heap.SameBut a s.heap h'->HOk X.prog X.w H h' := fun {a h'} ha hs b ob e=>by
  obtain ⟨_,_,hfree⟩:=ha
  refine (I.hok b ob e).stay (fun c w' hc q=>(hs.2 c ?_).trans q) (fun _ q=>q) fun _ _ q=>q
  rintro rfl
  rcases hc with rfl | hc
  ·rw [hfree] at e;cases e
  ·rw [hfree] at hc;cases hc
 rcases hx with hk | hk
 ·refine wpAny_storeName_local hk hn (fun h' hn' hs=>?_) hcls
  obtain ⟨oL,_,_,hoL,_⟩:=id hn
  refine h _ ⟨I.ok,I.os,I.bare,⟨fun b o e n hb hx=>?_,fun b o e n hb hx=>?_,I.base.free,fun b o e hx=>?_,I.base.tups,I.base.frzs,I.base.tbls⟩,⟨_,hn',fun j y v' e1 e2 e3=>?_⟩,fun y c e=>?_,I.free,I.freeC,fun p hp=>?_,tracked ⟨oL,hoL,I.free⟩ hs,by simpa using I.len⟩ ⟨_,hs,.inl rfl⟩
  ·exact (hs.2 b (Nat.ne_of_lt (Nat.lt_of_lt_of_le (Heap.lt_size e) I.ok.above))).trans (I.base.keep b o e n hb hx)
  ·obtain ⟨sl,e1⟩:=I.base.slot b o e n hb hx
   exact ⟨sl,(hs.2 b (Nat.ne_of_lt (Nat.lt_of_lt_of_le (Heap.lt_size e) I.ok.above))).trans e1⟩
  ·obtain ⟨o',e1⟩:=I.base.there b o e hx
   exact ⟨o',(hs.2 b (Nat.ne_of_lt (Nat.lt_of_lt_of_le (Heap.lt_size e) I.ok.above))).trans e1⟩
  ·by_cases hj:j=i
   ·subst hj
    rw [hi] at e1;cases e1
    rw [List.getElem?_set_self hiσ] at e2
    cases e2
    exact ⟨u,r,.inl ⟨hk,by simp⟩⟩
   ·rw [List.getElem?_set_ne (Ne.symm hj)] at e2
    obtain ⟨u',r',q⟩:=hl j y v' e1 e2 e3
    refine ⟨u',r',?_⟩
    rcases q with ⟨k,e⟩ | ⟨k,c,e,z⟩
    ·refine .inl ⟨k,?_⟩
     have:y≠x:=fun e=>hj (zcE hN e1 (e▸hi))
     simp [this,e]
    ·exact .inr ⟨k,c,e,z.sameBut hs (cne y c e)⟩
  ·obtain ⟨w',z⟩:=I.cell y c e
   exact ⟨w',z.sameBut hs (cne y c e)⟩
  ·obtain ⟨e,n,ne,nf,d⟩:=I.pin p hp
   exact ⟨(hs.2 p.1 ne).trans e,n,ne,nf,d⟩
 ·have hfn:X.fn x=true:=by
   rcases hf with z | z
   ·exact z
   ·rw [z] at hk;cases hk
  obtain ⟨c,hc⟩:=I.ok.has x (.inl hk)
  obtain ⟨w',z⟩:=I.cell x c hc
  refine wpAny_storeName_cell I.ok.kind hk hc z (fun h' hc' hs=>?_)
  obtain ⟨oc,hoc,hocd⟩:=id z
  refine h { s with heap:=h' } ⟨I.ok,I.os,I.bare,⟨fun b o e n hb hx=>?_,fun b o e n hb hx=>?_,I.base.free,fun b o e hx=>?_,I.base.tups,I.base.frzs,I.base.tbls⟩,⟨m,hn.sameBut hs (Ne.symm (cne x c hc)),fun j y v' e1 e2 e3=>?_⟩,fun y c' e=>?_,I.free,I.freeC,fun p hp=>?_,tracked ⟨oc,hoc,I.freeC x c hc⟩ hs,by simpa using I.len⟩ ⟨c,hs,.inr hc⟩
  ·exact (hs.2 b (Nat.ne_of_lt (Nat.lt_of_lt_of_le (Heap.lt_size e) (I.ok.cab x c hfn hc)))).trans (I.base.keep b o e n hb hx)
  ·obtain ⟨sl,e1⟩:=I.base.slot b o e n hb hx
   exact ⟨sl,(hs.2 b (Nat.ne_of_lt (Nat.lt_of_lt_of_le (Heap.lt_size e) (I.ok.cab x c hfn hc)))).trans e1⟩
  ·obtain ⟨o',e1⟩:=I.base.there b o e hx
   exact ⟨o',(hs.2 b (Nat.ne_of_lt (Nat.lt_of_lt_of_le (Heap.lt_size e) (I.ok.cab x c hfn hc)))).trans e1⟩
  ·by_cases hj:j=i
   ·subst hj
    rw [hi] at e1;cases e1
    rw [List.getElem?_set_self hiσ] at e2
    cases e2
    exact ⟨u,r,.inr ⟨.inl hk,c,hc,hc'⟩⟩
   ·rw [List.getElem?_set_ne (Ne.symm hj)] at e2
    obtain ⟨u',r',q⟩:=hl j y v' e1 e2 e3
    refine ⟨u',r',?_⟩
    rcases q with q | ⟨k,c',e,z'⟩
    ·exact .inl q
    ·refine .inr ⟨k,c',e,z'.sameBut hs ?_⟩
     rintro rfl
     exact hj (zcE hN e1 (I.ok.inj _ _ _ e hc▸hi))
  ·by_cases hcc:c'=c
   ·subst hcc;exact ⟨_,hc'⟩
   ·obtain ⟨w2,z2⟩:=I.cell y c' e
    exact ⟨w2,z2.sameBut hs hcc⟩
  ·obtain ⟨e,n,ne,nf,d⟩:=I.pin p hp
   refine ⟨(hs.2 p.1 ?_).trans e,n,ne,nf,d⟩
   intro q
   rw [q,hoc] at e
   have q':oc=p.2:=Option.some.inj e
   exact d w' (by rw [<- q'];exact hocd)
theorem zcF {M:Model} {A:Around} {E:Value->Shared->Prop} {i:Nat} {x:Str} {v:V} {u:Value} {Q:Unit->Shared->Prop} (I:Inv X pins σ H s) (hN:X.N.Nodup) (hi:X.N[i]? = some x) (hx:Loc X.env.scope x) (r:RelV v u)
  (h:∀ s',Inv X pins (σ.set i (some v)) H s'->Q () s') (hf:X.fn x=true\/X.env.scope.names.lookup x=some .local:=by first | exact .inl rfl | exact .inr rfl | assumption):wpAny M A (storeName X.env x u) Q E s :=
 zdC I hN hi hx r (fun s' I' _=>h s' I') hf
theorem Inv.call' {s':Shared} {ch:List Addr} (I:Inv X pins σ H s) (ho:s'.os=s.os) (u:Un (frs X.stack) ch H H' s.heap s'.heap) (hok:HOk X.prog X.w H' s'.heap) (hg:AllBare s'.gens)
  (hch:∀ b∈ch,(b∈X.ex\/X.s₀.heap.objs.size<=b)/\b≠X.env.locals/\(∀ x c,X.env.cells.lookup x=some c->c≠b)/\∀ p∈X.pn++pins,p.1≠b):Inv X pins σ H' s' := by
 obtain ⟨h',g',d',t',o'⟩:=s'
 have e:o'=s.os:=ho
 subst e
 exact I.call (g' := g') (t' := t') (d' := d') u hok hg hch
end
abbrev XK:=Value->Option Addr->Hp->Prop
abbrev St:=List (Option V)
abbrev VK:=V->Hp->Prop
abbrev TE:=St->Hp->VK->Prop
abbrev TT:=St->Hp->(Bool->Hp->Prop)->Prop
abbrev TA:=St->Hp->(List V->Hp->Prop)->Prop
structure Ends where
 nx:St->Hp->Prop
 rt:VK
 bk:St->Hp->Prop:=fun _ _=>False
 ct:St->Hp->Prop:=fun _ _=>False
abbrev TS:=Ends->St->Hp->Prop
def EP (X:Cx) (pins:List (Addr×Obj)) (σ:St) (Q:VK) (u:Value) (s':Shared):Prop:=∃ v H',Inv X pins σ H' s'/\RelV v u/\Q v H'
def TP (X:Cx) (pins:List (Addr×Obj)) (σ:St) (Q:Bool->Hp->Prop) (b:Bool) (s':Shared):Prop:=∃ H',Inv X pins σ H' s'/\Q b H'
def AP (X:Cx) (pins:List (Addr×Obj)) (σ:St) (Q:List V->Hp->Prop) (us:List Value) (s':Shared):Prop:=∃ vs H',Inv X pins σ H' s'/\Vals vs us/\Q vs H'
def SP (X:Cx) (pins:List (Addr×Obj)) (D:Ends) (f:Flow) (s':Shared):Prop :=
 match f with
 | .next=>∃ σ' H',Inv X pins σ' H' s'/\D.nx σ' H'
 | .brk=>∃ σ' H',Inv X pins σ' H' s'/\D.bk σ' H'
 | .cont=>∃ σ' H',Inv X pins σ' H' s'/\D.ct σ' H'
 | .ret u=>∃ v σ' H',Inv X pins σ' H' s'/\RelV v u/\D.rt v H'
def PE (X:Cx) (e:Expr) (t:TE):Prop :=
 ∀ (pins:List (Addr×Obj)) (s:Shared) (σ:St) (H:Hp) (Q:VK),Inv X pins σ H s->t σ H Q->wpAny (model X.prog X.w) X.A (eval e X.env) (EP X pins σ Q) X.xe s
def PT (X:Cx) (e:Expr) (t:TT):Prop :=
 ∀ (pins:List (Addr×Obj)) (s:Shared) (σ:St) (H:Hp) (Q:Bool->Hp->Prop),Inv X pins σ H s->t σ H Q->wpAny (model X.prog X.w) X.A (isTrue e X.env (eval e X.env)) (TP X pins σ Q) X.xe s
def PW (X:Cx) (e:Expr) (t:TT):Prop :=
 ∀ (whole:Sem Value) (pins:List (Addr×Obj)) (s:Shared) (σ:St) (H:Hp) (Q:Bool->Hp->Prop),Inv X pins σ H s->t σ H Q->wpAny (model X.prog X.w) X.A (isTrue e X.env whole) (TP X pins σ Q) X.xe s
theorem PW.pt {X:Cx} {e:Expr} {t:TT} (h:PW X e t):PT X e t:=h _
def PA (X:Cx) (es:List Expr) (t:TA):Prop :=
 ∀ (pos:Pos) (pins:List (Addr×Obj)) (s:Shared) (σ:St) (H:Hp) (Q:List V->Hp->Prop),Inv X pins σ H s->t σ H Q->wpAny (model X.prog X.w) X.A (spliced (backTo pos (starEach es X.env))) (AP X pins σ Q) X.xe s
def PS (X:Cx) (st:Stmt) (t:TS):Prop :=
 ∀ (pins:List (Addr×Obj)) (s:Shared) (σ:St) (H:Hp) (D:Ends),Inv X pins σ H s->t D σ H->wpAny (model X.prog X.w) X.A (exec st X.env) (SP X pins D) X.xe s
def PSs (X:Cx) (st:List Stmt) (t:TS):Prop :=
 ∀ (pins:List (Addr×Obj)) (s:Shared) (σ:St) (H:Hp) (D:Ends),Inv X pins σ H s->t D σ H->wpAny (model X.prog X.w) X.A (execs st X.env) (SP X pins D) X.xe s
theorem thn {α:Type} {t:Sem α} {Q Q':α->Shared->Prop} {M:Model} {A:Around} {E:Value->Shared->Prop} {s:Shared} (h:wpAny M A t Q E s) (hQ:∀ a s,Q a s->Q' a s):wpAny M A t Q' E s:=wpAny_mono h hQ fun _ _ x=>x
end L2
namespace L2
open PySem PySem.Spec PyProof.Rows
section
variable {X:Cx}
theorem bin {a b:Expr} {ta tb:TE} (ha:PE X a ta) (hb:PE X b tb) {pins:List (Addr×Obj)} {s:Shared} {σ:St} {H:Hp} {R:V->V->Hp->Prop} (I:Inv X pins σ H s) (h:ta σ H fun x H1=>tb σ H1 fun y H2=>R x y H2)
  {α:Type} {Q:α->Shared->Prop} {f:Value->Value->Sem α}
  (hf:∀ v u s2 x y H2,Inv X pins σ H2 s2->RelV x v->RelV y u->R x y H2->wpAny (model X.prog X.w) X.A (f v u) Q X.xe s2) :
  wpAny (model X.prog X.w) X.A (eval a X.env) (fun v s₁=>wpAny (model X.prog X.w) X.A (eval b X.env) (fun u s₂=>wpAny (model X.prog X.w) X.A (f v u) Q X.xe s₂) X.xe s₁) X.xe s:=by
 refine thn (ha pins s σ H _ I h) fun v s1 ⟨x,H1,I1,r1,q1⟩=>?_
 refine thn (hb pins s1 σ H1 _ I1 q1) fun u s2 ⟨y,H2,I2,r2,q2⟩=>?_
 exact hf v u s2 x y H2 I2 r1 r2 q2
def tVar (i:Nat):TE:=fun σ H Q=>∃ v,σ[i]? = some (some v)/\Q v H
def tC (v:V):TE:=fun _ H Q=>Q v H
theorem ygj {i:Nat} {x:Str} {pos:Pos} (hN:X.N[i]? = some x) (hv:Vis X.env.scope x) (hd:(x == ("__debug__" : Str))=false:=by decide) (hcd:(x == ("__classdict__" : Str))=false:=by decide):PE X (.Name x pos) (tVar i):=by
 intro pins s σ H Q I h
 obtain ⟨v,e,h⟩:=h
 obtain ⟨m,hn,hl⟩:=I.loc
 obtain ⟨u,r,l⟩:=hl i x v hN e hv
 have fin:EP X pins σ Q u s:=⟨v,H,I,r,h⟩
 rcases l with ⟨hk,hm⟩ | ⟨hk,c,hc,hcell⟩
 ·exact wpAny_Name (wpAny_loadName_local I.ok.kind hk hn hm fin) hd
 ·rcases hk with hk | hk
  ·exact wpAny_Name (wpAny_loadName_cell I.ok.kind hk hc hcell fin) hd
  ·exact wpAny_Name (wpAny_loadName_free I.ok.kind hk hc hcell fin hcd) hd
theorem ygk {i j pos}:PE X (.Constant (.int i) j pos) (tC (.int i)):=fun _ _ _ H _ I h=>wpAny_Constant_int ⟨.int i,H,I.tok _,⟨_,rfl⟩,h⟩
theorem yhv {b j pos}:PE X (.Constant (.bool b) j pos) (tC (.bl b)):=fun _ _ _ H _ I h=>Constant_bool ⟨.bl b,H,I,rfl,h⟩
theorem ygl {x j pos}:PE X (.Constant (.str x) j pos) (tC (.str x)):=fun _ _ _ H _ I h=>Calls.Constant_str ⟨.str x,H,I.tok _,⟨_,rfl⟩,h⟩
def Gl (X:Cx) (x:Str):Prop:=X.env.kindOf x=some .globalImplicit
theorem zcc {E:Value->Shared->Prop} {pins:List (Addr×Obj)} {s:Shared} {σ:St} {H:Hp} {x:Str} {u:Value} {pos:Pos} {Q:Value->Shared->Prop} (I:Inv X pins σ H s) (hg:Gl X x) (hm:X.mg x=some u) (h:Q u s)
  (hd:(x == ("__debug__" : Str))=false:=by decide):wpAny (model X.prog X.w) X.A (eval (.Name x pos) X.env) Q E s :=
 Calls.Name_function_global I.ok.kind hg (Calls.loadGlobal_global (by rw [I.ok.glob];exact I.mod.glob.keeps I.bk) hm h) hd
theorem yd3 {E:Value->Shared->Prop} {pins:List (Addr×Obj)} {s:Shared} {σ:St} {H:Hp} {x:Str} {u:Value} {pos:Pos} {Q:Value->Shared->Prop} (I:Inv X pins σ H s) (hg:Gl X x) (hm:X.mg x=none) (hv:bootBuiltins x=some u) (h:Q u s)
  (hn:x ≠ "__name__" := by decide) (hd:(x == ("__debug__" : Str))=false:=by decide):wpAny (model X.prog X.w) X.A (eval (.Name x pos) X.env) Q E s:=by
 obtain ⟨mb,h1,h2⟩:=I.mod.blt
 exact Calls.Name_function_global I.ok.kind hg (Calls.loadGlobal_builtin (by rw [I.ok.glob];exact I.mod.glob.keeps I.bk) hm (by rw [I.ok.blt];exact h1.keeps I.bk) ((h2 x hn).trans hv) h) hd
theorem zik {x:Str} {v:V} {u:Value} {pos:Pos} (hg:Gl X x) (hm:X.mg x=some u) (r:RelV v u) (hd:(x == ("__debug__" : Str))=false:=by decide):PE X (.Name x pos) (tC v) :=
 fun _ _ _ H _ I h=>zcc I hg hm ⟨v,H,I,r,h⟩ hd
theorem zil {x:Str} {v:V} {u:Value} {pos:Pos} (hg:Gl X x) (hm:X.mg x=none) (hv:bootBuiltins x=some u) (r:RelV v u) (hn:x ≠ "__name__" := by decide) (hd:(x == ("__debug__" : Str))=false:=by decide):PE X (.Name x pos) (tC v) :=
 fun _ _ _ H _ I h=>yd3 I hg hm hv ⟨v,H,I,r,h⟩ hn hd
variable {a b:Expr} {ta tb:TE} {pos:Pos}
variable {tA tB':TT} {rest:List Expr}
def tAnd (t u:TT):TT:=fun σ H Q=>t σ H fun c H1=>if c=true then u σ H1 Q else Q false H1
def tOr (t u:TT):TT:=fun σ H Q=>t σ H fun c H1=>if c=true then Q true H1 else u σ H1 Q
def tNot (t:TT):TT:=fun σ H Q=>t σ H fun c H1=>Q (!c) H1
theorem zim (ha:PT X a tA):PW X (.BoolOp .And [a] pos) tA:=by
 intro wh pins s σ H Q I h
 refine isTrue_and (thn (ha pins s σ H Q I h) fun c s1 e=>?_)
 cases c with
 | true=>exact isTrue_and_nil e
 | false=>exact e
theorem ygm (ha:PT X a tA):PW X (.BoolOp .Or [a] pos) tA:=by
 intro wh pins s σ H Q I h
 refine isTrue_or (thn (ha pins s σ H Q I h) fun c s1 e=>?_)
 cases c with
 | false=>exact isTrue_or_nil e
 | true=>exact e
theorem ygn (ha:PT X a tA) (hb:PW X (.BoolOp .And (b::rest) pos) tB'):PW X (.BoolOp .And (a::b::rest) pos) (tAnd tA tB'):=by
 intro wh pins s σ H Q I h
 refine isTrue_and (thn (ha pins s σ H _ I h) fun c s1 ⟨H1,I1,q1⟩=>?_)
 cases c with
 | true=>exact hb wh pins s1 σ H1 Q I1 q1
 | false=>exact ⟨H1,I1,q1⟩
theorem yhw (ha:PT X a tA) (hb:PW X (.BoolOp .Or (b::rest) pos) tB'):PW X (.BoolOp .Or (a::b::rest) pos) (tOr tA tB'):=by
 intro wh pins s σ H Q I h
 refine isTrue_or (thn (ha pins s σ H _ I h) fun c s1 ⟨H1,I1,q1⟩=>?_)
 cases c with
 | true=>exact ⟨H1,I1,q1⟩
 | false=>exact hb wh pins s1 σ H1 Q I1 q1
theorem ygo (ha:PT X a tA):PT X (.UnaryOp .Not a pos) (tNot tA):=by
 intro pins s σ H Q I h
 exact isTrue_not (ha pins s σ H (fun c H1=>Q (!c) H1) I h)
def yhx (ta tb:TE):TE:=fun σ H Q=>ta σ H fun x H1=>∃ c,x = .bl c/\if c=true then tb σ H1 Q else Q (.bl false) H1
def tOrV (ta tb:TE):TE:=fun σ H Q=>ta σ H fun x H1=>∃ c,x = .bl c/\if c=true then Q (.bl true) H1 else tb σ H1 Q
def yhy (ta:TE):TE:=fun σ H Q=>ta σ H fun x H1=>∃ c,x = .bl c/\Q (.bl (!c)) H1
theorem ygp {op} {t:TE} (h:PE X a t):PE X (.BoolOp op [a] pos) t:=fun pins s σ H Q I hw=>BoolOp_one (h pins s σ H Q I hw)
theorem ygq (ha:PE X a ta) (hb:PE X (.BoolOp .And (b::rest) pos) tb):PE X (.BoolOp .And (a::b::rest) pos) (yhx ta tb):=by
 intro pins s σ H Q I h
 refine BoolOp_and (thn (ha pins s σ H _ I h) fun v s1 ⟨x,H1,I1,r1,q1⟩=>?_)
 obtain ⟨c,rfl,q1⟩:=q1
 cases r1
 refine wpAny_truthy_bool ?_
 cases c with
 | true=>exact hb pins s1 σ H1 Q I1 q1
 | false=>exact ⟨.bl false,H1,I1,rfl,q1⟩
theorem yhz (ha:PE X a ta) (hb:PE X (.BoolOp .Or (b::rest) pos) tb):PE X (.BoolOp .Or (a::b::rest) pos) (tOrV ta tb):=by
 intro pins s σ H Q I h
 refine BoolOp_or (thn (ha pins s σ H _ I h) fun v s1 ⟨x,H1,I1,r1,q1⟩=>?_)
 obtain ⟨c,rfl,q1⟩:=q1
 cases r1
 refine wpAny_truthy_bool ?_
 cases c with
 | false=>exact hb pins s1 σ H1 Q I1 q1
 | true=>exact ⟨.bl true,H1,I1,rfl,q1⟩
theorem ygr (ha:PE X a ta):PE X (.UnaryOp .Not a pos) (yhy ta):=by
 intro pins s σ H Q I h
 refine UnaryOp_ (thn (ha pins s σ H _ I h) fun v s1 ⟨x,H1,I1,r1,q1⟩=>?_)
 obtain ⟨c,rfl,q1⟩:=q1
 cases r1
 exact not_of (wpAny_truthy_bool ⟨.bl (!c),H1,I1,rfl,q1⟩)
end
end L2
namespace L2
open PySem PySem.Spec PyProof.Rows
def SqL (K:PySem.W.Frag) (H:Hp) (a:Addr) (xs:List V):Prop :=
 Rd H a (.lst xs) \/
  ∃ (o:Obj) (its:Array Value) (n:Nat),K.lookup a=some o/\o.cls = .type "list" /\ o.dict=none/\o.data = .seq its n/\its.size<=sizeLine/\Vals xs its.toList
def SqT (K:PySem.W.Frag) (H:Hp) (a:Addr) (xs:List V):Prop :=
 Rd H a (.tup xs) \/
  ∃ (o:Obj) (its:Array Value) (n:Nat),K.lookup a=some o/\o.cls = .type "tuple" /\ o.data = .seq its n/\its.size<=sizeLine/\Vals xs its.toList
def absV:Value->Option V
 | .none=>some .non
 | .bool b=>some (.bl b)
 | .int i _=>some (.int i)
 | .str x _=>some (.str x)
 | .bytes b _=>some (.byt b)
 | .float b _=>some (.flt b)
 | .ref a=>some (.ref a)
 | .type n=>some (.ty n)
 | _=>none
theorem RelV.abs {x:V} {u:Value} (r:RelV x u):absV u=some x:=by
 cases x with
 | non=>cases r;rfl
 | bl _=>cases r;rfl
 | int _=>obtain ⟨t,rfl⟩:=r;rfl
 | str _=>obtain ⟨t,rfl⟩:=r;rfl
 | byt _=>obtain ⟨t,rfl⟩:=r;rfl
 | flt _=>obtain ⟨t,rfl⟩:=r;rfl
 | ref _=>cases r;rfl
 | ty _=>cases r;rfl
theorem RelV.inj {x y:V} {u:Value} (r:RelV x u) (q:RelV y u):x=y:=Option.some.inj (r.abs.symm.trans q.abs)
theorem Vals.inj:∀ {xs ys:List V} {us:List Value},Vals xs us->Vals ys us->xs=ys
 | _,_,_,.nil,.nil=>rfl
 | _,_,_,.cons r t,.cons r' t' => by rw [r.inj r',Vals.inj t t']
section
variable {X:Cx} {pins:List (Addr×Obj)} {σ:St} {H:Hp} {s:Shared} {a:Addr} {xs ys:List V}
theorem SqL.of {K:PySem.W.Frag} (h:H a=some (.lst xs)):SqL K H a xs:=.inl (.inl h)
theorem SqT.of {K:PySem.W.Frag} (h:H a=some (.tup xs)):SqT K H a xs:=.inl (.inl h)
theorem Inv.list (I:Inv X pins σ H s) (h:SqL X.K H a xs):∃ its:List Value,Vals xs its/\PlainL s.heap a its.toArray/\xs.length<=sizeLine:=by
 rcases h with h | ⟨o,its,n,hk,hc,hd,hs,hz,r⟩
 ·obtain ⟨z,its,n,r,e⟩:=h.ok I.hok
  exact ⟨its,r,⟨_,n,e,rfl,rfl,rfl⟩,z⟩
 ·refine ⟨its.toList,r,⟨o,n,I.kIn a o hk,hc,hd,by simpa using hs⟩,?_⟩
  have e:=r.length
  simp only [Array.length_toList] at e
  omega
theorem Inv.tuple (I:Inv X pins σ H s) (h:SqT X.K H a xs):∃ its:List Value,Vals xs its/\IsTup s.heap a its.toArray/\xs.length<=sizeLine:=by
 rcases h with h | ⟨o,its,n,hk,hc,hs,hz,r⟩
 ·obtain ⟨z,its,r,p⟩:=h.ok I.hok
  exact ⟨its,r,p,z⟩
 ·refine ⟨its.toList,r,⟨o,I.kIn a o hk,hc,n,by simpa using hs⟩,?_⟩
  have e:=r.length
  simp only [Array.length_toList] at e
  omega
theorem Inv.list_inj (I:Inv X pins σ H s) (h:SqL X.K H a xs) (h':SqL X.K H a ys):xs=ys:=by
 obtain ⟨its,r,⟨o,n,e,_,_,d⟩,_⟩:=I.list h
 obtain ⟨its',r',⟨o',n',e',_,_,d'⟩,_⟩:=I.list h'
 rw [e] at e';cases e'
 rw [d] at d'
 injection d' with d1 _
 have:its=its' := by simpa using congrArg Array.toList d1
 subst this
 exact r.inj r'
theorem Inv.tuple_inj (I:Inv X pins σ H s) (h:SqT X.K H a xs) (h':SqT X.K H a ys):xs=ys:=by
 obtain ⟨its,r,⟨o,e,_,n,d⟩,_⟩:=I.tuple h
 obtain ⟨its',r',⟨o',e',_,n',d'⟩,_⟩:=I.tuple h'
 rw [e] at e';cases e'
 rw [d] at d'
 injection d' with d1 _
 have:its=its' := by simpa using congrArg Array.toList d1
 subst this
 exact r.inj r'
end
abbrev Cx.wish (X:Cx) (E:Value->Shared->Prop):Cx:={ X with xe:=E }
abbrev Cx.nox (X:Cx):Cx:=X.wish fun _ _=>False
theorem Cx.Ok.wish {X:Cx} (ok:X.Ok) (E:Value->Shared->Prop):(X.wish E).Ok :=
 ⟨ok.mod,ok.kind,ok.glob,ok.blt,ok.above,ok.inj,ok.has,ok.cab,ok.hd,ok.frames,ok.stk,ok.exf,ok.bs,ok.bsz,ok.noex,ok.exfs,ok.funs,ok.frf⟩
theorem Cx.Ok.unwish {X:Cx} {E:Value->Shared->Prop} (ok:(X.wish E).Ok):X.Ok :=
 ⟨ok.mod,ok.kind,ok.glob,ok.blt,ok.above,ok.inj,ok.has,ok.cab,ok.hd,ok.frames,ok.stk,ok.exf,ok.bs,ok.bsz,ok.noex,ok.exfs,ok.funs,ok.frf⟩
section
variable {X:Cx} {pins:List (Addr×Obj)} {σ:St} {H:Hp} {s:Shared} {E:Value->Shared->Prop}
theorem Inv.wish (I:Inv X pins σ H s) (E:Value->Shared->Prop):Inv (X.wish E) pins σ H s:=⟨I.ok.wish E,I.os,I.bare,I.base,I.loc,I.cell,I.free,I.freeC,I.pin,I.hok,I.len⟩
theorem Inv.unwish (I:Inv (X.wish E) pins σ H s):Inv X pins σ H s:=⟨I.ok.unwish,I.os,I.bare,I.base,I.loc,I.cell,I.free,I.freeC,I.pin,I.hok,I.len⟩
theorem SP.unwish {D:Ends} {f:Flow} {s':Shared} (h:SP (X.wish E) pins D f s'):SP X pins D f s' := by
 cases f with
 | next=>obtain ⟨σ',H',I,q⟩:=h;exact ⟨σ',H',I.unwish,q⟩
 | brk=>obtain ⟨σ',H',I,q⟩:=h;exact ⟨σ',H',I.unwish,q⟩
 | cont=>obtain ⟨σ',H',I,q⟩:=h;exact ⟨σ',H',I.unwish,q⟩
 | ret u=>obtain ⟨v,σ',H',I,r,q⟩:=h;exact ⟨v,σ',H',I.unwish,r,q⟩
end
section
variable {X:Cx} {st:Stmt} {rest:List Stmt} {t u:TS} {e:Expr} {te:TE} {pos:Pos}
def yhA:TS:=fun D σ H=>D.nx σ H
def tSeq (t u:TS):TS:=fun D σ H=>t { D with nx:=u D } σ H
theorem zin:PSs X [] yhA:=fun _ _ σ H _ I h=>wpAny_execs_nil ⟨σ,H,I,h⟩
theorem zhl (h1:PS X st t) (h2:PSs X rest u):PSs X (st::rest) (tSeq t u):=by
 intro pins s σ H D I h
 refine wpAny_execs_cons (thn (h1 pins s σ H { D with nx:=u D } I h) fun f s1 q=>?_)
 cases f with
 | next =>
  obtain ⟨σ',H',I',q⟩:=q
  exact h2 pins s1 σ' H' D I' q
 | ret v=>exact q
 | brk=>exact q
 | cont=>exact q
theorem zio (h1:PS X st t):PSs X [st] t:=by
 intro pins s σ H D I h
 refine wpAny_execs_cons (thn (h1 pins s σ H D I h) fun f s1 q=>?_)
 cases f with
 | next=>exact wpAny_execs_nil q
 | ret v=>exact q
 | brk=>exact q
 | cont=>exact q
theorem Inv.quiet {pins:List (Addr×Obj)} {σ:St} {H:Hp} {s:Shared} (I:Inv X pins σ H s):interactive X.env=false:=by simp [interactive,I.ok.kind]
def yhB (te:TE):TS:=fun D σ H=>te σ H fun _ H1=>D.nx σ H1
theorem ziq (he:PE X e te) (hs:swapsWith e none pos.line X.env=pure false:=by rfl):PS X (.Expr e pos) (yhB te):=by
 intro pins s σ H D I h
 exact wpAny_Expr_any (thn (he pins s σ H _ I h) fun v s1 ⟨x,H1,I1,r1,q1⟩=>⟨σ,H1,I1,q1⟩) I.quiet hs
def tRet (te:TE):TS:=fun D σ H=>te σ H D.rt
theorem ygs (he:PE X e te):PS X (.Return (some e) pos) (tRet te):=by
 intro pins s σ H D I h
 exact wpAny_Return_some (thn (he pins s σ H _ I h) fun v s1 ⟨x,H1,I1,r1,q1⟩=>⟨x,σ,H1,I1,r1,q1⟩)
def tIfS (c:TT) (t u:TS):TS:=fun D σ H=>c σ H fun b H1=>if b=true then t D σ H1 else u D σ H1
theorem yhC {c:Expr} {a b:List Stmt} {tc:TT} (hc:PT X c tc) (ha:PSs X a t) (hb:PSs X b u):PS X (.If c a b pos) (tIfS tc t u):=by
 intro pins s σ H D I h
 refine wpAny_If (thn (hc pins s σ H _ I h) fun d s1 ⟨H1,I1,q1⟩=>?_)
 cases d with
 | true=>exact ha pins s1 σ H1 D I1 q1
 | false=>exact hb pins s1 σ H1 D I1 q1
end
abbrev TG:=V->St->Hp->(St->Hp->Prop)->Prop
abbrev TGs:=List V->St->Hp->(St->Hp->Prop)->Prop
def PG (X:Cx) (target:Expr) (t:TG):Prop :=
 ∀ (pins:List (Addr×Obj)) (s:Shared) (σ:St) (H:Hp) (v:V) (u:Value) (Q:St->Hp->Prop),Inv X pins σ H s->RelV v u->t v σ H Q ->
  wpAny (model X.prog X.w) X.A (assign target X.env u) (fun _ s' => ∃ σ' H',Inv X pins σ' H' s'/\Q σ' H') X.xe s
def PGs (X:Cx) (ts:List Expr) (t:TGs):Prop :=
 ∀ (pins:List (Addr×Obj)) (s:Shared) (σ:St) (H:Hp) (vs:List V) (us:List Value) (Q:St->Hp->Prop),Inv X pins σ H s->Vals vs us->t vs σ H Q ->
  wpAny (model X.prog X.w) X.A (assignInOrder ((assignEach ts X.env).map (·.2)) us) (fun _ s' => ∃ σ' H',Inv X pins σ' H' s'/\Q σ' H') X.xe s
abbrev TSet:=V->V->V->Hp->(Hp->Prop)->Prop
def PSet (X:Cx) (t:TSet):Prop :=
 ∀ (pins:List (Addr×Obj)) (s:Shared) (σ:St) (H:Hp) (o i v:V) (ov iv u:Value) (Q:Hp->Prop),Inv X pins σ H s->RelV o ov->RelV i iv->RelV v u->t o i v H Q ->
  wpAny (model X.prog X.w) X.A (setItem ov iv u) (fun _ s' => ∃ H',Inv X pins σ H' s'/\Q H') X.xe s
section
variable {X:Cx} {pos:Pos}
def yeg (i:Nat):TG:=fun v σ H Q=>Q (σ.set i (some v)) H
theorem zcd {i:Nat} {x:Str} (hN:X.N.Nodup) (hi:X.N[i]? = some x) (hx:Loc X.env.scope x) (hf:X.fn x=true\/X.env.scope.names.lookup x=some .local:=by first | exact .inl rfl | exact .inr rfl | assumption):PG X (.Name x pos) (yeg i):=by
 intro pins s σ H v u Q I r h
 exact wpAny_assign_Name (zcF I hN hi hx r (fun s' I' => ⟨_,H,I',h⟩) hf)
def gNil:TGs:=fun vs σ H Q=>vs=[]/\Q σ H
def yff (t:TG) (u:TGs):TGs:=fun vs σ H Q=>∃ v r,vs=v::r/\t v σ H fun σ' H' => u r σ' H' Q
theorem zfb:PGs X [] gNil:=by
 intro pins s σ H vs us Q I r h
 obtain ⟨e,h⟩:=h
 subst e
 cases r
 exact assignInOrder_nil ⟨σ,H,I,h⟩
theorem zcG {e:Expr} {es:List Expr} {t:TG} {u:TGs} (h1:PG X e t) (h2:PGs X es u)
  (hs:(assignEach (e::es) X.env).map (·.2)=assign e X.env::(assignEach es X.env).map (·.2):=by rfl):PGs X (e::es) (yff t u):=by
 intro pins s σ H vs us Q I r h
 obtain ⟨v,vr,e1,h⟩:=h
 subst e1
 cases r with
 | cons r rr =>
  rw [hs]
  refine assignInOrder_cons (thn (h1 pins s σ H _ _ _ I r h) fun _ s1 ⟨σ1,H1,I1,q1⟩=>?_)
  exact h2 pins s1 σ1 H1 _ _ Q I1 rr q1
def gTup (K:PySem.W.Frag) (n:Nat) (t:TGs):TG:=fun v σ H Q=>∃ a xs,v = .ref a/\SqT K H a xs/\xs.length=n/\t xs σ H Q
theorem yfp {es:List Expr} {k:Nat} {t:TGs} {n:Nat} (hc:X.calm=true) (h:PGs X es t)
  (hn:(assignEach es X.env).length=n:=by rfl) (hst:(assignEach es X.env).findIdx? (·.1)=none:=by rfl):PG X (.Tuple es k pos) (gTup X.K n t):=by
 intro pins s σ H v u Q I r hw
 obtain ⟨a,xs,e1,hq,hl,hw⟩:=hw
 subst e1
 cases r
 obtain ⟨its,rv,ht,hz⟩:=I.tuple hq
 refine assign_Tuple_tuple (I.ok.hd hc) ht (by simp [hn,<- hl,rv.length]) hst fun h' hx=>?_
 have I1:Inv X pins σ H { s with heap:=h' }:=I.kept (t' := s.toks) fun b o e=>hx b o (Nat.ne_of_lt (Heap.lt_size e)) e
 exact h pins _ σ H xs _ Q I1 (by simpa using rv) hw
def gSub (to ti:TE) (t:TSet):TG:=fun v σ H Q=>to σ H fun o H1=>ti σ H1 fun i H2=>t o i v H2 fun H3=>Q σ H3
theorem ygt {o i:Expr} {to ti:TE} {t:TSet} (ho:PE X o to) (hi:PE X i ti) (hs:PSet X t)
  (ha:∀ v,assign (.Subscript o i pos) X.env v=(do
   let ov <- holding [v] (eval o X.env)
   let iv <- holding [v,ov] (eval i X.env)
   standAt pos
   holding [v,ov,iv] (setItem ov iv v)
   release [v,ov,iv] []):=by intro _;rfl):PG X (.Subscript o i pos) (gSub to ti t):=by
 intro pins s σ H v u Q I r h
 rw [ha]
 refine wpAny_bind (wpAny_holding (thn (ho pins s σ H _ I h) fun ov s1 ⟨x,H1,I1,r1,q1⟩=>?_))
 refine wpAny_bind (wpAny_holding (thn (hi pins s1 σ H1 _ I1 q1) fun iv s2 ⟨y,H2,I2,r2,q2⟩=>?_))
 refine wpAny_bind (wpAny_standAt (wpAny_bind (wpAny_holding (thn (hs pins s2 σ H2 x y v ov iv u _ I2 r1 r2 r q2) fun _ s3 ⟨H3,I3,q3⟩=>?_))))
 exact wpAny_release ⟨σ,H3,I3,q3⟩
def tAsg (te:TE) (g:TG):TS:=fun D σ H=>te σ H fun x H1=>g x σ H1 D.nx
theorem yfq {tg e:Expr} {te:TE} {g:TG} (he:PE X e te) (hg:PG X tg g) (hs:swapsWithSole [tg] e pos.line X.env=pure false:=by rfl) (hw:swappedStores [tg] e X.env=pure none:=by rfl)
  (h1:(assignEach [tg] X.env).map (·.2)=[assign tg X.env]:=by rfl):PS X (.Assign [tg] e pos) (tAsg te g):=by
 intro pins s σ H D I h
 refine wpAny_Assign_stores (thn (he pins s σ H _ I h) fun v s1 ⟨x,H1,I1,r1,q1⟩=>?_) hs hw
 rw [h1]
 exact thn (hg pins s1 σ H1 x v _ I1 r1 q1) fun _ s2 q=>q
theorem ygu {i:Nat} {x:Str} {e:Expr} {te:TE} {pos':Pos} (hN:X.N.Nodup) (hi:X.N[i]? = some x) (hx:Loc X.env.scope x) (he:PE X e te) (hs:swapsWith e (some (.Name x pos')) pos.line X.env=pure false:=by rfl) (hf:X.fn x=true\/X.env.scope.names.lookup x=some .local:=by first | exact .inl rfl | exact .inr rfl | assumption) :
  PS X (.Assign [.Name x pos'] e pos) (tAsg te (yeg i)):=by
 intro pins s σ H D I h
 refine wpAny_Assign_Name (thn (he pins s σ H _ I h) fun v s1 ⟨y,H1,I1,r1,q1⟩=>?_) hs
 exact zcF I1 hN hi hx r1 (fun s2 I2=>⟨_,H1,I2,q1⟩) hf
end
section
variable {X:Cx} {pos:Pos}
def ygv (c:TT) (tb:TS):TS:=fun D σ H=>∃ W:Nat->St->Hp->Prop,(∃ m,W m σ H)/\∀ m σ H,W m σ H ->
 c σ H fun b H1=>if b=true then ∃ N:St->Hp->Prop,(∀ σ' H',N σ' H'->∃ m',m'<m/\W m' σ' H')/\tb { D with nx:=N,ct:=N,bk:=D.nx } σ H1 else D.nx σ H1
theorem zhm {c:Expr} {body:List Stmt} {tc:TT} {tb:TS} (hp:PassesOwn (model X.prog X.w) X.A X.env X.xe) (hc:PT X c tc) (hb:PSs X body tb):PS X (.While c body [] pos) (ygv tc tb):=by
 intro pins s σ H D I h
 obtain ⟨W,⟨m0,w0⟩,turn⟩:=h
 refine wpAny_While (codeAny_whileLoop (fun n s' => ∃ σ' H',Inv X pins σ' H' s'/\W n σ' H') ?_ m0 ⟨σ,H,I,w0⟩)
 rintro n s1 ⟨σ1,H1,I1,w1⟩
 refine wpAny_passesOwn hp (thn (hc pins s1 σ1 H1 _ I1 (turn n σ1 H1 w1)) fun b s2 ⟨H2,I2,q2⟩=>?_)
 cases b with
 | true =>
  obtain ⟨N,hN,q2⟩:=q2
  rw [if_pos rfl]
  refine wpAny_passesOwn hp (thn (hb pins s2 σ1 H2 _ I2 q2) fun f s3 q3=>?_)
  cases f with
  | next =>
   obtain ⟨σ3,H3,I3,n3⟩:=q3
   obtain ⟨m',hm,w3⟩:=hN σ3 H3 n3
   exact ⟨m',hm,σ3,H3,I3,w3⟩
  | cont =>
   obtain ⟨σ3,H3,I3,n3⟩:=q3
   obtain ⟨m',hm,w3⟩:=hN σ3 H3 n3
   exact ⟨m',hm,σ3,H3,I3,w3⟩
  | brk=>exact q3
  | ret v=>exact q3
 | false =>
  rw [if_neg Bool.false_ne_true]
  exact wpAny_execs_nil ⟨σ1,H2,I2,q2⟩
end
structure It where
 go:Nat->Hp->Prop
 yld:Nat->Hp->V->Hp->Prop
 stop:Nat->Hp->Prop
def FpOk (X:Cx) (pins:List (Addr×Obj)) (H:Hp) (b:Addr):Prop :=
 H b=none/\b≠X.env.locals/\b∉X.fs/\(b∈X.ex\/X.s₀.heap.objs.size<=b)/\(∀ x c,X.env.cells.lookup x=some c->c≠b)/\∀ p∈X.pn++pins,p.1≠b
theorem Inv.fpOk {X:Cx} {pins:List (Addr×Obj)} {σ:St} {H H':Hp} {s:Shared} {b:Addr} (I:Inv X pins σ H s) (hb:s.heap.objs.size<=b) (hn:H' b=none):FpOk X pins H' b:=by
 refine ⟨hn,Nat.ne_of_gt (Nat.lt_of_lt_of_le I.lt hb),I.nofs hb,.inr (Nat.le_trans I.sz hb),fun x c e z=>?_,fun p hp z=>?_⟩
 ·obtain ⟨v,q⟩:=I.cell x c e
  exact absurd (Nat.lt_of_lt_of_le q.lt (by rw [z];exact hb)) (Nat.lt_irrefl _)
 ·exact absurd (Nat.lt_of_lt_of_le (Heap.lt_size (I.pin p hp).1) (by rw [z];exact hb)) (Nat.lt_irrefl _)
structure Turn (P:Program) (w:World) (K:PySem.W.Frag) (tg:Expr) (J:It) (fp:List Addr) (it:Addr) (tn:Nat->Heap->Prop):Prop where
 mem:it∈fp
 obj:∀ i h,tn i h->∀ b∈fp,∃ o,h.get? b=some o/\∀ v,o.data ≠ .cell v
 keep:∀ i h h',tn i h->(∀ b∈fp,∀ o,h.get? b=some o->h'.get? b=some o)->tn i h'
 item:∀ (X:Cx),X.prog=P->X.w=w->X.K=K->X.calm=true->∀ (i:Nat) (pins:List (Addr×Obj)) (s:Shared) (σ:St) (H:Hp) (E:Value->Shared->Prop),Inv X pins σ H s->(∀ b∈fp,FpOk X pins H b)->tn i s.heap->J.go i H ->
  wpAny (model P w) X.A (pyNext (.ref it)) (fun r s1=>∃ u,r=some u /\
   wpAny (model P w) X.A (letOwnedTupleGo tg (.ref it) u) (fun _ s2=>∃ x H',Inv X pins σ H' s2/\RelV x u/\J.yld i H x H'/\tn (i+1) s2.heap/\∀ b∈fp,H' b=none) E s1) E s
 done:∀ (X:Cx),X.prog=P->X.w=w->X.K=K->X.calm=true->∀ (i:Nat) (pins:List (Addr×Obj)) (s:Shared) (σ:St) (H:Hp) (E:Value->Shared->Prop),Inv X pins σ H s->(∀ b∈fp,FpOk X pins H b)->tn i s.heap->J.stop i H ->
  wpAny (model P w) X.A (pyNext (.ref it)) (fun r s1=>r=none/\Inv X pins σ H s1) E s
 self:∀ (A:Around) (i:Nat) (s:Shared) (Q:Value->Shared->Prop) (E:Value->Shared->Prop),tn i s.heap->Q (.ref it) s->wpAny (model P w) A (pyIter (.ref it)) Q E s
abbrev TI:=St->Hp->(It->Hp->Prop)->Prop
def PIE (X:Cx) (pins:List (Addr×Obj)) (σ:St) (tg:Expr) (R:It->Hp->Prop) (itv:Value) (s2:Shared):Prop :=
 ∃ (it:Addr) (fp:List Addr) (tn:Nat->Heap->Prop) (J:It) (H':Hp),itv = .ref it/\Inv X pins σ H' s2/\Turn X.prog X.w X.K tg J fp it tn/\tn 0 s2.heap/\(∀ b∈fp,FpOk X pins H' b)/\R J H'
def PI (X:Cx) (tg iter:Expr) (wi:TI):Prop :=
 ∀ (pins:List (Addr×Obj)) (s:Shared) (σ:St) (H:Hp) (R:It->Hp->Prop),Inv X pins σ H s->wi σ H R ->
  wpAny (model X.prog X.w) X.A (eval iter X.env) (fun v s1=>wpAny (model X.prog X.w) X.A (pyIter v) (PIE X pins σ tg R) X.xe s1) X.xe s
theorem yeQ {M:Model} {A:Around} {E:Value->Shared->Prop} {s:Shared} {tg:Expr} {it:Addr} {u:Value} {o:Obj} {n:String} {vs:Array Value} {Q:Unit->Shared->Prop} (ho:s.heap.get? it=some o) (hc:o.cls = .type n) (hd:o.data = .fields vs)
  (hn:["enumerate", "zip", "dict_itemiterator", "dict_reverseitemiterator", "odict_iterator", "itertools.zip_longest", "itertools.pairwise"].contains n=false) (hQ:Q () s):wpAny M A (letOwnedTupleGo tg (.ref it) u) Q E s:=by
 unfold letOwnedTupleGo
 cases tg<;>first
  | exact wpAny_pure hQ
  | (cases u<;>first
    | exact wpAny_pure hQ
    | (refine wpAny_bind (wpAny_load ho ?_)
       rw [hc,hd]
       show wpAny M A (if (["enumerate", "zip", "dict_itemiterator", "dict_reverseitemiterator", "odict_iterator", "itertools.zip_longest", "itertools.pairwise"].contains n && vs[0]? == some (rawInt _))=true then _ else _) Q E s
       rw [if_neg (by intro h;rw [hn,Bool.false_and] at h;cases h)]
       exact wpAny_pure hQ))
def Itl (K:PySem.W.Frag) (a:Addr):It :=
 ⟨fun i H=>∃ xs x,SqL K H a xs/\xs[i]? = some x,fun i H x H' => H'=H/\∀ xs,SqL K H a xs->xs[i]? = some x,fun i H=>∃ xs,SqL K H a xs/\xs.length<=i⟩
def Itt (K:PySem.W.Frag) (a:Addr):It :=
 ⟨fun i H=>∃ xs x,SqT K H a xs/\xs[i]? = some x,fun i H x H' => H'=H/\∀ xs,SqT K H a xs->xs[i]? = some x,fun i H=>∃ xs,SqT K H a xs/\xs.length<=i⟩
def Itr (lo:Int) (n:Nat):It:=⟨fun i _=>i<n,fun i H x H' => H'=H/\x = .int (lo+i),fun i _=>n<=i⟩
theorem zgx {P:Program} {w:World} {K:PySem.W.Frag} {tg:Expr} (a it:Addr):Turn P w K tg (Itl K a) [it] it (fun i h=>h.IsListIter it a i) where
 mem:=by simp
 obj:=fun i h st b hb=>by
  have e:b=it:=by simpa using hb
  subst e
  obtain ⟨o,e,c,d⟩:=st
  exact ⟨o,e,fun v z=>by rw [d] at z;cases z⟩
 keep:=fun i h h' st k=>st.at fun o e=>k it (by simp) o e
 item:=by
  intro X hP hw hK hc i pins s σ H E I hf st hg
  subst hP hw hK
  obtain ⟨xs,x,hq,hx⟩:=hg
  obtain ⟨its,rv,p,hz⟩:=I.list hq
  obtain ⟨u,hu,ru⟩:=rv.get hx
  obtain ⟨f0,f1,f2,f3,f4,f5⟩:=hf it (by simp)
  refine wpAny_pyNext_list_item st p.isList (x:=u) (by simpa using hu) fun h' st' sb=>?_
  have I1:Inv X pins σ H { s with heap:=h' }:=I.turned (t' := s.toks) (fun b o hb e=>(sb.2 b hb).trans e) f0 f1 f3 f4 f5
  obtain ⟨o,e,c,d⟩:=id st'
  exact ⟨u,rfl,yeQ (s:={ s with heap:=h' }) e c d (by decide) ⟨x,H,I1,ru,⟨rfl,fun ys hy=>by rw [I.list_inj hy hq];exact hx⟩,st',fun b hb=>(hf b hb).1⟩⟩
 done:=by
  intro X hP hw hK hc i pins s σ H E I hf st hg
  subst hP hw hK
  obtain ⟨xs,hq,hx⟩:=hg
  obtain ⟨its,rv,p,hz⟩:=I.list hq
  obtain ⟨f0,f1,f2,f3,f4,f5⟩:=hf it (by simp)
  have hl:=rv.length
  exact wpAny_pyNext_list_end (I.ok.hd hc) st p.isList (by simp;omega) fun h' eb=>⟨rfl,I.turned (t' := s.toks) (fun b o hb e=>eb b o hb e) f0 f1 f3 f4 f5⟩
 self:=fun _ _ _ _ _ st h=>wpAny_pyIter_listiter st h
theorem zfZ {P:Program} {w:World} {K:PySem.W.Frag} {tg:Expr} (a it:Addr):Turn P w K tg (Itt K a) [it] it (fun i h=>h.IsTupleIter it a i) where
 mem:=by simp
 obj:=fun i h st b hb=>by
  have e:b=it:=by simpa using hb
  subst e
  obtain ⟨o,e,c,d⟩:=st
  exact ⟨o,e,fun v z=>by rw [d] at z;cases z⟩
 keep:=fun i h h' st k=>st.at fun o e=>k it (by simp) o e
 item:=by
  intro X hP hw hK hc i pins s σ H E I hf st hg
  subst hP hw hK
  obtain ⟨xs,x,hq,hx⟩:=hg
  obtain ⟨its,rv,p,hz⟩:=I.tuple hq
  obtain ⟨u,hu,ru⟩:=rv.get hx
  obtain ⟨f0,f1,f2,f3,f4,f5⟩:=hf it (by simp)
  refine wpAny_pyNext_tuple_item st (show s.heap.IsTuple a its.toArray from p) (x:=u) (by simpa using hu) fun h' st' sb=>?_
  have I1:Inv X pins σ H { s with heap:=h' }:=I.turned (t' := s.toks) (fun b o hb e=>(sb.2 b hb).trans e) f0 f1 f3 f4 f5
  obtain ⟨o,e,c,d⟩:=id st'
  exact ⟨u,rfl,yeQ (s:={ s with heap:=h' }) e c d (by decide) ⟨x,H,I1,ru,⟨rfl,fun ys hy=>by rw [I.tuple_inj hy hq];exact hx⟩,st',fun b hb=>(hf b hb).1⟩⟩
 done:=by
  intro X hP hw hK hc i pins s σ H E I hf st hg
  subst hP hw hK
  obtain ⟨xs,hq,hx⟩:=hg
  obtain ⟨its,rv,p,hz⟩:=I.tuple hq
  obtain ⟨f0,f1,f2,f3,f4,f5⟩:=hf it (by simp)
  have hl:=rv.length
  exact wpAny_pyNext_tuple_end (I.ok.hd hc) st (show s.heap.IsTuple a its.toArray from p) (by simp;omega) fun h' eb=>⟨rfl,I.turned (t' := s.toks) (fun b o hb e=>eb b o hb e) f0 f1 f3 f4 f5⟩
 self:=fun _ _ _ _ _ st h=>wpAny_pyIter_tupleiter st h
theorem zf0 {P:Program} {w:World} {K:PySem.W.Frag} {tg:Expr} (it:Addr) (lo:Int) (n:Nat):Turn P w K tg (Itr lo n) [it] it (fun i h=>IsRangeIter h it (lo+(i:Nat)*1) ((n:Int)-(i:Nat)) 1) where
 mem:=by simp
 obj:=fun i h st b hb=>by
  have e:b=it:=by simpa using hb
  subst e
  exact ⟨_,st,fun v z=>by
   have z':Data.fields _=Data.cell v:=z
   cases z'⟩
 keep:=fun i h h' st k=>k it (by simp) _ st
 item:=by
  intro X hP hw hK hc i pins s σ H E I hf st hg
  subst hP hw hK
  obtain ⟨f0,f1,f2,f3,f4,f5⟩:=hf it (by simp)
  have W:=Walks.range (prog:=X.prog) (w:=X.w) (I.ok.hd hc) it lo 1 n
  refine W.item i s _ _ hg st fun v h' tk hv st' kk=>?_
  obtain ⟨t,rfl⟩:=hv
  have I1:Inv X pins σ H { s with heap:=h',toks:=tk }:=I.turned (fun b o hb e=>kk b o (by simpa using hb) e) f0 f1 f3 f4 f5
  refine ⟨_,rfl,yeQ (s:={ s with heap:=h',toks:=tk }) (n := "range_iterator") st' rfl rfl (by decide) ⟨.int (lo+i),H,I1,⟨t,?_⟩,⟨rfl,rfl⟩,st',fun b hb=>(hf b hb).1⟩⟩
  rw [Int.mul_one]
 done:=by
  intro X hP hw hK hc i pins s σ H E I hf st hg
  subst hP hw hK
  obtain ⟨f0,f1,f2,f3,f4,f5⟩:=hf it (by simp)
  exact wpAny_pyNext_range_end (I.ok.hd hc) st (by have:n<=i:=hg;omega) fun h' eb=>⟨rfl,I.turned (t' := s.toks) (fun b o hb e=>eb b o hb e) f0 f1 f3 f4 f5⟩
 self:=fun _ _ _ _ _ st h=>wpAny_pyIter_rangeiter st h
end L2
namespace L2
open PySem PySem.Spec PyProof.Rows
section
variable {X:Cx} {tg:Expr}
def yfX (K:PySem.W.Frag) (tl:TE):TI:=fun σ H R=>tl σ H fun x H1=>∃ a,x = .ref a/\(∃ xs,SqL K H1 a xs)/\R (Itl K a) H1
def iTup (K:PySem.W.Frag) (tl:TE):TI:=fun σ H R=>tl σ H fun x H1=>∃ a,x = .ref a/\(∃ xs,SqT K H1 a xs)/\R (Itt K a) H1
theorem zfc {l:Expr} {tl:TE} (hl:PE X l tl):PI X tg l (yfX X.K tl):=by
 intro pins s σ H R I h
 refine thn (hl pins s σ H _ I h) fun v s1 ⟨x,H1,I1,r1,q1⟩=>?_
 obtain ⟨a,e,⟨xs,hq⟩,q⟩:=q1
 subst e
 cases r1
 obtain ⟨its,rv,p,hz⟩:=I1.list hq
 refine wpAny_pyIter_list p.isList ?_
 refine ⟨s1.heap.objs.size,[s1.heap.objs.size],_,_,H1,rfl,I1.kept (t' := s1.toks) fun b o e=>Heap.get?_push_of_some _ e,zgx a _,⟨_,Heap.get?_push_size _ rfl,rfl,rfl⟩,fun b hb=>?_,q⟩
 have e:b=s1.heap.objs.size:=by simpa using hb
 subst e
 exact I1.fpOk (Nat.le_refl _) (I1.hok.fresh (Nat.le_refl _))
theorem yfr {l:Expr} {tl:TE} (hl:PE X l tl):PI X tg l (iTup X.K tl):=by
 intro pins s σ H R I h
 refine thn (hl pins s σ H _ I h) fun v s1 ⟨x,H1,I1,r1,q1⟩=>?_
 obtain ⟨a,e,⟨xs,hq⟩,q⟩:=q1
 subst e
 cases r1
 obtain ⟨its,rv,p,hz⟩:=I1.tuple hq
 refine wpAny_pyIter_tuple (show s1.heap.IsTuple a its.toArray from p) ?_
 refine ⟨s1.heap.objs.size,[s1.heap.objs.size],_,_,H1,rfl,I1.kept (t' := s1.toks) fun b o e=>Heap.get?_push_of_some _ e,zfZ a _,⟨_,Heap.get?_push_size _ rfl,rfl,rfl⟩,fun b hb=>?_,q⟩
 have e:b=s1.heap.objs.size:=by simpa using hb
 subst e
 exact I1.fpOk (Nat.le_refl _) (I1.hok.fresh (Nat.le_refl _))
theorem zhn {pins:List (Addr×Obj)} {σ:St} {H:Hp} {s:Shared} {R:It->Hp->Prop} {E:Value->Shared->Prop} {lo hi:Int} {t u v:Tok} {tk:Nat} (I:Inv X pins σ H s) (h1 : -(2 ^ 62)<=lo) (h2:lo<2 ^ 62) (h3 : -(2 ^ 62)<=hi) (h4:hi<2 ^ 62)
  (q:R (Itr lo (hi-lo).toNat) H):wpAny (model X.prog X.w) X.A (pyIter (.ref s.heap.objs.size)) (PIE X pins σ tg R) E { s with heap:=s.heap.push { cls:=.type "range",data:=.fields #[.int lo t,.int hi u,.int 1 v] },toks:=tk }:=by
 refine wpAny_pyIter_range (IsRange.new ..) (small_one h1 h2 h3 h4) ?_
 have I1:Inv X pins σ H { s with heap:=s.heap.push { cls:=.type "range",data:=.fields #[.int lo t,.int hi u,.int 1 v] },toks:=tk }:=I.kept fun b o e=>Heap.get?_push_of_some _ e
 refine ⟨(s.heap.push { cls:=.type "range",data:=.fields #[.int lo t,.int hi u,.int 1 v] }).objs.size,[(s.heap.push { cls:=.type "range",data:=.fields #[.int lo t,.int hi u,.int 1 v] }).objs.size],_,_,H,rfl,
  I1.kept (t' := tk) fun b o e=>Heap.get?_push_of_some _ e,zf0 _ lo (hi-lo).toNat,?_,fun b hb=>?_,q⟩
 ·have e1:lo+((0:Nat):Int)*1=lo:=by simp
  have e2:(((hi-lo).toNat:Nat):Int)-((0:Nat):Int)=Builtin.Range.rangeSize lo hi 1:=by rw [rangeSize_one];split<;>omega
  show IsRangeIter _ _ (lo+((0:Nat):Int)*1) ((((hi-lo).toNat:Nat):Int)-((0:Nat):Int)) 1
  rw [e1,e2]
  exact Heap.get?_push_size _ rfl
 ·have e:b=(s.heap.push { cls:=.type "range",data:=.fields #[.int lo t,.int hi u,.int 1 v] }).objs.size:=by simpa using hb
  subst e
  exact I1.fpOk (Nat.le_refl _) (I1.hok.fresh (Nat.le_refl _))
def yhD (ta:TA):TI:=fun σ H R=>ta σ H fun vs H1=>∃ j:Int,vs=[.int j] /\ -(2 ^ 62)<=j/\j<2 ^ 62/\R (Itr 0 j.toNat) H1
theorem zgy {a:Expr} {ta:TA} {p pos:Pos} (hg:Gl X "range") (hm:X.mg "range" = none) (ha:PA X [a] ta) (hs:starEach [a] X.env=[(false,eval a X.env)]:=by rfl):PI X tg (.Call (.Name "range" p) [a] [] pos) (yhD ta):=by
 intro pins s σ H R I h
 refine Call_ (yd3 I hg hm boot_range (PyProof.Rows.callWith_type1 (thn (ha pos pins s σ H _ I h) fun us s1 ⟨vs,H1,I1,r1,q1⟩=>?_) hs rfl))
 obtain ⟨j,e,q1,q2,q⟩:=q1
 subst e
 cases r1 with
 | cons r rr =>
  cases rr
  obtain ⟨t,rfl⟩:=r
  exact call_range_1 (zhn I1 (by omega) (by omega) q1 q2 (by simpa using q))
def tFor (wi:TI) (g:TG) (tb:TS):TS:=fun D σ H=>wi σ H fun J H1=>∃ W:Nat->Nat->St->Hp->Prop,(∃ m,W 0 m σ H1)/\∀ i m σ H,W i m σ H ->
 (J.stop i H/\D.nx σ H)\/(J.go i H/\∃ N:St->Hp->Prop,(∀ σ' H',N σ' H'->∃ m',m'<m/\W (i+1) m' σ' H')/\∀ x H',J.yld i H x H'->g x σ H' fun σ2 H2=>tb { D with nx:=N,ct:=N,bk:=D.nx } σ2 H2)
def ybE (fp:List Addr) (h:Heap):List (Addr×Obj):=fp.filterMap fun b=>(h.get? b).map fun o=>(b,o)
theorem zaO {fp:List Addr} {h:Heap} {b:Addr} {o:Obj} (hb:b∈fp) (e:h.get? b=some o):(b,o)∈ybE fp h:=List.mem_filterMap.mpr ⟨b,hb,by rw [e];rfl⟩
theorem zgz {fp:List Addr} {h:Heap} {p:Addr×Obj} (hp:p∈ybE fp h):p.1∈fp/\h.get? p.1=some p.2:=by
 obtain ⟨b,hb,e⟩:=List.mem_filterMap.mp hp
 cases q:h.get? b with
 | none=>rw [q] at e;cases e
 | some o =>
  rw [q] at e
  have e':(b,o)=p:=Option.some.inj e
  subst e'
  exact ⟨hb,q⟩
theorem Inv.pinned {pins:List (Addr×Obj)} {σ:St} {H:Hp} {s:Shared} {fp:List Addr} (I:Inv X pins σ H s) (hf:∀ b∈fp,FpOk X pins H b) (ho:∀ b∈fp,∃ o,s.heap.get? b=some o/\∀ v,o.data ≠ .cell v):Inv X (pins++ybE fp s.heap) σ H s :=
 I.pins_of fun p hp=>(List.mem_append.mp hp).elim (fun z=>I.pin p (List.mem_append_right _ z)) fun z=>by
  obtain ⟨hb,e⟩:=zgz z
  obtain ⟨f0,f1,f2,_⟩:=hf p.1 hb
  obtain ⟨o,e',d⟩:=ho p.1 hb
  rw [e] at e';cases e'
  exact ⟨e,f0,f1,f2,d⟩
theorem Inv.unpinned {pins pl:List (Addr×Obj)} {σ:St} {H:Hp} {s:Shared} (I:Inv X (pins++pl) σ H s):Inv X pins σ H s:=I.pins_of fun p hp=>I.pin p (List.mem_append_right _ (List.mem_append_left _ hp))
theorem ygw {iter:Expr} {body:List Stmt} {wi:TI} {g:TG} {tb:TS} {pos:Pos} (hp:PassesOwn (model X.prog X.w) X.A X.env X.xe) (hc:X.calm=true) (hi:PI X tg iter wi) (hg:PG X tg g) (hb:PSs X body tb)
  (hs:∀ x,foldedSetIterable iter X.env x=pure x:=by intro _;rfl):PS X (.For tg iter body [] pos) (tFor wi g tb):=by
 intro pins s σ H D I h
 refine wpAny_For (thn (hi pins s σ H _ I h) fun v s1 h1=>thn h1 fun itv s2 h2=>?_) hs
 obtain ⟨it,fp,tn,J,H2,e,I2,T,st2,f2,W,⟨m0,w0⟩,turn⟩:=h2
 subst e
 have stat:∀ {H':Hp},(∀ b∈fp,H' b=none)->∀ b∈fp,FpOk X pins H' b:=fun hn b hb=>⟨hn b hb,(f2 b hb).2⟩
 refine codeAny_forLoop_any (fun n s' => ∃ i σ' H',Inv X pins σ' H' s'/\tn i s'.heap/\(∀ b∈fp,H' b=none)/\W i n σ' H') ?_ m0 ⟨0,σ,H2,I2,st2,fun b hb=>(f2 b hb).1,w0⟩
 rintro n s3 ⟨i,σ3,H3,I3,st3,fr3,w3⟩
 rcases turn i n σ3 H3 w3 with ⟨stop,qn⟩ | ⟨go,N,hN,step⟩
 ·refine wpAny_passesOwn hp (thn (T.done X rfl rfl rfl hc i pins s3 σ3 H3 X.xe I3 (stat fr3) st3 stop) fun r s4 ⟨hr,I4⟩=>?_)
  subst hr
  exact wpAny_execs_nil ⟨σ3,H3,I4,qn⟩
 ·refine wpAny_passesOwn hp (thn (T.item X rfl rfl rfl hc i pins s3 σ3 H3 X.xe I3 (stat fr3) st3 go) fun r s4 ⟨u,hr,h4⟩=>?_)
  subst hr
  refine wpAny_passesOwn hp (thn h4 fun _ s5 ⟨x,H5,I5,r5,y5,st5,fr5⟩=>?_)
  have I5' := I5.pinned (stat fr5) (T.obj _ _ st5)
  refine wpAny_passesOwn hp (thn (hg _ s5 σ3 H5 x u _ I5' r5 (step x H5 y5)) fun _ s6 ⟨σ6,H6,I6,q6⟩=>?_)
  refine wpAny_passesOwn hp (thn (hb _ s6 σ6 H6 _ I6 q6) fun f s7 q7=>?_)
  have again:∀ {σ7:St} {H7:Hp},Inv X (pins++ybE fp s5.heap) σ7 H7 s7->N σ7 H7->∃ m,m<n/\∃ i σ' H',Inv X pins σ' H' s7/\tn i s7.heap/\(∀ b∈fp,H' b=none)/\W i m σ' H' := fun {σ7 H7} I7 n7=>by
   obtain ⟨m',hm,w7⟩:=hN σ7 H7 n7
   refine ⟨m',hm,i+1,σ7,H7,I7.unpinned,T.keep _ _ _ st5 fun b hb o e=>(I7.pin (b,o) (List.mem_append_right _ (List.mem_append_right _ (zaO hb e)))).1,fun b hb=>?_,w7⟩
   obtain ⟨o,e,d⟩:=T.obj _ _ st5 b hb
   exact (I7.pin (b,o) (List.mem_append_right _ (List.mem_append_right _ (zaO hb e)))).2.1
  cases f with
  | next=>obtain ⟨σ7,H7,I7,n7⟩:=q7;exact again I7 n7
  | cont=>obtain ⟨σ7,H7,I7,n7⟩:=q7;exact again I7 n7
  | brk=>obtain ⟨σ7,H7,I7,q7⟩:=q7;exact ⟨σ7,H7,I7.unpinned,q7⟩
  | ret v=>obtain ⟨x7,σ7,H7,I7,r7,q7⟩:=q7;exact ⟨x7,σ7,H7,I7.unpinned,r7,q7⟩
end
end L2
namespace L2
open PySem PySem.Spec PyProof.Rows
abbrev R2:=V->V->Hp->VK->Prop
def OpR (X:Cx) (f:Value->Value->Sem Value) (r:R2):Prop :=
 ∀ (pins:List (Addr×Obj)) (s:Shared) (σ:St) (H:Hp) (x y:V) (v u:Value) (Q:VK),Inv X pins σ H s->RelV x v->RelV y u->r x y H Q ->
  wpAny (model X.prog X.w) X.A (f v u) (EP X pins σ Q) X.xe s
def UnR (X:Cx) (f:Value->Sem Value) (r:V->Hp->VK->Prop):Prop :=
 ∀ (pins:List (Addr×Obj)) (s:Shared) (σ:St) (H:Hp) (x:V) (v:Value) (Q:VK),Inv X pins σ H s->RelV x v->r x H Q ->
  wpAny (model X.prog X.w) X.A (f v) (EP X pins σ Q) X.xe s
def CallR (X:Cx) (f:Value) (r:List V->Hp->VK->Prop):Prop :=
 ∀ (pins:List (Addr×Obj)) (s:Shared) (σ:St) (H:Hp) (xs:List V) (us:List Value) (Q:VK),Inv X pins σ H s->Vals xs us->r xs H Q ->
  wpAny (model X.prog X.w) X.A (call f us) (EP X pins σ Q) X.xe s
def TruR (X:Cx) (r:V->Hp->(Bool->Hp->Prop)->Prop):Prop :=
 ∀ (pins:List (Addr×Obj)) (s:Shared) (σ:St) (H:Hp) (x:V) (v:Value) (Q:Bool->Hp->Prop),Inv X pins σ H s->RelV x v->r x H Q ->
  wpAny (model X.prog X.w) X.A (truthy v) (TP X pins σ Q) X.xe s
def tOp (r:R2) (ta tb:TE):TE:=fun σ H Q=>ta σ H fun x H1=>tb σ H1 fun y H2=>r x y H2 Q
def tUn (r:V->Hp->VK->Prop) (ta:TE):TE:=fun σ H Q=>ta σ H fun x H1=>r x H1 Q
def rI (C:Int->Int->Prop) (g:Int->Int->V):R2:=fun x y H Q=>∃ i j,x = .int i/\y = .int j/\C i j/\Q (g i j) H
def rI0 (g:Int->Int->V):R2:=fun x y H Q=>∃ i j,x = .int i/\y = .int j/\Q (g i j) H
def rU (g:Int->V):V->Hp->VK->Prop:=fun x H Q=>∃ i,x = .int i/\Q (g i) H
section
variable {X:Cx} {a b c:Expr} {ta tb tc:TE} {pos:Pos}
theorem binT (ha:PE X a ta) (hb:PE X b tb) {pins:List (Addr×Obj)} {s:Shared} {σ:St} {H:Hp} {R:V->V->Hp->Prop} (I:Inv X pins σ H s)
  (h:ta σ H fun x H1=>tb σ H1 fun y H2=>R x y H2) {Q:Value->Shared->Prop} {f:Value->Value->Sem Value}
  (hf:∀ v u s2 x y H2,Inv X pins σ H2 s2->RelV x v->RelV y u->R x y H2->wpAny (model X.prog X.w) X.A (f v u) Q X.xe s2) :
  wpAny (model X.prog X.w) X.A (eval a X.env) (fun v s₁=>wpAny (model X.prog X.w) X.A (eval b X.env) (fun u s₂=>wpAny (model X.prog X.w) X.A (f v u) Q X.xe s₂) X.xe s₁) X.xe s:=by
 refine thn (ha pins s σ H _ I h) fun v s1 ⟨x,H1,I1,r1,q1⟩=>?_
 refine thn (hb pins s1 σ H1 _ I1 q1) fun u s2 ⟨y,H2,I2,r2,q2⟩=>?_
 exact hf v u s2 x y H2 I2 r1 r2 q2
theorem yhE {op:Operator} {r:R2} (ho:OpR X (binaryOp op) r) (ha:PE X a ta) (hb:PE X b tb):PE X (.BinOp a op b pos) (tOp r ta tb):=by
 intro pins s σ H Q I h
 exact wpAny_BinOp (binT ha hb I h fun v u s2 x y H2 I2 rx ry q=>ho pins s2 σ H2 x y v u Q I2 rx ry q)
theorem yhF {op:UnaryOp} {r:V->Hp->VK->Prop} (ho:UnR X (unaryOp op) r) (ha:PE X a ta):PE X (.UnaryOp op a pos) (tUn r ta):=by
 intro pins s σ H Q I h
 exact UnaryOp_ (thn (ha pins s σ H _ I h) fun v s1 ⟨x,H1,I1,r1,q1⟩=>ho pins s1 σ H1 x v Q I1 r1 q1)
theorem opI {f:Value->Value->Sem Value} {C:Int->Int->Prop} {g:Int->Int->Int}
  (rule:∀ (i j:Int) (t u:Tok) (s:Shared) (Q:Value->Shared->Prop) (E:Value->Shared->Prop),C i j->Q (.int (g i j) s.toks) { s with toks:=s.toks+1 }->wpAny (model X.prog X.w) X.A (f (.int i t) (.int j u)) Q E s) :
  OpR X f (rI C fun i j=>.int (g i j)):=by
 intro pins s σ H x y v u Q I rx ry h
 obtain ⟨i,j,rfl,rfl,hc,q⟩:=h
 obtain ⟨t,rfl⟩:=rx
 obtain ⟨t',rfl⟩:=ry
 exact rule i j t t' s _ _ hc ⟨.int (g i j),H,I.tok _,⟨_,rfl⟩,q⟩
theorem opI0 {f:Value->Value->Sem Value} {g:Int->Int->Int}
  (rule:∀ (i j:Int) (t u:Tok) (s:Shared) (Q:Value->Shared->Prop) (E:Value->Shared->Prop),Q (.int (g i j) s.toks) { s with toks:=s.toks+1 }->wpAny (model X.prog X.w) X.A (f (.int i t) (.int j u)) Q E s) :
  OpR X f (rI0 fun i j=>.int (g i j)):=by
 intro pins s σ H x y v u Q I rx ry h
 obtain ⟨i,j,rfl,rfl,q⟩:=h
 obtain ⟨t,rfl⟩:=rx
 obtain ⟨t',rfl⟩:=ry
 exact rule i j t t' s _ _ ⟨.int (g i j),H,I.tok _,⟨_,rfl⟩,q⟩
theorem opB0 {f:Value->Value->Sem Value} {g:Int->Int->Bool}
  (rule:∀ (i j:Int) (t u:Tok) (s:Shared) (Q:Value->Shared->Prop) (E:Value->Shared->Prop),Q (.bool (g i j)) s->wpAny (model X.prog X.w) X.A (f (.int i t) (.int j u)) Q E s) :
  OpR X f (rI0 fun i j=>.bl (g i j)):=by
 intro pins s σ H x y v u Q I rx ry h
 obtain ⟨i,j,rfl,rfl,q⟩:=h
 obtain ⟨t,rfl⟩:=rx
 obtain ⟨t',rfl⟩:=ry
 exact rule i j t t' s _ _ ⟨.bl (g i j),H,I,rfl,q⟩
def CPow (i j:Int):Prop:=0<=j/\j<=1000000/\i.natAbs<2 ^ 64
def CMul (i j:Int):Prop:=(-(2 ^ 64)<i/\i<2 ^ 64)\/(-(2 ^ 64)<j/\j<2 ^ 64)
theorem CMul.ok {i j:Int} (h:CMul i j):IntMulOk i j:=by
 rcases h with ⟨h1,h2⟩ | ⟨h1,h2⟩
 ·exact .of_left (intBits_le_64 h1 h2)
 ·exact .of_right (intBits_le_64 h1 h2)
theorem op_add:OpR X (binaryOp .Add) (rI0 fun i j=>.int (i+j)):=opI0 fun _ _ _ _ _ _ _ q=>add_int q
theorem ygx:OpR X (binaryOp .Sub) (rI0 fun i j=>.int (i-j)):=opI0 fun _ _ _ _ _ _ _ q=>sub_int q
theorem ygy:OpR X (binaryOp .Mod) (rI (fun _ j=>0<j) fun i j=>.int (i % j)):=opI fun i j _ _ _ _ _ hc q=>by
 have h1:(0:Int)<j:=hc
 exact mod_int' (by omega) (by rw [Int.fmod_eq_emod_of_nonneg i (by omega)];exact q)
theorem ygz:OpR X (binaryOp .Pow) (rI CPow fun i j=>.int (i ^ j.toNat)):=opI fun _ _ _ _ _ _ _ hc q=>pow_int_small hc.1 hc.2.1 hc.2.2 q
theorem unI {f:Value->Sem Value} {g:Int->Int}
  (rule:∀ (i:Int) (t:Tok) (s:Shared) (Q:Value->Shared->Prop) (E:Value->Shared->Prop),Q (.int (g i) s.toks) { s with toks:=s.toks+1 }->wpAny (model X.prog X.w) X.A (f (.int i t)) Q E s) :
  UnR X f (rU fun i=>.int (g i)):=by
 intro pins s σ H x v Q I rx h
 obtain ⟨i,rfl,q⟩:=h
 obtain ⟨t,rfl⟩:=rx
 exact rule i t s _ _ ⟨.int (g i),H,I.tok _,⟨_,rfl⟩,q⟩
theorem ygA:UnR X (unaryOp .USub) (rU fun i=>.int (-i)):=unI fun _ _ _ _ _ q=>neg_int q
end
def scal:V->V->Bool
 | .non,.non=>true | .non,.int _=>true | .int _,.non=>true | .non,.bl _=>true | .bl _,.non=>true | .non,.str _=>true | .str _,.non=>true
 | .int _,.int _=>true | .bl _,.bl _=>true | .str _,.str _=>true | .byt _,.byt _=>true
 | .int _,.str _=>true | .str _,.int _=>true | .bl _,.str _=>true | .str _,.bl _=>true
 | _,_=>false
def rEq:R2:=fun x y H Q=>scal x y=true/\Q (.bl (decide (x=y))) H
def rNe:R2:=fun x y H Q=>scal x y=true/\Q (.bl (!decide (x=y))) H
theorem zfd {i j:Int}:decide (V.int i=V.int j)=(i == j):=by
 rw [Bool.eq_iff_iff]
 simp
theorem yfs {i j:Bool}:decide (V.bl i=V.bl j)=(i == j):=by
 rw [Bool.eq_iff_iff]
 simp
theorem zfe {i j:Str}:decide (V.str i=V.str j)=(i == j):=by
 rw [Bool.eq_iff_iff]
 simp
theorem zff {i j:Array UInt8}:decide (V.byt i=V.byt j)=(i.toList == j.toList):=by
 rw [Bool.eq_iff_iff]
 cases i
 cases j
 simp
section
variable {X:Cx} {a b c:Expr} {ta tb tc:TE} {pos:Pos}
theorem yaK {pins:List (Addr×Obj)} {σ:St} {H:Hp} {s:Shared} {Q:VK} {k k':Bool} (I:Inv X pins σ H s) (q:Q (.bl k) H) (e:k=k'):EP X pins σ Q (.bool k') s:=by
 subst e
 exact ⟨.bl k,H,I,rfl,q⟩
theorem op_eq:OpR X (compareOp .Eq) rEq:=by
 intro pins s σ H x y v u Q I rx ry h
 obtain ⟨hs,q⟩:=h
 cases x with
 | non =>
  cases rx
  cases y with
  | non=>cases ry;exact PySem.EqNone.eq_none_none (yaK I q (by simp))
  | bl j=>cases ry;exact PySem.EqNone.eq_none_bool (yaK I q (by simp))
  | int j=>obtain ⟨t',rfl⟩:=ry;exact PySem.EqNone.eq_none_int (yaK I q (by simp))
  | str j=>obtain ⟨t',rfl⟩:=ry;exact PySem.EqNone.eq_none_str (yaK I q (by simp))
  | _=>exact absurd (show false=true from hs) Bool.false_ne_true
 | bl i =>
  cases rx
  cases y with
  | non=>cases ry;exact PySem.EqNone.eq_bool_none (yaK I q (by simp))
  | bl j=>cases ry;exact eq_bool (yaK I q yfs)
  | str j=>obtain ⟨t',rfl⟩:=ry;exact PySem.EqMixed.eq_bool_str (yaK I q (by simp))
  | _=>exact absurd (show false=true from hs) Bool.false_ne_true
 | int i =>
  obtain ⟨t,rfl⟩:=rx
  cases y with
  | non=>cases ry;exact PySem.EqNone.eq_int_none (yaK I q (by simp))
  | int j=>obtain ⟨t',rfl⟩:=ry;exact eq_int (yaK I q zfd)
  | str j=>obtain ⟨t',rfl⟩:=ry;exact PySem.EqMixed.eq_int_str (yaK I q (by simp))
  | _=>exact absurd (show false=true from hs) Bool.false_ne_true
 | str i =>
  obtain ⟨t,rfl⟩:=rx
  cases y with
  | non=>cases ry;exact PySem.EqNone.eq_str_none (yaK I q (by simp))
  | bl j=>cases ry;exact PySem.EqMixed.eq_str_bool (yaK I q (by simp))
  | int j=>obtain ⟨t',rfl⟩:=ry;exact PySem.EqMixed.eq_str_int (yaK I q (by simp))
  | str j=>obtain ⟨t',rfl⟩:=ry;exact eq_str (yaK I q zfe)
  | _=>exact absurd (show false=true from hs) Bool.false_ne_true
 | byt i =>
  obtain ⟨t,rfl⟩:=rx
  cases y with
  | byt j=>obtain ⟨t',rfl⟩:=ry;exact PySem.W.eq_bytes (yaK I q zff)
  | _=>exact absurd (show false=true from hs) Bool.false_ne_true
 | _=>cases y<;>exact absurd (show false=true from hs) Bool.false_ne_true
theorem op_ne:OpR X (compareOp .NotEq) rNe:=by
 intro pins s σ H x y v u Q I rx ry h
 obtain ⟨hs,q⟩:=h
 cases x with
 | non =>
  cases rx
  cases y with
  | non=>cases ry;exact PySem.EqNone.ne_none_none (yaK I q (by simp))
  | bl j=>cases ry;exact PySem.EqNone.ne_none_bool (yaK I q (by simp))
  | int j=>obtain ⟨t',rfl⟩:=ry;exact PySem.EqNone.ne_none_int (yaK I q (by simp))
  | str j=>obtain ⟨t',rfl⟩:=ry;exact PySem.EqNone.ne_none_str (yaK I q (by simp))
  | _=>exact absurd (show false=true from hs) Bool.false_ne_true
 | bl i =>
  cases rx
  cases y with
  | non=>cases ry;exact PySem.EqNone.ne_bool_none (yaK I q (by simp))
  | bl j=>cases ry;exact ne_bool (yaK I q (congrArg not yfs))
  | str j=>obtain ⟨t',rfl⟩:=ry;exact PySem.EqMixed.ne_bool_str (yaK I q (by simp))
  | _=>exact absurd (show false=true from hs) Bool.false_ne_true
 | int i =>
  obtain ⟨t,rfl⟩:=rx
  cases y with
  | non=>cases ry;exact PySem.EqNone.ne_int_none (yaK I q (by simp))
  | int j=>obtain ⟨t',rfl⟩:=ry;exact ne_int (yaK I q (congrArg not zfd))
  | str j=>obtain ⟨t',rfl⟩:=ry;exact PySem.EqMixed.ne_int_str (yaK I q (by simp))
  | _=>exact absurd (show false=true from hs) Bool.false_ne_true
 | str i =>
  obtain ⟨t,rfl⟩:=rx
  cases y with
  | non=>cases ry;exact PySem.EqNone.ne_str_none (yaK I q (by simp))
  | bl j=>cases ry;exact PySem.EqMixed.ne_str_bool (yaK I q (by simp))
  | int j=>obtain ⟨t',rfl⟩:=ry;exact PySem.EqMixed.ne_str_int (yaK I q (by simp))
  | str j=>obtain ⟨t',rfl⟩:=ry;exact ne_str (yaK I q (congrArg not zfe))
  | _=>exact absurd (show false=true from hs) Bool.false_ne_true
 | byt i =>
  obtain ⟨t,rfl⟩:=rx
  cases y with
  | byt j=>obtain ⟨t',rfl⟩:=ry;exact PySem.W.ne_bytes (yaK I q (congrArg not zff))
  | _=>exact absurd (show false=true from hs) Bool.false_ne_true
 | _=>cases y<;>exact absurd (show false=true from hs) Bool.false_ne_true
theorem op_lt:OpR X (compareOp .Lt) (rI0 fun i j=>.bl (decide (i<j))):=opB0 fun _ _ _ _ _ _ _ q=>lt_int q
theorem op_le:OpR X (compareOp .LtE) (rI0 fun i j=>.bl (decide (i<=j))):=opB0 fun _ _ _ _ _ _ _ q=>le_int q
theorem yhG:OpR X (compareOp .Gt) (rI0 fun i j=>.bl (decide (j<i))):=opB0 fun _ _ _ _ _ _ _ q=>gt_int q
theorem yhH:OpR X (compareOp .GtE) (rI0 fun i j=>.bl (decide (j<=i))):=opB0 fun _ _ _ _ _ _ _ q=>ge_int q
theorem zgA:OpR X (compareOp .Lt) (fun x y H Q=>∃ i j,x = .str i/\y = .str j/\Q (.bl (decide (i.cps.toList<j.cps.toList))) H):=by
 intro pins s σ H x y v u Q I rx ry h
 obtain ⟨i,j,rfl,rfl,q⟩:=h
 obtain ⟨t,rfl⟩:=rx
 obtain ⟨t',rfl⟩:=ry
 exact lt_str (yaK I q rfl)
theorem zgB:OpR X (compareOp .In) (fun x y H Q=>∃ i j,x = .str i/\y = .str j/\Q (.bl (!(Builtin.Str.occurrences j i 0 j.length 1).isEmpty)) H):=by
 intro pins s σ H x y v u Q I rx ry h
 obtain ⟨i,j,rfl,rfl,q⟩:=h
 obtain ⟨t,rfl⟩:=rx
 obtain ⟨t',rfl⟩:=ry
 exact in_str (yaK I q rfl)
theorem OpR.or {f:Value->Value->Sem Value} {r r':R2} (h:OpR X f r) (h':OpR X f r'):OpR X f (fun x y H Q=>r x y H Q\/r' x y H Q):=by
 intro pins s σ H x y v u Q I rx ry q
 rcases q with q | q
 ·exact h pins s σ H x y v u Q I rx ry q
 ·exact h' pins s σ H x y v u Q I rx ry q
theorem yao (b:Expr) {op:CmpOp} (h:op ≠ .In:=by decide) (h2:op ≠ .NotIn:=by decide):behindInMarks op b=false:=by
 have e1:(op == CmpOp.In)=false:=by cases op<;>first | rfl | exact absurd rfl h
 have e2:(op == CmpOp.NotIn)=false:=by cases op<;>first | rfl | exact absurd rfl h2
 cases b<;>simp [behindInMarks,e1,e2]
theorem zir {op:CmpOp} {r:R2} (ho:OpR X (compareOp op) r) (ha:PE X a ta) (hb:PE X b tb) (hm:behindInMarks op b=false):PE X (.Compare a [op] [b] pos) (tOp r ta tb):=by
 intro pins s σ H Q I h
 exact wpAny_Compare1 (binT ha hb I h fun v u s2 x y H2 I2 rx ry q=>ho pins s2 σ H2 x y v u Q I2 rx ry q) hm
def yfg (t:TE):TT:=fun σ H Q=>t σ H fun x H' => ∃ k,x = .bl k/\Q k H'
theorem zis {op:CmpOp} {r:R2} (ho:OpR X (compareOp op) r) (ha:PE X a ta) (hb:PE X b tb) (hm:behindInMarks op b=false):PT X (.Compare a [op] [b] pos) (yfg (tOp r ta tb)):=by
 intro pins s σ H Q I h
 refine wpAny_isTrue_Compare1 (thn (ha pins s σ H _ I h) fun v s1 ⟨x,H1,I1,r1,q1⟩=>thn (hb pins s1 σ H1 _ I1 q1) fun u s2 ⟨y,H2,I2,r2,q2⟩ =>
  thn (ho pins s2 σ H2 x y v u _ I2 r1 r2 q2) fun c s3 ⟨z,H3,I3,r3,k,e,q3⟩=>?_) hm
 subst e
 cases r3
 exact wpAny_truthy_bool ⟨H3,I3,q3⟩
def ye2 (r r':R2) (ta tb tc:TE):TE:=fun σ H Q=>ta σ H fun x H1=>tb σ H1 fun y H2=>r x y H2 fun z H3=>∃ k,z = .bl k /\
 (if k=true then tc σ H3 fun w' H4=>r' y w' H4 Q else Q (.bl false) H3)
theorem zho {op op':CmpOp} {r r':R2} (ho:OpR X (compareOp op) r) (ho':OpR X (compareOp op') r') (ha:PE X a ta) (hb:PE X b tb) (hc:PE X c tc)
  (hm:lastMarks [op,op'] [b,c]=false:=by with_unfolding_all rfl):PE X (.Compare a [op,op'] [b,c] pos) (ye2 r r' ta tb tc):=by
 intro pins s σ H Q I h
 refine Compare_chain (thn (ha pins s σ H _ I h) fun v s1 ⟨x,H1,I1,r1,q1⟩=>chain_link (thn (hb pins s1 σ H1 _ I1 q1) fun u s2 ⟨y,H2,I2,r2,q2⟩ =>
  thn (ho pins s2 σ H2 x y v u _ I2 r1 r2 q2) fun d s3 ⟨z,H3,I3,r3,k,e,q3⟩=>?_)) hm
 subst e
 cases r3
 refine wpAny_truthy_bool ?_
 cases k with
 | false=>exact ite_ff ⟨.bl false,H3,I3,rfl,q3⟩
 | true=>exact ite_tt (chain_last (thn (hc pins s3 σ H3 _ I3 q3) fun w' s4 ⟨z',H4,I4,r4,q4⟩=>ho' pins s4 σ H4 y z' u w' Q I4 r2 r4 q4))
theorem zhp {op op':CmpOp} {r r':R2} (ho:OpR X (compareOp op) r) (ho':OpR X (compareOp op') r') (ha:PE X a ta) (hb:PE X b tb) (hc:PE X c tc)
  (hm:lastMarks [op,op'] [b,c]=false:=by with_unfolding_all rfl):PT X (.Compare a [op,op'] [b,c] pos) (yfg (ye2 r r' ta tb tc)):=by
 intro pins s σ H Q I h
 refine isTrue_chain (thn (ha pins s σ H _ I h) fun v s1 ⟨x,H1,I1,r1,q1⟩=>test_link (thn (hb pins s1 σ H1 _ I1 q1) fun u s2 ⟨y,H2,I2,r2,q2⟩ =>
  thn (ho pins s2 σ H2 x y v u _ I2 r1 r2 q2) fun d s3 ⟨z,H3,I3,r3,k,e,q3⟩=>?_)) hm
 subst e
 cases r3
 refine wpAny_truthy_bool ?_
 cases k with
 | false =>
  obtain ⟨k',e',q'⟩:=q3
  cases e'
  exact ite_ff ⟨H3,I3,q'⟩
 | true =>
  refine ite_tt (test_last (thn (hc pins s3 σ H3 _ I3 q3) fun w' s4 ⟨z',H4,I4,r4,q4⟩=>thn (ho' pins s4 σ H4 y z' u w' _ I4 r2 r4 q4) fun d' s5 ⟨z2,H5,I5,r5,k2,e2,q5⟩=>?_))
  subst e2
  cases r5
  exact wpAny_truthy_bool ⟨H5,I5,q5⟩
def TruV (K:PySem.W.Frag) (x:V) (H:Hp) (k:Bool):Prop :=
 match x with
 | .non=>k=false
 | .bl b=>k=b
 | .int i=>k=(i != 0)
 | .str y=>y.length<=sizeLine/\k=((y.length:Int) != 0)
 | .byt y=>y.size<=sizeLine/\k=((y.size:Int) != 0)
 | .ref p=>(∃ xs,SqL K H p xs/\k = !xs.isEmpty)\/(∃ xs,SqT K H p xs/\k = !xs.isEmpty)\/∃ kvs,H p=some (.dK kvs)/\k = !kvs.isEmpty
 | _=>False
theorem zf1 {κ:Type} {kvs:List (κ×V)} {vs:List (κ×Value)} (r:KV kvs vs):(!vs.isEmpty) = !kvs.isEmpty:=by
 cases r<;>rfl
theorem zcY {xs:List V} {its:List Value} (r:Vals xs its):(!its.toArray.isEmpty) = !xs.isEmpty:=by
 cases r<;>simp
theorem ydi:(sizeLine:Nat)<2 ^ 63:=by rw [sizeLine_eq];decide
theorem ygB:TruR X (fun x H Q=>∃ k,TruV X.K x H k/\Q k H):=by
 intro pins s σ H x v Q I rx h
 obtain ⟨k,e,q⟩:=h
 have hl:=ydi
 have hs:sizeLine=16777216:=sizeLine_eq
 cases x with
 | non =>
  cases rx
  have e':k=false:=e
  subst e'
  exact truthy_none ⟨H,I,q⟩
 | bl b =>
  cases rx
  have e':k=b:=e
  subst e'
  exact wpAny_truthy_bool ⟨H,I,q⟩
 | int i =>
  obtain ⟨t,rfl⟩:=rx
  have e':k=(i != 0):=e
  subst e'
  exact PySem.P.truthy_int ⟨H,I,q⟩
 | str y =>
  obtain ⟨t,rfl⟩:=rx
  obtain ⟨hy,e'⟩:y.length<=sizeLine/\k=((y.length:Int) != 0):=e
  subst e'
  exact PySem.P.truthy_str (by omega) ⟨H,I.tok _,q⟩
 | byt y =>
  obtain ⟨t,rfl⟩:=rx
  obtain ⟨hy,e'⟩:y.size<=sizeLine/\k=((y.size:Int) != 0):=e
  subst e'
  exact PySem.W.truthy_bytes (by omega) ⟨H,I.tok _,q⟩
 | ref p =>
  cases rx
  have e':(∃ xs,SqL X.K H p xs/\k = !xs.isEmpty)\/(∃ xs,SqT X.K H p xs/\k = !xs.isEmpty)\/∃ kvs,H p=some (.dK kvs)/\k = !kvs.isEmpty:=e
  rcases e' with ⟨xs,hx,e'⟩ | ⟨xs,hx,e'⟩ | ⟨kvs,hx,e'⟩
  ·subst e'
   obtain ⟨its,r,pl,hz⟩:=I.list hx
   have hlen:=r.length
   exact wpAny_truthy_list pl.isList (by simp only [List.size_toArray];omega) ⟨H,I.tok _,by rw [zcY r];exact q⟩
  ·subst e'
   obtain ⟨its,r,pl,hz⟩:=I.tuple hx
   have hlen:=r.length
   exact truthy_tuple pl (by simp only [List.size_toArray];omega) ⟨H,I.tok _,by rw [zcY r];exact q⟩
  ·subst e'
   obtain ⟨hz,hS,vs,r,m⟩:kvs.length<=sizeLine/\(p == sysModules)=false/\∃ vs,KV kvs vs/\s.heap.DictOf (ybj X.prog X.w) p vs:=I.hok p _ hx
   have hlen:kvs.length=vs.length:=Paired.length r
   exact wpAny_truthy_dict hS m (by omega) ⟨H,I.tok _,by rw [zf1 r];exact q⟩
 | _=>exact (show False from e).elim
theorem zhq (ha:PE X a ta) (he:∀ whole,isTrue a X.env whole=(do let v <- whole;standAt a.pos;holding [v] (truthy v))) :
  PT X a (fun σ H Q=>ta σ H fun x H' => ∃ k,TruV X.K x H' k/\Q k H'):=by
 intro pins s σ H Q I h
 exact isTrue_plain (thn (ha pins s σ H _ I h) fun v s1 ⟨x,H1,I1,r1,q1⟩=>ygB pins s1 σ H1 x v Q I1 r1 q1) (he _)
theorem zf2:OpR X (binaryOp .Add) (fun x y H Q=>∃ i j,x = .str i/\y = .str j/\i.length+j.length<=sizeLine/\Q (.str (i++j)) H):=by
 intro pins s σ H x y v u Q I rx ry h
 obtain ⟨i,j,rfl,rfl,hz,q⟩:=h
 obtain ⟨t,rfl⟩:=rx
 obtain ⟨t',rfl⟩:=ry
 exact add_str (fun t' tk=>⟨.str (i++j),H,I.tok _,⟨_,rfl⟩,q⟩) hz
theorem ydS {x:V} {us:List Value} (r:Vals [x] us):∃ u,us=[u]/\RelV x u:=by
 cases r with
 | cons r1 r2=>cases r2;exact ⟨_,rfl,r1⟩
theorem yeR {x y:V} {us:List Value} (r:Vals [x,y] us):∃ u w',us=[u,w']/\RelV x u/\RelV y w' := by
 cases r with
 | cons r1 r2 =>
  cases r2 with
  | cons r3 r4=>cases r4;exact ⟨_,_,rfl,r1,r3⟩
theorem zhr:CallR X (.builtin "abs") (fun xs H Q=>∃ i,xs=[.int i]/\Q (.int (if i<0 then -i else i)) H):=by
 intro pins s σ H xs us Q I r h
 obtain ⟨i,rfl,q⟩:=h
 obtain ⟨u,rfl,t,rfl⟩:=ydS r
 exact call_abs_int fun u tk=>⟨.int (if i<0 then -i else i),H,I.tok _,⟨_,rfl⟩,q⟩
theorem zgC (hc:X.calm=true):CallR X (.builtin "max") (fun xs H Q=>∃ i j,xs=[.int i,.int j]/\Q (.int (if j > i then j else i)) H):=by
 intro pins s σ H xs us Q I r h
 obtain ⟨i,j,rfl,q⟩:=h
 obtain ⟨u,w',rfl,⟨t,rfl⟩,⟨t',rfl⟩⟩:=yeR r
 refine max_two_ints (I.ok.hd hc) fun h' tk k=>⟨_,H,I.kept k,?_,q⟩
 by_cases hj:j > i
 ·rw [if_pos hj,if_pos hj];exact ⟨_,rfl⟩
 ·rw [if_neg hj,if_neg hj];exact ⟨_,rfl⟩
theorem zgD (hc:X.calm=true):CallR X (.builtin "min") (fun xs H Q=>∃ i j,xs=[.int i,.int j]/\Q (.int (if j<i then j else i)) H):=by
 intro pins s σ H xs us Q I r h
 obtain ⟨i,j,rfl,q⟩:=h
 obtain ⟨u,w',rfl,⟨t,rfl⟩,⟨t',rfl⟩⟩:=yeR r
 refine min_two_ints (I.ok.hd hc) fun h' tk k=>⟨_,H,I.kept k,?_,q⟩
 by_cases hj:j<i
 ·rw [if_pos hj,if_pos hj];exact ⟨_,rfl⟩
 ·rw [if_neg hj,if_neg hj];exact ⟨_,rfl⟩
end
end L2
namespace L2
open PySem PySem.Spec PyProof.Rows
structure ObjM (h:Heap) (x dx C:Addr) (mA:Str->Option Value):Prop where
 obj:h.get? x=some (PySem.W.instObj C dx)
 ns:h.Ns1 dx mA
 ne:dx≠x
theorem zgE {h:Heap} {dx:Addr} {mA:Str->Option Value} (n:h.Ns1 dx mA):∃ od,h.get? dx=some od/\∀ name,PySem.W.lookIn name od=some (mA name):=by
 obtain ⟨o,es,ep,ho,hd,hk,_,hm⟩:=n
 refine ⟨o,ho,fun name=>?_⟩
 have e:=hm name
 unfold nsFind findBy at e
 rw [<- Array.find?_toList] at e
 unfold PySem.W.lookIn
 rw [hd]
 dsimp only
 split
 ·rename_i y q
  rw [q] at e
  exact congrArg some e
 ·rename_i q
  rw [q] at e
  have a:es.toList.any (·.refKey)=false:=by
   rw [List.any_eq_false]
   intro y hy
   obtain ⟨z,t,hkey⟩:=hk y (Array.mem_toList_iff.mp hy)
   simp [DictEntry.refKey,hkey]
  have a' : ¬ es.toList.any (·.refKey)=true:=by rw [a];exact Bool.false_ne_true
  rw [if_neg a']
  exact congrArg some e
theorem ObjM.look {h:Heap} {x dx C:Addr} {mA:Str->Option Value} (I:ObjM h x dx C mA):∃ od,PySem.W.InstAt h x (PySem.W.instObj C dx) C (some od)/\∀ name,PySem.W.lookIn name od=some (mA name) :=
 let ⟨od,ho,hl⟩:=zgE I.ns
 ⟨od,⟨I.obj,rfl,rfl,ho⟩,hl⟩
section
variable {prog:Program} {w:World} {A:Around} {E:Value->Shared->Prop} {s:Shared} {K:PySem.W.Frag} {x dx C f:Addr} {mA:Str->Option Value} {name:Str} {v:Value}
theorem zit {expr:Bool} {Q:Value->Shared->Prop} (X:K.In s.heap) (I:ObjM s.heap x dx C mA) (hg:PySem.W.plainGet K C name=true) (hh:PySem.W.hasDictIn K C=true)
  (ha:PySem.W.findIn K (.ref C) name=some none) (hv:mA name=some v) (hv':PySem.W.handedIn v=true) (h:Q v { s with toks:=s.toks+1 }) :
  wpAny (model prog w) A (getAttr (.ref x) name expr) Q E s:=by
 obtain ⟨od,J,hl⟩:=I.look
 exact PySem.W.get_value X J (PySem.W.plainGet_of hg).1 (PySem.W.findObj_own hh ha rfl (by rw [hl,hv])) hv' h
theorem zhs {pl:Sem Bool} {Q:Value×List Value->Shared->Prop} (X:K.In s.heap) (I:ObjM s.heap x dx C mA) (hg:PySem.W.plainGet K C name=true)
  (hf:PySem.W.findIn K (.ref C) name=some (some (.ref f))) (ht:PySem.W.isFn K (.ref f)=true) (hv:mA name=none) (h:Q (.ref f,[.ref x]) s) :
  wpAny (model prog w) A (getMethod (.ref x) name pl) Q E s:=by
 obtain ⟨od,J,hl⟩:=I.look
 exact PySem.W.method_fn X J (PySem.W.plainGet_of hg).1 (PySem.W.plainGet_of hg).2 hf (beq_iff_eq.mp ht) (by show (PySem.W.lookIn name od).map (·.isSome)=some false;rw [hl,hv];rfl) h
theorem ziu {ns:List Str} {Q:Unit->Shared->Prop} (X:K.In s.heap) (I:ObjM s.heap x dx C mA)
  (hs:PySem.W.findIn K (.ref C) "__setattr__" = some (some (.builtin "object.__setattr__"))) (hp:PySem.W.plainOver K C=true) (ht:PySem.W.takerIn K C name=some none) (hh:PySem.W.hasDictIn K C=true)
  (hw:PySem.Within mA ns) (hsz:ns.length<=sizeLine)
  (h:∀ h',ObjM h' x dx C (fun y=>if y=name then some v else mA y)->Heap.SameBut dx s.heap h'->Q () { s with heap:=h',toks:=s.toks+2 }) :
  wpAny (model prog w) A (setAttr (.ref x) name v) Q E s:=by
 obtain ⟨od,J,hl⟩:=I.look
 refine PySem.W.set_plain X J hs (PySem.W.osa_open (s:={ s with toks:=s.toks+1 }) (r:=none) X J hp ht fun b=>?_)
 obtain ⟨cd,hc,hd'⟩:=PySem.W.any_some hh
 have hx:s.heap.get? x=some ⟨.ref C,some dx,.plain,#[]⟩:=I.obj
 refine wpAny_bind (wpAny_pure (wpAny_bind (wpAny_bind (wpAny_loadPart hx (wpAny_bind (PySem.W.Looks.here (s:={ s with toks:=s.toks+1 }) (PySem.W.looks_clsIn X hc) ?_))))))
 rw [hd']
 refine wpAny_pure (a:=some dx) (wpAny_bind (wpAny_pure (wpAny_bind ?_)))
 refine wpAny_nsSet1 (s:={ s with toks:=s.toks+1 }) I.ns fun h' hn2 hs2=>?_
 obtain ⟨oD,esD,epD,hoD,hdD,hcD⟩:=hn2.count (PySem.Within.cons name v hw)
 refine wpAny_bind (wpAny_lookBehind hoD (by rw [hdD];exact pastItsLine_dict (Nat.le_trans hcD (by rw [List.length_cons];omega))) ?_)
 exact wpAny_pure (h _ ⟨(hs2.2 _ (Ne.symm I.ne)).trans I.obj,hn2,I.ne⟩ hs2)
theorem zht {R:Result->Shared->Prop} {vs:List Value} {kw:List (Str×Value)} (X:K.In s.heap) (hm:PySem.W.makesIn K C=true)
  (hi:PySem.W.findIn K (.ref C) "__init__" = some (some (.ref f))) (hf:PySem.W.typeIn K (.ref f)=some (.type "function"))
  (h:codeAny (model prog w) (A.under (.builtin "type.__call__" ⟨.ref C::vs,kw⟩)) (.call (.ref f) ⟨.ref (s.heap.objs.size+1)::vs,kw⟩) (PySem.W.InitBack (s.heap.objs.size+1) R)
   { s with heap:=(s.heap.push PySem.W.emptyDict).push (PySem.W.instObj C s.heap.objs.size) }) :
  codeAny (model prog w) A (.call (.ref C) ⟨vs,kw⟩) R s:=by
 obtain ⟨hh,g,d,t,os⟩:=s
 exact PySem.W.make_core (PySem.W.makes_of X hm) (PySem.W.looks_findIn X hi) (fun self=>PySem.W.bind_fn X self hf) (.inl rfl) h
end
def putF (f:Str) (v:V):List (Str×V)->List (Str×V)
 | []=>[(f,v)]
 | (g,x)::r=>if g=f then (g,v)::r else (g,x)::putF f v r
theorem za6 (f g:Str) (v:V):∀ fs:List (Str×V),(putF f v fs).lookup g=if g=f then some v else fs.lookup g
 | []=>by
  show List.lookup g [(f,v)]=_
  by_cases h:g=f
  ·have hb:(g == f)=true:=beq_iff_eq.mpr h
   simp only [List.lookup,hb,if_pos h]
  ·have hb:(g == f)=false:=beq_eq_false_iff_ne.mpr h
   simp only [List.lookup,hb,if_neg h]
 | (k,x)::r=>by
  have ih:=za6 f g v r
  rw [show putF f v ((k,x)::r)=(if k=f then (k,v)::r else (k,x)::putF f v r) from rfl]
  by_cases hk:k=f
  ·rw [if_pos hk]
   by_cases h:g=k
   ·have hb:(g == k)=true:=beq_iff_eq.mpr h
    simp only [List.lookup,hb,if_pos (h.trans hk)]
   ·have hb:(g == k)=false:=beq_eq_false_iff_ne.mpr h
    simp only [List.lookup,hb,if_neg (fun e:g=f=>h (e.trans hk.symm))]
  ·rw [if_neg hk]
   by_cases h:g=k
   ·have hb:(g == k)=true:=beq_iff_eq.mpr h
    simp only [List.lookup,hb,if_neg (fun e:g=f=>hk (h.symm.trans e))]
   ·have hb:(g == k)=false:=beq_eq_false_iff_ne.mpr h
    simp only [List.lookup,hb]
    exact ih
theorem zbW (f:Str) (v:V):∀ fs:List (Str×V),f∈(putF f v fs).map (·.1)/\∀ g,g∈fs.map (·.1)->g∈(putF f v fs).map (·.1)
 | []=>⟨by simp [putF],fun g h=>by simp at h⟩
 | (k,x)::r=>by
  obtain ⟨i1,i2⟩:=zbW f v r
  rw [show putF f v ((k,x)::r)=(if k=f then (k,v)::r else (k,x)::putF f v r) from rfl]
  by_cases hk:k=f
  ·rw [if_pos hk]
   subst hk
   exact ⟨by simp,fun g h=>by simpa using h⟩
  ·rw [if_neg hk]
   refine ⟨?_,fun g h=>?_⟩
   ·rw [List.map_cons]
    exact List.mem_cons_of_mem _ i1
   ·rw [List.map_cons] at h ⊢
    rcases List.mem_cons.mp h with e | e
    ·exact List.mem_cons.mpr (.inl e)
    ·exact List.mem_cons_of_mem _ (i2 g e)
theorem zcr (f:Str) (v:V):∀ fs:List (Str×V),(putF f v fs).length<=fs.length+1
 | []=>by simp [putF]
 | (k,x)::r=>by
  have ih:=zcr f v r
  rw [show putF f v ((k,x)::r)=(if k=f then (k,v)::r else (k,x)::putF f v r) from rfl]
  by_cases hk:k=f
  ·rw [if_pos hk,List.length_cons,List.length_cons];omega
  ·rw [if_neg hk,List.length_cons,List.length_cons];omega
theorem RelO.some_of {v:V} {o:Option Value} (r:RelO (some v) o):∃ u,o=some u/\RelV v u:=by
 cases o with
 | none=>exact (show False from r).elim
 | some u=>exact ⟨u,rfl,r⟩
theorem RelO.none_of {o:Option Value} (r:RelO none o):o=none:=by
 cases o with
 | none=>rfl
 | some u=>exact (show False from r).elim
theorem zgF {v:V} {u:Value} (r:RelV v u):PySem.W.handedIn u=true:=by
 cases v with
 | non=>cases (show u=Value.none from r);rfl
 | bl b=>cases (show u=Value.bool b from r);rfl
 | int i=>obtain ⟨t,e⟩:=(show ∃ t,u=Value.int i t from r);cases e;rfl
 | str x=>obtain ⟨t,e⟩:=(show ∃ t,u=Value.str x t from r);cases e;rfl
 | byt b=>obtain ⟨t,e⟩:=(show ∃ t,u=Value.bytes b t from r);cases e;rfl
 | flt b=>obtain ⟨t,e⟩:=(show ∃ t,u=Value.float b t from r);cases e;rfl
 | ref a=>cases (show u=Value.ref a from r);rfl
 | ty n=>cases (show u=Value.type n from r);rfl
section
variable {P:Program} {w:World} {H H':Hp} {h h':Heap} {a C dx:Addr} {fs fs':List (Str×V)}
theorem zce (hok:HOk P w H h) (e:H a=some (.ins C dx fs)):∃ mA,ObjM h a dx C mA/\(∀ f,RelO (fs.lookup f) (mA f))/\PySem.Within mA (fs.map (·.1))/\fs.length<=1000/\H dx=some (.own a):=by
 obtain ⟨d,z,ne,ob,mA,n,r,q⟩:=(show ObjOk P w H h a (.ins C dx fs) from hok a _ e)
 exact ⟨mA,⟨ob,n,ne⟩,r,q,z,d⟩
end
structure Cls (K:PySem.W.Frag) (C:Addr):Prop where
 pg:PySem.W.plainGet K C Str.empty=true
 hd:PySem.W.hasDictIn K C=true
 po:PySem.W.plainOver K C=true
 sa:PySem.W.findIn K (.ref C) "__setattr__" = some (some (.builtin "object.__setattr__"))
theorem Cls.get {K:PySem.W.Frag} {C:Addr} (c:Cls K C) (f:Str):PySem.W.plainGet K C f=true:=c.pg
def NoAttr (K:PySem.W.Frag) (C:Addr) (f:Str):Prop:=PySem.W.findIn K (.ref C) f=some none
theorem NoAttr.taker {K:PySem.W.Frag} {C:Addr} {f:Str} (n:NoAttr K C f):PySem.W.takerIn K C f=some none:=by
 unfold PySem.W.takerIn
 rw [show PySem.W.findIn K (.ref C) f=some none from n]
 rfl
structure Meth (K:PySem.W.Frag) (C:Addr) (m:Str) (f:Addr):Prop where
 at_:PySem.W.findIn K (.ref C) m=some (some (.ref f))
 fn:PySem.W.isFn K (.ref f)=true
 kp:PySem.W.keepIn K (.ref f)=true
section
variable {X:Cx} {pins:List (Addr×Obj)} {σ:St} {H:Hp} {s:Shared} {a C dx:Addr} {fs:List (Str×V)} {f:Str} {v:V} {A:Around} {E:Value->Shared->Prop}
theorem zf3 {b:Bool} {Q:Value->Shared->Prop} (I:Inv X pins σ H s) (e:H a=some (.ins C dx fs)) (c:Cls X.K C) (n:NoAttr X.K C f) (l:fs.lookup f=some v)
  (h:∀ u s',Inv X pins σ H s'->RelV v u->Q u s'):wpAny (model X.prog X.w) A (getAttr (.ref a) f b) Q E s:=by
 obtain ⟨mA,O,r,_,_,_⟩:=zce I.hok e
 obtain ⟨u,hu,ru⟩:=RelO.some_of (v:=v) (o:=mA f) (by rw [<- l];exact r f)
 exact zit I.kIn O (c.get f) c.hd n hu (zgF ru) (h u _ (I.tok _) ru)
theorem zcZ {m:Str} {g:Addr} {pl:Sem Bool} {Q:Value×List Value->Shared->Prop} (I:Inv X pins σ H s) (e:H a=some (.ins C dx fs)) (c:Cls X.K C) (k:Meth X.K C m g) (l:fs.lookup m=none)
  (h:Q (.ref g,[.ref a]) s):wpAny (model X.prog X.w) A (getMethod (.ref a) m pl) Q E s:=by
 obtain ⟨mA,O,r,_,_,_⟩:=zce I.hok e
 have hn:mA m=none:=RelO.none_of (by rw [<- l];exact r m)
 exact zhs I.kIn O (c.get m) k.at_ k.fn hn h
theorem zf4 {y:V} {u:Value} {Q:Unit->Shared->Prop} (I:Inv X pins σ H s) (e:H a=some (.ins C dx fs)) (c:Cls X.K C) (n:NoAttr X.K C f) (hl:fs.length<1000) (ry:RelV y u)
  (h:∀ s',Inv X pins σ (upd H a (.ins C dx (putF f y fs))) s'->Q () s'):wpAny (model X.prog X.w) A (setAttr (.ref a) f u) Q E s:=by
 obtain ⟨mA,O,r,wi,_,ho⟩:=zce I.hok e
 have hz:(fs.map (·.1)).length<=sizeLine:=by rw [List.length_map,sizeLine_eq];omega
 refine ziu I.kIn O c.sa c.po n.taker c.hd wi hz fun h' O' sb=>h _ ?_
 have hd:∃ o,h'.get? dx=some o:=let ⟨o,_,_,e',_⟩:=O'.ns;⟨o,e'⟩
 refine I.write (x:=a) (e:=dx) (by rw [e];exact True.intro) (.inr ho) (fun b q hb z=>(sb.2 b hb).trans z) hd ?_
 refine ⟨by rw [yay O.ne];exact ho,?_,O.ne,O'.obj,_,O'.ns,fun g=>?_,fun g hg=>?_⟩
 ·have:=zcr f y fs;omega
 ·show RelO ((putF f y fs).lookup g) (if g=f then some u else mA g)
  rw [za6]
  by_cases q:g=f
  ·rw [if_pos q,if_pos q];exact ry
  ·rw [if_neg q,if_neg q];exact r g
 ·by_cases q:g=f
  ·rw [q];exact (zbW f y fs).1
  ·refine (zbW f y fs).2 g (wi g fun z=>hg ?_)
   show (if g=f then some u else mA g)=none
   rw [if_neg q];exact z
theorem Inv.made (I:Inv X pins σ H s):Inv X pins σ (upd (upd H s.heap.objs.size (.own (s.heap.objs.size+1))) (s.heap.objs.size+1) (.ins C s.heap.objs.size []))
  { s with heap:=(s.heap.push PySem.W.emptyDict).push (PySem.W.instObj C s.heap.objs.size) }:=by
 have e1:(s.heap.push PySem.W.emptyDict).get? s.heap.objs.size=some PySem.W.emptyDict:=Heap.get?_push_size s.heap rfl
 have e2:((s.heap.push PySem.W.emptyDict).push (PySem.W.instObj C s.heap.objs.size)).get? (s.heap.objs.size+1)=some (PySem.W.instObj C s.heap.objs.size):=by
  have:=Heap.get?_push_size (s.heap.push PySem.W.emptyDict) (o:=PySem.W.instObj C s.heap.objs.size) rfl
  rwa [Heap.size_push] at this
 have e3:(s.heap.push PySem.W.emptyDict).Ns s.heap.objs.size (fun _=>none):=⟨PySem.W.emptyDict,#[],_,e1,rfl,(fun e he=>absurd he (by simp)),fun _=>rfl⟩
 have I1:=I.laid (a:=s.heap.objs.size) (o:=.own (s.heap.objs.size+1)) (h' := s.heap.push PySem.W.emptyDict) (t' := s.toks) (fun b u q=>Heap.get?_push_of_some _ q) (Nat.le_refl _) ⟨_,e1⟩
 refine I1.laid (a:=s.heap.objs.size+1) (o:=.ins C s.heap.objs.size []) (t' := s.toks) (fun b u q=>Heap.get?_push_of_some _ q) (Nat.le_of_eq (Heap.size_push _ _)) ?_
 have ne:s.heap.objs.size≠s.heap.objs.size+1:=Nat.ne_of_lt (Nat.lt_succ_self _)
 refine ⟨by rw [yay ne,zas],Nat.zero_le _,ne,e2,fun _=>none,(Heap.Ns1.of_empty e3).at fun o q=>Heap.get?_push_of_some _ q,fun _=>True.intro,fun y hy=>absurd rfl hy⟩
theorem ziv {prog:Program} {w:World} {env:Env} {e:Expr} {f:Str} {pos:Pos} {s:Shared} {Q:Value->Shared->Prop} (hb:attributeBase e f env (eval e env)=eval e env)
  (h:wpAny (model prog w) A (eval e env) (fun o s₁=>wpAny (model prog w) A (getAttr o f true) Q E s₁) E s):wpAny (model prog w) A (eval (.Attribute e f pos) env) Q E s :=
 Attribute_any_ h (by rw [arm_eval_Attribute,hb])
end
def tFld (K:PySem.W.Frag) (ta:TE) (f:Str):TE:=fun σ H Q=>ta σ H fun x H1=>∃ a C dx fs v,x = .ref a/\H1 a=some (.ins C dx fs)/\Cls K C/\NoAttr K C f/\fs.lookup f=some v/\Q v H1
def sFld (K:PySem.W.Frag) (ta tv:TE) (f:Str):TS:=fun D σ H=>tv σ H fun y H1=>ta σ H1 fun x H2=>∃ a C dx fs,x = .ref a/\H2 a=some (.ins C dx fs)/\Cls K C/\NoAttr K C f/\fs.length<1000 /\
 D.nx σ (upd H2 a (.ins C dx (putF f y fs)))
section
variable {X:Cx} {o e value:Expr} {f:Str} {pos pos' tpos:Pos} {ta tv:TE}
theorem ygC (he:PE X e ta) (hb:attributeBase e f X.env (eval e X.env)=eval e X.env):PE X (.Attribute e f pos) (tFld X.K ta f):=by
 intro pins s σ H Q I h
 refine ziv hb (thn (he pins s σ H _ I h) fun u s1 ⟨x,H1,I1,rx,a,C,dx,fs,v,ex,ea,c,n,l,q⟩=>?_)
 subst ex
 obtain rfl:u=Value.ref a:=rx
 exact zf3 I1 ea c n l fun u' s2 I2 ru=>⟨v,H1,I2,ru,q⟩
theorem ygD (ha:PE X o ta) (hv:PE X value tv) (hs:swapsWith value (some (.Attribute o f pos')) pos.line X.env=pure false):PS X (.Assign [.Attribute o f pos'] value pos) (sFld X.K ta tv f):=by
 intro pins s σ H D I h
 refine plainObj_wpAny_Assign_Attribute (thn (hv pins s σ H _ I h) fun u s1 ⟨y,H1,I1,ry,q⟩=>thn (ha pins s1 σ H1 _ I1 q) fun ov s2 ⟨x,H2,I2,rx,a,C,dx,fs,ex,ea,c,n,l,q2⟩=>?_) hs
 subst ex
 obtain rfl:ov=Value.ref a:=rx
 exact zf4 I2 ea c n l ry fun s3 I3=>⟨σ,_,I3,q2⟩
end
section
variable {X:Cx} {pins:List (Addr×Obj)} {σ:St} {H:Hp} {s:Shared} {A:Around} {E:Value->Shared->Prop} {Q:Value->Shared->Prop} {c:Value} {b:Bool}
inductive TyOf (K:PySem.W.Frag) (H:Hp):V->Value->Prop where
 | non:TyOf K H .non (.type "NoneType")
 | bl (x:Bool):TyOf K H (.bl x) (.type "bool")
 | int (i:Int):TyOf K H (.int i) (.type "int")
 | str (x:Str):TyOf K H (.str x) (.type "str")
 | flt (x:UInt64):TyOf K H (.flt x) (.type "float")
 | lst {a:Addr} {xs:List V} (e:H a=some (.lst xs)):TyOf K H (.ref a) (.type "list")
 | frz {a:Addr} {o:Obj} {xs:List V} (e:H a=some (.frz o (.lst xs))):TyOf K H (.ref a) (.type "list")
 | tup {a:Addr} {xs:List V} (e:H a=some (.tup xs)):TyOf K H (.ref a) (.type "tuple")
 | dK {a:Addr} {kvs:List (Key×V)} (e:H a=some (.dK kvs)):TyOf K H (.ref a) (.type "dict")
 | dT {a:Addr} {kvs:List (List Key×V)} (e:H a=some (.dT kvs)):TyOf K H (.ref a) (.type "dict")
 | ins {a C dx:Addr} {fs:List (Str×V)} (e:H a=some (.ins C dx fs)) (cl:Cls K C) (ha:PySem.W.findIn K (.ref C) "__class__" = some (some (.builtin "object.__class__")))
   (hn:PySem.W.specialIn K (.builtin "object.__class__") "__get__" = some (some (.builtin "getset_descriptor.__get__"))) (htk:PySem.W.takesIn K (.builtin "object.__class__")=some true)
   (hm:PySem.W.mroIn K C (.type "object")=some true):TyOf K H (.ref a) (.ref C)
theorem zgG {x:V} {u t:Value} (I:Inv X pins σ H s) (rx:RelV x u) (ty:TyOf X.K H x t) (e:PySem.W.kitOne X.K t c=some b) (h:∀ tk,Q (.bool b) { s with toks:=tk }) :
  wpAny (model X.prog X.w) A (call (.builtin "isinstance") [u,c]) Q E s:=by
 cases ty with
 | non=>cases (show u=Value.none from rx);exact PySem.W.kia_one PySem.W.kitx_none I.kIn True.intro e (fun z=>nomatch z) h
 | bl y=>cases (show u=Value.bool y from rx);exact PySem.W.kia_one PySem.W.kitx_bool I.kIn True.intro e (fun z=>nomatch z) h
 | int i=>obtain ⟨t,q⟩:=(show ∃ t,u=Value.int i t from rx);cases q;exact PySem.W.kia_one PySem.W.kitx_int I.kIn True.intro e (fun z=>nomatch z) h
 | str y=>obtain ⟨t,q⟩:=(show ∃ t,u=Value.str y t from rx);cases q;exact PySem.W.kia_one PySem.W.kitx_str I.kIn True.intro e (fun z=>nomatch z) h
 | flt y=>obtain ⟨t,q⟩:=(show ∃ t,u=Value.float y t from rx);cases q;exact PySem.W.kia_one PySem.W.kitx_float I.kIn True.intro e (fun z=>nomatch z) h
 | @lst a xs ea =>
  cases (show u=Value.ref a from rx)
  obtain ⟨_,_,n,_,h1⟩:=(show ObjOk X.prog X.w H s.heap a (.lst xs) from I.hok a _ ea)
  exact PySem.W.kia_one PySem.W.kitx_list I.kIn ⟨_,h1,rfl⟩ e (fun z=>nomatch z) h
 | @frz a ob xs ea =>
  cases (show u=Value.ref a from rx)
  obtain ⟨_,_,_,n,_,h1⟩:=(show ObjOk X.prog X.w H s.heap a (.frz ob (.lst xs)) from I.hok a _ ea)
  exact PySem.W.kia_one PySem.W.kitx_list I.kIn ⟨_,h1,rfl⟩ e (fun z=>nomatch z) h
 | @tup a xs ea =>
  cases (show u=Value.ref a from rx)
  obtain ⟨_,_,_,p⟩:=(show ObjOk X.prog X.w H s.heap a (.tup xs) from I.hok a _ ea)
  obtain ⟨o,h1,h2,_⟩:=p
  exact PySem.W.kia_one PySem.W.kitx_tuple I.kIn ⟨o,h1,h2⟩ e (fun z=>nomatch z) h
 | @dK a kvs ea =>
  cases (show u=Value.ref a from rx)
  obtain ⟨_,_,vs,_,p⟩:=(show ObjOk X.prog X.w H s.heap a (.dK kvs) from I.hok a _ ea)
  obtain ⟨o,es,ep,h1,h2,_⟩:=p
  exact PySem.W.kia_one PySem.W.kitx_dict I.kIn ⟨o,h1,h2.1⟩ e (fun z=>nomatch z) h
 | @dT a kvs ea =>
  cases (show u=Value.ref a from rx)
  obtain ⟨_,_,xs,_,o,es,ep,h1,h2,_⟩:=(show ObjOk X.prog X.w H s.heap a (.dT kvs) from I.hok a _ ea)
  exact PySem.W.kia_one PySem.W.kitx_dict I.kIn ⟨o,h1,h2.1⟩ e (fun z=>nomatch z) h
 | @ins a C dx fs ea cl ha hn htk hm =>
  cases (show u=Value.ref a from rx)
  obtain ⟨mA,O,_⟩:=zce I.hok ea
  obtain ⟨od,J,_⟩:=O.look
  exact PySem.W.kia_one (PySem.W.kitx_own (cl.get _) cl.hd ha hn htk hm) I.kIn J e (fun z=>nomatch z) h
end
end L2
namespace L2
open PySem PySem.Spec PyProof.Rows
structure Room (k:Nat) (A:Around):Prop where
 hd:A.handled=none
 dp:A.depth+3*k+5<recursionLimit
 un:A.units+16*k+200<cLine
theorem Room.mono {j k:Nat} {A:Around} (r:Room k A) (h:j<=k):Room j A:=⟨r.hd,by have:=r.dp;omega,by have:=r.un;omega⟩
theorem Room.deeper {k:Nat} {A:Around} (r:Room (k+1) A) (env:Env):Room k (A.deeper env) :=
 ⟨r.hd,by have:=r.dp;show A.depth+1+3*k+5<_;omega,by have:=r.un;show A.units+3+16*k+200<_;omega⟩
theorem zf5 {A:Around} {C:Addr} {us:List Value} {kw:List (Str×Value)}:(A.under (.builtin "type.__call__" ⟨.ref C::us,kw⟩)).depth=A.depth+1:=by
 first | rfl | simp [Around.under,Code.weight,Code.isCreation,Code.isGuard,Code.isCaller,Code.frames,Code.isFrame,guardIds]
theorem zf6 {A:Around} {C:Addr} {us:List Value} {kw:List (Str×Value)}:(A.under (.builtin "type.__call__" ⟨.ref C::us,kw⟩)).units=A.units+1:=by
 first | rfl | simp [Around.under,Code.cUnits,Code.frames,Code.isFrame]
theorem Room.make {k:Nat} {A:Around} (r:Room (k+1) A) (C:Addr) (us:List Value) (kw:List (Str×Value)):Room k (A.under (.builtin "type.__call__" ⟨.ref C::us,kw⟩)) :=
 ⟨r.hd,by have:=r.dp;rw [zf5];omega,by have:=r.un;rw [zf6];omega⟩
theorem Room.depth {k:Nat} {A:Around} (r:Room k A):A.depth<recursionLimit:=by have:=r.dp;omega
def tNil:TA:=fun _ H Q=>Q [] H
def yhI (ta:TE) (tr:TA):TA:=fun σ H Q=>ta σ H fun x H1=>tr σ H1 fun xs H2=>Q (x::xs) H2
section
variable {X:Cx} {e:Expr} {es:List Expr} {te:TE} {t:TA} {pos:Pos}
theorem yft:PA X [] tNil:=fun _ _ _ _ H Q I h=>Calls.spliced_nil ⟨[],H,I,.nil,h⟩
theorem zdd (ha:PE X e te) (hr:PA X es t) (hs:starEach (e::es) X.env=(false,eval e X.env)::starEach es X.env:=by rfl):PA X (e::es) (yhI te t):=by
 intro pos pins s σ H Q I h
 rw [hs]
 show wpAny _ _ (spliced ((false,eval e X.env)::backTo pos (starEach es X.env))) _ _ s
 refine Calls.spliced_cons (thn (ha pins s σ H _ I h) fun u s1 ⟨x,H1,I1,r1,q1⟩=>?_)
 exact thn (hr pos pins s1 σ H1 _ I1 q1) fun us s2 ⟨xs,H2,I2,r2,q2⟩=>⟨x::xs,H2,I2,.cons r1 r2,q2⟩
def tTup (t:TA):TE:=fun σ H Q=>t σ H fun xs H1=>xs.length<=sizeLine/\∀ p,H1 p=none->Q (.ref p) (upd H1 p (.tup xs))
def tLst (t:TA):TE:=fun σ H Q=>t σ H fun xs H1=>xs.length<=sizeLine/\∀ p,H1 p=none->Q (.ref p) (upd H1 p (.lst xs))
theorem ygE {x1} (h:PA X es t):PE X (.Tuple es x1 pos) (tTup t):=by
 intro pins s σ H Q I hq
 refine wpAny_Tuple_spliced (thn (h pos pins s σ H _ I hq) fun us s1 ⟨xs,H1,I1,r,z,q⟩=>⟨by rw [<- r.length];exact z,?_⟩)
 have hf:H1 s1.heap.objs.size=none:=I1.hok.fresh (Nat.le_refl _)
 refine ⟨.ref s1.heap.objs.size,upd H1 s1.heap.objs.size (.tup xs),I1.laid (t' := s1.toks) (fun b u e=>Heap.get?_push_of_some _ e) (Nat.le_refl _) ?_,rfl,q _ hf⟩
 exact ⟨z,us,r,⟨_,Heap.get?_push_size _ rfl,rfl,_,rfl⟩⟩
theorem yfu (h:PA X es t):PE X (.List es pos) (tLst t):=by
 intro pins s σ H Q I hq
 refine wpAny_List_spliced (thn (h pos pins s σ H _ I hq) fun us s1 ⟨xs,H1,I1,r,z,q⟩=>⟨by rw [<- r.length];exact z,?_⟩)
 have hf:H1 s1.heap.objs.size=none:=I1.hok.fresh (Nat.le_refl _)
 refine ⟨.ref s1.heap.objs.size,upd H1 s1.heap.objs.size (.lst xs),I1.laid (t' := s1.toks) (fun b u e=>Heap.get?_push_of_some _ e) (Nat.le_refl _) ?_,rfl,q _ hf⟩
 exact ⟨z,us,0,r,Heap.get?_push_size _ rfl⟩
end
abbrev Sp:=List V->Hp->VK->XK->Prop
abbrev CXT:=List Env->Hp->Shared->XK->Value->Shared->Prop
structure Env0 (P:Program) (w:World) (K:PySem.W.Frag) (mg:Str->Option Value) (base:Heap) (A:Around) (outer:List Env) (s:Shared) (H:Hp):Prop where
 frames:A.frames=some outer
 mod:Mod K mg base
 bs:∀ b o,base.get? b=some o->s.heap.get? b=some o/\H b=none
 bsz:base.objs.size<=s.heap.objs.size
 funs:s.heap.FunFrames base outer
 frf:∀ b∈frs outer,H b=none
 hok:HOk P w H s.heap
 bare:AllBare s.gens
def CE (outer:List Env) (P:Program) (w:World) (H:Hp) (s:Shared) (Q:VK) (u:Value) (s':Shared):Prop :=
 ∃ v H',s'.os=s.os/\AllBare s'.gens/\Un (frs outer) [] H H' s.heap s'.heap/\HOk P w H' s'.heap/\RelV v u/\Q v H'
def CR (CX:CXT) (outer:List Env) (P:Program) (w:World) (H:Hp) (s:Shared) (Q:VK) (E:XK) (r:Result) (s':Shared):Prop :=
 match r with
 | .ok (.ret u)=>CE outer P w H s Q u s'
 | .ok _=>False
 | .error e=>CX outer H s E e s'
structure FnOk (P:Program) (w:World) (K:PySem.W.Frag) (mg:Str->Option Value) (base:Heap) (CX:CXT) (k:Nat) (f:Addr) (fd:FuncData) (ps:List Str) (sp:Sp):Prop where
 len:∀ vs H Q E,sp vs H Q E->vs.length=ps.length
 run:∀ (A:Around) (outer:List Env) (s:Shared) (H:Hp) (args:Args) (us:List Value) (vs:List V) (Q:VK) (E:XK),Room k A->Env0 P w K mg base A outer s H->BindsTo s fd args (ps.zip us)->Vals vs us->sp vs H Q E ->
  codeAny (model P w) A (.call (.ref f) args) (CR CX outer P w H s Q E) s
theorem FnOk.imp {P:Program} {w:World} {K:PySem.W.Frag} {mg:Str->Option Value} {base:Heap} {CX:CXT} {k:Nat} {f:Addr} {fd:FuncData} {ps:List Str} {sp sp':Sp} (F:FnOk P w K mg base CX k f fd ps sp)
  (h:∀ vs H Q E,sp' vs H Q E->sp vs H Q E):FnOk P w K mg base CX k f fd ps sp' :=
 ⟨fun vs H Q E q=>F.len vs H Q E (h _ _ _ _ q),fun A outer s H args us vs Q E hr he hb hv hs=>F.run A outer s H args us vs Q E hr he hb hv (h _ _ _ _ hs)⟩
theorem Env0.make {P:Program} {w:World} {K:PySem.W.Frag} {mg:Str->Option Value} {base:Heap} {A:Around} {outer:List Env} {s:Shared} {H:Hp} (e:Env0 P w K mg base A outer s H) (C:Addr) (us:List Value) (kw:List (Str×Value)) :
  Env0 P w K mg base (A.under (.builtin "type.__call__" ⟨.ref C::us,kw⟩)) outer s H:=⟨by first | exact e.frames | (simpa [Around.under,Code.envs,Code.isFrame,pushEnvs] using e.frames),e.mod,e.bs,e.bsz,e.funs,e.frf,e.hok,e.bare⟩
section
variable {X:Cx} {pins:List (Addr×Obj)} {σ:St} {H:Hp} {s s':Shared}
theorem Inv.env0 (I:Inv X pins σ H s):Env0 X.prog X.w X.K X.mg X.base X.A X.stack s H :=
 ⟨I.ok.frames,I.ok.mod,I.bs,Nat.le_trans I.ok.bsz I.sz,I.stack,I.stkFree,I.hok,I.bare⟩
theorem Inv.after {Q:VK} {u:Value} (I:Inv X pins σ H s) (h:CE X.stack X.prog X.w H s Q u s'):EP X pins σ Q u s' := by
 obtain ⟨v,H',os,bare,un,hok,r,q⟩:=h
 obtain ⟨hh,g,d,t,os'⟩:=s'
 obtain rfl:os'=s.os:=os
 exact ⟨v,H',I.call (h' := hh) (g' := g) (d' := d) (t' := t) (ch:=[]) un hok bare (fun b z=>absurd z (by simp)),r,q⟩
end
def Binds (K:PySem.W.Frag) (fd:FuncData) (ps:List Str) (ds:List Value):Prop :=
 ∀ (s:Shared) (us:List Value),K.In s.heap->(us++ds).length=ps.length->BindsTo s fd ⟨us,[]⟩ (ps.zip (us++ds))
theorem Binds.all {K:PySem.W.Frag} {fd:FuncData} {ps:List Str} (h:∀ us:List Value,us.length=ps.length->bindArgs fd ⟨us,[]⟩=pure (ps.zip us)):Binds K fd ps []:=fun s us _ hl=>by
 rw [List.append_nil] at hl ⊢
 exact .of_eq (h us hl)
def ygF (CX:CXT) (X:Cx) (E:XK):Prop:=∀ (pins:List (Addr×Obj)) (σ:St) (H:Hp) (s:Shared) (e:Value) (s':Shared),Inv X pins σ H s->CX X.stack H s E e s'->X.xe e s'
section
variable {X:Cx} {CX:CXT} {k:Nat} {f C:Addr} {fd:FuncData} {ps:List Str} {sp:Sp} {dvs:List V} {ds:List Value} {E:XK} {x m:Str} {p pos apos:Pos} {e o:Expr} {es:List Expr} {ta:TE} {t:TA}
structure Mk (K:PySem.W.Frag) (C f:Addr):Prop where
 makes:PySem.W.makesIn K C=true
 init:PySem.W.findIn K (.ref C) "__init__" = some (some (.ref f))
 fn:PySem.W.isFn K (.ref f)=true
 kp:PySem.W.keepIn K (.ref C)=true
end
section
variable {X:Cx} {CX:CXT} {k:Nat} {f C:Addr} {fd:FuncData} {ps ks:List Str} {sp:Sp} {E:XK} {x m:Str} {p pos apos kpos:Pos} {e o:Expr} {es:List Expr} {kws:List Keyword} {te ta:TE} {t tk:TA} {nm:Option Str}
variable {g:List Value->List Value->List Value} {gV:List V->List V->List V}
end
structure FnScope (N P:List Str) (sc:Scope):Prop where
 kind:sc.kind = .function
 co:sc.isCoroutine=false
 gen:sc.isGenerator=false
 nd:N.Nodup
 pre:N.take P.length=P
 par:∀ x∈P,sc.names.lookup x=some .local\/sc.names.lookup x=some .cell
 nofree:∀ y∈sc.names,y.2 ≠ .free
theorem zdD {kindOf:Str->Option NameKind} {x:Str}:∀ {binds:List (Str×Value)} {m:Str->Option Value},(∀ v,(x,v)∉binds)->bindL kindOf binds m x=m x
 | [],_,_=>rfl
 | (n,v)::r,m,h=>by
  unfold bindL
  rw [zdD fun w hw=>h w (List.mem_cons_of_mem _ hw)]
  split
  ·have:x≠n:=by rintro rfl;exact h v List.mem_cons_self
   simp [this]
  ·rfl
theorem zdE {kindOf:Str->Option NameKind} {x:Str}:∀ {binds:List (Str×Value)} {m:Str->Option Value},(∀ v,(x,v)∉binds)->bindC kindOf binds m x=m x
 | [],_,_=>rfl
 | (n,v)::r,m,h=>by
  unfold bindC
  rw [zdE fun w hw=>h w (List.mem_cons_of_mem _ hw)]
  split
  ·rfl
  ·have:x≠n:=by rintro rfl;exact h v List.mem_cons_self
   simp [this]
theorem zdF {kindOf:Str->Option NameKind} {x:Str} {v:Value}:∀ {P:List Str} {vs:List Value} {i:Nat} {m:Str->Option Value},P.Nodup->P[i]? = some x->vs[i]? = some v->kindOf x=some .local ->
  bindL kindOf (P.zip vs) m x=some v
 | [],_,_,_,_,h,_,_=>by simp at h
 | _::_,[],_,_,_,_,h,_=>by simp at h
 | p::P,w::vs,0,m,nd,h1,h2,hk=>by
  simp at h1 h2;subst h1;subst h2
  show bindL kindOf ((p,w)::P.zip vs) m p=_
  unfold bindL
  rw [zdD fun v hv=>(List.nodup_cons.mp nd).1 (List.of_mem_zip hv).1,if_pos hk]
  simp
 | p::P,w::vs,i+1,m,nd,h1,h2,hk=>by
  show bindL kindOf ((p,w)::P.zip vs) m x=_
  unfold bindL
  exact zdF (i:=i) (List.nodup_cons.mp nd).2 (by simpa using h1) (by simpa using h2) hk
theorem zdG {kindOf:Str->Option NameKind} {x:Str} {v:Value}:∀ {P:List Str} {vs:List Value} {i:Nat} {m:Str->Option Value},P.Nodup->P[i]? = some x->vs[i]? = some v->kindOf x≠some .local ->
  bindC kindOf (P.zip vs) m x=some v
 | [],_,_,_,_,h,_,_=>by simp at h
 | _::_,[],_,_,_,_,h,_=>by simp at h
 | p::P,w::vs,0,m,nd,h1,h2,hk=>by
  simp at h1 h2;subst h1;subst h2
  show bindC kindOf ((p,w)::P.zip vs) m p=_
  unfold bindC
  rw [zdE fun v hv=>(List.nodup_cons.mp nd).1 (List.of_mem_zip hv).1,if_neg hk]
  simp
 | p::P,w::vs,i+1,m,nd,h1,h2,hk=>by
  show bindC kindOf ((p,w)::P.zip vs) m x=_
  unfold bindC
  exact zdG (i:=i) (List.nodup_cons.mp nd).2 (by simpa using h1) (by simpa using h2) hk
def start (N:List Str) (vs:List V):St:=vs.map some++List.replicate (N.length-vs.length) none
def cxOf (CX:CXT) (P:Program) (w:World) (K:PySem.W.Frag) (mg:Str->Option Value) (base:Heap) (N:List Str) (qual:Str) (scope:Scope) (f:Addr) (cd:Value) (A:Around) (outer:List Env) (s:Shared) (H:Hp) (E:XK):Cx where
 prog:=P
 w:=w
 K:=K
 mg:=mg
 base:=base
 A:=A.deeper (envOfC qual scope s.heap.objs.size f cd)
 N:=N
 s₀:=s
 H₀:=H
 env:=envOfC qual scope s.heap.objs.size f cd
 outer:=outer
 stack:=envOfC qual scope s.heap.objs.size f cd::outer
 ex:=[]
 calm:=true
 fn:=fun _=>true
 pn:=[]
 xe:=fun e s' => wpAny (model P w) (A.deeper (envOfC qual scope s.heap.objs.size f cd)) (leaving (envOfC qual scope s.heap.objs.size f cd) e) (fun _ s'' => CX outer H s E e s'') (fun e' s'' => CX outer H s E e' s'') s'
theorem zec {sc:Scope} {n:Nat} {x:Str} (h:sc.names.lookup x=some .cell):∃ c,(cellsFrom n sc.names []).lookup x=some c:=by
 have q:=PySem.W.cellsFrom_some sc.names n [] (.inl h)
 exact Option.isSome_iff_exists.mp q
theorem zgH {CX:CXT} {P:Program} {w:World} {K:PySem.W.Frag} {mg:Str->Option Value} {base:Heap} {N ps:List Str} {qual:Str} {scope:Scope} {f:Addr} {cd:Value} {A:Around} {outer:List Env} {s s1:Shared} {H:Hp} {E:XK} {us:List Value} {vs:List V}
  (S:FnScope N ps scope) (hd:A.handled=none) (e0:Env0 P w K mg base A outer s H) (hl:vs.length=ps.length) (r:Vals vs us)
  (x:InCallC s s.heap.objs.size (bindL (envOfC qual scope s.heap.objs.size f cd).kindOf (ps.zip us) fun _=>none) (cellsFrom (s.heap.objs.size+1) scope.names []) (bindC (envOfC qual scope s.heap.objs.size f cd).kindOf (ps.zip us) fun _=>none) s1) :
  Inv (cxOf CX P w K mg base N qual scope f cd A outer s H E) [] (start N vs) H s1:=by
 have hpl:ps.length<=N.length:=by have:=congrArg List.length S.pre;rw [List.length_take] at this;omega
 obtain ⟨h1,tk,rfl,hk⟩:=x.done
 have noA:∀ b:Addr,b∉(cxOf CX P w K mg base N qual scope f cd A outer s H E).ex:=fun b z=>absurd (show b∈([]:List Addr) from z) (by simp)
 refine ⟨⟨e0.mod,S.kind,rfl,rfl,Nat.le_refl _,fun y z c h1 h2=>?_,fun y hy=>?_,fun y c _ h=>?_,fun _=>hd,Around.frames_deeper e0.frames,.inr ⟨rfl,rfl⟩,fun b z=>absurd z (noA b),e0.bs,e0.bsz,fun b _ _=>noA b,fun b z=>absurd z (noA b),e0.funs,e0.frf⟩,
  rfl,e0.bare,Un.kept hk,⟨_,x.toInCall.ns,fun i y v h1 h2 h3=>?_⟩,fun y c h=>⟨_,x.cell y c h⟩,e0.hok.fresh (Nat.le_refl _),fun y c h=>?_,fun p hp=>absurd (show p∈([]:List (Addr×Obj)) from hp) (by simp),e0.hok.kept hk,?_⟩
 ·exact name_of_addr x.apart (PySem.mem_of_lookup h1) (PySem.mem_of_lookup h2)
 ·have hy:scope.names.lookup y=some .cell\/scope.names.lookup y=some .free:=hy
  rcases hy with hy | hy
  ·exact zec hy
  ·exact absurd rfl (S.nofree _ (PySem.mem_of_lookup hy))
 ·exact Nat.le_of_lt (x.above y c (PySem.mem_of_lookup h))
 ·have hi:i<vs.length:=by
   unfold start at h2
   by_cases hi:i<vs.length
   ·exact hi
   ·rw [List.getElem?_append_right (by simpa using hi)] at h2
    rw [List.getElem?_replicate] at h2
    split at h2<;>cases h2
  have ha:vs[i]? = some v:=by
   unfold start at h2
   rw [List.getElem?_append_left (by simpa using hi),List.getElem?_map] at h2
   cases e:vs[i]? with
   | none=>rw [e] at h2;cases h2
   | some a=>rw [e] at h2;cases h2;rfl
  obtain ⟨u,hu,rv⟩:=r.get ha
  have hp:ps[i]? = some y:=by
   rw [<- S.pre,List.getElem?_take_of_lt (by omega)];exact h1
  have ndP:ps.Nodup:=by rw [<- S.pre];exact S.nd.sublist (List.take_sublist _ _)
  refine ⟨u,rv,?_⟩
  rcases S.par y (List.mem_of_getElem? hp) with k | k
  ·exact .inl ⟨k,zdF ndP hp hu k⟩
  ·obtain ⟨c,e⟩:=zec (n:=s.heap.objs.size+1) k
   refine .inr ⟨.inl k,c,e,?_⟩
   have q:=x.cell y c e
   rw [zdG ndP hp hu (by show scope.names.lookup y≠_;rw [k];decide)] at q
   exact q
 ·exact e0.hok.fresh (Nat.le_of_lt (x.above y c (PySem.mem_of_lookup h)))
 ·unfold start
  show _=N.length
  rw [List.length_append,List.length_map,List.length_replicate]
  omega
theorem yhJ {CX:CXT} {P:Program} {w:World} {K:PySem.W.Frag} {mg:Str->Option Value} {base:Heap} {k:Nat} {f:Addr} {name qual:Str} {params:Arguments} {body:List Stmt} {scope:Scope} {dV kV doc pm cdv ct oc:Value} {an od:Option Addr}
  {osl:Array (Option Value)} {N ps:List Str} {sp:Sp} (lk:K.lookup f=some ⟨oc,od,.func (PySem.W.fnOf name qual params body scope dV kV doc pm an cdv ct),osl⟩) (hcd:PySem.W.codeIn K cdv qual=true) (S:FnScope N ps scope)
  (len:∀ vs H Q E,sp vs H Q E->vs.length=ps.length)
  (hbody:∀ (A:Around) (outer:List Env) (s:Shared) (H:Hp) (vs:List V) (Q:VK) (E:XK),Room k (A.deeper (envOfC qual scope s.heap.objs.size f cdv))->sp vs H Q E ->
   ∃ t,PSs (cxOf CX P w K mg base N qual scope f cdv A outer s H E) body t/\t { nx:=fun _ H' => Q .non H',rt:=Q } (start N vs) H) :
  FnOk P w K mg base CX (k+1) f (PySem.W.fnOf name qual params body scope dV kV doc pm an cdv ct) ps sp:=by
 refine ⟨len,fun A outer s H args us vs Q E hr e0 hb r hsp=>?_⟩
 have hl:=len _ _ _ _ hsp
 have KX:K.In s.heap:=e0.mod.kin.keeps fun b o e=>(e0.bs b o e).1
 have lim:s.heap.NoLimit:=e0.mod.nolimit.keeps fun b o e=>(e0.bs b o e).1
 have hkind:∀ y∈ps.zip us,scope.names.lookup y.1=some .local\/(scope.names.lookup y.1=some .cell/\((cellsFrom (s.heap.objs.size+1) scope.names []).lookup y.1).isSome=true):=fun ⟨n,v⟩ hy=>by
  rcases S.par n (List.of_mem_zip hy).1 with q | q
  ·exact .inl q
  ·exact .inr ⟨q,PySem.W.cellsFrom_some _ _ _ (.inl q)⟩
 refine codeAny_call_function hr.depth (KX _ _ lk) rfl S.co S.gen rfl (PySem.W.codeRec_of KX hcd) (hb _ _ _ _ ?_)
 refine wpAny_newFunctionEnv_cells S.kind hkind fun env he s1 x=>?_
 subst he
 refine ⟨lim.keeps x.toInCall.keep,codeAny_func ?_⟩
 obtain ⟨t,ht,hq⟩:=hbody A outer s H vs Q E (hr.deeper _) hsp
 have I:Inv (cxOf CX P w K mg base N qual scope f cdv A outer s H E) [] (start N vs) H s1:=zgH S hr.hd e0 hl r x
 refine wpAny_mono (ht [] s1 (start N vs) H _ I hq) (fun fl s' hs=>?_) fun e s' hs=>hs
 have fin:∀ {σ':St} {H':Hp} {v:V} {u:Value},Inv (cxOf CX P w K mg base N qual scope f cdv A outer s H E) [] σ' H' s'->RelV v u->Q v H'->CE outer P w H s Q u s' :=
  fun {σ' H' v u} J rv q=>⟨v,H',J.os,J.bare,J.base,J.hok,rv,q⟩
 cases fl with
 | ret u =>
  obtain ⟨v,σ',H',J,rv,q⟩:=hs
  exact fin J rv q
 | next =>
  obtain ⟨σ',H',J,q⟩:=hs
  exact fin (v:=V.non) (u:=Value.none) J rfl q
 | brk =>
  obtain ⟨_,_,_,q⟩:=hs
  exact False.elim q
 | cont =>
  obtain ⟨_,_,_,q⟩:=hs
  exact False.elim q
end L2
namespace L2
open PySem PySem.Spec PyProof.Rows
section
variable {X:Cx} {x:Str} {p pos:Pos} {e:Expr} {es:List Expr} {t:TA} {id T:String} {r:List V->Hp->VK->Prop}
def tCB (r:List V->Hp->VK->Prop) (t:TA):TE:=fun σ H Q=>t σ H fun vs H1=>r vs H1 Q
theorem zed (hc:CallR X (.builtin id) r) (hg:Gl X x) (hm:X.mg x=none) (hv:bootBuiltins x=some (.builtin id)) (ha:PA X (e::es) t) (hn:x ≠ "__name__" := by decide) (hdb:(x == ("__debug__" : Str))=false:=by decide)
  (he:starEach (e::es) X.env=(false,eval e X.env)::starEach es X.env:=by rfl) (hpl:(backTo pos (starEach es X.env)).any (·.1)=false:=by rfl):PE X (.Call (.Name x p) (e::es) [] pos) (tCB r t):=by
 intro pins s σ H Q I h
 refine wpAny_Call_Name_kw (yd3 I hg hm hv ?_ hn hdb)
 exact PyProof.Rows.callWith_builtin1 (thn (ha pos pins s σ H _ I h) fun us s1 ⟨vs,H1,I1,r1,q1⟩=>hc pins s1 σ H1 vs us Q I1 r1 q1) he hpl
end
end L2
namespace HT
open PySem PyProof.Rows
section
open PySem.SeqAt
open PySem.AutoSeq1 (wpAny_loadPart')
open PySem.MeetsSeq PySem.MeetsSeq2 PySem.MeetsSeq3
end
section
variable {prog:Program} {w:World} {A:Around} {E:Value->Shared->Prop} {s:Shared}
theorem cat_tup {t b:Addr} {vs ws:List Value} {Q:Value->Shared->Prop} (ht:IsTup s.heap t vs.toArray) (hb:IsTup s.heap b ws.toArray) (hv:vs≠[])
  (h1:ws=[]->Q (.ref t) s) (h2:ws≠[]->Q (.ref s.heap.objs.size) { s with heap:=s.heap.push { cls:=.type "tuple",data:=.seq (vs++ws).toArray } })
  (hsz:vs.length+ws.length<=sizeLine):wpAny (model prog w) A (binaryOp .Add (.ref t) (.ref b)) Q E s:=by
 obtain ⟨⟨cls,dd,data,sl⟩,ho,hc,n,hd⟩:=id ht
 obtain ⟨⟨cls2,dd2,data2,sl2⟩,ho2,hc2,n2,hd2⟩:=id hb
 simp only at hc hd hc2 hd2
 subst hc hd hc2 hd2
 have e:vs.toArray++ws.toArray=(vs++ws).toArray:=by simp
 by_cases hw:ws=[]
 ·exact concat_meets ⟨_,ho,rfl⟩ ⟨_,ho2,rfl⟩ noFill_tuple_add seq_tuple_add PySem.F.slot_tuple_add PySem.F.entry_tuple_add (PySem.F.args_tuple_add_2 _ _)
   (tuple_addW1 t b vs.toArray ws.toArray n n2 dd dd2 sl sl2 (by simpa using hv) (by simp [hw])) ⟨ho,ho2,h1 hw⟩
 ·refine concat_meets ⟨_,ho,rfl⟩ ⟨_,ho2,rfl⟩ noFill_tuple_add seq_tuple_add PySem.F.slot_tuple_add PySem.F.entry_tuple_add (PySem.F.args_tuple_add_2 _ _)
   (tuple_addW2 t b vs.toArray ws.toArray n n2 dd dd2 sl sl2 (by simpa using hv) (by simpa using hw) (by rw [List.size_toArray,List.size_toArray];exact hsz)) ⟨ho,ho2,?_⟩
  rw [e]
  exact h2 hw
def sIx (n d:Nat):Option Int->Nat
 | none=>d
 | some v=>if v<0 then (v+(n:Int)).toNat else min v.toNat n
theorem sIx_none (n d:Nat):sIx n d none=d:=rfl
theorem sIx_nat (n d k:Nat):sIx n d (some (k:Int))=min k n:=by
 show (if (k:Int)<0 then ((k:Int)+(n:Int)).toNat else min (k:Int).toNat n)=min k n
 rw [if_neg (by omega),Int.toNat_natCast]
theorem sIx_le (n d:Nat) (hd:d<=n) (o:Option Int):sIx n d o<=n:=by
 cases o with
 | none=>exact hd
 | some v =>
  show (if v<0 then (v+(n:Int)).toNat else min v.toNat n)<=n
  by_cases hv:v<0
  ·rw [if_pos hv];omega
  ·rw [if_neg hv];exact Nat.min_le_right _ _
theorem zfg (v:Int) (n d:Nat):(if v<0 then max (v+(n:Int)) 0 else min v (n:Int))=((sIx n d (some v):Nat):Int):=by
 show (if v<0 then max (v+(n:Int)) 0 else min v (n:Int))=(((if v<0 then (v+(n:Int)).toNat else min v.toNat n):Nat):Int)
 by_cases hv:v<0
 ·simp only [if_pos hv];omega
 ·simp only [if_neg hv];omega
theorem zf7 (lo hi:Option Int) (n:Nat):Builtin.Slice.sliceAdjust lo hi 1 (n:Int)=(((sIx n 0 lo:Nat):Int),((sIx n n hi:Nat):Int)):=by
 have h1 : ¬ ((1:Int)<0):=by omega
 unfold Builtin.Slice.sliceAdjust
 simp only [h1,if_false]
 refine Prod.ext ?_ ?_
 ·cases lo with
  | none=>rfl
  | some v=>exact zfg v n 0
 ·cases hi with
  | none=>rfl
  | some v=>exact zfg v n n
theorem zf8 (i j:Nat):Builtin.Slice.slicePlaces (i:Int) (j:Int) 1=j-i:=by
 unfold Builtin.Slice.slicePlaces
 have h1:(1:Int) > 0:=by omega
 simp only [h1,if_true,Int.ediv_one]
 split<;>omega
theorem zc0 {v:Value} {o:Option Int} {Q:Option Int->Shared->Prop} (p:IsPart v o) (h:Q o s):wpAny (model prog w) A (Builtin.Slice.slicePartIndex v) Q E s:=by
 cases p with
 | none=>exact slicePart_none h
 | int i t=>exact slicePart_int h
theorem zcH {sl:Addr} {vl vu:Value} {lo hi:Option Int} {n:Nat} {Q:Int×Int×Nat->Shared->Prop} (hs:s.heap.IsSliceOf sl vl vu .none) (pl:IsPart vl lo) (pu:IsPart vu hi)
  (h:Q (((sIx n 0 lo:Nat):Int),1,sIx n n hi-sIx n 0 lo) s):wpAny (model prog w) A (Builtin.Slice.sliceApplied (.ref sl) (pure (n:Int))) Q E s:=by
 obtain ⟨os,hos,hcs,hds⟩:=id hs
 unfold Builtin.Slice.sliceApplied Builtin.Slice.sliceFields
 refine wpAny_bind (wpAny_bind (wpAny_field hos hds (x:=vl) rfl (wpAny_bind (wpAny_field hos hds (x:=vu) rfl (wpAny_bind (wpAny_field hos hds (x:=.none) rfl (wpAny_pure ?_)))))))
 refine wpAny_bind (slicePart_none ?_)
 show wpAny _ _ (if ((1:Int) == 0)=true then _ else _) _ _ s
 rw [if_neg (by decide)]
 refine wpAny_bind (zc0 pl (wpAny_bind (zc0 pu (wpAny_bind (wpAny_pure ?_)))))
 show wpAny _ _ (match Builtin.Slice.sliceAdjust lo hi 1 (n:Int) with | (lo,hi)=>pure (lo,(1:Int),Builtin.Slice.slicePlaces lo hi 1)) _ _ s
 rw [zf7 lo hi n]
 show wpAny _ _ (pure (((sIx n 0 lo:Nat):Int),(1:Int),Builtin.Slice.slicePlaces ((sIx n 0 lo:Nat):Int) ((sIx n n hi:Nat):Int) 1)) _ _ s
 rw [zf8]
 exact wpAny_pure h
theorem zhu (xs:Array Value) (i k:Nat):((List.range k).filterMap fun (m:Nat)=>xs[((i:Int)+(m:Int)*1).toNat]?).toArray=((xs.toList.drop i).take k).toArray:=by
 have e:(fun (m:Nat)=>xs[((i:Int)+(m:Int)*1).toNat]?)=fun m=>xs[i+m]? := by
  funext m
  have:((i:Int)+(m:Int)*1).toNat=i+m:=by omega
  rw [this]
 rw [e]
 have:=pick_run xs i k
 rw [List.filterMap_map] at this
 have e2:((fun x=>xs[x]?) ∘ fun x=>i+x)=fun m=>xs[i+m]? := rfl
 rw [e2] at this
 rw [this]
theorem getItem_tuple_cut {t sl:Addr} {items:Array Value} {vl vu:Value} {lo hi:Option Int} {Q:Value->Shared->Prop} (ht:IsTup s.heap t items) (hs:s.heap.IsSliceOf sl vl vu .none) (pl:IsPart vl lo) (pu:IsPart vu hi)
  (hw : ¬ (sIx items.size 0 lo=0/\sIx items.size items.size hi=items.size))
  (h:Q (.ref s.heap.objs.size) { s with heap:=s.heap.push { cls:=.type "tuple",data:=.seq ((items.toList.drop (sIx items.size 0 lo)).take (sIx items.size items.size hi-sIx items.size 0 lo)).toArray } })
  (hsz:items.size<=sizeLine):wpAny (model prog w) A (getItem (.ref t) (.ref sl)) Q E s:=by
 have htake:sizeOk (.seq ((items.toList.drop (sIx items.size 0 lo)).take (sIx items.size items.size hi-sIx items.size 0 lo)).toArray):=by
  show ((items.toList.drop (sIx items.size 0 lo)).take (sIx items.size items.size hi-sIx items.size 0 lo)).toArray.size<=sizeLine
  rw [List.size_toArray,List.length_take,List.length_drop,Array.length_toList]
  omega
 have hj:sIx items.size items.size hi<=items.size:=sIx_le _ _ (Nat.le_refl _) hi
 obtain ⟨os,hos,hcs,hds⟩:=id hs
 have hTs:s.TypeIs (.ref sl) "slice" := ⟨os,hos,hcs⟩
 unfold getItem
 try with_reducible refine wpAny_holding ?_
 first | refine wpAny_bind (wpAny_pure ?_) | skip
 refine wpAny_bind (wpAny_sequenceKey ht.typeIs (by decide) ?_)
 refine wpAny_bind (wpAny_callSpecial?_slot (name:=Str.ofString "__getitem__") ht.typeIs PyProof.Rows.slot_tuple_getitem
  (wpAny_call_entry PyProof.Rows.slot_tuple_getitem ht.typeIs entry_tuple_getitem ?_ (args_tuple_getitem _ _)))
 show wpAny _ _ (Builtin.Tuple.tupleItemsOf (.ref t) >>= _) _ _ s
 refine wpAny_bind (tupleItemsOf_ ht ?_)
 refine wpAny_bind (wpAny_typeOf hTs ?_)
 rw [if_pos (by decide)]
 refine wpAny_bind (zcH hs pl pu ?_)
 have hno : ¬ ((((sIx items.size 0 lo:Nat):Int) == 0 && (1:Int) == 1 && (sIx items.size items.size hi-sIx items.size 0 lo) == items.size)=true):=by
  intro q
  rw [Bool.and_eq_true,Bool.and_eq_true] at q
  have q1:((sIx items.size 0 lo:Nat):Int)=0:=eq_of_beq q.1.1
  have q2:sIx items.size items.size hi-sIx items.size 0 lo=items.size:=eq_of_beq q.2
  exact hw ⟨by omega,by omega⟩
 show wpAny _ _ (if (((sIx items.size 0 lo:Nat):Int) == 0 && (1:Int) == 1 && (sIx items.size items.size hi-sIx items.size 0 lo) == items.size)=true then _ else _) _ _ s
 rw [if_neg hno,zhu]
 first
  | exact wpAny_bind (m:=Builtin.Tuple.tupleExact _) (wpAny_newObj_type (wpAny_pure ⟨_,rfl,wpAny_pure h⟩) htake)
  | exact wpAny_bind (m:=Builtin.Tuple.tupleExact _) (wpAny_newObj_type (wpAny_bind (wpAny_pure (wpAny_pure ⟨_,rfl,wpAny_pure h⟩))) htake)
  | exact wpAny_bind (wpAny_bind (m:=Builtin.Tuple.tupleExact _) (wpAny_newObj_type (wpAny_pure (wpAny_pure ⟨_,rfl,wpAny_pure h⟩)) htake))
  | exact wpAny_bind (wpAny_bind (m:=Builtin.Tuple.tupleExact _) (wpAny_newObj_type (wpAny_pure ⟨_,rfl,wpAny_pure h⟩) htake))
end
end HT
namespace L2
open PySem PySem.Spec PyProof.Rows
abbrev TO:=St->Hp->(Option Int->Hp->Prop)->Prop
def PO (X:Cx) (e:Option Expr) (t:TO):Prop :=
 ∀ (pins:List (Addr×Obj)) (s:Shared) (σ:St) (H:Hp) (Q:Option Int->Hp->Prop),Inv X pins σ H s->t σ H Q ->
  wpAny (model X.prog X.w) X.A (evalPart e X.env) (fun u s' => ∃ o H',Inv X pins σ H' s'/\IsPart u o/\Q o H') X.xe s
def yfd:TO:=fun _ H Q=>Q none H
def yfY (t:TE):TO:=fun σ H Q=>t σ H fun x H1=>∃ i,x = .int i/\Q (some i) H1
section
variable {X:Cx} {e:Expr} {te:TE} {lo hi:Option Expr} {tl th:TO} {pos p2:Pos}
theorem ziw:PO X none yfd:=by
 intro pins s σ H Q I h
 rw [evalPart_none]
 exact wpAny_pure ⟨none,H,I,.none,h⟩
theorem zix (h:PE X e te):PO X (some e) (yfY te):=by
 intro pins s σ H Q I hw
 rw [evalPart_some]
 refine thn (h pins s σ H _ I hw) fun u s1 ⟨x,H1,I1,r1,q1⟩=>?_
 obtain ⟨i,rfl,q⟩:=q1
 obtain ⟨t,rfl⟩:=r1
 exact ⟨some i,H1,I1,.int i t,q⟩
def SlR (X:Cx) (r:V->Option Int->Option Int->Hp->VK->Prop):Prop :=
 ∀ (pins:List (Addr×Obj)) (s:Shared) (σ:St) (H:Hp) (x:V) (v vl vu:Value) (lo hi:Option Int) (sl:Addr) (Q:VK),Inv X pins σ H s->RelV x v->s.heap.IsSliceOf sl vl vu .none->IsPart vl lo->IsPart vu hi->r x lo hi H Q ->
  ∃ T id,typeLookup (.type T) "__getitem__" = pure (some (.builtin id))/\s.TypeIs v T/\wpAny (model X.prog X.w) X.A (getItem v (.ref sl)) (EP X pins σ Q) X.xe s
theorem SlR.or {r r':V->Option Int->Option Int->Hp->VK->Prop} (h:SlR X r) (h':SlR X r'):SlR X (fun x lo hi H Q=>r x lo hi H Q\/r' x lo hi H Q):=by
 intro pins s σ H x v vl vu lo hi sl Q I rx hs pl pu q
 rcases q with q | q
 ·exact h pins s σ H x v vl vu lo hi sl Q I rx hs pl pu q
 ·exact h' pins s σ H x v vl vu lo hi sl Q I rx hs pl pu q
def tSl (r:V->Option Int->Option Int->Hp->VK->Prop) (te:TE) (tl th:TO):TE:=fun σ H Q=>te σ H fun x H1=>tl σ H1 fun l H2=>th σ H2 fun u H3=>r x l u H3 Q
theorem zhv {r:V->Option Int->Option Int->Hp->VK->Prop} (hr:SlR X r) (he:PE X e te) (hl:PO X lo tl) (hu:PO X hi th):PE X (.Subscript e (.Slice lo hi none p2) pos) (tSl r te tl th):=by
 intro pins s σ H Q I h
 refine Subscript_ (thn (he pins s σ H _ I h) fun v s1 ⟨x,H1,I1,r1,q1⟩=>?_)
 refine wpAny_Slice (thn (hl pins s1 σ H1 _ I1 q1) fun vl s2 ⟨l,H2,I2,pl,q2⟩=>thn (hu pins s2 σ H2 _ I2 q2) fun vu s3 ⟨u,H3,I3,pu,q3⟩=>?_)
 rw [evalPart_none]
 refine wpAny_pure ?_
 have I4:Inv X pins σ H3 { s3 with heap:=s3.heap.push { cls:=.type "slice",data:=.fields #[vl,vu,.none] } }:=I3.kept (t' := s3.toks) fun b ob q=>Heap.get?_push_of_some _ q
 obtain ⟨T,id,hT,ht,hg⟩:=hr pins { s3 with heap:=s3.heap.push { cls:=.type "slice",data:=.fields #[vl,vu,.none] } } σ H3 x v vl vu l u s3.heap.objs.size Q I4 r1 (Heap.IsSliceOf.new ..) pl pu q3
 show wpAny (model X.prog X.w) X.A (subscriptTail e (.Slice lo hi none p2) v (.ref s3.heap.objs.size)) (EP X pins σ Q) X.xe { s3 with heap:=s3.heap.push { cls:=.type "slice",data:=.fields #[vl,vu,.none] } }
 exact tail_any (ops:=[.ref s3.heap.objs.size,v]) ht hT hg (by with_unfolding_all rfl)
def cutV (xs:List V) (lo hi:Option Int):List V:=(xs.drop (HT.sIx xs.length 0 lo)).take (HT.sIx xs.length xs.length hi-HT.sIx xs.length 0 lo)
theorem zcs (xs:List V) (lo hi:Option Int):(cutV xs lo hi).length<=xs.length:=by
 unfold cutV
 rw [List.length_take,List.length_drop]
 omega
def rSlT (K:PySem.W.Frag):V->Option Int->Option Int->Hp->VK->Prop:=fun x lo hi H Q=>∃ a xs,x = .ref a/\SqT K H a xs /\
 ¬ (HT.sIx xs.length 0 lo=0/\HT.sIx xs.length xs.length hi=xs.length)/\∀ p,H p=none->Q (.ref p) (upd H p (.tup (cutV xs lo hi)))
theorem sl_tup:SlR X (rSlT X.K):=by
 intro pins s σ H x v vl vu lo hi sl Q I rx hs pl pu h
 obtain ⟨a,xs,rfl,hx,hw,q⟩:=h
 cases rx
 obtain ⟨its,r,ht,hz⟩:=I.tuple hx
 have hlen:its.toArray.size=xs.length:=by rw [List.size_toArray];exact r.length.symm
 refine ⟨"tuple",_,PyProof.Rows.slot_tuple_getitem.lookup,ht.typeIs,?_⟩
 refine HT.getItem_tuple_cut ht hs pl pu (by rw [hlen];exact hw) ?_ (by rw [hlen];exact hz)
 rw [hlen]
 refine ⟨.ref s.heap.objs.size,_,I.laid (t' := s.toks) (o:=.tup (cutV xs lo hi)) (fun b ob q=>Heap.get?_push_of_some _ q) (Nat.le_refl _) ?_,rfl,q _ (I.hok.fresh (Nat.le_refl _))⟩
 exact ⟨Nat.le_trans (zcs xs lo hi) hz,_,(r.drop (HT.sIx xs.length 0 lo)).take (HT.sIx xs.length xs.length hi-HT.sIx xs.length 0 lo),IsTup.new _ _⟩
def yhK (K:PySem.W.Frag):R2:=fun x y H Q=>∃ a b xs ys,x = .ref a/\y = .ref b/\SqT K H a xs/\SqT K H b ys/\xs≠[]/\xs.length+ys.length<=sizeLine /\
 (ys=[]->Q (.ref a) H)/\(ys≠[]->∀ p,H p=none->Q (.ref p) (upd H p (.tup (xs++ys))))
theorem Vals.nil_iff {xs:List V} {us:List Value} (r:Vals xs us):us=[] ↔ xs=[]:=by
 cases r with
 | nil=>simp
 | cons _ _=>simp
theorem ziy:OpR X (binaryOp .Add) (yhK X.K):=by
 intro pins s σ H x y v u Q I rx ry h
 obtain ⟨a,b,xs,ys,rfl,rfl,ha,hb,hx,hz,q1,q2⟩:=h
 cases rx
 cases ry
 obtain ⟨its,r1,p1,_⟩:=I.tuple ha
 obtain ⟨its2,r2,p2,_⟩:=I.tuple hb
 refine HT.cat_tup p1 p2 (fun z=>hx (r1.nil_iff.mp z)) (fun z=>⟨.ref a,H,I,rfl,q1 (r2.nil_iff.mp z)⟩) (fun z=>?_) (by rw [<- r1.length,<- r2.length];exact hz)
 refine ⟨.ref s.heap.objs.size,_,I.laid (t' := s.toks) (o:=.tup (xs++ys)) (fun b ob q=>Heap.get?_push_of_some _ q) (Nat.le_refl _) ?_,rfl,q2 (fun w=>z (r2.nil_iff.mpr w)) _ (I.hok.fresh (Nat.le_refl _))⟩
 exact ⟨by rw [List.length_append];exact hz,_,r1.append r2,IsTup.new _ _⟩
end
end L2
namespace L2
open PySem PySem.Spec PyProof.Rows
def ixN (n:Nat) (i:Int):Option Nat:=if 0<=i then (if i<n then some i.toNat else none) else if -(n:Int)<=i then some (i+n).toNat else none
def atI {α:Type} (xs:List α) (i:Int):Option α:=(ixN xs.length i).bind fun j=>xs[j]?
theorem zfh {n:Nat} {i:Int} {j:Nat} (h:ixN n i=some j):seqIndex? i n=some j/\j<n /\ -(n:Int)<=i/\i<n:=by
 unfold ixN at h
 by_cases h0:0<=i
 ·rw [if_pos h0] at h
  by_cases h1:i<n
  ·rw [if_pos h1] at h
   have e:i.toNat=j:=Option.some.inj h
   exact ⟨by rw [seqIndex_of h0 h1,e],by omega,by omega,h1⟩
  ·rw [if_neg h1] at h;cases h
 ·rw [if_neg h0] at h
  by_cases h1 : -(n:Int)<=i
  ·rw [if_pos h1] at h
   have e:(i+n).toNat=j:=Option.some.inj h
   exact ⟨by rw [seqIndex_neg (by omega) h1,e],by omega,h1,by omega⟩
  ·rw [if_neg h1] at h;cases h
theorem zcf {α:Type} {xs:List α} {i:Int} {v:α} (h:atI xs i=some v):∃ j,seqIndex? i xs.length=some j/\xs[j]? = some v/\j<xs.length /\ -(xs.length:Int)<=i/\i<xs.length:=by
 unfold atI at h
 cases e:ixN xs.length i with
 | none=>rw [e] at h;cases h
 | some j =>
  rw [e] at h
  obtain ⟨h1,h2,h3,h4⟩:=zfh e
  exact ⟨j,h1,h,h2,h3,h4⟩
theorem zbu {α:Type} {xs:List α} {j:Nat} {v:α} (h:xs[j]? = some v):atI xs (j:Int)=some v:=by
 have hj:j<xs.length:=(List.getElem?_eq_some_iff.mp h).1
 have e:ixN xs.length (j:Int)=some j:=by
  unfold ixN
  rw [if_pos (by omega),if_pos (by omega)];simp
 unfold atI;rw [e];exact h
def yfe (b:Expr):Prop:=∀ o i,subscripted b false o i=operate [o,i] (getItem o i)
def IxR (X:Cx) (r:R2):Prop :=
 ∀ (value slice:Expr) (pins:List (Addr×Obj)) (s:Shared) (σ:St) (H:Hp) (x y:V) (v u:Value) (Q:VK),Inv X pins σ H s->RelV x v->RelV y u->r x y H Q ->
  subscripted slice false v u=operate [v,u] (getItem v u)->wpAny (model X.prog X.w) X.A (subscriptTail value slice v u) (EP X pins σ Q) X.xe s
def MtR (X:Cx) (id:String) (r:V->List V->Hp->VK->Prop):Prop :=
 ∀ (pins:List (Addr×Obj)) (s:Shared) (σ:St) (H:Hp) (x:V) (xs:List V) (v:Value) (us:List Value) (Q:VK),Inv X pins σ H s->RelV x v->Vals xs us->r x xs H Q ->
  wpAny (model X.prog X.w) X.A (call (.builtin id) (v::us)) (EP X pins σ Q) X.xe s
section
variable {X:Cx} {a b:Expr} {ta tb:TE} {pos:Pos}
theorem IxR.or {r r':R2} (h:IxR X r) (h':IxR X r'):IxR X (fun x y H Q=>r x y H Q\/r' x y H Q):=by
 intro value slice pins s σ H x y v u Q I rx ry q hs
 rcases q with q | q
 ·exact h value slice pins s σ H x y v u Q I rx ry q hs
 ·exact h' value slice pins s σ H x y v u Q I rx ry q hs
theorem yhL {r:R2} (hr:IxR X r) (ha:PE X a ta) (hb:PE X b tb) (hs:yfe b):PE X (.Subscript a b pos) (tOp r ta tb):=by
 intro pins s σ H Q I h
 exact Subscript_ (binT ha hb I h fun v u s2 x y H2 I2 rx ry q=>hr a b pins s2 σ H2 x y v u Q I2 rx ry q (hs _ _))
def rIxL (K:PySem.W.Frag):R2:=fun x y H Q=>∃ p xs i v,x = .ref p/\y = .int i/\SqL K H p xs/\atI xs i=some v/\Q v H
def rIxT (K:PySem.W.Frag):R2:=fun x y H Q=>∃ p xs i v,x = .ref p/\y = .int i/\SqT K H p xs/\atI xs i=some v/\Q v H
def rIxS:R2:=fun x y H Q=>∃ z i c,x = .str z/\y = .int i/\z.length<=sizeLine/\atI z.cps.toList i=some c/\Q (.str ⟨#[c]⟩) H
theorem ziz:IxR X (rIxL X.K):=by
 intro value slice pins s σ H x y v u Q I rx ry h hs
 obtain ⟨p,xs,i,z,rfl,rfl,hq,he,q⟩:=h
 cases rx
 obtain ⟨t,rfl⟩:=ry
 obtain ⟨its,r,pl,hz⟩:=I.list hq
 obtain ⟨j,h1,h2,h3,h4,h5⟩:=zcf he
 obtain ⟨w,ew,rw'⟩:=r.get h2
 have hl:=r.length
 have hn:=ydi
 have fin:EP X pins σ Q w s:=⟨z,H,I,rw',q⟩
 by_cases h0:0<=i
 ·have hj:i.toNat=j:=by
   rw [seqIndex_of h0 h5] at h1
   exact Option.some.inj h1
  exact item_listR pl.isList h0 (by omega) (by rw [hj];simpa using ew) fin hs
 ·have hj:(i+(its.toArray.size:Int)).toNat=j:=by
   rw [seqIndex_neg (by omega) h4] at h1
   rw [List.size_toArray,<- hl]
   exact Option.some.inj h1
  exact subscriptTail_builtinR (x:=w) pl.isList.typeIs slot_list_getitem.lookup
   (wpAny_getItem_list_neg (Q:=fun r s' => r=w/\EP X pins σ Q r s') pl.isList (by omega) (by rw [List.size_toArray]<;>omega) (by omega) (by rw [hj];simpa using ew) ⟨rfl,fin⟩) hs
theorem ix_tup:IxR X (rIxT X.K):=by
 intro value slice pins s σ H x y v u Q I rx ry h hs
 obtain ⟨p,xs,i,z,rfl,rfl,hq,he,q⟩:=h
 cases rx
 obtain ⟨t,rfl⟩:=ry
 obtain ⟨its,r,pl,hz⟩:=I.tuple hq
 obtain ⟨j,h1,h2,h3,h4,h5⟩:=zcf he
 obtain ⟨w,ew,rw'⟩:=r.get h2
 have hl:=r.length
 have hn:=ydi
 have fin:EP X pins σ Q w s:=⟨z,H,I,rw',q⟩
 exact subscriptTail_builtinR (x:=w) pl.typeIs slot_tuple_getitem.lookup
  (getItem_tuple (j:=j) (Q:=fun r s' => r=w/\EP X pins σ Q r s') pl (by omega) (by omega) (by rw [List.size_toArray,<- hl];exact h1) (by simpa using ew) ⟨rfl,fin⟩) hs
theorem ygG:IxR X rIxS:=by
 intro value slice pins s σ H x y v u Q I rx ry h hs
 obtain ⟨z,i,c,rfl,rfl,hz,he,q⟩:=h
 obtain ⟨t,rfl⟩:=rx
 obtain ⟨t',rfl⟩:=ry
 obtain ⟨j,h1,h2,h3,h4,h5⟩:=zcf he
 have hl:z.cps.toList.length=z.length:=by simp [Str.length]
 rw [hl] at h1 h4 h5
 have hn:=ydi
 exact tail_any (typeIs_str s z t) slot_str_getitem.lookup (getItem_str (c:=c) (by
  have e1:decide (i < -(2 ^ 63:Int))=false:=decide_eq_false (by omega)
  have e2:decide (i ≥ 2 ^ 63)=false:=decide_eq_false (by omega)
  rw [e1,e2,Bool.or_false]) (by rw [h1];simpa using h2) ⟨.str ⟨#[c]⟩,H,I.tok _,⟨_,rfl⟩,q⟩) hs
def rIx (K:PySem.W.Frag):R2:=fun x y H Q=>rIxL K x y H Q\/rIxT K x y H Q\/rIxS x y H Q
theorem ygH:IxR X (rIx X.K):=ziz.or (ix_tup.or ygG)
theorem zf9 (its:List Value) (n j:Nat) (u:Value):Obj.mapSeq (·.setIfInBounds j u) { cls:=.type "list",data:=.seq its.toArray n }={ cls:=.type "list",data:=.seq (its.set j u).toArray n }:=by
 simp [Obj.mapSeq]
theorem Inv.lst {pins:List (Addr×Obj)} {σ:St} {H:Hp} {s:Shared} {p:Addr} {xs:List V} (I:Inv X pins σ H s) (h:H p=some (.lst xs)) :
  ∃ (its:List Value) (n:Nat),Vals xs its/\s.heap.get? p=some { cls:=.type "list",data:=.seq its.toArray n }/\xs.length<=sizeLine:=by
 obtain ⟨z,its,n,r,e⟩:=I.hok p _ h
 exact ⟨its,n,r,e,z⟩
theorem Inv.lstUpd {pins:List (Addr×Obj)} {σ:St} {H:Hp} {s:Shared} {p:Addr} {xs ys:List V} {its its':List Value} {n n':Nat} {f:Obj->Obj} (I:Inv X pins σ H s) (h:H p=some (.lst xs))
  (ho:s.heap.get? p=some { cls:=.type "list",data:=.seq its.toArray n }) (hf:f { cls:=.type "list",data:=.seq its.toArray n }={ cls:=.type "list",data:=.seq its'.toArray n' }) (r:Vals ys its') (hz:ys.length<=sizeLine) (t:Nat) :
  Inv X pins σ (upd H p (.lst ys)) { s with heap:=s.heap.update p f,toks:=t }:=by
 have e:(s.heap.update p f).get? p=some { cls:=.type "list",data:=.seq its'.toArray n' }:=by
  rw [Heap.get?_update_self f ho (by rw [hf]<;>rfl),hf]
 refine I.write (x:=p) (e:=p) (by rw [h];trivial) (.inl rfl) (fun b u hb q=>(Heap.get?_update_other _ _ (Ne.symm hb)).trans q) ⟨_,e⟩ ?_
 exact ⟨hz,its',n',r,e⟩
def yhM:V->V->V->Hp->(Hp->Prop)->Prop:=fun o i v H Q=>∃ p xs k j,o = .ref p/\i = .int k/\H p=some (.lst xs)/\ixN xs.length k=some j/\Q (upd H p (.lst (xs.set j v)))
theorem zhw:PSet X yhM:=by
 intro pins s σ H o i v ov iv u Q I ro ri rv h
 obtain ⟨p,xs,k,j,rfl,rfl,hp,hj,q⟩:=h
 cases ro
 obtain ⟨t,rfl⟩:=ri
 obtain ⟨its,n,r,ho,hz⟩:=I.lst hp
 obtain ⟨h1,h2,h3,h4⟩:=zfh hj
 have hl:=r.length
 have hn:=ydi
 have I':Inv X pins σ (upd H p (.lst (xs.set j v))) { s with heap:=s.heap.update p (Obj.mapSeq (·.setIfInBounds j u)) } :=
  I.lstUpd hp ho (zf9 its n j u) (r.set rv j) (by rw [List.length_set];exact hz) s.toks
 by_cases h0:0<=k
 ·have hk:k.toNat=j:=by
   rw [seqIndex_of h0 h4] at h1
   exact Option.some.inj h1
  exact PySem.W.ki_setAt ho h0 (by omega) (by rw [List.size_toArray,<- hl];exact h4) (by rw [hk];exact ⟨_,I',q⟩)
 ·have hk:(k+(its.toArray.size:Int)).toNat=j:=by
   rw [seqIndex_neg (by omega) h3] at h1
   rw [List.size_toArray,<- hl]
   exact Option.some.inj h1
  exact PySem.W.ki_setBack ho (by omega) (by rw [List.size_toArray,<- hl];exact h3) (by omega) (by rw [hk];exact ⟨_,I',q⟩)
theorem zee (lo hi:Option Int) (n:Nat):(sliceBounds lo hi none n).1=((HT.sIx n 0 lo:Nat):Int)/\(sliceBounds lo hi none n).2.1=((HT.sIx n n hi:Nat):Int)/\(sliceBounds lo hi none n).2.2=1:=by
 refine ⟨?_,?_,rfl⟩
 ·cases lo with
  | none=>simp [sliceBounds,HT.sIx]
  | some i =>
   simp only [sliceBounds,HT.sIx,Option.getD_none,show (1:Int) > 0 by decide,if_true]
   by_cases h:i<0
   ·simp only [h,if_true]<;>omega
   ·simp only [h,if_false]<;>omega
 ·cases hi with
  | none=>simp [sliceBounds,HT.sIx]
  | some i =>
   simp only [sliceBounds,HT.sIx,Option.getD_none,show (1:Int) > 0 by decide,if_true]
   by_cases h:i<0
   ·simp only [h,if_true]<;>omega
   ·simp only [h,if_false]<;>omega
theorem zd1 (its:List Value) (lo hi:Option Int):slicePick its.toArray lo hi none=((its.drop (HT.sIx its.length 0 lo)).take (HT.sIx its.length its.length hi-HT.sIx its.length 0 lo)).toArray:=by
 obtain ⟨h1,h2,h3⟩:=zee lo hi its.toArray.size
 unfold slicePick
 rw [h1,h2,h3]
 simp only [sliceRange_one,pick_run,List.size_toArray]<;>rfl
def rSlL (K:PySem.W.Frag):V->Option Int->Option Int->Hp->VK->Prop:=fun x lo hi H Q=>∃ a xs,x = .ref a/\SqL K H a xs/\∀ p,H p=none->Q (.ref p) (upd H p (.lst (cutV xs lo hi)))
theorem ziA:SlR X (rSlL X.K):=by
 intro pins s σ H x v vl vu lo hi sl Q I rx hs pl pu h
 obtain ⟨a,xs,rfl,hx,q⟩:=h
 cases rx
 obtain ⟨its,r,ht,hz⟩:=I.list hx
 have hlen:=r.length
 refine ⟨"list",_,slot_list_getitem.lookup,ht.isList.typeIs,?_⟩
 refine wpAny_getItem_list_slice ht.isList hs pl pu .none (by simp) ?_ (by rw [List.size_toArray]<;>omega)
 rw [zd1,<- hlen]
 refine ⟨.ref s.heap.objs.size,_,I.laid (t' := s.toks) (o:=.lst (cutV xs lo hi)) (fun b ob q=>Heap.get?_push_of_some _ q) (Nat.le_refl _) ?_,rfl,q _ (I.hok.fresh (Nat.le_refl _))⟩
 exact ⟨Nat.le_trans (zcs xs lo hi) hz,_,0,(r.drop (HT.sIx xs.length 0 lo)).take (HT.sIx xs.length xs.length hi-HT.sIx xs.length 0 lo),Heap.get?_push_size _ rfl⟩
theorem zef:OpR X (compareOp .NotIn) (fun x y H Q=>∃ i j,x = .str i/\y = .str j/\Q (.bl (!(!(Builtin.Str.occurrences j i 0 j.length 1).isEmpty))) H):=by
 intro pins s σ H x y v u Q I rx ry h
 obtain ⟨i,j,rfl,rfl,q⟩:=h
 obtain ⟨t,rfl⟩:=rx
 obtain ⟨t',rfl⟩:=ry
 exact notIn_str ⟨.bl _,H,I,rfl,q⟩
theorem zeg:CallR X (.builtin "len") (fun xs H Q=>∃ p ys,xs=[.ref p]/\(SqL X.K H p ys\/SqT X.K H p ys)/\Q (.int ys.length) H):=by
 intro pins s σ H xs us Q I r h
 obtain ⟨p,ys,rfl,hq,q⟩:=h
 obtain ⟨u,rfl,rx⟩:=ydS r
 cases rx
 have hn:=ydi
 rcases hq with hq | hq
 ·obtain ⟨its,r',pl,hz⟩:=I.list hq
  have hlen:=r'.length
  exact Calls.call_len_list pl.isList (by simp only [List.size_toArray]<;>omega) ⟨.int ys.length,H,I.tok _,⟨s.toks+1,by rw [List.size_toArray,hlen]⟩,q⟩
 ·obtain ⟨its,r',pl,hz⟩:=I.tuple hq
  have hlen:=r'.length
  exact len_tuple pl (by simp only [List.size_toArray]<;>omega) ⟨.int ys.length,H,I.tok _,⟨s.toks+1,by rw [List.size_toArray,hlen]⟩,q⟩
theorem zeh:CallR X (.builtin "len") (fun xs H Q=>∃ z,xs=[.str z]/\z.length<=sizeLine/\Q (.int z.length) H):=by
 intro pins s σ H xs us Q I r h
 obtain ⟨z,rfl,hz,q⟩:=h
 obtain ⟨u,rfl,t,rfl⟩:=ydS r
 have hn:=ydi
 exact len_str (by omega) ⟨.int z.length,H,I.tok _,⟨_,rfl⟩,q⟩
theorem CallR.or {f:Value} {r r':List V->Hp->VK->Prop} (h:CallR X f r) (h':CallR X f r'):CallR X f (fun xs H Q=>r xs H Q\/r' xs H Q):=by
 intro pins s σ H xs us Q I rs q
 rcases q with q | q
 ·exact h pins s σ H xs us Q I rs q
 ·exact h' pins s σ H xs us Q I rs q
def tyV (K:PySem.W.Frag) (T:String) (x:V) (H:Hp):Prop:=match x with
 | .str _=>T = "str"
 | .int _=>T = "int"
 | .ref p=>(T = "list" /\ ∃ xs,SqL K H p xs)\/(T = "tuple" /\ ∃ o,K.lookup p=some o/\o.cls = .type "tuple" /\ o.dict=none) \/
   (T = "dict" /\ ((∃ kvs,H p=some (.dK kvs))\/∃ kvs,H p=some (.dT kvs)))\/(T = "set" /\ ∃ S n,H p=some (.set S n))
 | _=>False
theorem ygI {pins:List (Addr×Obj)} {σ:St} {H:Hp} {s:Shared} {T:String} {x:V} {v:Value} (I:Inv X pins σ H s) (r:RelV x v) (ty:tyV X.K T x H) :
  s.TypeIs v T/\∀ a,v = .ref a->∃ ob,s.heap.get? a=some ob/\ob.dict=none:=by
 cases x with
 | str z =>
  obtain ⟨t,rfl⟩:=r
  cases (show T = "str" from ty)
  exact ⟨typeIs_str s z t,fun _ e=>nomatch e⟩
 | int i =>
  obtain ⟨t,rfl⟩:=r
  cases (show T = "int" from ty)
  exact ⟨typeIs_int s i t,fun _ e=>nomatch e⟩
 | ref p =>
  cases r
  rcases ty with ⟨rfl,xs,hq⟩ | ⟨rfl,o,hk,hc,hd⟩ | ⟨rfl,hk⟩ | ⟨rfl,S,n,hk⟩
  ·obtain ⟨its,_,pl,_⟩:=I.list hq
   refine ⟨pl.isList.typeIs,fun a e=>?_⟩
   cases e
   obtain ⟨o,n,e,c,hd,_⟩:=pl
   exact ⟨o,e,hd⟩
  ·refine ⟨⟨o,I.kIn p o hk,hc⟩,fun a e=>?_⟩
   cases e
   exact ⟨o,I.kIn _ o hk,hd⟩
  ·have z:∃ o,s.heap.get? p=some o/\o.ExactDict:=by
    rcases hk with ⟨kvs,hk⟩ | ⟨kvs,hk⟩
    ·obtain ⟨_,_,_,_,o,_,_,e,ex,_⟩:=I.hok p _ hk
     exact ⟨o,e,ex⟩
    ·obtain ⟨_,_,_,_,o,_,_,e,ex,_⟩:=I.hok p _ hk
     exact ⟨o,e,ex⟩
   obtain ⟨o,e,ex⟩:=z
   refine ⟨⟨o,e,ex.1⟩,fun a e2=>?_⟩
   cases e2
   exact ⟨o,e,ex.2.1⟩
  ·obtain ⟨o,_,_,_,e,ex,_⟩:=I.hok p _ hk
   refine ⟨⟨o,e,ex.1⟩,fun a e2=>?_⟩
   cases e2
   exact ⟨o,e,ex.2.1⟩
 | _=>exact False.elim ty
def tBM (K:PySem.W.Frag) (T:String) (r:V->List V->Hp->VK->Prop) (to:TE) (t:TA):TE:=fun σ H Q=>to σ H fun x H1=>tyV K T x H1/\t σ H1 fun xs H2=>r x xs H2 Q
variable {o e:Expr} {es:List Expr} {to:TE} {t:TA} {name:Str} {apos cpos:Pos} {T id:String} {r:V->List V->Hp->VK->Prop}
theorem yhN (pa:PlainAttrs T) (slot:Slot T name id) (hty:typeOf (.builtin id)=pure (.type "method_descriptor")) (hm:MtR X id r) (ho:PE X o to) (ha:PA X (e::es) t)
  (hbase:attributeBase o name X.env (eval o X.env)=eval o X.env:=by rfl)
  (hfew:((backTo cpos (starEach (e::es) X.env)).all (fun x=>!x.1) && (backToKw cpos (keywordEach [] X.env)).all (fun x=>x.1.isSome)
   && decide ((e::es).length+([]:List Keyword).length+(if ([]:List Keyword).isEmpty then 0 else 1)<30))=true:=by rfl)
  (hline:(apos.endLine == cpos.line)=true:=by rfl) (hs:starEach (e::es) X.env=(false,eval e X.env)::starEach es X.env:=by rfl) (hplain:(backTo cpos (starEach es X.env)).any (·.1)=false:=by rfl) :
  PE X (.Call (.Attribute o name apos) (e::es) [] cpos) (tBM X.K T r to t):=by
 intro pins s σ H Q I h
 refine wpAny_Call_method_late hbase hfew hline rfl (thn (ho pins s σ H _ I h) fun v s1 ⟨x,H1,I1,r1,ty,q1⟩=>?_)
 obtain ⟨h1,h2⟩:=ygI I1 r1 ty
 refine ⟨T,id,pa,slot,hty,h1,h2,?_⟩
 have hA:=ha cpos pins s1 σ H1 _ I1 q1
 rw [hs] at hA ⊢
 refine Calls.callWith_builtin (by show (false || (backTo cpos (starEach es X.env)).any (·.1))=false;rw [hplain]<;>rfl) (Calls.evalArgs_plain ?_)
 exact thn hA fun us s2 ⟨vs,H2,I2,r2,q2⟩=>hm pins s2 σ H2 x vs v us Q I2 r1 r2 q2
end
end L2
namespace L2
open PySem PySem.Spec PyProof.Rows
def MtM (X:Cx) (id:String) (r:V->List V->Hp->VK->Prop):Prop :=
 ∀ (pins:List (Addr×Obj)) (s:Shared) (σ:St) (H:Hp) (x:V) (xs:List V) (v:Value) (us:List Value) (Q:VK),Inv X pins σ H s->RelV x v->Vals xs us->r x xs H Q ->
  wpAny (model X.prog X.w) X.A (call (.builtin id) (v::us)) (EP X pins σ Q) X.xe s
theorem Vals.one:∀ {x:V} {us:List Value},Vals [x] us->∃ u,us=[u]/\RelV x u
 | _,_,.cons r .nil=>⟨_,rfl,r⟩
theorem Vals.eraseIdx:∀ {xs:List V} {us:List Value} (i:Nat),Vals xs us->Vals (xs.eraseIdx i) (us.eraseIdx i)
 | _,_,_,.nil=>.nil
 | _,_,0,.cons _ t=>t
 | _,_,i+1,.cons r t=>.cons r (Vals.eraseIdx i t)
theorem zdH {α:Type}:∀ (l:List α) (i:Nat),(l.eraseIdx i).length<=l.length
 | [],_=>Nat.le_refl _
 | _::_,0=>Nat.le_succ _
 | _::r,i+1=>Nat.succ_le_succ (zdH r i)
section
variable {X:Cx} {pins:List (Addr×Obj)} {σ:St} {H:Hp} {s:Shared} {l b:Addr} {xs ys zs:List V}
theorem Inv.lset {its its':List Value} {n:Nat} {f:Array Value->Array Value} {t':Nat} (I:Inv X pins σ H s) (hH:H l=some (.lst xs))
  (e:s.heap.get? l=some { cls:=.type "list",data:=.seq its.toArray n }) (hf:f its.toArray=its'.toArray) (hv:Vals ys its') (hz:ys.length<=sizeLine) :
  Inv X pins σ (upd H l (.lst ys)) { s with heap:=s.heap.update l (Obj.mapSeq f),toks:=t' }:=by
 have q:=PySem.IsL.update e f
 rw [hf] at q
 refine I.write (x:=l) (e:=l) (by rw [hH];exact trivial) (.inl rfl) (fun b' u hb hu=>(Heap.get?_update_other s.heap (Obj.mapSeq f) (Ne.symm hb)).trans hu) ⟨_,q⟩ ?_
 exact ⟨hz,its',_,hv,q⟩
theorem Inv.lnew {its:List Value} {t':Nat} (I:Inv X pins σ H s) (hv:Vals ys its) (hz:ys.length<=sizeLine) :
  Inv X pins σ (upd H s.heap.objs.size (.lst ys)) { s with heap:=s.heap.push { cls:=.type "list",data:=.seq its.toArray },toks:=t' } :=
 I.laid (fun _ _ q=>Heap.get?_push_of_some _ q) (Nat.le_refl _) ⟨hz,its,0,hv,Heap.get?_push_size _ rfl⟩
theorem Inv.fresh (I:Inv X pins σ H s):H s.heap.objs.size=none:=I.hok.fresh (Nat.le_refl _)
theorem Inv.lstM (I:Inv X pins σ H s) (hH:H l=some (.lst xs)):xs.length<=sizeLine/\∃ (its:List Value) (n:Nat),Vals xs its/\xs.length=its.length/\s.heap.get? l=some { cls:=.type "list",data:=.seq its.toArray n }:=by
 obtain ⟨z,its,n,r,e⟩:=I.hok l _ hH
 exact ⟨z,its,n,r,r.length,e⟩
theorem zei {n:Nat} (h:n<=sizeLine):Builtin.List.listTooLong n=false:=by
 unfold Builtin.List.listTooLong
 exact decide_eq_false (by omega)
end
section
variable {X:Cx}
def ygc:V->List V->Hp->VK->Prop:=fun x vs H Q=>∃ l xs y,x = .ref l/\vs=[y]/\H l=some (.lst xs)/\xs.length<sizeLine/\Q .non (upd H l (.lst (xs++[y])))
theorem zbX:MtM X "list.append" ygc:=by
 intro pins s σ H x vs v us Q I rx rv h
 obtain ⟨l,xs,y,rfl,rfl,hH,hz,q⟩:=h
 cases rx
 obtain ⟨u,rfl,ru⟩:=rv.one
 obtain ⟨z,its,n,r,hl,e⟩:=I.lstM hH
 refine call_meets F.slot_list_append ⟨_,e,rfl⟩ F.entry_list_append (F.args_list_append_2 _ _) (PySem.list_append l its.toArray n u (by rw [List.size_toArray];omega)) ⟨e,?_⟩
 refine ⟨.non,_,I.lset (its' := its++[u]) hH e (by simp) (r.append (.cons ru .nil)) ?_,rfl,q⟩
 rw [List.length_append,List.length_singleton]
 omega
def ygd:V->List V->Hp->VK->Prop:=fun x vs H Q=>∃ l b xs zs,x = .ref l/\vs=[.ref b]/\H l=some (.lst xs)/\H b=some (.lst zs)/\xs.length+zs.length<=sizeLine/\Q .non (upd H l (.lst (xs++zs)))
theorem zgI:MtM X "list.extend" ygd:=by
 intro pins s σ H x vs v us Q I rx rv h
 obtain ⟨l,b,xs,zs,rfl,rfl,hH,hB,hz,q⟩:=h
 cases rx
 obtain ⟨u,rfl,ru⟩:=rv.one
 cases ru
 obtain ⟨z,its,n,r,hl,e⟩:=I.lstM hH
 obtain ⟨z2,its2,n2,r2,hl2,e2⟩:=I.lstM hB
 have hsz:its.toArray.size+its2.toArray.size<=sizeLine:=by rw [List.size_toArray,List.size_toArray];omega
 have hlong : ¬ (!its.toArray.isEmpty && Builtin.List.listTooLong (its.toArray.size+its2.toArray.size))=true:=by
  rw [zei hsz,Bool.and_false]
  exact Bool.false_ne_true
 refine call_meets F.slot_list_extend ⟨_,e,rfl⟩ F.entry_list_extend (F.args_list_extend_2 _ _)
  (AutoSeq1.list_extend_list_list_0 l its.toArray n b its2.toArray n2 hlong (by rw [List.size_toArray];omega) (by omega)) ⟨e,e2,?_⟩
 refine ⟨.non,_,I.lset (its' := its++its2) hH e (by simp) (r.append r2) ?_,rfl,q⟩
 rw [List.length_append]
 omega
def ygJ:V->List V->Hp->VK->Prop:=fun x vs H Q=>∃ l xs i k y,x = .ref l/\vs=[.int i]/\H l=some (.lst xs) /\ -(2 ^ 63)<=i/\i<2 ^ 63/\seqIndex? i xs.length=some k/\xs[k]? = some y/\Q y (upd H l (.lst (xs.eraseIdx k)))
theorem zhx:MtM X "list.pop" ygJ:=by
 intro pins s σ H x vs v us Q I rx rv h
 obtain ⟨l,xs,i,k,y,rfl,rfl,hH,h1,h2,hk,hy,q⟩:=h
 cases rx
 obtain ⟨u,rfl,ru⟩:=rv.one
 obtain ⟨t,rfl⟩:=ru
 obtain ⟨z,its,n,r,hl,e⟩:=I.lstM hH
 obtain ⟨w,hw,rw'⟩:=r.get hy
 refine call_meets F.slot_list_pop ⟨_,e,rfl⟩ F.entry_list_pop (F.args_list_pop_2 _ _)
  (MeetsSeq.list_pop_at l its.toArray n i t k w (fitsIndex_both h1 h2) (by rw [List.size_toArray,<- hl];exact hk) (by rw [<- Array.getElem?_toList];exact hw) (by rw [List.size_toArray];omega)) ⟨e,?_⟩
 refine ⟨y,_,I.lset (its' := its.eraseIdx k) hH e ?_ (r.eraseIdx k) ?_,rw',q⟩
 ·show its.toArray.eraseIdxIfInBounds k=(its.eraseIdx k).toArray
  rw [List.eraseIdxIfInBounds_toArray]
 ·have:=zdH xs k
  omega
end
section
variable {prog:Program} {w:World} {A:Around} {E:Value->Shared->Prop} {s:Shared}
end
section
variable {X:Cx}
end
end L2
namespace L2
open PySem PySem.Spec PyProof.Rows
section
variable {κ:Type} [DecidableEq κ]
def valV (kvs:List (κ×V)) (k:κ):Option V:=(kvs.find? fun kv=>decide (kv.1=k)).map (·.2)
def putK (kvs:List (κ×V)) (k:κ) (v:V):List (κ×V) :=
 if (kvs.any fun kv=>decide (kv.1=k))=true then kvs.map (fun kv=>if kv.1=k then (kv.1,v) else kv) else kvs++[(k,v)]
theorem zbC {p:κ×V} {r:List (κ×V)} {k:κ} (e:p.1=k):valV (p::r) k=some p.2:=by simp [valV,List.find?_cons,e]
theorem zbc {p:κ×V} {r:List (κ×V)} {k:κ} (e : ¬ p.1=k):valV (p::r) k=valV r k:=by simp [valV,List.find?_cons,e]
theorem zcI (k:κ):∀ kvs:List (κ×V),(kvs.any fun kv=>decide (kv.1=k))=(valV kvs k).isSome
 | []=>rfl
 | p::r=>by
  rw [List.any_cons]
  by_cases e:p.1=k
  ·simp only [zbC e,decide_eq_true e,Bool.true_or,Option.isSome_some]
  ·rw [zbc e,decide_eq_false e,Bool.false_or];exact zcI k r
theorem zct (kvs:List (κ×V)) (k:κ) (v:V):(putK kvs k v).length<=kvs.length+1:=by
 unfold putK
 split
 ·rw [List.length_map];omega
 ·rw [List.length_append,List.length_cons,List.length_nil];omega
theorem RelO.isSome_eq {o:Option V} {u:Option Value} (r:RelO o u):o.isSome=u.isSome:=by
 cases o with
 | none=>cases u with
  | none=>rfl
  | some _=>exact (show False from r).elim
 | some _=>cases u with
  | none=>exact (show False from r).elim
  | some _=>rfl
theorem KV.val {kvs:List (κ×V)} {vs:List (κ×Value)} (r:KV kvs vs) (k:κ):RelO (valV kvs k) (valueAt vs k):=by
 unfold KV at r
 induction r with
 | nil=>exact True.intro
 | @cons p q ps qs h t ih =>
  obtain ⟨h1,h2⟩:=h
  by_cases e:p.1=k
  ·have e':q.1=k:=h1.symm.trans e
   have b:valueAt (q::qs) k=some q.2:=by simp [valueAt,List.find?_cons,e']
   rw [zbC e,b];exact h2
  ·have e' : ¬ q.1=k:=fun z=>e (h1.trans z)
   have b:valueAt (q::qs) k=valueAt qs k:=by simp [valueAt,List.find?_cons,e']
   rw [zbc e,b];exact ih
theorem KV.any {kvs:List (κ×V)} {vs:List (κ×Value)} (r:KV kvs vs) (k:κ):(kvs.any fun kv=>decide (kv.1=k))=vs.any fun kv=>decide (kv.1=k):=by
 unfold KV at r
 induction r with
 | nil=>rfl
 | cons h t ih=>rw [List.any_cons,List.any_cons,ih,h.1]
theorem KV.repl {kvs:List (κ×V)} {vs:List (κ×Value)} (r:KV kvs vs) (k:κ) {y:V} {u:Value} (ry:RelV y u) :
  KV (kvs.map fun kv=>if kv.1=k then (kv.1,y) else kv) (vs.map fun kv=>if kv.1=k then (kv.1,u) else kv):=by
 unfold KV at r ⊢
 induction r with
 | nil=>exact .nil
 | @cons p q ps qs h t ih =>
  rw [List.map_cons,List.map_cons]
  refine .cons ?_ ih
  obtain ⟨h1,h2⟩:=h
  by_cases e:p.1=k
  ·rw [if_pos e,if_pos (h1.symm.trans e)];exact ⟨h1,ry⟩
  ·rw [if_neg e,if_neg (fun z=>e (h1.trans z))];exact ⟨h1,h2⟩
theorem KV.put {kvs:List (κ×V)} {vs:List (κ×Value)} (r:KV kvs vs) (k:κ) {y:V} {u:Value} (ry:RelV y u):KV (putK kvs k y) (stored vs k u):=by
 unfold putK stored
 rw [r.any k]
 by_cases e:(vs.any fun kv=>decide (kv.1=k))=true
 ·rw [if_pos e,if_pos e];exact r.repl k ry
 ·rw [if_neg e,if_neg e];exact Paired.snoc r ⟨rfl,ry⟩
theorem KV.length {kvs:List (κ×V)} {vs:List (κ×Value)} (r:KV kvs vs):kvs.length=vs.length:=Paired.length r
end
theorem yeS {P:Program} {w:World} {k:Key} {u:Value} (r:RelV (kV k) u):(ybj P w).is k u=true:=by
 cases k with
 | inl i=>obtain ⟨t,e⟩:=(show ∃ t,u=Value.int i t from r);subst e;exact zcp P w i t
 | inr x=>obtain ⟨t,e⟩:=(show ∃ t,u=Value.str x t from r);subst e;exact zcq P w x t
theorem ygK {P:Program} {w:World} {y:V} {k:Key} {u:Value} (e:kOf y=some k) (r:RelV y u):(ybj P w).is k u=true:=by
 cases y with
 | int i=>cases e;obtain ⟨t,e⟩:=(show ∃ t,u=Value.int i t from r);subst e;exact zcp P w i t
 | str x=>cases e;obtain ⟨t,e⟩:=(show ∃ t,u=Value.str x t from r);subst e;exact zcq P w x t
 | bl b=>cases e;cases (show u=Value.bool b from r);exact decide_eq_true rfl
 | _=>cases e
theorem zdI {P:Program} {w:World}:∀ {ys:List V} {ks:List Key} {us:List Value},ys.map kOf=ks.map some->Vals ys us->ItemsAre (ybj P w) ks us
 | [],[],_,_,r=>by cases r;exact .nil
 | [],_::_,_,e,_=>by simp at e
 | _::_,[],_,e,_=>by simp at e
 | y::ys,k::ks,_,e,r=>by
  rw [List.map_cons,List.map_cons] at e
  injection e with e1 e2
  cases r with
  | cons h t=>exact .cons (ygK e1 h) (zdI e2 t)
def KTup (H:Hp) (b:Addr) (k:List Key):Prop:=∃ ys,H b=some (.tup ys)/\ys.map kOf=k.map some
theorem KTup.of {H:Hp} {b:Addr} {k:List Key} (e:H b=some (.tup (k.map kV))):KTup H b k:=⟨_,e,by rw [List.map_map];exact List.map_congr_left fun x _=>ygi x⟩
abbrev KT (H:Hp):List (List Key×V)->List (List Key×Addr×Value)->Prop:=Paired fun p q=>p.1=q.1/\(∃ ys,H q.2.1=some (.tup ys)/\ys.map kOf=p.1.map some)/\RelV p.2 q.2.2
theorem KT.val {H:Hp} {kvs:List (List Key×V)} {xs:List (List Key×Addr×Value)} (r:KT H kvs xs) (k:List Key):RelO (valV kvs k) ((atKey xs k).map (·.2)):=by
 induction r with
 | nil=>exact True.intro
 | @cons p q ps qs h t ih =>
  obtain ⟨h1,_,h2⟩:=h
  by_cases e:p.1=k
  ·have e':q.1=k:=h1.symm.trans e
   have b:atKey (q::qs) k=some q.2:=by simp [atKey,List.find?_cons,e']
   rw [zbC e,b];exact h2
  ·have e' : ¬ q.1=k:=fun z=>e (h1.trans z)
   have b:atKey (q::qs) k=atKey qs k:=by simp [atKey,List.find?_cons,e']
   rw [zbc e,b];exact ih
theorem KT.repl {H:Hp} {kvs:List (List Key×V)} {xs:List (List Key×Addr×Value)} (r:KT H kvs xs) (k:List Key) {y:V} {u:Value} (ry:RelV y u) :
  KT H (kvs.map fun kv=>if kv.1=k then (kv.1,y) else kv) (xs.map (putAt k u)):=by
 induction r with
 | nil=>exact .nil
 | @cons p q ps qs h t ih =>
  rw [List.map_cons,List.map_cons]
  refine .cons ?_ ih
  obtain ⟨h1,h2,h3⟩:=h
  unfold putAt
  by_cases e:p.1=k
  ·rw [if_pos e,if_pos (h1.symm.trans e)];exact ⟨h1,h2,ry⟩
  ·rw [if_neg e,if_neg (fun z=>e (h1.trans z))];exact ⟨h1,h2,h3⟩
theorem KT.put {H:Hp} {kvs:List (List Key×V)} {xs:List (List Key×Addr×Value)} (r:KT H kvs xs) (k:List Key) {b:Addr} {y:V} {u:Value} (hb:KTup H b k) (ry:RelV y u) :
  KT H (putK kvs k y) (storedH xs k b u):=by
 have e:(kvs.any fun kv=>decide (kv.1=k))=(atKey xs k).isSome:=by
  rw [zcI,(r.val k).isSome_eq,Option.isSome_map]
 unfold putK storedH
 rw [e]
 by_cases q:(atKey xs k).isSome=true
 ·rw [if_pos q,if_pos q];exact r.repl k ry
 ·rw [if_neg q,if_neg q];exact Paired.snoc r ⟨rfl,hb,ry⟩
theorem KT.keeps {H H':Hp} {kvs:List (List Key×V)} {xs:List (List Key×Addr×Value)} (r:KT H kvs xs) (ht:∀ b ys,H b=some (.tup ys)->H' b=some (.tup ys)):KT H' kvs xs :=
 Paired.mapP r fun _ _ z=>⟨z.1,z.2.1.imp fun _ e=>⟨ht _ _ e.1,e.2⟩,z.2.2⟩
section
variable {P:Program} {w:World} {H:Hp} {h:Heap} {a:Addr}
theorem yfZ {u:HO} (ok:HOk P w H h) (e:Rd H a u):ObjOk P w H h a u:=e.ok ok
theorem yeh {kvs:List (Key×V)} (ok:HOk P w H h) (e:Rd H a (.dK kvs)):kvs.length<=sizeLine/\(a == sysModules)=false/\∃ vs,KV kvs vs/\h.DictOf (ybj P w) a vs :=
 show ObjOk P w H h a (.dK kvs) from yfZ ok e
theorem yhO {kvs:List (Key×V)} (ok:HOk P w H h) (e:H a=some (.dK kvs)):kvs.length<=sizeLine/\(a == sysModules)=false/\∃ vs,KV kvs vs/\h.DictOf (ybj P w) a vs:=yeh ok (.inl e)
theorem yd4 {ks:List Key} (ok:HOk P w H h) (e:KTup H a ks):(tupleKind (ybj P w)).is h ks a:=by
 obtain ⟨ys,e,ek⟩:=e
 obtain ⟨_,its,r,o,h1,h2,n,h3⟩:=(show ObjOk P w H h a (.tup ys) from ok a _ e)
 exact ⟨o,its.toArray,n,h1,h2,h3,by simpa using zdI ek r⟩
theorem yex {kvs:List (List Key×V)} (ok:HOk P w H h) (e:Rd H a (.dT kvs)):kvs.length<=sizeLine/\(a == sysModules)=false /\
  ∃ xs,KT H kvs xs/\h.DictOfH (tupleKind (ybj P w)) a xs:=by
 obtain ⟨z,y,xs,r,o,es,ep,h1,h2,h3,h4,h5⟩:=(show ObjOk P w H h a (.dT kvs) from yfZ ok e)
 refine ⟨z,y,xs,r,o,es,ep,h1,h2,h3,h4,fun x hx=>?_,h5⟩
 have all:∀ {l:List (List Key×V)} {m:List (List Key×Addr×Value)},KT H l m->∀ x∈m,(tupleKind (ybj P w)).is h x.1 x.2.1:=by
  intro l m q
  induction q with
  | nil=>intro x hx;exact nomatch hx
  | @cons p q ps qs hq t ih =>
   intro x hx
   rcases List.mem_cons.mp hx with e | hx
   ·subst e
    exact yd4 ok (by rw [<- hq.1];exact hq.2.1)
   ·exact ih x hx
 exact all r x hx
theorem yhP {kvs:List (List Key×V)} (ok:HOk P w H h) (e:H a=some (.dT kvs)):kvs.length<=sizeLine/\(a == sysModules)=false /\
  ∃ xs,KT H kvs xs/\h.DictOfH (tupleKind (ybj P w)) a xs:=yex ok (.inl e)
end
def DGet (H:Hp) (a:Addr) (y:V) (r:Option V):Prop :=
 (∃ kvs k,Rd H a (.dK kvs)/\y=kV k/\r=valV kvs k)\/∃ kvs k b,Rd H a (.dT kvs)/\y = .ref b/\KTup H b k/\r=valV kvs k
def DPut (H:Hp) (a:Addr) (y v:V) (H':Hp):Prop :=
 (∃ kvs k,H a=some (.dK kvs)/\y=kV k/\kvs.length<sizeLine/\H'=upd H a (.dK (putK kvs k v))) \/
 ∃ kvs k b,H a=some (.dT kvs)/\y = .ref b/\KTup H b k/\kvs.length<sizeLine/\H'=upd H a (.dT (putK kvs k v))
theorem DGet.k {H:Hp} {a:Addr} {kvs:List (Key×V)} {k:Key} (e:H a=some (.dK kvs)):DGet H a (kV k) (valV kvs k):=.inl ⟨kvs,k,.inl e,rfl,rfl⟩
theorem DGet.t {H:Hp} {a b:Addr} {kvs:List (List Key×V)} {k:List Key} (e:H a=some (.dT kvs)) (eb:KTup H b k):DGet H a (.ref b) (valV kvs k):=.inr ⟨kvs,k,b,.inl e,rfl,eb,rfl⟩
theorem DPut.k {H:Hp} {a:Addr} {kvs:List (Key×V)} {k:Key} {v:V} (e:H a=some (.dK kvs)) (hl:kvs.length<sizeLine):DPut H a (kV k) v (upd H a (.dK (putK kvs k v))):=.inl ⟨kvs,k,e,rfl,hl,rfl⟩
theorem DPut.t {H:Hp} {a b:Addr} {kvs:List (List Key×V)} {k:List Key} {v:V} (e:H a=some (.dT kvs)) (eb:KTup H b k) (hl:kvs.length<sizeLine) :
  DPut H a (.ref b) v (upd H a (.dT (putK kvs k v))):=.inr ⟨kvs,k,b,e,rfl,eb,hl,rfl⟩
section
variable {X:Cx} {pins:List (Addr×Obj)} {σ:St} {H:Hp} {s:Shared} {a:Addr} {y v:V} {u r:Value} {o:Option V} {A:Around} {E:Value->Shared->Prop}
theorem Inv.big (I:Inv X pins σ H s):sysModules<s.heap.objs.size:=by
 have h:mainGlobals<s.heap.objs.size:=(I.mod.glob.keeps I.bk).lt
 exact Nat.lt_trans (by decide) h
theorem zgJ {Q:Value->Shared->Prop} (hu:A.units+1<cLine) (I:Inv X pins σ H s) (g:DGet H a y (some v)) (ry:RelV y u) (h:∀ w' s',Inv X pins σ H s'->RelV v w'->Q w' s') :
  wpAny (model X.prog X.w) A (getItem (.ref a) u) Q E s:=by
 rcases g with ⟨kvs,k,e,ey,l⟩ | ⟨kvs,k,b,e,ey,eb,l⟩
 ·subst ey
  obtain ⟨z,hd,vs,rel,dd⟩:=yeh I.hok e
  obtain ⟨w',hw,rw'⟩:=RelO.some_of (v:=v) (o:=valueAt vs k) (by rw [l];exact rel.val k)
  exact wpAny_getItem_of (yeS ry) dd.mapOf hw (h w' _ (I.tok _) rw')
 ·subst ey
  cases (show u=Value.ref b from ry)
  obtain ⟨z,hd,xs,rel,dd⟩:=yex I.hok e
  obtain ⟨w',hw,rw'⟩:=RelO.some_of (v:=v) (o:=(atKey xs k).map (·.2)) (by rw [l];exact rel.val k)
  obtain ⟨p,hp,hp2⟩:=Option.map_eq_some_iff.mp hw
  refine wpAny_getItem_heap (tupleKind_room_in1 hu) (yd4 I.hok eb) dd hp ?_
  rw [hp2]
  exact h w' _ (I.tok _) rw'
theorem d_in {Q:Value->Shared->Prop} (hu:A.units+1<cLine) (I:Inv X pins σ H s) (g:DGet H a y o) (ry:RelV y u) (h:∀ s',Inv X pins σ H s'->Q (.bool o.isSome) s') :
  wpAny (model X.prog X.w) A (compareOp .In u (.ref a)) Q E s:=by
 rcases g with ⟨kvs,k,e,ey,l⟩ | ⟨kvs,k,b,e,ey,eb,l⟩
 ·subst ey
  obtain ⟨z,hd,vs,rel,dd⟩:=yeh I.hok e
  refine wpAny_in_of (yeS ry) hd dd.mapOf ?_
  rw [<- (rel.val k).isSome_eq,<- l]
  exact h _ (I.tok _)
 ·subst ey
  cases (show u=Value.ref b from ry)
  obtain ⟨z,hd,xs,rel,dd⟩:=yex I.hok e
  refine wpAny_in_heap (tupleKind_room_in1 hu) (yd4 I.hok eb) hd dd ?_
  have q:=(rel.val k).isSome_eq
  rw [Option.isSome_map] at q
  rw [<- q,<- l]
  exact h _ (I.tok _)
theorem ziB {Q:Value->Shared->Prop} (hu:A.units+1<cLine) (I:Inv X pins σ H s) (g:DGet H a y o) (ry:RelV y u) (h:∀ s',Inv X pins σ H s'->Q (.bool (!o.isSome)) s') :
  wpAny (model X.prog X.w) A (compareOp .NotIn u (.ref a)) Q E s:=by
 rcases g with ⟨kvs,k,e,ey,l⟩ | ⟨kvs,k,b,e,ey,eb,l⟩
 ·subst ey
  obtain ⟨z,hd,vs,rel,dd⟩:=yeh I.hok e
  refine wpAny_notIn_of (yeS ry) hd dd.mapOf ?_
  rw [<- (rel.val k).isSome_eq,<- l]
  exact h _ (I.tok _)
 ·subst ey
  cases (show u=Value.ref b from ry)
  obtain ⟨z,hd,xs,rel,dd⟩:=yex I.hok e
  refine wpAny_notIn_heap (tupleKind_room_in1 hu) (yd4 I.hok eb) hd dd ?_
  have q:=(rel.val k).isSome_eq
  rw [Option.isSome_map] at q
  rw [<- q,<- l]
  exact h _ (I.tok _)
theorem zfi {h':Heap} {t':Nat} {ob:HO} (I:Inv X pins σ H s) (mu:Mut (H a)) (hs:Heap.SameBut a s.heap h') (he:∃ q,h'.get? a=some q) (new:ObjOk X.prog X.w (upd H a ob) h' a ob) :
  Inv X pins σ (upd H a ob) { s with heap:=h',toks:=t' } :=
 I.write (x:=a) (e:=a) mu (.inl rfl) (fun b q hb z=>(hs.2 b hb).trans z) he new
theorem ygL {P:Program} {w:World} {H':Hp} {h':Heap} {kvs:List (Key×V)} {vs:List (Key×Value)} (z:kvs.length<=sizeLine) (hd:(a == sysModules)=false) (rel:KV kvs vs) (dd:h'.DictOf (ybj P w) a vs) :
  ObjOk P w H' h' a (.dK kvs):=⟨z,hd,vs,rel,dd⟩
theorem zgK {H':Hp} {Q:Unit->Shared->Prop} (hu:A.units+1<cLine) (I:Inv X pins σ H s) (g:DPut H a y v H') (ry:RelV y u) (rv:RelV v r) (h:∀ s',Inv X pins σ H' s'->Q () s') :
  wpAny (model X.prog X.w) A (setItem (.ref a) u r) Q E s:=by
 rcases g with ⟨kvs,k,e,ey,l,eH⟩ | ⟨kvs,k,b,e,ey,eb,l,eH⟩
 ·subst ey eH
  obtain ⟨z,hd,vs,rel,dd⟩:=yhO I.hok e
  have hz:vs.length<=sizeLine:=by rw [<- rel.length];exact z
  have hl:(putK kvs k v).length<=sizeLine:=by have:=zct kvs k v;omega
  refine wpAny_setItem_pairs (hsz:=hz) (yeS ry) dd fun h' dd' hs=>h _ ?_
  have he:∃ q,h'.get? a=some q:=let ⟨q,_,_,hq,_⟩:=dd';⟨q,hq⟩
  exact zfi I (by rw [e];exact True.intro) hs he (ygL hl hd (rel.put k rv) dd')
 ·subst ey eH
  cases (show u=Value.ref b from ry)
  obtain ⟨z,hd,xs,rel,dd⟩:=yhP I.hok e
  have hz:xs.length<=sizeLine:=by rw [<- Paired.length rel];exact z
  have hl:(putK kvs k v).length<=sizeLine:=by have:=zct kvs k v;omega
  refine wpAny_setItem_heap (hsz:=hz) (tupleKind_room_in1 hu) (yd4 I.hok eb) dd fun h' dd' hs=>h _ ?_
  obtain ⟨q,es,ep,hq,h2,h3,h4,_,h5⟩:=dd'
  refine zfi I (by rw [e];exact True.intro) hs ⟨q,hq⟩ ⟨hl,hd,_,(rel.put k eb rv).keeps fun c ys ec=>?_,q,es,ep,hq,h2,h3,h4,h5⟩
  rw [yay (yhu ec e (fun z=>nomatch z))]
  exact ec
end
section
variable {X:Cx} {pins:List (Addr×Obj)} {σ:St} {H:Hp} {s:Shared} {a:Addr} {kvs:List (Key×V)} {k:Key} {u:Value} {A:Around} {E:Value->Shared->Prop}
theorem yhQ {Q:Value->Shared->Prop} (I:Inv X pins σ H s) (e:Rd H a (.dK kvs)) (h:∀ t s',Inv X pins σ H s'->Q (.int kvs.length t) s'):wpAny (model X.prog X.w) A (call (.builtin "len") [.ref a]) Q E s:=by
 obtain ⟨z,hd,vs,rel,dd⟩:=yeh I.hok e
 refine call_len_dict hd dd (by rw [<- rel.length];rw [sizeLine_eq] at z;omega) ?_
 rw [<- rel.length]
 exact h _ _ (I.tok _)
end
def NoSl (i:Expr):Prop:=∀ ov iv,subscripted i false ov iv=operate [ov,iv] (getItem ov iv)
theorem ziC {prog:Program} {w:World} {A:Around} {E:Value->Shared->Prop} {s:Shared} {env:Env} {value slice:Expr} {pos:Pos} {T id:String} {Q:Value->Shared->Prop}
  (hl:typeLookup (.type T) "__getitem__" = pure (some (.builtin id))) (hs:NoSl slice)
  (h:wpAny (model prog w) A (eval value env) (fun o s₁=>wpAny (model prog w) A (eval slice env) (fun i s₂=>s₂.TypeIs o T/\wpAny (model prog w) A (getItem o i) Q E s₂) E s₁) E s) :
  wpAny (model prog w) A (eval (.Subscript value slice pos) env) Q E s:=by
 refine Subscript_ (wpAny_mono h (fun o s₁ h₁=>wpAny_mono h₁ (fun i s₂ h₂=>?_) fun _ _ x=>x) fun _ _ x=>x)
 obtain ⟨hT,h₂⟩:=h₂
 unfold subscriptTail
 refine wpAny_bind ?_
 rw [getitemInPython_of_ne hT.not_modules]
 refine wpAny_bind (wpAny_specialOf hT hl ?_)
 have fin:wpAny (model prog w) A (subscripted slice false o i) (fun r s₃=>wpAny (model prog w) A (letTemporaryGo value o r >>= fun _=>pure r) Q E s₃) E s₂:=by
  rw [hs o i]
  exact wpAny_operating (wpAny_mono h₂ (fun r s₃ h₃=>wpAny_bind (wpAny_letTemporaryGo (wpAny_pure h₃))) fun _ _ x=>x)
 first
  | exact wpAny_pure (wpAny_bind fin)
  | exact wpAny_bind (wpAny_pure (wpAny_bind fin))
  | exact wpAny_bind fin
theorem zeR {X:Cx} {pins:List (Addr×Obj)} {σ:St} {H:Hp} {s:Shared} {a:Addr} {y:V} {o:Option V} (I:Inv X pins σ H s) (g:DGet H a y o):s.TypeIs (.ref a) "dict" := by
 rcases g with ⟨kvs,k,e,_,_⟩ | ⟨kvs,k,b,e,_,_,_⟩
 ·obtain ⟨_,_,vs,_,dd⟩:=yeh I.hok e
  exact dd.typeIs
 ·obtain ⟨_,_,xs,_,dd⟩:=yex I.hok e
  exact dd.typeIs
def yhR (td ty:TE):TE:=fun σ H Q=>td σ H fun x H1=>ty σ H1 fun y H2=>∃ a v,x = .ref a/\DGet H2 a y (some v)/\Q v H2
def yhS (td ty tv:TE):TS:=fun D σ H=>tv σ H fun v H1=>td σ H1 fun x H2=>ty σ H2 fun y H3=>∃ a H4,x = .ref a/\DPut H3 a y v H4/\D.nx σ H4
section
variable {X:Cx} {o i e value:Expr} {pos pos' tpos:Pos} {td ty tv:TE}
theorem ziD (hu:X.A.units+1<cLine) (ho:PE X o td) (hi:PE X i ty) (hs:NoSl i):PE X (.Subscript o i pos) (yhR td ty):=by
 intro pins s σ H Q I h
 refine ziC PySem.F.slot_dict_getitem.lookup hs (thn (ho pins s σ H _ I h) fun u s1 ⟨x,H1,I1,rx,q1⟩=>thn (hi pins s1 σ H1 _ I1 q1) fun iv s2 ⟨y,H2,I2,ry,a,v,ex,g,q2⟩=>?_)
 subst ex
 obtain rfl:u=Value.ref a:=rx
 exact ⟨zeR I2 g,zgJ hu I2 g ry fun w' s3 I3 rw' => ⟨v,H2,I3,rw',q2⟩⟩
theorem ziE (hu:X.A.units+1<cLine) (ho:PE X o td) (hi:PE X i ty) (hv:PE X value tv) (hs:swapsWith value (some (.Subscript o i pos')) pos.line X.env=pure false) :
  PS X (.Assign [.Subscript o i pos'] value pos) (yhS td ty tv):=by
 intro pins s σ H D I h
 refine wpAny_Assign_Subscript (thn (hv pins s σ H _ I h) fun r s1 ⟨v,H1,I1,rv,q1⟩=>thn (ho pins s1 σ H1 _ I1 q1) fun u s2 ⟨x,H2,I2,rx,q2⟩=>thn (hi pins s2 σ H2 _ I2 q2) fun iv s3 ⟨y,H3,I3,ry,a,H4,ex,g,q3⟩=>?_) hs
 subst ex
 obtain rfl:u=Value.ref a:=rx
 exact zgK hu I3 g ry rv fun s4 I4=>⟨σ,H4,I4,q3⟩
end
theorem zhy {P:Program} {w:World} {H:Hp} (h:Heap) (hb:sysModules<h.objs.size):ObjOk P w H (h.push { cls:=.type "dict",data:=.dict #[] }) h.objs.size (.dK []) :=
 ⟨Nat.zero_le _,beq_eq_false_iff_ne.mpr (Ne.symm (Nat.ne_of_lt hb)),[],.nil,Heap.DictOf.new h⟩
theorem zhz {P:Program} {w:World} {H:Hp} (h:Heap) (hb:sysModules<h.objs.size):ObjOk P w H (h.push { cls:=.type "dict",data:=.dict #[] }) h.objs.size (.dT []) :=
 ⟨Nat.zero_le _,beq_eq_false_iff_ne.mpr (Ne.symm (Nat.ne_of_lt hb)),[],.nil,_,#[],0,Heap.get?_push_size _ rfl,⟨rfl,rfl,rfl⟩,rfl,rfl,List.nodup_nil⟩
def ygM:TE:=fun _ H Q=>∀ p,H p=none->Q (.ref p) (upd H p (.dK []))
def ygN:TE:=fun _ H Q=>∀ p,H p=none->Q (.ref p) (upd H p (.dT []))
section
variable {X:Cx} {pos:Pos}
theorem zhA:PE X (.Dict [] [] pos) ygM:=fun pins s σ H Q I h =>
 wpAny_Dict_empty ⟨.ref s.heap.objs.size,_,I.laid (a:=s.heap.objs.size) (o:=.dK []) (t' := s.toks) (fun _ _ q=>Heap.get?_push_of_some _ q) (Nat.le_refl _) (zhy s.heap I.big),rfl,h _ (I.hok.fresh (Nat.le_refl _))⟩
theorem zhB:PE X (.Dict [] [] pos) ygN:=fun pins s σ H Q I h =>
 wpAny_Dict_empty ⟨.ref s.heap.objs.size,_,I.laid (a:=s.heap.objs.size) (o:=.dT []) (t' := s.toks) (fun _ _ q=>Heap.get?_push_of_some _ q) (Nat.le_refl _) (zhz s.heap I.big),rfl,h _ (I.hok.fresh (Nat.le_refl _))⟩
end
section
variable {X:Cx} {pins:List (Addr×Obj)} {σ:St} {H:Hp} {s:Shared} {a:Addr} {y d:V} {u r:Value} {o:Option V} {A:Around} {E:Value->Shared->Prop}
end
section
variable {X:Cx} {o e f:Expr} {apos cpos:Pos} {td ty tx:TE}
end
section
variable {X:Cx} {pins:List (Addr×Obj)} {σ:St} {H:Hp} {s:Shared} {a:Addr} {kvs:List (Key×V)} {A:Around} {E:Value->Shared->Prop}
end
section
variable {X:Cx} {pins:List (Addr×Obj)} {σ:St} {H:Hp} {s:Shared} {a:Addr} {y:V} {u:Value} {A:Around} {E:Value->Shared->Prop}
end
end L2
namespace Att
open PySem PySem.W PySem.Calls PyProof.Rows
theorem zc1 {P:Params} {h:Heap}:∀ (ns:List Int) (vs:List Value),WellAll P h vs (ns.map WData.int)->IntsAre vs ns:=by
 intro ns
 induction ns with
 | nil =>
  intro vs w
  rw [List.map_nil] at w
  cases w
  exact .nil
 | cons n ns ih =>
  intro vs w
  rw [List.map_cons] at w
  cases w with
  | cons a b =>
   cases a
   exact .cons _ _ (ih _ b)
theorem zgL {l:OpenLaw} {n:Nat} (hn:l.most=some n) {P:Params} {h:Heap} {args:List WData} {vals:List Value}
  (hpre:l.row.toRowW.claim.pre args=true) (hwl:WellAll P h vals args) :
  ∃ a vs ns,vals=[Value.ref a]/\args=[WData.list (ns.map WData.int)]/\h.get? a=some { cls:=.type "list",data:=.seq vs.toArray }/\IntsAre vs ns/\ns.length<=n:=by
 have hsh:WShape.hasAll [] args [.list .int]=true:=(pre_splitW hpre).1
 have hc:l.pre.holds [] { args:=args }=true:=(pre_splitW hpre).2
 obtain ⟨d,r,rfl,h1,h2⟩:=hasAllW_cons hsh
 obtain rfl:=hasAllW_nil h2
 obtain ⟨xs,rfl,h3⟩:=hasW_list h1
 obtain ⟨ns,rfl⟩:=items_int h3
 have hlen:ns.length<=n:=by
  unfold OpenLaw.pre at hc
  have h4:(WTm.not (.lt (.lit (.int (n:Int))) (.len (.arg 0)))).holds [] { args:=[.list (ns.map .int)] }=true:=by
   have h4:=(holds_andW hc).1
   rw [hn] at h4
   exact h4
  have h5:=condW_of h4 (w_not (w_lt w_lit (w_len_list (w_arg rfl))))
  rw [List.length_map] at h5
  refine Nat.le_of_not_lt fun q=>?_
  have q':(n:Int)<((ns.length:Nat):Int):=by omega
  first
   | (rw [decide_eq_true q'] at h5;exact absurd h5 (by decide))
   | (simp at h5;omega)
 cases hwl with
 | cons w1 w2 =>
  cases w2
  cases w1 with
  | list ho hall=>exact ⟨_,_,ns,rfl,rfl,ho,zc1 ns _ hall,hlen⟩
theorem zgM (l:OpenLaw) (args:List WData):l.row.toRowW.claim.post args (.bool true) args=true :=
 postW_of (r:=l.row.toRowW) (X:=(true == true))
  (show WShape.has [] (.bool true) .bool=true by first | rfl | decide | simp [WShape.has,WShape.arms,WShape.armsAll])
  (show (WTm.eq .res (.lit (.bool true))).value [] { args:=args,res:=some (.bool true),after:=args }=some (.bool (true == true)) from w_eq_bool (w_res rfl) w_lit) rfl
theorem attach_call {l:OpenLaw} {n:Nat} {q:Program} {loose:List Str} {XP:(Str->Option Value)->Heap->Prop} {YP:World->Heap->Prop} {d:DefRec}
  (hn:l.most=some n) (hdf:d.params.defaults=[])
  (call:∀ (w:World) (s₀ s₁:Shared) (mg mb:Str->Option Value) (fa:Addr) (o:Obj) (pm cd doc:Value) (a:Addr) (vs:List Value) (ns:List Int),
   Ground q loose [] XP w s₀ mg mb s₁.heap->YP w s₁.heap ->
   s₁.heap.get? fa=some o->o.data = .func (docDef d.name d.params d.body d.scope pm cd doc)->s₁.heap.CodeRec cd d.name->mg d.name=some (.ref fa) ->
   s₁.heap.get? a=some { cls:=.type "list",data:=.seq vs.toArray }->IntsAre vs ns->ns.length<=n->s₁.gens = #[] ->
   codeAny (model l.prog w) callerA (.call (.ref fa) ⟨[.ref a],[]⟩) (fun r s' => r = .ok (.ret (.bool true))/\OldK s₁.heap s'.heap/\s'.os=s₁.os/\AllBare s'.gens) s₁) :
  WalkO q loose XP YP l.row.toRowW d [] (fun f vs=>PySem.call f vs):=by
 intro w s₀ s₁ mg mb G Y fa o pm cd doc dV kV ho hd hcd hD hmg hg args vals as hpre hlay hrd hwl hlo
 obtain rfl:dV = .none:=Dflts.none hD hdf
 obtain rfl:kV = .none:=Dflts.noKw hD
 obtain ⟨a,vs,ns,rfl,rfl,hobj,hints,hlen⟩:=zgL hn hpre hwl
 refine enter_call (codeAny_mono (call w s₀ s₁ mg mb fa o pm cd doc a vs ns G Y ho (fd_plain hd) hcd hmg hobj hints hlen hg) fun r s' hq=>?_)
 obtain ⟨rfl,h2,h3,h4⟩:=hq
 exact ⟨.inl ⟨.bool true,.bool true,[],rfl,fun _=>rfl,.bool true,zgM l _,fun _=>⟨List.Pairwise.nil,fun _ hm=>(nomatch hm)⟩⟩,h2,h3,h4⟩
section
variable {prog:Program} {w:World} {A:Around} {E:Value->Shared->Prop} {s:Shared} {K:Frag}
end
end Att
namespace L2
open PySem PySem.Spec PyProof.Rows
theorem zdJ:∀ {vs:List Value} {ns:List Int},IntsAre vs ns->Vals (ns.map V.int) vs
 | _,_,.nil=>.nil
 | _,_,.cons n t h=>.cons ⟨t,rfl⟩ (zdJ h)
def Only (H:Hp):Prop:=∀ b,H b=none\/∃ o xs,H b=some (.frz o (.lst xs))
theorem zhC {P:Program} {w:World} {K:PySem.W.Frag} {mg mb:Str->Option Value} {CX:CXT} {k:Nat} {fa a:Addr} {fd:FuncData} {x:Str} {sp:Sp} {s₁:Shared} {vs:List Value} {ns:List Int}
  (KX:K.In s₁.heap) (hns:s₁.heap.Ns mainGlobals mg) (hb:s₁.heap.Ns builtinsNs mb) (hbb:∀ x:Str,x ≠ "__name__" -> mb x=bootBuiltins x) (hlim:s₁.heap.NoLimit) (hg:s₁.gens = #[])
  (ha:s₁.heap.get? a=some { cls:=.type "list",data:=.seq vs.toArray }) (hi:IntsAre vs ns) (hl:ns.length<=sizeLine) (hr:Room k callerA)
  (F:∀ base:Heap,K.In base->base.Ns mainGlobals mg->FnOk P w K mg base CX k fa fd [x] sp) (hbind:∀ (s:Shared) (u:Value),BindsTo s fd ⟨[u],[]⟩ [(x,u)])
  (hsp:∀ H:Hp,Only H->SqL K H a (ns.map V.int)->sp [.ref a] H (fun v _=>v = .bl true) fun _ _ _=>False)
  (hCX:∀ H e s',CX [] H s₁ (fun _ _ _=>False) e s'->False) :
  codeAny (model P w) callerA (.call (.ref fa) ⟨[.ref a],[]⟩) (fun r s' => r = .ok (.ret (.bool true))/\OldK s₁.heap s'.heap/\s'.os=s₁.os/\AllBare s'.gens) s₁:=by
 have rv:=zdJ hi
 have lenV:=hi.length
 have core:∀ H:Hp,Only H->SqL K H a (ns.map V.int)->HOk P w H s₁.heap->(∀ b,H b≠none->b=a)->(H a≠none->K.lookup a=none) ->
   codeAny (model P w) callerA (.call (.ref fa) ⟨[.ref a],[]⟩) (fun r s' => r = .ok (.ret (.bool true))/\OldK s₁.heap s'.heap/\s'.os=s₁.os/\AllBare s'.gens) s₁:=by
  intro H hO hS hok hA hK
  have base_of:∀ {b:Addr} {o:Obj},s₁.heap.get? b=some o->H b=none->(hidT s₁.heap H).get? b=some o:=fun e n=>zhk e n
  have noA:∀ {b:Addr} {o:Obj} {es:Array DictEntry} {ep:Nat},s₁.heap.get? b=some o->o.data = .dict es ep->H b=none:=fun {b o es ep} e d=>by
   cases q:H b with
   | none=>rfl
   | some u =>
    have e':b=a:=hA b (by rw [q];simp)
    subst e'
    rw [ha] at e;cases e
    have d':Data.seq vs.toArray _=Data.dict es ep:=d
    cases d'
  have nsK:∀ {b:Addr} {m:Str->Option Value},s₁.heap.Ns b m->(hidT s₁.heap H).Ns b m:=fun {b m} ⟨o,es,ep,e,d,r⟩=>⟨o,es,ep,base_of e (noA e d),d,r⟩
  have hKb:K.In (hidT s₁.heap H):=fun b o e=>base_of (KX b o e) (by
   cases q:H b with
   | none=>rfl
   | some u =>
    have e':b=a:=hA b (by rw [q];simp)
    subst e'
    rw [hK (by rw [q];simp)] at e;cases e)
  have hM:Mod K mg (hidT s₁.heap H):=⟨hKb,nsK hns,⟨mb,nsK hb,hbb⟩,let ⟨mc,h1,h2⟩:=hlim;⟨mc,nsK h1,h2⟩⟩
  have e0:Env0 P w K mg (hidT s₁.heap H) callerA [] s₁ H:=⟨rfl,hM,fun b o e=>zij e,Nat.le_of_eq (zgw _ _),trivial,fun b hb=>absurd (show b∈([]:List Addr) from hb) (by simp),hok,.of_eq hg⟩
  refine codeAny_mono ((F _ hKb (nsK hns)).run callerA [] s₁ H ⟨[.ref a],[]⟩ [.ref a] [.ref a] _ _ hr e0 (hbind s₁ (.ref a)) (.cons rfl .nil) (hsp H hO hS)) fun r s' h=>?_
  cases r with
  | error e=>exact (hCX H e s' h).elim
  | ok fl =>
   cases fl with
   | next=>exact False.elim h
   | brk=>exact False.elim h
   | cont=>exact False.elim h
   | ret u =>
    obtain ⟨v,H',os,bare,un,hok',r',q⟩:=h
    have q':v = .bl true:=q
    subst q'
    obtain rfl:u=Value.bool true:=r'
    refine ⟨rfl,OldK.of_keep fun b o e=>?_,os,bare⟩
    cases q:H b with
    | none=>exact un.keep b o e q (by intro z;exact absurd (show b∈([]:List Addr) from z) (by simp)) (by simp)
    | some u =>
     rcases hO b with z | ⟨ob,xs,z⟩
     ·rw [q] at z;cases z
     ·have z2:=un.frzs b ob _ z
      obtain ⟨e1,_⟩:=hok b _ z
      obtain ⟨e2,_⟩:=hok' b _ z2
      rw [e] at e1;cases e1
      exact e2
 cases hk:K.lookup a with
 | some o =>
  have e:=KX a o hk
  rw [ha] at e
  cases e
  refine core (fun _=>none) (fun _=>.inl rfl) (.inr ⟨_,vs.toArray,_,hk,rfl,rfl,rfl,by rw [List.size_toArray,lenV];exact hl,by simpa using rv⟩) (fun b u z=>by have z':(none:Option HO)=some u:=z;cases z') (fun b z=>absurd rfl z) fun z=>absurd rfl z
 | none =>
  refine core (fun b=>if b=a then some (.frz { cls:=.type "list",data:=.seq vs.toArray } (.lst (ns.map V.int))) else none) (fun b=>?_) (.inl (.inr ⟨{ cls:=.type "list",data:=.seq vs.toArray },if_pos rfl⟩)) (fun b u z=>?_) (fun b z=>?_) fun _=>hk
  ·by_cases hb:b=a
   ·exact .inr ⟨_,_,if_pos hb⟩
   ·exact .inl (if_neg hb)
  ·by_cases hb:b=a
   ·have z' := (if_pos hb).symm.trans z
    cases z'
    subst hb
    exact ⟨ha,by rw [List.length_map];exact hl,vs,_,rv,ha⟩
   ·have z' := (if_neg hb).symm.trans z
    cases z'
  ·by_cases hb:b=a
   ·exact hb
   ·exact absurd (if_neg hb) z
end L2
namespace L2
open PySem PySem.Spec PyProof.Rows
theorem walk_of {l:PySem.W.OpenLaw} {n k:Nat} {q:Program} {loose:List Str} {XP:(Str->Option Value)->Heap->Prop} {YP:World->Heap->Prop} {d:DefRec} {K:Params->PySem.W.Frag} {CX:World->CXT} {sp:World->Sp} {x:Str}
  (hn:l.most=some n) (hn2:n<=sizeLine) (hdf:d.params.defaults=[]) (hr:Room k callerA)
  (hY:∀ (w:World) (h:Heap),YP w h->(K w.params).In h)
  (F:∀ (w:World) (mg:Str->Option Value) (fa:Addr) (h:Heap),(K w.params).In h->h.Ns mainGlobals mg->mg d.name=some (.ref fa) ->
   ∃ fd:FuncData,(∀ (s:Shared) (u:Value),BindsTo s fd ⟨[u],[]⟩ [(x,u)]) /\
    ∀ base:Heap,(K w.params).In base->base.Ns mainGlobals mg->FnOk l.prog w (K w.params) mg base (CX w) k fa fd [x] (sp w))
  (hsp:∀ (w:World) (H:Hp) (a:Addr) (ns:List Int),ns.length<=n->Only H->SqL (K w.params) H a (ns.map V.int)->sp w [.ref a] H (fun v _=>v = .bl true) fun _ _ _=>False)
  (hCX:∀ (w:World) (H:Hp) (s:Shared) (e:Value) (s':Shared),CX w [] H s (fun _ _ _=>False) e s'->False) :
  PySem.W.WalkO q loose XP YP l.row.toRowW d [] (fun f vs=>PySem.call f vs):=by
 refine Att.attach_call hn hdf fun w s₀ s₁ mg mb fa o pm cd doc a vs ns G Y ho hd hcd hmg hobj hints hlen hg=>?_
 have KX:=hY w _ Y
 obtain ⟨fd,hb,hF⟩:=F w mg fa _ KX G.T.g hmg
 exact zhC KX G.T.g G.T.b G.T.builtins G.T.nolimit hg hobj hints (Nat.le_trans hlen hn2) hr hF hb (fun H hO hS=>hsp w H a ns hlen hO hS) fun H e s' => hCX w H s₁ e s'
end L2
namespace L2
open PySem PySem.Spec PyProof.Rows
def ybc (s:Stmt) (j:Nat):Stmt:=match s with
 | .ClassDef _ _ _ body _ _ _ _ _ _ _=>body.getD j (.Pass ⟨0,0,0,0⟩)
 | _=>.Pass ⟨0,0,0,0⟩
def ycP (s:Stmt):Arguments:=match s with
 | .FunctionDef _ a _ _ _ _ _ _ _ _=>a
 | _=>{ posonlyargs:=[],args:=[],vararg:=none,kwonlyargs:=[],kw_defaults:=[],kwarg:=none,defaults:=[] }
def yb3 (s:Stmt):List Stmt:=match s with
 | .FunctionDef _ _ b _ _ _ _ _ _ _=>b
 | _=>[]
def yag (s:Stmt):Scope:=match s with
 | .FunctionDef _ _ _ _ _ _ sc _ _ _=>sc
 | _=>{ kind:=.function,names:=[],isGenerator:=false,isCoroutine:=false }
abbrev E0:XK:=fun _ _ _=>False
structure Fun (K:PySem.W.Frag) (x qual:Str) (st:Stmt) (f:Addr) (fd:FuncData):Prop where
 ex:∃ (oc:Value) (od:Option Addr) (kV doc pm:Value) (an:Option Addr) (cdv ct:Value) (osl:Array (Option Value)),
  fd=PySem.W.fnOf x qual (ycP st) (yb3 st) (yag st) .none kV doc pm an cdv ct/\K.lookup f=some ⟨oc,od,.func fd,osl⟩/\PySem.W.codeIn K cdv qual=true
 kp:PySem.W.keepIn K (.ref f)=true
section
variable {P:Program} {w:World} {K:PySem.W.Frag} {mg:Str->Option Value} {base:Heap}
theorem Fun.binds {x qual:Str} {st:Stmt} {f:Addr} {fd:FuncData} {ps:List Str} (F:Fun K x qual st f fd)
  (h:∀ (kV doc pm:Value) (an:Option Addr) (cdv ct:Value) (us:List Value),us.length=ps.length->bindArgs (PySem.W.fnOf x qual (ycP st) (yb3 st) (yag st) .none kV doc pm an cdv ct) ⟨us,[]⟩=pure (ps.zip us)):Binds K fd ps []:=by
 obtain ⟨oc,od,kV,doc,pm,an,cdv,ct,osl,rfl,lk,hcd⟩:=F.ex
 exact .all (h kV doc pm an cdv ct)
theorem yfv {x qual:Str} {st:Stmt} {f:Addr} {oc:Value} {od an:Option Addr} {osl:Array (Option Value)} {kV doc pm cdv ct:Value} (l:K.lookup f=some ⟨oc,od,.func (PySem.W.fnOf x qual (ycP st) (yb3 st) (yag st) .none kV doc pm an cdv ct),osl⟩)
  (c:PySem.W.codeIn K cdv qual=true) (k:PySem.W.keepIn K (.ref f)=true):Fun K x qual st f (PySem.W.fnOf x qual (ycP st) (yb3 st) (yag st) .none kV doc pm an cdv ct):=⟨⟨oc,od,kV,doc,pm,an,cdv,ct,osl,rfl,l,c⟩,k⟩
end
section
variable {X:Cx}
theorem pv (i:Nat) {x:Str} {pos:Pos} (hN:X.N[i]? = some x:=by rfl) (hv:Vis X.env.scope x:=by first | exact Or.inl rfl | exact Or.inr (Or.inl rfl) | exact Or.inr (Or.inr rfl)) (hd:(x == ("__debug__" : Str))=false:=by decide)
  (hcd:(x == ("__classdict__" : Str))=false:=by decide):PE X (.Name x pos) (tVar i):=ygj hN hv hd hcd
theorem zgN:CallR X (.builtin "len") (fun xs H Q=>∃ a kvs,xs=[V.ref a]/\H a=some (.dK kvs)/\Q (.int kvs.length) H):=by
 intro pins s σ H xs us Q I r h
 obtain ⟨a,kvs,rfl,ha,q⟩:=h
 obtain ⟨u,rfl,ru⟩:=ydS r
 cases ru
 exact yhQ I (.inl ha) fun t s' I' => ⟨.int kvs.length,H,I',⟨t,rfl⟩,q⟩
end
section
variable {κ:Type} [DecidableEq κ]
end
end L2
set_option maxHeartbeats 4000000
namespace L2
open PySem PySem.Spec PyProof.Rows
section
variable {X:Cx} {pins:List (Addr×Obj)} {σ:St} {H:Hp} {s:Shared} {h':Heap}
theorem Inv.turnedL {t':Nat} {fp:List Addr} (I:Inv X pins σ H s) (k:∀ b o,b∉fp->s.heap.get? b=some o->h'.get? b=some o) (hf:∀ b∈fp,FpOk X pins H b) :
  Inv X pins σ H { s with heap:=h',toks:=t' }:=by
 have nit:∀ b u,H b=some u->b∉fp:=fun b u e z=>by
  have q:=(hf b z).1
  rw [q] at e
  cases e
 refine I.step (g' := s.gens) (d' := s.drawn) (ch:=fp) (fun b hb=>?_) (fun b o _ _ hc e _=>k b o hc e) (fun b o _ _ hc e _=>⟨o.slots,k b o hc e⟩) (fun _ _ _ _ n=>n)
  (fun b o hc e=>⟨o,k b o hc e⟩) (fun _ _ e=>e) (fun _ _ _ e=>e) (fun b ps e=>⟨#[],by rw [e];simp⟩) (fun m hm=>?_) (fun b u e=>?_) I.bare
 ·obtain ⟨_,f1,_,f3,f4,f5⟩:=hf b hb
  exact ⟨f3,f1,f4,f5⟩
 ·obtain ⟨o,es,ep,ho,r⟩:=hm
  exact ⟨o,es,ep,k _ o (fun z=>(hf _ z).2.1 rfl) ho,r⟩
 ·refine (I.hok b u e).stay (fun c v hc q=>k c v ?_ q) (fun _ q=>q) fun _ _ q=>q
  rcases hc with z | z
  ·rw [z];exact nit b u e
  ·exact nit c _ z
theorem Inv.adopt {T:Addr} {ob:HO} (I:Inv X pins σ H s) (hn:H T=none) (hT:X.s₀.heap.objs.size<=T) (hL:T≠X.env.locals) (hc:∀ x c,X.env.cells.lookup x=some c->c≠T)
  (hp:∀ p∈X.pn++pins,p.1≠T) (new:ObjOk X.prog X.w (upd H T ob) s.heap T ob):Inv X pins σ (upd H T ob) s:=by
 have hne:∀ b u,H b=some u->b≠T:=fun b u e=>zat e hn
 refine I.step (h' := s.heap) (g' := s.gens) (d' := s.drawn) (t' := s.toks) (ch:=[T]) (fun b hb=>?_) (fun b o _ _ _ e _=>e) (fun b o _ _ _ e _=>⟨o.slots,e⟩) (fun b o hb e n=>?_) (fun b o _ e=>⟨o,e⟩)
  (fun b xs e=>by rw [yay (hne b _ e)];exact e) (fun b o u e=>by rw [yay (hne b _ e)];exact e) (fun b ps e=>⟨#[],by rw [yay (hne b _ e),e];simp⟩) (fun m hm=>hm) (fun b u e=>?_) I.bare
 ·have e:b=T:=by simpa using hb
  subst e
  exact ⟨.inr hT,hL,hc,hp⟩
 ·rw [yay (fun z=>hb (by simp [z]))];exact n
 ·by_cases hb:b=T
  ·subst hb;rw [zas] at e;cases e;exact new
  ·rw [yay hb] at e
   exact (I.hok b u e).stay (fun c v _ q=>q) (fun c q=>by rw [yay (hne c _ q)];exact q) fun c xs q=>by rw [yay (hne c _ q)];exact q
end
def Ite (K:PySem.W.Frag) (a:Addr):It :=
 ⟨fun i H=>∃ xs x,SqL K H a xs/\xs[i]? = some x,fun i H x H' => ∃ (T:Addr) (y:V),x = .ref T/\H T=none/\H'=upd H T (.tup [.int i,y])/\∀ xs,SqL K H a xs->xs[i]? = some y,fun i H=>∃ xs,SqL K H a xs/\xs.length<=i⟩
theorem zgO {P:Program} {w:World} {K:PySem.W.Frag} {es:List Expr} {k:Nat} {tp:Pos} (a it e:Addr) (hei:e≠it) :
  Turn P w K (.Tuple es k tp) (Ite K a) [e,it] e (fun i h=>(∃ old,IsEnum h e it i old)/\h.IsListIter it a i) where
 mem:=by simp
 obj:=fun i h st b hb=>by
  obtain ⟨⟨old,he⟩,o,ho,hc,hd⟩:=st
  have hb':b=e\/b=it:=by simpa using hb
  rcases hb' with rfl | rfl
  ·exact ⟨_,he,fun v z=>by
    have z':Data.fields _=Data.cell v:=z
    cases z'⟩
  ·exact ⟨o,ho,fun v z=>by rw [hd] at z;cases z⟩
 keep:=fun i h h' st k=>by
  obtain ⟨⟨old,he⟩,hit⟩:=st
  exact ⟨⟨old,k e (by simp) _ he⟩,hit.at fun o q=>k it (by simp) o q⟩
 item:=by
  intro X hP hw hK hc i pins s σ H E I hf st hg
  subst hP hw hK
  obtain ⟨xs,x,hq,hx⟩:=hg
  obtain ⟨its,rv,p,hz⟩:=I.list hq
  obtain ⟨u,hu,ru⟩:=rv.get hx
  obtain ⟨⟨old,he⟩,hit⟩:=st
  refine wpAny_pyNext_enum_item he hit p.isList (x:=u) (by simpa using hu) hei fun h1 ho hit1 hT hsz hk=>?_
  refine ⟨.ref s.heap.objs.size,rfl,wpAny_letOwnedTupleGo_enum ho fun h2 he2 hs2=>?_⟩
  replace hs2:Heap.SameBut e h1 h2:=hs2
  have helt:e<s.heap.objs.size:=Heap.lt_size he
  have I1:Inv X pins σ H { s with heap:=h2,toks:=s.toks+1 }:=I.turnedL (fp:=[e,it]) (fun b o hb q=>by
   have n1:b≠e:=fun z=>hb (by simp [z])
   have n2:b≠it:=fun z=>hb (by simp [z])
   exact (hs2.2 b n1).trans (hk b o n1 n2 q)) hf
  have hT2:h2.get? s.heap.objs.size=some { cls:=.type "tuple",data:=.seq #[.int i s.toks,u] }:=(hs2.2 _ (Nat.ne_of_gt helt)).trans hT
  have fp:=I.fpOk (H' := H) (Nat.le_refl s.heap.objs.size) (I.hok.fresh (Nat.le_refl _))
  obtain ⟨f0,f1,f2,f3,f4,f5⟩:=fp
  have I2:Inv X pins σ (upd H s.heap.objs.size (.tup [.int i,x])) { s with heap:=h2,toks:=s.toks+1 } :=
   I1.adopt (T:=s.heap.objs.size) f0 (I.sz) f1 f4 f5 ⟨by show 2<=sizeLine;decide,[.int i s.toks,u],.cons ⟨_,rfl⟩ (.cons ru .nil),⟨_,hT2,rfl,_,rfl⟩⟩
  refine ⟨.ref s.heap.objs.size,_,I2,rfl,⟨s.heap.objs.size,x,rfl,f0,rfl,fun ys hy=>by rw [I.list_inj hy hq];exact hx⟩,⟨⟨u,by simpa using he2⟩,hit1.extBut hs2.extBut (Ne.symm hei)⟩,fun b hb=>?_⟩
  obtain ⟨g0,_⟩:=hf b hb
  obtain ⟨o,hob,_⟩:∃ o,s.heap.get? b=some o/\True:=by
   have hb':b=e\/b=it:=by simpa using hb
   rcases hb' with rfl | rfl
   ·exact ⟨_,he,trivial⟩
   ·obtain ⟨o,q,_⟩:=hit
    exact ⟨o,q,trivial⟩
  rw [yay (Nat.ne_of_lt (Heap.lt_size hob))]
  exact g0
 done:=by
  intro X hP hw hK hc i pins s σ H E I hf st hg
  subst hP hw hK
  obtain ⟨xs,hq,hx⟩:=hg
  obtain ⟨its,rv,p,hz⟩:=I.list hq
  obtain ⟨⟨old,he⟩,hit⟩:=st
  have hl:=rv.length
  exact wpAny_pyNext_enum_end (I.ok.hd hc) he hit p.isList (by simp;omega) fun h' eb=>⟨rfl,I.turnedL (fp:=[e,it]) (t' := s.toks) (fun b o hb q=>eb b o (fun z=>hb (by simp [z])) q) hf⟩
 self:=fun _ _ _ _ _ st h=>by
  obtain ⟨⟨old,he⟩,_⟩:=st
  exact wpAny_pyIter_enum he h
section
variable {X:Cx}
def iEnum (K:PySem.W.Frag) (ta:TA):TI:=fun σ H R=>ta σ H fun vs H1=>∃ a,vs=[.ref a]/\(∃ xs,SqL K H1 a xs)/\R (Ite K a) H1
theorem ziF {l:Expr} {ta:TA} {p pos tp:Pos} {es:List Expr} {k:Nat} (hg:Gl X "enumerate") (hm:X.mg "enumerate" = none) (ha:PA X [l] ta) (hs:starEach [l] X.env=[(false,eval l X.env)]:=by rfl) :
  PI X (.Tuple es k tp) (.Call (.Name "enumerate" p) [l] [] pos) (iEnum X.K ta):=by
 intro pins s σ H R I h
 refine Call_ (yd3 I hg hm boot_enumerate (PyProof.Rows.callWith_type1 (thn (ha pos pins s σ H _ I h) fun us s1 ⟨vs,H1,I1,r1,q1⟩=>?_) hs rfl))
 obtain ⟨a,e,⟨xs,hq⟩,q⟩:=q1
 subst e
 cases r1 with
 | cons r rr =>
  cases rr
  cases r
  obtain ⟨its,rv,pl,hz⟩:=I1.list hq
  refine call_enumerate_list pl.isList fun h' he hit hsz hk=>wpAny_pyIter_enum he ?_
  refine ⟨s1.heap.objs.size+1,[s1.heap.objs.size+1,s1.heap.objs.size],_,_,H1,rfl,I1.kept (t' := s1.toks) fun b o e=>hk b o e,zgO a _ _ (Nat.succ_ne_self _),⟨⟨_,he⟩,hit⟩,fun b hb=>?_,q⟩
  have hb':b=s1.heap.objs.size+1\/b=s1.heap.objs.size:=by simpa using hb
  rcases hb' with rfl | rfl
  ·exact I1.fpOk (Nat.le_succ _) (I1.hok.fresh (Nat.le_succ _))
  ·exact I1.fpOk (Nat.le_refl _) (I1.hok.fresh (Nat.le_refl _))
end
def Its (x:Str):It:=⟨fun i _=>i<x.cps.size,fun i H v H' => H'=H/\∃ c,x.cps[i]? = some c/\v = .str ⟨#[c]⟩,fun i _=>x.cps.size<=i⟩
theorem zgP {P:Program} {w:World} {A:Around} (hh:A.handled=none) (it:Addr) (x:Str) (t:Tok) :
  Walks P w A it [it] [it] x.cps.size (SignAt x) (fun i h=>h.IsStrIter it (strIterType x) x t i):=by
 cases ha:x.cps.all (· < 128) with
 | false =>
  have e:strIterType x = "str_iterator" := by simp [strIterType,ha]
  rw [e]
  exact Walks.strWide hh it x t
 | true =>
  have e:strIterType x = "str_ascii_iterator" := by simp [strIterType,ha]
  rw [e]
  exact Walks.strAscii hh it x t
theorem zhD {P:Program} {w:World} {K:PySem.W.Frag} {y:Str} {py:Pos} (it:Addr) (x:Str) (t:Tok):Turn P w K (.Name y py) (Its x) [it] it (fun i h=>h.IsStrIter it (strIterType x) x t i) where
 mem:=by simp
 obj:=fun i h st b hb=>by
  have e:b=it:=by simpa using hb
  subst e
  obtain ⟨o,e,c,d⟩:=st
  exact ⟨o,e,fun v z=>by rw [d] at z;cases z⟩
 keep:=fun i h h' st k=>by
  obtain ⟨o,e,r⟩:=st
  exact ⟨o,k it (by simp) o e,r⟩
 item:=by
  intro X hP hw hK hc i pins s σ H E I hf st hg
  subst hP hw hK
  refine (zgP (I.ok.hd hc) it x t).item i s _ _ hg st fun v h1 tk hv st1 kk=>?_
  obtain ⟨c,u,hcp,rfl⟩:=hv
  have I1:Inv X pins σ H { s with heap:=h1,toks:=tk }:=I.turnedL (fp:=[it]) kk hf
  exact ⟨_,rfl,wpAny_pure ⟨.str ⟨#[c]⟩,H,I1,⟨u,rfl⟩,⟨rfl,c,hcp,rfl⟩,st1,fun b hb=>(hf b hb).1⟩⟩
 done:=by
  intro X hP hw hK hc i pins s σ H E I hf st hg
  subst hP hw hK
  have hx:x.cps[i]? = none:=Array.getElem?_eq_none hg
  cases ha:x.cps.all (· < 128) with
  | false =>
   have e:strIterType x = "str_iterator" := by simp [strIterType,ha]
   rw [e] at st
   exact wpAny_pyNext_wide_end (I.ok.hd hc) st hx fun h' eb=>⟨rfl,I.turnedL (fp:=[it]) (t' := s.toks) (fun b o hb q=>eb b o (fun z=>hb (by simp [z])) q) hf⟩
  | true =>
   have e:strIterType x = "str_ascii_iterator" := by simp [strIterType,ha]
   rw [e] at st
   exact wpAny_pyNext_ascii_end (I.ok.hd hc) st hx fun h' eb=>⟨rfl,I.turnedL (fp:=[it]) (t' := s.toks) (fun b o hb q=>eb b o (fun z=>hb (by simp [z])) q) hf⟩
 self:=fun A i s Q E st h=>by
  cases ha:x.cps.all (· < 128) with
  | false =>
   have e:strIterType x = "str_iterator" := by simp [strIterType,ha]
   rw [e] at st
   exact wpAny_pyIter_striter_wide st h
  | true =>
   have e:strIterType x = "str_ascii_iterator" := by simp [strIterType,ha]
   rw [e] at st
   exact wpAny_pyIter_striter_ascii st h
section
variable {X:Cx}
def iStr (tl:TE):TI:=fun σ H R=>tl σ H fun x H1=>∃ t,x = .str t/\R (Its t) H1
theorem ygO {l:Expr} {tl:TE} {y:Str} {py:Pos} (hl:PE X l tl):PI X (.Name y py) l (iStr tl):=by
 intro pins s σ H R I h
 refine thn (hl pins s σ H _ I h) fun v s1 ⟨x,H1,I1,r1,q1⟩=>?_
 obtain ⟨t,e,q⟩:=q1
 subst e
 obtain ⟨tk,rfl⟩:=r1
 refine wpAny_pyIter_strU ?_
 refine ⟨s1.heap.objs.size,[s1.heap.objs.size],_,_,H1,rfl,I1.kept (t' := s1.toks) fun b o e=>Heap.get?_push_of_some _ e,zhD _ t tk,⟨_,Heap.get?_push_size _ rfl,rfl,rfl⟩,fun b hb=>?_,q⟩
 have e:b=s1.heap.objs.size:=by simpa using hb
 subst e
 exact I1.fpOk (Nat.le_refl _) (I1.hok.fresh (Nat.le_refl _))
end
def yau (env:Env):List (Str×NameKind)->List (Str×Addr)->List (Str×Addr)
 | [],acc=>acc
 | (n,k)::r,acc=>yau env r (if k = .free then (n,(env.cells.lookup n).getD 0)::acc else acc)
theorem zc2 {env:Env} {scope:Scope} (h:∀ y∈scope.names,y.2 = .free->(env.cells.lookup y.1).isSome=true):closureFor scope env=pure (yau env scope.names []):=by
 have all:∀ (l:List (Str×NameKind)) (acc:List (Str×Addr)),(∀ y∈l,y.2 = .free->(env.cells.lookup y.1).isSome=true) ->
   (forIn l acc fun (x:Str×NameKind) (cs:List (Str×Addr))=>if (x.2 == NameKind.free)=true then (do let a <- cellOf env x.1;pure (ForInStep.yield ((x.1,a)::cs))) else (pure (ForInStep.yield cs):Sem _))=pure (yau env l acc):=by
  intro l
  induction l with
  | nil=>intro acc _;rfl
  | cons y r ih =>
   intro acc hl
   obtain ⟨n,k⟩:=y
   rw [List.forIn_cons]
   have hr:=fun z hz=>hl z (List.mem_cons_of_mem _ hz)
   by_cases hk:k = .free
   ·subst hk
    obtain ⟨c,hc⟩:=Option.isSome_iff_exists.mp (hl (n,.free) List.mem_cons_self rfl)
    have e1:cellOf env n=pure c:=by
     simp only [cellOf]
     have hc':env.cells.lookup n=some c:=hc
     rw [hc']
    simp only [beq_self_eq_true,if_true,e1,pure_bind,yau]
    have hc':env.cells.lookup n=some c:=hc
    rw [hc']
    exact ih _ hr
   ·have hb:(k == NameKind.free)=false:=by simpa using hk
    simp only [hb,Bool.false_eq_true,if_false,pure_bind,yau,hk]
    exact ih _ hr
 unfold closureFor
 have q:=all scope.names [] h
 first
  | exact q
  | (simp only [bind_pure];exact q)
  | (rw [<- q];simp)
theorem zbd {env:Env}:∀ {l:List (Str×NameKind)} {acc:List (Str×Addr)},(∀ y∈l,y.2 = .free->(env.cells.lookup y.1).isSome=true)->(∀ y c,acc.lookup y=some c->env.cells.lookup y=some c) ->
  ∀ y c,(yau env l acc).lookup y=some c->env.cells.lookup y=some c
 | [],_,_,h,y,c,e=>h y c e
 | (n,k)::r,acc,hl,h,y,c,e=>by
  refine zbd (l:=r) (fun z hz=>hl z (List.mem_cons_of_mem _ hz)) ?_ y c e
  intro y c e
  by_cases hk:k = .free
  ·rw [if_pos hk] at e
   rw [List.lookup_cons] at e
   cases hy:y == n with
   | true =>
    rw [hy] at e
    have e':y=n:=by simpa using hy
    obtain ⟨c',hc'⟩:=Option.isSome_iff_exists.mp (hl (n,k) List.mem_cons_self hk)
    have hc'':env.cells.lookup n=some c' := hc'
    rw [hc''] at e
    rw [e',hc'']
    exact e
   | false =>
    rw [hy] at e
    exact h y c e
  ·rw [if_neg hk] at e
   exact h y c e
theorem zbe {env:Env}:∀ {l:List (Str×NameKind)} {acc:List (Str×Addr)} {y:Str},(y,NameKind.free)∈l\/(acc.lookup y).isSome=true->((yau env l acc).lookup y).isSome=true
 | [],_,_,h=>by
  rcases h with h | h
  ·cases h
  ·exact h
 | (n,k)::r,acc,y,h=>by
  refine zbe (l:=r) ?_
  rcases h with h | h
  ·rcases List.mem_cons.mp h with e | e
   ·right
    cases e
    rw [if_pos rfl,List.lookup_cons]
    simp
   ·exact .inl e
  ·right
   by_cases hk:k = .free
   ·rw [if_pos hk,List.lookup_cons]
    cases hy:y == n with
    | true=>rfl
    | false=>exact h
   ·rw [if_neg hk];exact h
theorem zaq {names:List (Str×NameKind)} {x:Str} {k:NameKind} (h:names.lookup x=some k):(x,k)∈names:=PySem.mem_of_lookup h
theorem zay {env:Env} {x:Str} {k:NameKind}:∀ {names:List (Str×NameKind)},(names.map fun (n,k)=>if (k == NameKind.free && env.scope.kind == .function && env.kindOf n == some .cell) then (n,NameKind.cell) else (n,k)).lookup x=some k ->
  names.lookup x=some k\/(k = .cell/\names.lookup x=some .free)
 | [],h=>by simp at h
 | (n,kk)::r,h=>by
  have ih:=@zay env x k r
  by_cases hc:(kk == NameKind.free && env.scope.kind == .function && env.kindOf n == some .cell)=true
  ·have hf:kk = .free:=by
    have q:=(Bool.and_eq_true _ _).mp ((Bool.and_eq_true _ _).mp hc).1
    simpa using q.1
   subst hf
   have h':List.lookup x ((n,NameKind.cell)::(r.map fun (n,k)=>if (k == NameKind.free && env.scope.kind == .function && env.kindOf n == some .cell) then (n,NameKind.cell) else (n,k)))=some k:=by
    have e:(fun (p:Str×NameKind)=>match p with | (n,k)=>if (k == NameKind.free && env.scope.kind == .function && env.kindOf n == some .cell)=true then (n,NameKind.cell) else (n,k)) (n,NameKind.free)=(n,NameKind.cell):=by
     show (if _ then _ else _)=_
     rw [if_pos hc]
    rw [List.map_cons] at h
    rw [<- e]
    exact h
   rw [List.lookup_cons] at h' ⊢
   cases hx:x == n with
   | true =>
    rw [hx] at h'
    right
    exact ⟨(Option.some.inj h').symm,rfl⟩
   | false =>
    rw [hx] at h'
    exact ih h'
  ·have h':List.lookup x ((n,kk)::(r.map fun (n,k)=>if (k == NameKind.free && env.scope.kind == .function && env.kindOf n == some .cell) then (n,NameKind.cell) else (n,k)))=some k:=by
    have e:(fun (p:Str×NameKind)=>match p with | (n,k)=>if (k == NameKind.free && env.scope.kind == .function && env.kindOf n == some .cell)=true then (n,NameKind.cell) else (n,k)) (n,kk)=(n,kk):=by
     show (if _ then _ else _)=_
     rw [if_neg hc]
    rw [List.map_cons] at h
    rw [<- e]
    exact h
   rw [List.lookup_cons] at h' ⊢
   cases hx:x == n with
   | true =>
    rw [hx] at h'
    exact .inl h'
   | false =>
    rw [hx] at h'
    exact ih h'
def yaZ (X:Cx) (pins:List (Addr×Obj)) (x₁:Str) (jf:List (Nat×Str)) (scope:Scope) (cl:List (Str×Addr)) (s:Shared) (H:Hp) (fp:List Addr):Cx where
 prog:=X.prog
 w:=X.w
 K:=X.K
 mg:=X.mg
 base:=X.base
 A:=X.A
 N:=x₁::jf.map (·.2)
 s₀:=s
 H₀:=H
 env:=compEnvC scope cl s.heap.objs.size X.env
 outer:=X.stack
 stack:=X.stack
 ex:=fp
 fn:=fun _=>false
 calm:=X.calm
 pn:=X.pn++pins
 xe:=fun _ _=>False
def ybt (v:Option V) (js:List (Nat×Str)) (σ:St):St:=v::js.map fun j=>(σ[j.1]?).join
def PTs (X:Cx) (ifs:List Expr) (t:TT):Prop :=
 ∀ (pins:List (Addr×Obj)) (s:Shared) (σ:St) (H:Hp) (Q:Bool->Hp->Prop),Inv X pins σ H s->t σ H Q ->
  wpAny (model X.prog X.w) X.A (forIn ifs true fun c r=>if r=true then do let ok <- isTrue c X.env (eval c X.env);pure (ForInStep.yield ok) else pure (ForInStep.yield r)) (TP X pins σ Q) X.xe s
def tYes:TT:=fun _ H Q=>Q true H
theorem ziG {X:Cx}:PTs X [] tYes:=fun pins s σ H Q I h=>wpAny_tests_nil ⟨H,I,h⟩
theorem ziH {X:Cx} {c:Expr} {t:TT} (hc:PT X c t):PTs X [c] t:=fun pins s σ H Q I h=>wpAny_tests_one (hc pins s σ H Q I h)
def yei (jf:List (Nat×Str)) (wi:TI) (tc:TT) (te:TE):TE:=fun σ H Q=>wi σ H fun J H1=>∀ D,H1 D=none->∃ W:Nat->Nat->List V->Hp->Prop,(∃ m,W 0 m [] (upd H1 D (.lst []))) /\
 ∀ i m ys H2,W i m ys H2->H2 D=some (.lst ys)/\((J.stop i H2/\Q (.ref D) H2)\/(J.go i H2/\ys.length<sizeLine/\∀ x H3,J.yld i H2 x H3->tc (ybt (some x) jf σ) H3 fun b H5 =>
  if b=true then te (ybt (some x) jf σ) H5 fun v H6=>H6 D=some (.lst ys)/\∃ m',m'<m/\W (i+1) m' (ys++[v]) (upd H6 D (.lst (ys++[v]))) else ∃ m',m'<m/\W (i+1) m' ys H5))
section
variable {X:Cx} {pins:List (Addr×Obj)} {σ:St} {H:Hp} {s:Shared} {x₁:Str} {jf:List (Nat×Str)} {scope:Scope} {fp:List Addr}
theorem Inv.block {h1:Heap} {tk:Nat} (I:Inv X pins σ H s) (hf:∀ b∈fp,FpOk X pins H b) (hlt:∀ b∈fp,b<s.heap.objs.size) (hjf:∀ p∈jf,X.N[p.1]? = some p.2) (hjl:∀ p∈jf,scope.names.lookup p.2=some .free) (hkind:scope.kind = .function)
  (hcell:∀ y∈scope.names,y.2 ≠ .cell) (hfr:∀ y∈scope.names,y.2 = .free->X.env.kindOf y.1=some .cell\/X.env.kindOf y.1=some .free)
  (hn:h1.Ns s.heap.objs.size (fun _=>none)) (hk:∀ b o,s.heap.get? b=some o->h1.get? b=some o) :
  Inv (yaZ X pins x₁ jf scope (yau X.env scope.names []) s H fp) [] (ybt none jf σ) H { s with heap:=h1,toks:=tk }:=by
 have hsome:∀ y∈scope.names,y.2 = .free->(X.env.cells.lookup y.1).isSome=true:=fun y hy hyf=>Option.isSome_iff_exists.mpr (I.ok.has y.1 (hfr y hy hyf))
 have sub:∀ y c,(yau X.env scope.names []).lookup y=some c->X.env.cells.lookup y=some c:=zbd hsome (fun y c e=>by simp at e)
 have hsz:=I.sz
 have inE:∀ b,b∈(yaZ X pins x₁ jf scope (yau X.env scope.names []) s H fp).ex->b∈fp:=fun b z=>z
 have stk:∀ b∈frs X.stack,b<s.heap.objs.size:=fun b hb=>by
  obtain ⟨_,o,ho,_⟩:=I.stack.mem hb
  exact Heap.lt_size ho
 refine ⟨⟨I.ok.mod,hkind,I.ok.glob,I.ok.blt,Nat.le_refl _,fun y z c e1 e2=>I.ok.inj y z c (sub y c e1) (sub z c e2),fun y hy=>?_,fun y c hfn _=>(by cases hfn),I.ok.hd,I.ok.frames,.inl rfl,fun b hb=>?_,fun b o e=>I.bs b o e,Nat.le_trans I.ok.bsz hsz,fun b o e z=>?_,fun b hb z=>?_,I.stack,I.stkFree⟩,
  rfl,I.bare,Un.kept hk,⟨_,hn,fun i y v e1 e2 e3=>?_⟩,fun y c e=>?_,I.hok.fresh (Nat.le_refl _),fun y c e=>I.freeC y c (sub y c e),fun p hp=>?_,I.hok.kept hk,?_⟩
 ·have hy':(relabel scope X.env).names.lookup y=some .cell\/(relabel scope X.env).names.lookup y=some .free:=hy
  have mem:(y,NameKind.free)∈scope.names:=by
   rcases hy' with q | q
   ·rcases zay (env:=X.env) q with z | z
    ·exact absurd rfl (hcell _ (zaq z))
    ·exact zaq z.2
   ·rcases zay (env:=X.env) q with z | z
    ·exact zaq z
    ·exact zaq z.2
  exact Option.isSome_iff_exists.mp (zbe (.inl mem))
 ·exact ⟨Nat.ne_of_lt (hlt b hb),fun y c e=>(hf b hb).2.2.2.2.1 y c (sub y c e)⟩
 ·rcases (hf b z).2.2.2.1 with q | q
  ·exact I.ok.noex b o e q
  ·exact absurd (Nat.lt_of_lt_of_le (Heap.lt_size e) (Nat.le_trans I.ok.bsz q)) (Nat.lt_irrefl _)
 ·rcases List.mem_cons.mp (I.stkSub b z) with q | q
  ·exact (hf b hb).2.1 q
  ·exact (hf b hb).2.2.1 q
 ·have e1':(x₁::jf.map (·.2))[i]? = some y:=e1
  unfold ybt at e2
  cases i with
  | zero=>cases e2
  | succ i =>
   rw [List.getElem?_cons_succ,List.getElem?_map] at e1' e2
   cases q:jf[i]? with
   | none=>rw [q] at e2;cases e2
   | some p =>
    rw [q] at e1' e2
    have ey:p.2=y:=Option.some.inj e1'
    have ev:(σ[p.1]?).join=some v:=Option.some.inj e2
    have hp:p∈jf:=List.mem_of_getElem? q
    have eσ:σ[p.1]? = some (some v):=by
     cases z:σ[p.1]? with
     | none=>rw [z] at ev;cases ev
     | some r=>rw [z] at ev;rw [show r=some v from ev]
    have hfree:scope.names.lookup y=some .free:=by rw [<- ey];exact hjl p hp
    have mem:=zaq hfree
    have kX:=hfr _ mem rfl
    obtain ⟨m,hnX,hl⟩:=I.loc
    obtain ⟨u,ru,lk⟩:=hl p.1 y v (by rw [<- ey];exact hjf p hp) eσ (by
     rcases kX with z | z
     ·exact .inr (.inl z)
     ·exact .inr (.inr z))
    refine ⟨u,ru,.inr ⟨?_,?_⟩⟩
    ·have e3':Vis (relabel scope X.env) y:=e3
     rcases e3' with z | z | z
     ·exfalso
      rcases zay (env:=X.env) z with q | q
      ·rw [hfree] at q;cases q
      ·cases q.1
     ·exact .inl z
     ·exact .inr z
    ·rcases lk with ⟨z,_⟩ | ⟨_,c,hc,hcell'⟩
     ·exfalso
      rcases kX with q | q
      ·rw [show X.env.kindOf y=some .cell from q] at z;cases z
      ·rw [show X.env.kindOf y=some .free from q] at z;cases z
     ·obtain ⟨c',hc'⟩:=Option.isSome_iff_exists.mp (zbe (env:=X.env) (acc:=[]) (.inl mem))
      have e:=sub y c' hc'
      rw [hc] at e
      cases e
      obtain ⟨o,ho,hd⟩:=hcell'
      exact ⟨c,hc',o,hk c o ho,hd⟩
 ·obtain ⟨v,o,ho,hd⟩:=I.cell y c (sub y c e)
  exact ⟨v,o,hk c o ho,hd⟩
 ·have hp':p∈X.pn++pins:=by simpa [yaZ] using hp
  obtain ⟨e,n,ne,nf,d⟩:=I.pin p hp'
  refine ⟨hk _ _ e,n,Nat.ne_of_lt (Heap.lt_size e),fun z=>?_,d⟩
  rcases List.mem_cons.mp (I.stkSub p.1 z) with q | q
  ·exact ne q
  ·exact nf q
 ·unfold ybt
  show _=(x₁::jf.map (·.2)).length
  rw [List.length_cons,List.length_cons,List.length_map,List.length_map]
end
theorem zbY {prog:Program} {w:World} {A:Around} {R:Result->Shared->Prop} {s:Shared} {elt target iter:Expr} {ifs:List Expr} {scope:Scope} {pos:Pos} {it acc:Value} {env:Env} (I:Nat->Shared->Prop)
  (turn:∀ n s,I n s->wpAny (model prog w) A (pyNext it) (fun r s₁=>match r with
   | none=>R (.ok .next) s₁
   | some v=>wpAny (model prog w) A (letOwnedTupleGo target it v) (fun _ s₂=>wpAny (model prog w) A (assign target env v) (fun _ s₃ =>
     wpAny (model prog w) A (forIn ifs true fun c r=>if r=true then do let ok <- isTrue c env (eval c env);pure (ForInStep.yield ok) else pure (ForInStep.yield r)) (fun ok s₄ =>
      if ok=true then wpAny (model prog w) A (eval elt env) (fun x s₅=>wpAny (model prog w) A (call (.builtin "list.append") [acc,x]) (fun _ s₆=>∃ m,m<n/\I m s₆) (fun _ _=>False) s₅) (fun _ _=>False) s₄
      else ∃ m,m<n/\I m s₄) (fun _ _=>False) s₃) (fun _ _=>False) s₂) (fun _ _=>False) s₁) (fun _ _=>False) s)
  (n:Nat) (h:I n s):codeAny (model prog w) A (.compLoop (.ListComp elt [⟨target,iter,ifs,0⟩] scope pos) 0 it acc env) R s:=by
 refine codeAny_loop rfl I (fun n s hI=>?_) n h
 show wpAny _ A ((compTurn (.ListComp elt [⟨target,iter,ifs,0⟩] scope pos) 0 it acc env).onRaise (fun x=>do noteFrame x env;theTreesLotGoes x)) _ _ s
 refine wpAny_noted ?_
 rw [compTurn_list]
 refine wpAny_bind (wpAny_standAt (wpAny_bind (wpAny_mono (turn n s hI) (fun r s₁ h₁=>?_) fun _ _ z=>z.elim)))
 cases r with
 | none=>exact wpAny_pure h₁
 | some v =>
  refine wpAny_bind (wpAny_mono h₁ (fun _ s₂ h₂=>?_) fun _ _ z=>z.elim)
  refine wpAny_bind (wpAny_mono h₂ (fun _ s₃ h₃=>wpAny_bind (wpAny_mono h₃ (fun ok s₄ h₄=>?_) fun _ _ z=>z.elim)) fun _ _ z=>z.elim)
  cases ok with
  | false=>exact wpAny_pure ⟨rfl,h₄⟩
  | true =>
   exact wpAny_bind (wpAny_bind (wpAny_mono h₄ (fun x s₅ h₅=>wpAny_bind (wpAny_mono h₅ (fun _ s₆ h₆=>wpAny_pure (wpAny_pure ⟨rfl,h₆⟩)) fun _ _ z=>z.elim)) fun _ _ z=>z.elim))
section
variable {X:Cx} {x₁:Str} {px:Pos} {jf:List (Nat×Str)} {scope:Scope} {iter elt:Expr} {ifs:List Expr} {pos:Pos} {wi:TI} {tc:TT} {te:TE}
theorem zej (hcalm:X.calm=true) (hi:PI X (.Name x₁ px) iter wi) (hc:∀ pins cl s H fp,PTs (yaZ X pins x₁ jf scope cl s H fp) ifs tc) (he:∀ pins cl s H fp,PE (yaZ X pins x₁ jf scope cl s H fp) elt te)
  (hN:(x₁::jf.map (·.2)).Nodup) (hx:scope.names.lookup x₁=some .local) (hjf:∀ p∈jf,X.N[p.1]? = some p.2) (hjl:∀ p∈jf,scope.names.lookup p.2=some .free) (hkind:scope.kind = .function)
  (hcell:∀ y∈scope.names,y.2 ≠ .cell) (hfr:∀ y∈scope.names,y.2 = .free->X.env.kindOf y.1=some .cell\/X.env.kindOf y.1=some .free)
  (hnames:∀ y∈scope.names,y.2 = .local->scope.names.lookup y.1=some .local) {use:Option (Value->Sem Unit)} {Qf:Value->Shared->Prop} {cpos:Pos}
  {pins:List (Addr×Obj)} {σ:St} {H:Hp} {s:Shared} {Q:VK} (I:Inv X pins σ H s) (h:yei jf wi tc te σ H Q)
  (fin:∀ D C s6 H6 m6,Inv X pins σ H6 s6->Q (.ref D) H6->FpOk X pins H6 C->s6.heap.Ns C m6->compPost (model X.prog X.w) X.A X.xe use Qf (.ref D) C (.ok .next) s6) (hs:∀ x,foldedSetIterable iter X.env x=pure x) :
  wpAny (model X.prog X.w) X.A (comprehension (.ListComp elt [⟨.Name x₁ px,iter,ifs,0⟩] scope pos) scope X.env cpos (newList []) false (eval iter X.env) use) Qf X.xe s:=by
 have hsome:∀ y∈scope.names,y.2 = .free->(X.env.cells.lookup y.1).isSome=true:=fun y hy hyf=>Option.isSome_iff_exists.mpr (I.ok.has y.1 (hfr y hy hyf))
 refine wpAny_comprehension_free (use:=use) rfl hs (zc2 hsome) hkind hnames (thn (hi pins s σ H _ I h) fun xv s1 h1=>thn h1 fun itv s2 h2=>?_)
 obtain ⟨it,fp,tn,J,H2,e,I2,T,st2,f2,h⟩:=h2
 subst e
 refine wpAny_newObj_type (wpAny_newFunctionEnv hcell (by intro y hy;simp at hy) (fun h₁ hns₁ hsb₁=>?_) hkind)
 have hD0:H2 s2.heap.objs.size=none:=I2.hok.fresh (Nat.le_refl _)
 obtain ⟨W,⟨m0,w0⟩,step⟩:=h s2.heap.objs.size hD0
 dsimp only at hns₁ hsb₁ ⊢
 have I3:Inv X pins σ (upd H2 s2.heap.objs.size (.lst [])) { s2 with heap:=s2.heap.push { cls:=.type "list",dict:=none,data:=.seq ([]:List Value).toArray } } :=
  I2.laid (t' := s2.toks) (fun b u q=>Heap.get?_push_of_some _ q) (Nat.le_refl _) ⟨Nat.zero_le _,[],0,.nil,Heap.get?_push_size _ rfl⟩
 generalize hH3:s2.heap.push { cls:=.type "list",dict:=none,data:=.seq ([]:List Value).toArray }=hp3 at hns₁ hsb₁ I3 ⊢
 have hsz3:hp3.objs.size=s2.heap.objs.size+1:=by rw [<- hH3,Heap.size_push]
 have k23:∀ b o,s2.heap.get? b=some o->hp3.get? b=some o:=fun b o q=>by rw [<- hH3];exact Heap.get?_push_of_some _ q
 have flt:∀ b∈fp,b<s2.heap.objs.size:=fun b hb=>by
  obtain ⟨o,q,_⟩:=T.obj 0 _ st2 b hb
  exact Heap.lt_size q
 have f3:∀ b∈fp,FpOk X pins (upd H2 s2.heap.objs.size (.lst [])) b:=fun b hb=>by
  obtain ⟨g0,g⟩:=f2 b hb
  exact ⟨by rw [yay (Nat.ne_of_lt (flt b hb))];exact g0,g⟩
 have kC:∀ b o,hp3.get? b=some o->h₁.get? b=some o:=fun b o q=>(hsb₁.2 b (Nat.ne_of_lt (Heap.lt_size q))).trans (Heap.get?_push_of_some _ q)
 have B0:=I3.block (x₁:=x₁) (jf:=jf) (scope:=scope) (fp:=fp) (h1:=h₁) (tk:=s2.toks+([]:List (Str×Value)).length) f3 (fun b hb=>by show b<hp3.objs.size;rw [hsz3];exact Nat.lt_succ_of_lt (flt b hb)) hjf hjl hkind hcell hfr (by simpa using hns₁) kC
 have st4:tn 0 h₁:=T.keep _ _ _ st2 fun b _ o q=>kC b o (k23 b o q)
 have w0' := w0
 have stat:∀ {H':Hp},(∀ b∈fp,H' b=none)->∀ b∈fp,FpOk (yaZ X pins x₁ jf scope (yau X.env scope.names []) { s2 with heap:=hp3 } (upd H2 s2.heap.objs.size (.lst [])) fp) [] H' b:=fun hn b hb=>by
  obtain ⟨_,g1,g2,g3,g4,g5⟩:=f2 b hb
  refine ⟨hn b hb,Nat.ne_of_lt (by show b<hp3.objs.size;rw [hsz3];exact Nat.lt_succ_of_lt (flt b hb)),fun z=>?_,.inl hb,fun y c q=>g4 y c (zbd hsome (fun y c e=>by simp at e) y c q),fun p hp=>g5 p (by simpa [yaZ] using hp)⟩
  rcases List.mem_cons.mp (I2.stkSub b z) with q | q
  ·exact g1 q
  ·exact g2 q
 have loop:codeAny (model X.prog X.w) X.A (.compLoop (.ListComp elt [⟨.Name x₁ px,iter,ifs,0⟩] scope pos) 0 (.ref it) (.ref s2.heap.objs.size) (compEnvC scope (yau X.env scope.names []) hp3.objs.size X.env))
   (compPost (model X.prog X.w) X.A X.xe use Qf (.ref s2.heap.objs.size) hp3.objs.size) { s2 with heap:=h₁,toks:=s2.toks+([]:List (Str×Value)).length }:=by
  refine zbY (fun n s' => ∃ i ys H',Inv (yaZ X pins x₁ jf scope (yau X.env scope.names []) { s2 with heap:=hp3 } (upd H2 s2.heap.objs.size (.lst [])) fp) [] (ybt none jf σ) H' s'/\tn i s'.heap/\(∀ b∈fp,H' b=none)/\W i n ys H') ?_ m0
   ⟨0,[],_,B0,st4,fun b hb=>(f3 b hb).1,w0⟩
  rintro n s5 ⟨i,ys,H5,I5,st5,fr5,w5⟩
  obtain ⟨hD5,alt⟩:=step i n ys H5 w5
  rcases alt with ⟨stop,q5⟩ | ⟨go,hlen,next⟩
  ·refine wpAny_mono (T.done (yaZ X pins x₁ jf scope (yau X.env scope.names []) { s2 with heap:=hp3 } (upd H2 s2.heap.objs.size (.lst [])) fp) rfl rfl rfl hcalm i [] s5 _ H5 (fun _ _=>False) I5 (stat fr5) st5 stop) (fun r s6 ⟨hr,I6⟩=>?_) fun _ _ z=>z
   subst hr
   obtain ⟨m6,hn6,_⟩:=id I6.loc
   refine fin _ _ s6 H5 m6 ?_ q5 (I3.fpOk (Nat.le_refl _) I6.free) hn6
   refine I3.call' (ch:=fp) I6.os I6.base I6.hok I6.bare (fun b hb=>?_)
   obtain ⟨_,g1,g2,g3,g4,g5⟩:=f2 b hb
   exact ⟨g3,g1,g4,g5⟩
  ·refine wpAny_mono (T.item (yaZ X pins x₁ jf scope (yau X.env scope.names []) { s2 with heap:=hp3 } (upd H2 s2.heap.objs.size (.lst [])) fp) rfl rfl rfl hcalm i [] s5 _ H5 (fun _ _=>False) I5 (stat fr5) st5 go) (fun r s6 ⟨u,hr,h6⟩=>?_) fun _ _ z=>z
   subst hr
   refine wpAny_mono h6 (fun _ s7 ⟨x,H7,I7,r7,y7,st7,fr7⟩=>?_) fun _ _ z=>z
   have I7' := I7.pinned (stat fr7) (T.obj _ _ st7)
   have hloc:Loc (yaZ X pins x₁ jf scope (yau X.env scope.names []) { s2 with heap:=hp3 } (upd H2 s2.heap.objs.size (.lst [])) fp).env.scope x₁:=.inl (lookup_relabel_local hx)
   refine wpAny_assign_Name (zcF (i:=0) I7' hN rfl hloc r7 (fun s8 I8=>?_) (.inr (lookup_relabel_local hx)))
   have q8:=next x H7 y7
   have I8':Inv (yaZ X pins x₁ jf scope (yau X.env scope.names []) { s2 with heap:=hp3 } (upd H2 s2.heap.objs.size (.lst [])) fp) ([]++ybE fp s7.heap) (ybt (some x) jf σ) H7 s8:=I8
   have again:∀ {s9:Shared} {H9:Hp} {zs:List V} {m':Nat},Inv (yaZ X pins x₁ jf scope (yau X.env scope.names []) { s2 with heap:=hp3 } (upd H2 s2.heap.objs.size (.lst [])) fp) ([]++ybE fp s7.heap) (ybt (some x) jf σ) H9 s9->m'<n->W (i+1) m' zs H9 ->
     ∃ m,m<n/\∃ i ys H',Inv (yaZ X pins x₁ jf scope (yau X.env scope.names []) { s2 with heap:=hp3 } (upd H2 s2.heap.objs.size (.lst [])) fp) [] (ybt none jf σ) H' s9/\tn i s9.heap/\(∀ b∈fp,H' b=none)/\W i m ys H' := fun {s9 H9 zs m'} I9 hm w9=>by
    refine ⟨m',hm,i+1,zs,H9,I9.unpinned.weak (by simp [ybt]) (fun j v e=>?_),T.keep _ _ _ st7 fun b hb o e=>(I9.pin (b,o) (List.mem_append_right _ (List.mem_append_right _ (zaO hb e)))).1,fun b hb=>?_,w9⟩
    ·cases j with
     | zero=>simp [ybt] at e
     | succ j=>simpa [ybt] using e
    ·obtain ⟨o,e,d⟩:=T.obj _ _ st7 b hb
     exact (I9.pin (b,o) (List.mem_append_right _ (List.mem_append_right _ (zaO hb e)))).2.1
   refine wpAny_mono (hc pins _ _ _ fp ([]++ybE fp s7.heap) s8 _ H7 _ I8' q8) (fun ok s9 ⟨H9,I9,q9⟩=>?_) fun _ _ z=>z
   cases ok with
   | false =>
    rw [if_neg Bool.false_ne_true] at q9 ⊢
    obtain ⟨m',hm,w9⟩:=q9
    exact again I9 hm w9
   | true =>
    rw [if_pos rfl] at q9 ⊢
    refine wpAny_mono (he pins _ _ _ fp ([]++ybE fp s7.heap) s9 _ H9 _ I9 q9) (fun y s10 ⟨v,H10,I10,r10,hD10,m',hm,w10⟩=>?_) fun _ _ z=>z
    refine wpAny_mono (zbX (X:=(yaZ X pins x₁ jf scope (yau X.env scope.names []) { s2 with heap:=hp3 } (upd H2 s2.heap.objs.size (.lst [])) fp)) ([]++ybE fp s7.heap) s10 (ybt (some x) jf σ) H10 (.ref s2.heap.objs.size) [v] (.ref s2.heap.objs.size) [y] (fun _ H' => H'=upd H10 s2.heap.objs.size (.lst (ys++[v]))) I10 rfl (.cons r10 .nil) ⟨_,ys,v,rfl,rfl,hD10,hlen,rfl⟩)
     (fun _ s11 ⟨_,H11,I11,_,e11⟩=>?_) fun _ _ z=>z
    subst e11
    exact again I11 hm w10
 exact codeAny_compStart_list loop (T.self _ 0 _ _ _ st4 loop)
theorem zfj (hcalm:X.calm=true) (hi:PI X (.Name x₁ px) iter wi) (hc:∀ pins cl s H fp,PTs (yaZ X pins x₁ jf scope cl s H fp) ifs tc) (he:∀ pins cl s H fp,PE (yaZ X pins x₁ jf scope cl s H fp) elt te)
  (hN:(x₁::jf.map (·.2)).Nodup) (hx:scope.names.lookup x₁=some .local) (hjf:∀ p∈jf,X.N[p.1]? = some p.2) (hjl:∀ p∈jf,scope.names.lookup p.2=some .free) (hkind:scope.kind = .function)
  (hcell:∀ y∈scope.names,y.2 ≠ .cell) (hfr:∀ y∈scope.names,y.2 = .free->X.env.kindOf y.1=some .cell\/X.env.kindOf y.1=some .free)
  (hnames:∀ y∈scope.names,y.2 = .local->scope.names.lookup y.1=some .local) (hs:∀ x,foldedSetIterable iter X.env x=pure x:=by intro _;rfl) :
  PE X (.ListComp elt [⟨.Name x₁ px,iter,ifs,0⟩] scope pos) (yei jf wi tc te):=by
 intro pins s σ H Q I h
 rw [eval_ListComp]
 refine zej hcalm hi hc he hN hx hjf hjl hkind hcell hfr hnames (use:=none) (Qf:=EP X pins σ Q) I h (fun D C s6 H6 m6 I6 q6 f6 n6=>?_) hs
 refine ⟨m6,n6,fun h' hs' => ⟨.ref D,H6,?_,rfl,q6⟩⟩
 exact I6.turnedL (fp:=[C]) (t' := s6.toks) (fun b o hb q=>(hs'.2 b (fun z=>hb (by simp [z]))).trans q) (fun b hb=>by
  have e:b=C:=by simpa using hb
  subst e
  exact f6)
theorem ziI {y:Str} {py spos:Pos} {i:Nat} (hcalm:X.calm=true) (hi:PI X (.Name x₁ px) iter wi) (hc:∀ pins cl s H fp,PTs (yaZ X pins x₁ jf scope cl s H fp) ifs tc) (he:∀ pins cl s H fp,PE (yaZ X pins x₁ jf scope cl s H fp) elt te)
  (hN:(x₁::jf.map (·.2)).Nodup) (hx:scope.names.lookup x₁=some .local) (hjf:∀ p∈jf,X.N[p.1]? = some p.2) (hjl:∀ p∈jf,scope.names.lookup p.2=some .free) (hkind:scope.kind = .function)
  (hcell:∀ y∈scope.names,y.2 ≠ .cell) (hfr:∀ y∈scope.names,y.2 = .free->X.env.kindOf y.1=some .cell\/X.env.kindOf y.1=some .free)
  (hnames:∀ y∈scope.names,y.2 = .local->scope.names.lookup y.1=some .local) (hNX:X.N.Nodup) (hi':X.N[i]? = some y) (hy:X.env.scope.names.lookup y=some .local)
  (hsw:swapsWith (.ListComp elt [⟨.Name x₁ px,iter,ifs,0⟩] scope pos) (some (.Name y py)) spos.line X.env=pure true) (hs:∀ x,foldedSetIterable iter X.env x=pure x:=by intro _;rfl) :
  PS X (.Assign [.Name y py] (.ListComp elt [⟨.Name x₁ px,iter,ifs,0⟩] scope pos) spos) (tAsg (yei jf wi tc te) (yeg i)):=by
 intro pins s σ H D I h
 rw [exec_Assign_Name_used _ _ _ _ hsw]
 refine wpAny_bind (wpAny_standAt (wpAny_bind ?_))
 show wpAny _ X.A (do let _ <- comprehension (.ListComp elt [⟨.Name x₁ px,iter,ifs,0⟩] scope pos) scope X.env _ (newList []) false (eval iter X.env) (some (assign (.Name y py) X.env))) _ _ s
 refine wpAny_bind (wpAny_mono (zej (Qf:=fun _ s' => SP X pins D .next s') hcalm hi hc he hN hx hjf hjl hkind hcell hfr hnames (use:=some (assign (.Name y py) X.env)) I h (fun D' C s6 H6 m6 I6 q6 f6 n6=>?_) hs) (fun _ s' hq=>wpAny_pure (wpAny_pure hq)) fun _ _ e=>e)
 refine wpAny_assign_Name (zdC I6 hNX hi' (.inl hy) (v:=.ref D') rfl (fun s7 I7 ⟨a,hsa,ha⟩=>?_) (.inr hy))
 have ne:C≠a:=by
  rcases ha with z | z
  ·rw [z];exact f6.2.1
  ·exact fun q=>f6.2.2.2.2.1 y a z q.symm
 refine ⟨m6,n6.sameBut hsa ne,fun h' hs' => ⟨_,H6,?_,q6⟩⟩
 exact I7.turnedL (fp:=[C]) (t' := s7.toks) (fun b o hb q=>(hs'.2 b (fun z=>hb (by simp [z]))).trans q) (fun b hb=>by
  have e:b=C:=by simpa using hb
  subst e
  exact f6)
end
end L2
namespace L2
open PySem PySem.Spec PyProof.Rows
section
variable {X:Cx} {a b e:Expr} {ta tb:TE} {p p2 pos:Pos}
theorem zhE {c:V} {cv:Value} (rc:∀ u,RelV c u->u=cv) :
  CallR X (.builtin "isinstance") (fun xs H Q=>∃ x t r,xs=[x,c]/\TyOf X.K H x t/\PySem.W.kitOne X.K t cv=some r/\Q (.bl r) H):=by
 intro pins s σ H xs us Q I r h
 obtain ⟨x,t,k,rfl,ty,hk,q⟩:=h
 obtain ⟨u,w',rfl,rx,ry⟩:=yeR r
 obtain rfl:=rc _ ry
 exact zgG I rx ty hk fun tk=>⟨.bl k,H,I.tok _,rfl,q⟩
theorem yf0 (n:String):∀ u,RelV (.ty n) u->u=Value.type n:=fun _ r=>r
theorem zgQ:OpR X (compareOp .LtE) (fun x y H Q=>∃ i j,x = .str i/\y = .str j/\Q (.bl (!decide (j.cps.toList<i.cps.toList))) H):=by
 intro pins s σ H x y v u Q I rx ry h
 obtain ⟨i,j,rfl,rfl,q⟩:=h
 obtain ⟨t,rfl⟩:=rx
 obtain ⟨t',rfl⟩:=ry
 exact PySem.P.le_str (yaK I q rfl)
theorem zek:MtR X "str.count" (fun x vs H Q=>∃ z y,x = .str z/\vs=[.str y]/\Q (.int ((Builtin.Str.occurrences z y 0 z.length (z.length+1)).length:Nat)) H):=by
 intro pins s σ H x vs v us Q I rx rv h
 obtain ⟨z,y,rfl,rfl,q⟩:=h
 obtain ⟨t,rfl⟩:=rx
 obtain ⟨u,rfl,t',rfl⟩:=ydS rv
 exact call_gives F.slot_str_count (typeIs_str s z t) F.entry_str_count (F.args_str_count_2 _ _) (gives_str_count z y t t') ⟨.int _,H,I.tok _,⟨_,rfl⟩,q⟩
theorem zhF (hc:X.calm=true):CallR X (.builtin "all") (fun xs H Q=>∃ (a:Addr) (bs:List Bool),xs=[.ref a]/\SqL X.K H a (bs.map V.bl)/\Q (.bl (bs.all id)) H):=by
 intro pins s σ H xs us Q I r h
 obtain ⟨l,bs,rfl,hq,q⟩:=h
 obtain ⟨u,rfl,rx⟩:=ydS r
 cases rx
 obtain ⟨its,rv,pl,hz⟩:=I.list hq
 have hlt:l<s.heap.objs.size:=by obtain ⟨_,_,e,_⟩:=pl;exact Heap.lt_size e
 have hlen:its.length=bs.length:=by rw [<- rv.length,List.length_map]
 refine call_all_walk (wpAny_pyIter_list pl.isList ?_)
 refine ⟨s.heap.objs.size,[s.heap.objs.size,l],[s.heap.objs.size],its.toArray.size,_,_,fun i=>(bs[i]?).getD true,rfl,Walks.list (A:=X.A.in1) (I.ok.hd hc) _ l (Nat.ne_of_lt hlt) its.toArray,
  ⟨⟨_,Heap.get?_push_size _ rfl,rfl,rfl⟩,pl.isList.push _⟩,fun i v s' Q' E' hP hQ=>?_,fun h' tk hk=>?_⟩
 ·have hP':its[i]? = some v:=by simpa using hP
  have hi:i<its.length:=(List.getElem?_eq_some_iff.mp hP').1
  have hb:(bs.map V.bl)[i]? = some (V.bl (bs[i]'(by omega))):=by rw [List.getElem?_map,List.getElem?_eq_getElem (by omega)];rfl
  obtain ⟨u,hu,ru⟩:=rv.get hb
  rw [hP'] at hu
  cases hu
  cases ru
  have e:(bs[i]?).getD true=bs[i]'(by omega):=by rw [List.getElem?_eq_getElem (by omega)];rfl
  have hQ2:Q' ((bs[i]?).getD true) s' := hQ
  rw [e] at hQ2
  exact wpAny_truthy_bool hQ2
 ·have e:((List.range its.toArray.size).all fun i=>(bs[i]?).getD true)=bs.all id:=by
   rw [List.size_toArray,hlen,Bool.eq_iff_iff,List.all_eq_true,List.all_eq_true]
   constructor
   ·intro z c hc'
    obtain ⟨i,hi,rfl⟩:=List.getElem_of_mem hc'
    have:=z i (List.mem_range.mpr hi)
    rw [List.getElem?_eq_getElem hi] at this
    exact this
   ·intro z i hi
    have hi' := List.mem_range.mp hi
    rw [List.getElem?_eq_getElem hi']
    exact z _ (List.getElem_mem hi')
  rw [e]
  refine ⟨.bl _,H,I.kept (t' := tk) fun b o q=>?_,rfl,q⟩
  exact hk b o (fun hm=>by rw [List.mem_singleton.mp hm] at q;exact Nat.lt_irrefl _ (Heap.lt_size q)) (Heap.get?_push_of_some _ q)
end
end L2
namespace L2
open PySem PySem.Spec PyProof.Rows
section
variable {X:Cx}
theorem zhG:OpR X (binaryOp .FloorDiv) (rI (fun _ j=>0<j/\j<2 ^ 200) fun i j=>.int (i / j)):=opI fun i j _ _ _ _ _ hc q=>by
 obtain ⟨h1,h2⟩:=hc
 refine floordiv_int (by omega) (by rw [Int.fdiv_eq_ediv_of_nonneg i (by omega)];exact q) (.inl (PyProof.noPylong_of_log2 ?_))
 have h3:j.natAbs<2 ^ 200:=by omega
 have h4:j.natAbs.log2<200:=(Nat.log2_lt (by omega)).mpr h3
 omega
theorem zhH:OpR X (binaryOp .Mult) (rI IntMulOk fun i j=>.int (i*j)):=opI fun _ _ _ _ _ _ _ hc q=>mul_int q hc
end
end L2
namespace L2
open PySem PySem.Spec PyProof.Rows
theorem ygP:bootBuiltins "int" = some (.type "int"):=by decide +kernel
theorem ziJ:bootBuiltins "bool" = some (.type "bool"):=by decide +kernel
theorem yfw:bootBuiltins "str" = some (.type "str"):=by decide +kernel
end L2
namespace L2
open PySem PySem.Spec PyProof.Rows
theorem ObjOk.some {P:Program} {w:World} {H:Hp} {h:Heap} {a:Addr} {o:HO} (x:ObjOk P w H h a o):∃ ob,h.get? a=Option.some ob:=by
 cases o with
 | lst xs=>obtain ⟨_,_,_,_,e⟩:=x;exact ⟨_,e⟩
 | tup xs=>obtain ⟨_,_,_,o,e,_⟩:=x;exact ⟨o,e⟩
 | dK kvs=>obtain ⟨_,_,_,_,o,_,_,e,_⟩:=x;exact ⟨_,e⟩
 | dT kvs=>obtain ⟨_,_,_,_,o,_,_,e,_⟩:=x;exact ⟨_,e⟩
 | set S n=>obtain ⟨o,_,_,_,e,_⟩:=x;exact ⟨_,e⟩
 | ins C dx fs=>obtain ⟨_,_,_,e,_⟩:=x;exact ⟨_,e⟩
 | own y=>obtain ⟨_,e⟩:=x;exact ⟨_,e⟩
 | xd fs=>obtain ⟨_,⟨_,_,_,e,_⟩,_⟩:=x;exact ⟨_,e⟩
 | rng lo hi=>obtain ⟨_,_,_,e⟩:=x;exact ⟨_,e⟩
 | frz ob u=>obtain ⟨e,_⟩:=x;exact ⟨_,e⟩
 | tbl ps=>exact ⟨_,(show h.get? a=Option.some _ from x)⟩
 | met f y=>exact ⟨_,(show h.get? a=Option.some _ from x)⟩
 | ext φ=>obtain ⟨_,⟨_,e⟩,_⟩:=x;exact ⟨_,e⟩
def Firm (X:Cx) (pins:List (Addr×Obj)) (H:Hp) (h B:Heap):Prop :=
 ∀ b o,h.get? b=some o->b∉frs X.stack->((∃ u,H b=some u)\/(∃ o',X.s₀.heap.get? b=some o')\/∃ p∈X.pn++pins,p.1=b)->B.get? b=some o
section
variable {X:Cx} {pins:List (Addr×Obj)} {σ:St} {H:Hp} {s:Shared}
theorem Inv.nofr (I:Inv X pins σ H s) {b:Addr} {o:Obj} (e:X.s₀.heap.get? b=some o) (hb:b∉X.fs):b∉frs X.stack:=fun z=>by
 rcases List.mem_cons.mp (I.stkSub b z) with q | q
 ·exact Nat.ne_of_lt (Nat.lt_of_lt_of_le (Heap.lt_size e) I.ok.above) q
 ·exact hb q
theorem Inv.nofrT (I:Inv X pins σ H s) {b:Addr} {u:HO} (e:H b=some u):b∉frs X.stack:=fun z=>by
 have q:=I.stkFree b z
 rw [q] at e
 cases e
theorem Inv.nofrP (I:Inv X pins σ H s) {p:Addr×Obj} (hp:p∈X.pn++pins):p.1∉frs X.stack:=fun z=>by
 obtain ⟨_,_,ne,nf,_⟩:=I.pin p hp
 rcases List.mem_cons.mp (I.stkSub p.1 z) with q | q
 ·exact ne q
 ·exact nf q
theorem Inv.flown {B h':Heap} {t':Nat} (I:Inv X pins σ H s) (hex:X.ex=[]) (F:Firm X pins H s.heap B) (st:B.StaysIn h') (sm:s.heap.UpToSlots h'):Inv X pins σ H { s with heap:=h',toks:=t' }:=by
 have nx:∀ b,b∉X.ex:=fun b z=>by rw [hex] at z;cases z
 refine ⟨I.ok,I.os,I.bare,⟨fun b o e n hb hx=>?_,fun b o e n hb hx=>?_,I.base.free,fun b o e hx=>?_,I.base.tups,I.base.frzs,I.base.tbls⟩,?_,fun x c e=>?_,I.free,I.freeC,fun p hp=>?_,fun b u e=>?_,I.len⟩
 ·exact st b o (F b o (I.base.keep b o e n hb hx) (I.nofr e hb) (.inr (.inl ⟨o,e⟩)))
 ·obtain ⟨sl,q⟩:=I.base.slot b o e n hb hx
  obtain ⟨_,o',ho',hd⟩:=I.funs.mem hb
  rw [q] at ho'
  cases ho'
  obtain ⟨sl',q'⟩:=sm b _ q hd
  exact ⟨sl',q'⟩
 ·obtain ⟨o',q⟩:=I.base.there b o e hx
  by_cases hb:b∈X.fs
  ·obtain ⟨_,o'',ho'',hd⟩:=I.funs.mem hb
   rw [q] at ho''
   cases ho''
   obtain ⟨sl',q'⟩:=sm b _ q hd
   exact ⟨_,q'⟩
  ·exact ⟨o',st b o' (F b o' q (I.nofr e hb) (.inr (.inl ⟨o,e⟩)))⟩
 ·obtain ⟨m,hn,hl⟩:=I.loc
  refine ⟨m,sm.ns hn,fun i x v e1 e2 e3=>?_⟩
  obtain ⟨u,r,l⟩:=hl i x v e1 e2 e3
  refine ⟨u,r,?_⟩
  rcases l with l | ⟨k,c,e,o,ho,hd⟩
  ·exact .inl l
  ·obtain ⟨sl,q⟩:=sm c o ho fun vs z=>by rw [hd] at z;cases z
   exact .inr ⟨k,c,e,_,q,hd⟩
 ·obtain ⟨v,o,ho,hd⟩:=I.cell x c e
  obtain ⟨sl,q⟩:=sm c o ho fun vs z=>by rw [hd] at z;cases z
  exact ⟨v,_,q,hd⟩
 ·obtain ⟨e,n,ne,nf,d⟩:=I.pin p hp
  exact ⟨st _ _ (F _ _ e (I.nofrP hp) (.inr (.inr ⟨p,hp,rfl⟩))),n,ne,nf,d⟩
 ·refine (I.hok b u e).stay (fun c v hc q=>?_) (fun _ q=>q) fun _ _ q=>q
  rcases hc with z | z
  ·subst z
   exact st _ _ (F _ _ q (I.nofrT e) (.inl ⟨_,e⟩))
  ·exact st _ _ (F _ _ q (I.nofrT z) (.inl ⟨_,z⟩))
end
structure Arr (X:Cx) (pins:List (Addr×Obj)) (σ:St) (H:Hp) (a:Addr) (cls:Value) (s:Shared):Prop where
 inv:Inv X pins σ H s
 un:H a=none
 new:X.s₀.heap.get? a=none
 nl:a≠X.env.locals
 nc:∀ x c,X.env.cells.lookup x=some c->c≠a
 np:∀ p∈X.pn++pins,p.1≠a
 fly:∃ B a0,Firm X pins H s.heap B/\B.StaysIn s.heap/\B.get? a=none/\s.heap.FunFrames B X.stack /\
  ((∃ oe vs,s.heap.get? a=some oe/\oe.cls=cls/\oe.data = .fields vs/\vs[0]? = some a0/\vs[1]? = some .none)\/s.heap.TracedW B a cls a0)
def CXE (P:Program) (w:World):CXT:=fun outer H s E e s' => ∃ (a:Addr) (cls a0:Value) (H':Hp) (B:Heap),e = .ref a/\s'.os=s.os/\AllBare s'.gens/\Un (frs outer) [] H H' s.heap s'.heap/\HOk P w H' s'.heap /\
 Heap.FlyingW B outer a cls a0 s'.heap/\(∀ b o,s'.heap.get? b=some o->b∉frs outer->((∃ u,H' b=some u)\/∃ o',s.heap.get? b=some o')->B.get? b=some o)/\H' a=none/\s.heap.get? a=none/\E cls none H'
section
variable {X:Cx} {pins:List (Addr×Obj)} {σ:St} {H:Hp} {s:Shared}
theorem zhI {h':Heap} {e:Addr} {cls:Value} {args:List Value} {t':Nat} (I:Inv X pins σ H s) (hex:X.ex=[]) (hx:Heap.MadeExcOf s.heap h' e cls args):Arr X pins σ H e cls { s with heap:=h',toks:=t' }:=by
 have nx:∀ b,b∉X.ex:=fun b z=>by rw [hex] at z;cases z
 have none_of:∀ b o,s.heap.get? b=some o->b≠e:=fun b o q z=>by rw [z,hx.new] at q;cases q
 have eq_of:∀ b o o1,h'.get? b=some o->s.heap.get? b=some o1->o1=o:=fun b o o1 q q1=>by
  have z:=hx.keeps b o1 q1
  rw [q] at z
  exact (Option.some.inj z).symm
 obtain ⟨t,he,_,_⟩:=hx.there
 refine ⟨I.kept hx.keeps,?_,?_,fun z=>?_,fun x c q z=>?_,fun p hp z=>?_,PySem.W.hideAll s.heap (frs X.stack),.ref t,fun b o q nb alt=>?_,fun b o q=>hx.keeps b o (PySem.W.of_hideAll _ q),?_,?_,.inl ⟨_,_,he,rfl,rfl,rfl,rfl⟩⟩
 ·cases q:H e with
  | none=>rfl
  | some u =>
   obtain ⟨ob,z⟩:=(I.hok e u q).some
   exact absurd rfl (none_of e ob z)
 ·cases q:X.s₀.heap.get? e with
  | none=>rfl
  | some o =>
   obtain ⟨ob,z⟩:=I.base.there e o q (nx e)
   exact absurd rfl (none_of e ob z)
 ·obtain ⟨m,⟨o,_,_,ho,_⟩,_⟩:=I.loc
  exact none_of _ o ho z.symm
 ·obtain ⟨v,o,ho,_⟩:=I.cell x c q
  exact none_of _ o ho z
 ·exact none_of _ _ (I.pin p hp).1 z
 ·have there:∃ o1,s.heap.get? b=some o1:=by
   rcases alt with ⟨u,q'⟩ | ⟨o',q'⟩ | ⟨p,hp,rfl⟩
   ·exact (I.hok b u q').some
   ·exact I.base.there b o' q' (nx b)
   ·exact ⟨_,(I.pin p hp).1⟩
  obtain ⟨o1,q1⟩:=there
  rw [<- eq_of b o o1 q q1]
  exact PySem.W.hideAll_get _ q1 nb
 ·cases q:(PySem.W.hideAll s.heap (frs X.stack)).get? e with
  | none=>rfl
  | some o=>exact absurd rfl (none_of e o (PySem.W.of_hideAll _ q))
 ·refine (PySem.W.funFrames_hide I.stack fun env henv b hb=>List.mem_filterMap.mpr ⟨env,henv,hb⟩).of_keeps fun b o q _=>⟨o,hx.keeps b o q,rfl⟩
theorem zhJ {E:XK} {e:Value} {s':Shared} (I:Inv X pins σ H s) (hex:X.ex=[]) (h:CXE X.prog X.w X.stack H s E e s'):∃ a cls H',e = .ref a/\Arr X pins σ H' a cls s'/\E cls none H' := by
 obtain ⟨a,cls,a0,H',B,rfl,os,bare,un,hok,⟨f1,f2,f3,f4⟩,ext,na,ns,q⟩:=h
 have nx:∀ b,b∉X.ex:=fun b z=>by rw [hex] at z;cases z
 have none_of:∀ b o,s.heap.get? b=some o->b≠a:=fun b o q z=>by rw [z,ns] at q;cases q
 refine ⟨a,cls,H',rfl,⟨I.call' (ch:=[]) os un hok bare (fun b z=>absurd z (by simp)),na,?_,fun z=>?_,fun x c q z=>?_,fun p hp z=>?_,B,a0,fun b o q nb alt=>?_,f1,f2,f3,.inr f4⟩,q⟩
 ·cases q:X.s₀.heap.get? a with
  | none=>rfl
  | some o =>
   obtain ⟨ob,z⟩:=I.base.there a o q (nx a)
   exact absurd rfl (none_of a ob z)
 ·obtain ⟨m,⟨o,_,_,ho,_⟩,_⟩:=I.loc
  exact none_of _ o ho z.symm
 ·obtain ⟨v,o,ho,_⟩:=I.cell x c q
  exact none_of _ o ho z
 ·exact none_of _ _ (I.pin p hp).1 z
 ·refine ext b o q nb ?_
  rcases alt with ⟨u,q'⟩ | ⟨o',q'⟩ | ⟨p,hp,rfl⟩
  ·exact .inl ⟨u,q'⟩
  ·exact .inr (I.base.there b o' q' (nx b))
  ·exact .inr ⟨_,(I.pin p hp).1⟩
theorem Arr.land {a:Addr} {cls:Value} {Q:Unit->Shared->Prop} {E:Value->Shared->Prop} {M:Model} {A:Around} (R:Arr X pins σ H a cls s) (hex:X.ex=[]) (hfr:A.frames=some X.stack) {outer:List Env} (hst:X.stack=X.env::outer) (hf:X.env.frame=some X.env.locals)
  (hQ:∀ h' B a0,Firm X pins H s.heap B->Heap.FlyingW B X.stack a cls a0 h'->s.heap.UpToSlots h'->Inv X pins σ H { s with heap:=h' }->Q () { s with heap:=h' }) :
  wpAny M A (noteFrame (.ref a) X.env) (fun _ s₂=>wpAny M A (setFlight (.ref a) none) Q E s₂) E s:=by
 obtain ⟨B,a0,fm,st,hb,ff,alt⟩:=R.fly
 have after:∀ h4,Heap.HeldW B X.stack a cls a0 X.env.locals h4->s.heap.UpToSlots h4->wpAny M A (setFlight (.ref a) none) Q E { s with heap:=h4 }:=fun h4 hh sm=>by
  refine wpAny_landsW (s:={ s with heap:=h4 }) hh fun h5 fl sm5=>?_
  have sm':s.heap.UpToSlots h5:=sm.trans sm5
  exact hQ h5 B a0 fm fl sm' (R.inv.flown (t' := s.toks) hex fm fl.1 sm')
 rw [hst] at hfr
 rw [hst] at ff
 rcases alt with ⟨oe,vs,he,hc,hd,h0,h1⟩ | tr
 ·subst hc
  have hsz:1<vs.size:=(Array.getElem?_eq_some_iff.mp h1).1
  unfold noteFrame
  simp only [hf]
  refine wpAny_bind (wpAny_field he hd h1 ?_)
  rw [if_neg (by decide)]
  refine wpAny_entryW hfr ff hf he st hb hd hsz h0 fun h4 hN=>?_
  obtain ⟨k1,k2,k3,k4⟩:=hN
  exact after h4 (by rw [hst];exact ⟨k1,hb,k2,k3⟩) k4
 ·exact wpAny_looks_onW hfr hf ⟨st,hb,ff,tr⟩ fun h4 hh sm=>after h4 (by rw [hst];exact hh) sm
theorem zdK {P:Program} {w:World} {K:PySem.W.Frag} {mg:Str->Option Value} {base:Heap} {N:List Str} {qual:Str} {scope:Scope} {f:Addr} {cd:Value} {A:Around} {outer:List Env} {s0:Shared} {H0:Hp} {E:XK} {a:Addr} {cls:Value}
  (R:Arr (cxOf (CXE P w) P w K mg base N qual scope f cd A outer s0 H0 E) pins σ H a cls s) (q:E cls none H):(cxOf (CXE P w) P w K mg base N qual scope f cd A outer s0 H0 E).xe (.ref a) s:=by
 show wpAny _ _ (leaving _ _) _ _ s
 unfold leaving
 refine wpAny_bind (R.land (E:=fun e' s'' => CXE P w outer H0 s0 E e' s'') rfl R.inv.ok.frames rfl rfl fun h' B a0 fm fl sm I' => ?_)
 have I:=R.inv
 obtain ⟨k1,k2,⟨_,_,k3⟩,k4⟩:=fl
 refine ⟨a,cls,a0,H,B,rfl,I'.os,I'.bare,I'.base,I'.hok,⟨k1,k2,k3,k4⟩,fun b o e nb alt=>?_,R.un,R.new,q⟩
 have nstk:b∉frs (cxOf (CXE P w) P w K mg base N qual scope f cd A outer s0 H0 E).stack:=by
  rcases alt with ⟨u,z⟩ | ⟨o',z⟩
  ·exact I.nofrT z
  ·exact I.nofr z nb
 have there:∃ o1,s.heap.get? b=some o1:=by
  rcases alt with ⟨u,z⟩ | ⟨o',z⟩
  ·exact (I.hok b u z).some
  ·exact I.base.there b o' z (fun z=>absurd (show b∈([]:List Addr) from z) (by simp))
 obtain ⟨o1,q1⟩:=there
 have z:B.get? b=some o1:=fm b o1 q1 nstk (by
  rcases alt with ⟨u,z⟩ | ⟨o',z⟩
  ·exact .inl ⟨u,z⟩
  ·exact .inr (.inl ⟨o',z⟩))
 have z2:=k1 b o1 z
 rw [show (Heap.get? h' b)=some o from e] at z2
 cases z2
 exact z
end
def yeN (X:Cx) (Ex:St->XK):Prop:=∀ (pins:List (Addr×Obj)) (σ:St) (H:Hp) (s:Shared) (a:Addr) (cls:Value),Arr X pins σ H a cls s->Ex σ cls none H->X.xe (.ref a) s
def ydL (CX:CXT) (X:Cx) (Ex:St->XK):Prop:=∀ (pins:List (Addr×Obj)) (σ:St) (H:Hp) (s:Shared) (e:Value) (s':Shared),Inv X pins σ H s->CX X.stack H s (Ex σ) e s'->X.xe e s'
section
variable {P:Program} {w:World} {K:PySem.W.Frag} {mg:Str->Option Value} {base:Heap} {N:List Str} {qual:Str} {scope:Scope} {f:Addr} {cd:Value} {A:Around} {outer:List Env} {s0:Shared} {H0:Hp} {E:XK}
theorem zaF:yeN (cxOf (CXE P w) P w K mg base N qual scope f cd A outer s0 H0 E) (fun _=>E):=fun _ _ _ _ _ _ R q=>zdK R q
theorem ziK:ygF (CXE P w) (cxOf (CXE P w) P w K mg base N qual scope f cd A outer s0 H0 E) E:=fun pins σ H s e s' I h=>by
 obtain ⟨a,cls,H',rfl,R,q⟩:=zhJ (X:=cxOf (CXE P w) P w K mg base N qual scope f cd A outer s0 H0 E) I rfl h
 exact zdK R q
end
section
variable {X:Cx} {x:Str} {C:Addr} {bm:List Value} {B newId initId:String} {np cpos pos:Pos} {e:Expr} {es:List Expr} {t:TA} {Ex:St->XK}
def ygQ (cls:Value) (Ex:St->XK) (t:TA):TS:=fun _ σ H=>t σ H fun vs H1=>vs.length<=1000/\Ex σ cls none H1
theorem zhK (O:OwnCls x C bm newId X.mg X.base) (FB:ExcBaseFacts B newId initId bm) (hc:X.calm=true) (hex:X.ex=[]) (hr:yeN X Ex) (hg:Gl X x) (ha:PA X (e::es) t)
  (hdb:(x == ("__debug__" : Str))=false:=by decide) (he:starEach (e::es) X.env=(false,eval e X.env)::starEach es X.env:=by rfl) (hpl:(backTo cpos (starEach es X.env)).any (·.1)=false:=by rfl) :
  PS X (.Raise (some (.Call (.Name x np) (e::es) [] cpos)) none pos) (ygQ (.ref C) Ex t):=by
 intro pins s σ H D I h
 obtain ⟨tl,NN,nm,q,bs,hdct,sn,sub,ab,col,dd,k0,k1,k2,k3,k5,mN,hC,hN,hni,T⟩:=O.obj
 refine wpAny_Raise_call_subT (C:=C) (nm:=nm) (q:=q) (N:=NN) (bs:=bs) (bm:=tl) (hdct:=hdct) (sn:=sn) (sub:=sub) (ab:=ab) (col:=col) (dd:=dd) (k0:=k0) (k1:=k1) (k2:=k2) (k3:=k3) (k5:=k5) FB (mN:=mN)
  (T.hasType FB.hasBase) (I.ok.hd hc) (by rw [he];show (false || (backTo cpos (starEach es X.env)).any (·.1))=false;rw [hpl];rfl) hni (zcc I hg O.bound ⟨rfl,?_⟩ hdb)
 have hA:=ha cpos pins s σ H _ I h
 rw [he] at hA ⊢
 refine Calls.evalArgs_plain (thn hA fun us s2 ⟨vs,H1,I1,r1,hl,q1⟩=>⟨rfl,?_,I1.bk _ _ hC,hN.keeps I1.bk,T.keeps I1.bk,fun h' a hm=>hr pins σ H1 _ a _ (zhI (t' := s2.toks) I1 hex hm) q1⟩)
 show us.length<=sizeLine
 rw [<- r1.length]
 exact Nat.le_trans hl (by decide)
end
section
variable {X:Cx} {CX:CXT} {k:Nat} {f C:Addr} {fd:FuncData} {ps:List Str} {sp:Sp} {dvs:List V} {ds:List Value} {Ex:St->XK} {x m:Str} {p pos apos:Pos} {e o:Expr} {es:List Expr} {ta:TE} {t:TA}
theorem zde {pins:List (Addr×Obj)} {σ:St} {H:Hp} {s:Shared} {Q:VK} {us:List Value} {vs:List V} (F:FnOk X.prog X.w X.K X.mg X.base CX k f fd ps sp) (hr:Room k X.A) (hb:Binds X.K fd ps ds) (hd:Vals dvs ds) (hx:ydL CX X Ex)
  (I:Inv X pins σ H s) (r:Vals vs us) (h:sp (vs++dvs) H Q (Ex σ)):wpAny (model X.prog X.w) X.A (call (.ref f) us) (EP X pins σ Q) X.xe s:=by
 have r2:Vals (vs++dvs) (us++ds):=r.append hd
 have hl:(us++ds).length=ps.length:=by rw [<- r2.length];exact F.len _ _ _ _ h
 refine wpAny_call (codeAny_mono (F.run X.A X.stack s H ⟨us,[]⟩ (us++ds) (vs++dvs) Q (Ex σ) hr I.env0 (hb s us I.kIn hl) r2 h) fun r s' hq=>?_)
 cases r with
 | error e=>exact hx pins σ H s e s' I hq
 | ok fl =>
  cases fl with
  | ret u=>exact I.after hq
  | next=>exact False.elim hq
  | brk=>exact False.elim hq
  | cont=>exact False.elim hq
def ygR (sp:Sp) (dvs:List V) (Ex:St->XK) (t:TA):TE:=fun σ H Q=>t σ H fun vs H1=>sp (vs++dvs) H1 Q (Ex σ)
theorem zhL (F:FnOk X.prog X.w X.K X.mg X.base CX k f fd ps sp) (hr:Room k X.A) (hg:Gl X x) (hm:X.mg x=some (.ref f)) (hk:PySem.W.keepIn X.K (.ref f)=true) (hb:Binds X.K fd ps ds) (hd:Vals dvs ds) (hx:ydL CX X Ex)
  (ha:PA X (e::es) t) (hdb:(x == ("__debug__" : Str))=false:=by decide) (he:starEach (e::es) X.env=(false,eval e X.env)::starEach es X.env:=by rfl) (hpl:(backTo pos (starEach es X.env)).any (·.1)=false:=by rfl) :
  PE X (.Call (.Name x p) (e::es) [] pos) (ygR sp dvs Ex t):=by
 intro pins s σ H Q I h
 refine wpAny_Call_Name_kw (zcc I hg hm ?_ hdb)
 refine PySem.W.callWith_K (h₀:=X.base) I.ok.mod.kin hk (thn (ha pos pins s σ H _ I h) fun us s1 ⟨vs,H1,I1,r,q⟩=>⟨I1.kIn,?_⟩) he hpl
 exact zde F hr hb hd hx I1 r q
def yfx (C:Addr) (m:Str) (sp:Sp) (dvs:List V) (Ex:St->XK) (ta:TE) (t:TA):TE:=fun σ H Q=>ta σ H fun x H1=>∃ a dx fs,x = .ref a/\H1 a=some (.ins C dx fs)/\fs.lookup m=none /\
 t σ H1 fun vs H2=>sp (x::(vs++dvs)) H2 Q (Ex σ)
theorem zhM {pl:Sem Bool} (he:PE X o ta) (c:Cls X.K C) (hm:Meth X.K C m f) (F:FnOk X.prog X.w X.K X.mg X.base CX k f fd ps sp) (hr:Room k X.A) (hb:Binds X.K fd ps ds) (hd:Vals dvs ds) (hx:ydL CX X Ex) (ha:PA X (e::es) t)
  (hst:starEach (e::es) X.env=(false,eval e X.env)::starEach es X.env:=by rfl) (hpl:(backTo pos (starEach es X.env)).any (·.1)=false:=by rfl)
  (ht:eval (.Call (.Attribute o m apos) (e::es) [] pos) X.env=(do
   let ov <- eval o X.env
   standAt apos.atName
   let (f,first) <- holding [ov] (getMethod ov m pl)
   callWith pos f first (backTo pos (starEach (e::es) X.env)) (backToKw pos (keywordEach [] X.env))):=by rfl) :
  PE X (.Call (.Attribute o m apos) (e::es) [] pos) (yfx C m sp dvs Ex ta t):=by
 intro pins s σ H Q I h
 refine PySem.W.methodCall_KW (pl:=pl) (thn (he pins s σ H _ I h) fun u s1 ⟨x,H1,I1,rx,a,dx,fs,ex,ea,l,q⟩=>?_) ht
 subst ex
 obtain rfl:u=Value.ref a:=rx
 refine zcZ I1 ea c hm l ?_
 refine PySem.W.callWith_K (first:=[.ref a]) (h₀:=X.base) I.ok.mod.kin hm.kp (thn (ha pos pins s1 σ H1 _ I1 q) fun us s2 ⟨vs,H2,I2,r,q2⟩=>⟨I2.kIn,?_⟩) hst hpl
 exact zde (us:=.ref a::us) (vs:=.ref a::vs) F hr hb hd hx I2 (.cons rfl r) q2
end
def excO (a:Addr) (cls:Value):HO:=.ext fun h=>∃ ob vs,h.get? a=some ob/\ob.cls=cls/\ob.data = .fields vs
section
variable {X:Cx} {pins pins':List (Addr×Obj)} {σ:St} {H:Hp} {s:Shared} {xe:Value->Shared->Prop}
end
section
variable {X:Cx} {xc n:Str} {C:Addr} {i:Nat} {body suite:List Stmt} {b0:Stmt} {np hpos pos:Pos} {tb:(St->XK)->TS} {th:TS} {outer:List Env}
end
section
variable {P:Program} {w:World} {K:PySem.W.Frag} {mg:Str->Option Value} {base:Heap}
theorem Fun.okE {x qual:Str} {st:Stmt} {f:Addr} {fd:FuncData} {N ps:List Str} {k:Nat} {sp:Sp} (F:Fun K x qual st f fd) (S:FnScope N ps (yag st)) (len:∀ vs H Q E,sp vs H Q E->vs.length=ps.length)
  (hbody:∀ (cdv:Value) (A:Around) (outer:List Env) (s:Shared) (H:Hp) (vs:List V) (Q:VK) (E:XK),Room k (A.deeper (envOfC qual (yag st) s.heap.objs.size f cdv))->sp vs H Q E ->
   ∃ t,PSs (cxOf (CXE P w) P w K mg base N qual (yag st) f cdv A outer s H E) (yb3 st) t/\t { nx:=fun _ H' => Q .non H',rt:=Q } (start N vs) H):FnOk P w K mg base (CXE P w) (k+1) f fd ps sp:=by
 obtain ⟨oc,od,kV,doc,pm,an,cdv,ct,osl,rfl,lk,hcd⟩:=F.ex
 exact yhJ lk hcd S len fun A outer s H vs Q E hr hsp=>hbody cdv A outer s H vs Q E hr hsp
end
end L2
namespace L2
open PySem PySem.Spec PyProof.Rows
theorem zhN {K:PySem.W.Frag} {hp:Heap} {g:Str->Option Value} {nm:Str} {Ca:Addr} {bb:List Value} {nid:String} (Z:K.In hp) (hb:g nm=some (.ref Ca)) (ok:PySem.W.excIn K Ca bb nid=true):OwnCls nm Ca bb nid g hp:=by
 refine ⟨hb,?_⟩
 unfold PySem.W.excIn at ok
 split at ok
 ·rename_i dA cA sA hA
  split at ok
  ·rename_i D' tl w0 w1 w2 w3 bn w5 eM eS
   simp only [Bool.and_eq_true,beq_iff_eq,Bool.not_eq_true'] at ok
   obtain ⟨⟨⟨⟨⟨rfl,rfl⟩,e1⟩,e2⟩,e3⟩,e4⟩:=ok
   obtain ⟨f1,f2,f3,f4,f5,f6,f7,f8,f9,f10,f11⟩:=cA
   dsimp only at eM e1 e3 e4
   subst eM e1
   have eA:sA = #[w0,w1,w2,w3,some (.builtin bn),w5]:=by
    obtain ⟨ll⟩:=sA
    simp only at eS
    rw [eS]
   subst eA
   refine ⟨tl,f4,f1,f5,f2,f6,f7,f8,f9,f10,dA,w0,w1,w2,w3,w5,_,Z _ _ hA,.of_isNs (PySem.W.isNs_of_in Z e3),?_,PySem.W.tail_of_in Z e2⟩
   exact PySem.W.nsMap_none_of_in Z e3 e4
  ·cases ok
 ·cases ok
mutual
inductive DaV (K:PySem.W.Frag) (H:Hp):V->PyData->Prop
 | non:DaV K H .non .none
 | bl (b):DaV K H (.bl b) (.bool b)
 | int (i):DaV K H (.int i) (.int i)
 | str (x):DaV K H (.str x) (.str x)
 | lst {a xs ds}:SqL K H a xs->DaVs K H xs ds->DaV K H (.ref a) (.list ds)
 | tup {a xs ds}:SqT K H a xs->DaVs K H xs ds->DaV K H (.ref a) (.tuple ds)
inductive DaVs (K:PySem.W.Frag) (H:Hp):List V->List PyData->Prop
 | nil:DaVs K H [] []
 | cons {x xs d ds}:DaV K H x d->DaVs K H xs ds->DaVs K H (x::xs) (d::ds)
end
section
variable {X:Cx} {pins:List (Addr×Obj)} {σ:St} {H:Hp} {s:Shared}
mutual
theorem DaV.reads (I:Inv X pins σ H s):∀ {x:V} {d:PyData} {u:Value},DaV X.K H x d->RelV x u->∃ as,Reads s.heap u d as
 | _,_,_,.non,r=>by cases r;exact ⟨_,.none⟩
 | _,_,_,.bl b,r=>by cases r;exact ⟨_,.bool b⟩
 | _,_,_,.int i,r=>by obtain ⟨t,rfl⟩:=r;exact ⟨_,.int i t⟩
 | _,_,_,.str x,r=>by obtain ⟨t,rfl⟩:=r;exact ⟨_,.str x t⟩
 | _,_,_,.lst (a:=a) h1 h2,r=>by
  cases r
  obtain ⟨its,rv,⟨o,n,e1,e2,e3⟩,_⟩:=I.list h1
  obtain ⟨as,q⟩:=DaVs.reads I h2 rv
  exact ⟨_,.list (vs:=its.toArray) (n:=n) e1 (by first | exact e2.1 | exact e2) (by first | exact e2.2.2 | exact e2.2 | exact e3 | exact e3.2) (by simpa using q)⟩
 | _,_,_,.tup (a:=a) h1 h2,r=>by
  cases r
  obtain ⟨its,rv,⟨o,e1,e2,n,e3⟩,_⟩:=I.tuple h1
  obtain ⟨as,q⟩:=DaVs.reads I h2 rv
  exact ⟨_,.tuple (vs:=its.toArray) (n:=n) e1 e2 e3 (by simpa using q)⟩
theorem DaVs.reads (I:Inv X pins σ H s):∀ {xs:List V} {ds:List PyData} {us:List Value},DaVs X.K H xs ds->Vals xs us->∃ as,ReadsAll s.heap us ds as
 | _,_,_,.nil,r=>by cases r;exact ⟨_,.nil⟩
 | _,_,_,.cons h1 h2,r=>by
  cases r with
  | cons r1 r2 =>
   obtain ⟨as,q1⟩:=DaV.reads I h1 r1
   obtain ⟨bs,q2⟩:=DaVs.reads I h2 r2
   exact ⟨_,.cons q1 q2⟩
end
def rEqD (K:PySem.W.Frag):R2:=fun x y H Q=>∃ d e,DaV K H x d/\DaV K H y e/\d.canLay0=true/\e.canLay0=true/\d.depth<=60/\Q (.bl (PyData.eqv d e)) H
def rNeD (K:PySem.W.Frag):R2:=fun x y H Q=>∃ d e,DaV K H x d/\DaV K H y e/\d.canLay0=true/\e.canLay0=true/\d.depth<=60/\Q (.bl (!PyData.eqv d e)) H
theorem yfy (hu:X.A.units+64<cLine):OpR X (compareOp .Eq) (rEqD X.K):=by
 intro pins s σ H x y v u Q I rx ry h
 obtain ⟨d,e,h1,h2,c1,c2,dp,q⟩:=h
 obtain ⟨as,r1⟩:=h1.reads I rx
 obtain ⟨bs,r2⟩:=h2.reads I ry
 exact SeqAt.compareEq_reads r1 r2 c1 c2 (by have:=Nat.min_le_left d.depth e.depth;omega) ⟨.bl _,H,I,rfl,q⟩
theorem yfz (hu:X.A.units+64<cLine):OpR X (compareOp .NotEq) (rNeD X.K):=by
 intro pins s σ H x y v u Q I rx ry h
 obtain ⟨d,e,h1,h2,c1,c2,dp,q⟩:=h
 obtain ⟨as,r1⟩:=h1.reads I rx
 obtain ⟨bs,r2⟩:=h2.reads I ry
 exact SeqAt.compareNe_reads r1 r2 c1 c2 (by have:=Nat.min_le_left d.depth e.depth;omega) ⟨.bl _,H,I,rfl,q⟩
end
theorem hu64 {A:Around} {k:Nat} (hr:Room k A):A.units+64<cLine:=by
 have:=hr.un
 omega
def yhT (K:PySem.W.Frag):R2:=fun x y H Q=>∃ l b xs zs,x = .ref l/\y = .ref b/\SqL K H l xs/\SqL K H b zs/\xs.length+zs.length<=sizeLine/\∀ p,H p=none->Q (.ref p) (upd H p (.lst (xs++zs)))
theorem zfk {X:Cx}:OpR X (binaryOp .Add) (yhT X.K):=by
 intro pins s σ H x y v u Q I rx ry h
 obtain ⟨l,b,xs,zs,rfl,rfl,hH,hB,hz,q⟩:=h
 cases rx
 cases ry
 obtain ⟨its,r,⟨o,n,e1,e2,e3,e4⟩,z⟩:=I.list hH
 obtain ⟨its2,r2,⟨o2,n2,g1,g2,g3,g4⟩,z2⟩:=I.list hB
 obtain ⟨oc,od,oda,osl⟩:=o
 obtain ⟨oc2,od2,oda2,osl2⟩:=o2
 dsimp only at e2 e3 e4 g2 g3 g4
 subst e2 e3 e4 g2 g3 g4
 have l1:=r.length
 have l2:=r2.length
 refine concat_meets ⟨_,e1,rfl⟩ ⟨_,g1,rfl⟩ noFill_list_add seq_list_add PySem.F.slot_list_add PySem.F.entry_list_add (PySem.F.args_list_add_2 _ _) (list_addW l b its.toArray its2.toArray n n2 none none osl osl2 (by rw [List.size_toArray,List.size_toArray];omega)) ⟨e1,g1,?_⟩
 have ea:its.toArray++its2.toArray=(its++its2).toArray:=by simp
 rw [ea]
 exact ⟨.ref s.heap.objs.size,_,I.lnew (t' := s.toks) (r.append r2) (by rw [List.length_append];exact hz),rfl,q _ I.fresh⟩
end L2
namespace L2
open PySem PySem.Spec PyProof.Rows
section
variable {X:Cx} {pins:List (Addr×Obj)} {σ:St} {H:Hp} {s:Shared}
open Classical in
def isD (h:Heap) (d:PyData) (v:Value):Bool:=if q:∃ e as,e.canLay0=true/\Reads h v e as then PyData.eqv q.choose d else false
theorem yey {h:Heap} {d e:PyData} {v:Value} {as:List Addr} (c:e.canLay0=true) (r:Reads h v e as):isD h d v=PyData.eqv e d:=by
 have q:∃ e as,e.canLay0=true/\Reads h v e as:=⟨e,as,c,r⟩
 unfold isD
 rw [dif_pos q]
 obtain ⟨as',c',r'⟩:=q.choose_spec
 have z:q.choose=e:=by first | exact (Reads.unique _ _ r' r).1 | exact (Reads.unique r' r).1 | exact Reads.unique _ _ _ _ _ c' r' r | exact PySem.SeqAt.Reads.unique _ _ _ _ _ c' r' r | exact PySem.Reads.unique _ _ _ _ _ c' r' r
 rw [z]
theorem zdf (I:Inv X pins σ H s):∀ {xs:List V} {ds:List PyData} {us:List Value},DaVs X.K H xs ds->Vals xs us->us.length=ds.length/\∀ (j:Nat) u d,us[j]? = some u->ds[j]? = some d->∃ as,Reads s.heap u d as
 | _,_,_,.nil,r=>by cases r;exact ⟨rfl,fun j u d e=>by cases e⟩
 | _,_,_,.cons h1 h2,r=>by
  cases r with
  | cons r1 r2 =>
   obtain ⟨l,q⟩:=zdf I h2 r2
   refine ⟨by rw [List.length_cons,List.length_cons,l],fun j u d e1 e2=>?_⟩
   cases j with
   | zero=>cases e1;cases e2;exact h1.reads I r1
   | succ j=>exact q j u d e1 e2
def rInD (K:PySem.W.Frag):R2:=fun x y H Q=>∃ p xs d ds,y = .ref p/\SqL K H p xs/\DaV K H x d/\DaVs K H xs ds/\d.canLay0=true/\(∀ e∈ds,e.canLay0=true/\e.depth<=30)/\Q (.bl (ds.any fun e=>PyData.eqv e d)) H
theorem zdg {h:Heap} {d:PyData}:∀ {us:List Value} {ds:List PyData},us.length=ds.length->(∀ (j:Nat) u e,us[j]? = some u->ds[j]? = some e->isD h d u=PyData.eqv e d)->us.any (isD h d)=ds.any fun e=>PyData.eqv e d
 | [],[],_,_=>rfl
 | u::us,e::ds,hl,hh=>by
  rw [List.any_cons,List.any_cons,hh 0 u e rfl rfl,zdg (us:=us) (ds:=ds) (Nat.succ.inj hl) fun j u' e' a b=>hh (j+1) u' e' a b]
theorem ygS (hu:X.A.units+64<cLine):OpR X (compareOp .In) (rInD X.K):=by
 intro pins s σ H x y v u Q I rx ry h
 obtain ⟨p,xs,d,ds,rfl,hq,hd,hds,cd,cds,q⟩:=h
 cases ry
 obtain ⟨its,r,pl,hz⟩:=I.list hq
 obtain ⟨as,ra⟩:=hd.reads I rx
 obtain ⟨hl,hat⟩:=zdf I hds r
 refine SeqAt.in_listAt (isD s.heap d) pl.isList (fun y hy=>?_) ⟨.bl _,H,I,rfl,?_⟩
 ·have hy':y∈its:=by simpa using hy
  obtain ⟨j,hj⟩:=List.getElem?_of_mem hy'
  have hlt:=(List.getElem?_eq_some_iff.mp hj).1
  have hdj:ds[j]? = some (ds[j]'(by omega)):=List.getElem?_eq_getElem (by omega)
  obtain ⟨bs,rb⟩:=hat j _ _ hj hdj
  have cj:=cds _ (List.mem_of_getElem? hdj)
  rw [yey cj.1 rb]
  exact SeqAt.eqAt_reads _ _ _ _ _ _ _ _ rb ra cj.1 cd (by
   have:=Nat.min_le_left (ds[j]'(by omega)).depth d.depth
   show X.A.units+1+_<cLine
   omega)
 ·have e:its.toArray.any (isD s.heap d)=ds.any fun e=>PyData.eqv e d:=by
   rw [<- Array.any_toList]
   refine zdg hl fun j u e h1 h2=>?_
   obtain ⟨bs,rb⟩:=hat j _ _ h1 h2
   exact yey (cds _ (List.mem_of_getElem? h2)).1 rb
  rw [e]
  exact q
end
end L2
namespace L2
open PySem PySem.Spec PyProof.Rows
section
variable {X:Cx} {tg:Expr}
theorem zcu (ns:List Int):∀ k,k<=ns.length->preSum (fun i=>(ns[i]?).getD 0) k=(ns.take k).sum
 | 0,_=>by simp [preSum]
 | k+1,h=>by
  show preSum _ k+(ns[k]?).getD 0=_
  rw [zcu ns k (by omega),List.take_succ,List.sum_append]
  congr 1
  rw [List.getElem?_eq_getElem (by omega)]
  simp
theorem zhO (hc:X.calm=true):CallR X (.builtin "sum") (fun xs H Q=>∃ (a:Addr) (ns:List Int),xs=[.ref a]/\SqL X.K H a (ns.map V.int)/\Q (.int ns.sum) H):=by
 intro pins s σ H xs us Q I r h
 obtain ⟨l,bs,rfl,hq,q⟩:=h
 obtain ⟨u,rfl,rx⟩:=ydS r
 cases rx
 obtain ⟨its,rv,pl,hz⟩:=I.list hq
 have hlt:l<s.heap.objs.size:=by obtain ⟨_,_,e,_⟩:=pl;exact Heap.lt_size e
 have hlen:its.length=bs.length:=by rw [<- rv.length,List.length_map]
 refine call_sum_walkAnyS (wpAny_pyIter_list pl.isList ?_)
 refine ⟨s.heap.objs.size,[s.heap.objs.size,l],[s.heap.objs.size],_,its.toArray.size,_,_,fun i=>(bs[i]?).getD 0,rfl,(Walks.list (prog:=X.prog) (w:=X.w) (A:=X.A.in1) (I.ok.hd hc) s.heap.objs.size l (Nat.ne_of_lt hlt) its.toArray).toS,
  ⟨⟨_,Heap.get?_push_size _ rfl,rfl,rfl⟩,pl.isList.push _⟩,fun b hb=>?_,fun i v hP=>?_,fun s' t' hm=>?_⟩
 ·rcases List.mem_cons.mp hb with rfl | hb
  ·exact Heap.lt_size (Heap.get?_push_size _ rfl)
  ·obtain rfl:=List.mem_singleton.mp hb
   obtain ⟨_,_,e,_⟩:=pl
   exact Heap.lt_size (Heap.get?_push_of_some _ e)
 ·have hP':its[i]? = some v:=by simpa using hP
  have hi:i<its.length:=(List.getElem?_eq_some_iff.mp hP').1
  have hb:(bs.map V.int)[i]? = some (V.int (bs[i]'(by omega))):=by rw [List.getElem?_map,List.getElem?_eq_getElem (by omega)];rfl
  obtain ⟨u,hu,ru⟩:=rv.get hb
  rw [hP'] at hu
  cases hu
  obtain ⟨t,rfl⟩:=ru
  refine ⟨t,?_⟩
  show Value.int _ t=Value.int ((bs[i]?).getD 0) t
  rw [List.getElem?_eq_getElem (by omega)];rfl
 ·obtain ⟨h',g',d',tk',os'⟩:=s'
  have e1:g'=s.gens:=hm.gens
  have e2:d'=s.drawn:=hm.drawn
  have e3:os'=s.os:=hm.os
  subst e1 e2 e3
  have e:preSum (fun i=>(bs[i]?).getD 0) its.toArray.size=bs.sum:=by
   rw [List.size_toArray,hlen,zcu bs _ (Nat.le_refl _),List.take_of_length_le (Nat.le_refl _)]
  rw [e]
  refine ⟨.int _,H,I.kept (t' := tk') fun b o q=>?_,⟨_,rfl⟩,q⟩
  exact hm.heap b o (fun hb=>by rw [List.mem_singleton.mp hb] at q;exact Nat.lt_irrefl _ (Heap.lt_size q)) (Heap.get?_push_of_some _ q)
def Itr3 (lo c:Int) (n:Nat):It:=⟨fun i _=>i<n,fun i H x H' => H'=H/\x = .int (lo+i*c),fun i _=>n<=i⟩
theorem zeS {P:Program} {w:World} {K:PySem.W.Frag} {tg:Expr} (it:Addr) (lo c:Int) (n:Nat):Turn P w K tg (Itr3 lo c n) [it] it (fun i h=>IsRangeIter h it (lo+(i:Nat)*c) ((n:Int)-(i:Nat)) c) where
 mem:=by simp
 obj:=fun i h st b hb=>by
  have e:b=it:=by simpa using hb
  subst e
  exact ⟨_,st,fun v z=>by
   have z':Data.fields _=Data.cell v:=z
   cases z'⟩
 keep:=fun i h h' st k=>k it (by simp) _ st
 item:=by
  intro X hP hw hK hc i pins s σ H E I hf st hg
  subst hP hw hK
  obtain ⟨f0,f1,f2,f3,f4,f5⟩:=hf it (by simp)
  have W:=Walks.range (prog:=X.prog) (w:=X.w) (I.ok.hd hc) it lo c n
  refine W.item i s _ _ hg st fun v h' tk hv st' kk=>?_
  obtain ⟨t,rfl⟩:=hv
  have I1:Inv X pins σ H { s with heap:=h',toks:=tk }:=I.turned (fun b o hb e=>kk b o (by simpa using hb) e) f0 f1 f3 f4 f5
  exact ⟨_,rfl,yeQ (s:={ s with heap:=h',toks:=tk }) (n := "range_iterator") st' rfl rfl (by decide) ⟨.int (lo+i*c),H,I1,⟨t,rfl⟩,⟨rfl,rfl⟩,st',fun b hb=>(hf b hb).1⟩⟩
 done:=by
  intro X hP hw hK hc i pins s σ H E I hf st hg
  subst hP hw hK
  obtain ⟨f0,f1,f2,f3,f4,f5⟩:=hf it (by simp)
  exact wpAny_pyNext_range_end (I.ok.hd hc) st (by have:n<=i:=hg;omega) fun h' eb=>⟨rfl,I.turned (t' := s.toks) (fun b o hb e=>eb b o hb e) f0 f1 f3 f4 f5⟩
 self:=fun _ _ _ _ _ st h=>wpAny_pyIter_rangeiter st h
theorem zgR {a b c:Int} (hc:0<c):Builtin.Range.rangeSize a b c=(((if a<b then (b-a-1) / c+1 else 0:Int).toNat:Nat):Int):=by
 unfold Builtin.Range.rangeSize
 rw [if_pos hc]
 split
 ·have:0<=(b-a-1) / c:=Int.ediv_nonneg (by omega) (by omega)
  omega
 ·rfl
theorem zbv {x:Int} (h:x.natAbs<2 ^ 42):Builtin.Range.rangeFitsLong x=true:=by
 have h2:x.natAbs<4398046511104:=h
 simp only [Builtin.Range.rangeFitsLong,Bool.and_eq_true,decide_eq_true_eq]
 omega
theorem zgS {a b c:Int} (ha:a.natAbs<2 ^ 40) (hb:b.natAbs<2 ^ 40) (hc:0<c):(Builtin.Range.rangeSize a b c).natAbs<2 ^ 42:=by
 have ha2:a.natAbs<1099511627776:=ha
 have hb2:b.natAbs<1099511627776:=hb
 show _<4398046511104
 unfold Builtin.Range.rangeSize
 rw [if_pos hc]
 split
 ·have h1:0<=(b-a-1) / c:=Int.ediv_nonneg (by omega) (by omega)
  have h2:(b-a-1) / c<=b-a-1:=Int.ediv_le_self _ (by omega)
  generalize (b-a-1) / c=d at *
  omega
 ·decide
theorem zga {a b c:Int} (ha:a.natAbs<2 ^ 40) (hb:b.natAbs<2 ^ 40) (hc:0<c) (hc':c<2 ^ 20):Builtin.Range.small a b c=true:=by
 have l:(2:Nat) ^ 40<2 ^ 42:=by decide
 unfold Builtin.Range.small
 rw [zbv (Nat.lt_trans ha l),zbv (Nat.lt_trans hb l),zbv (x:=c) (by have h2:c<1048576:=hc';show _<4398046511104;omega),zbv (zgS ha hb hc),if_pos hc,zbv (x:=b+(c-1)) (by have h2:c<1048576:=hc';have h3:b.natAbs<1099511627776:=hb;show _<4398046511104;omega)]
 simp
def yhU (ta:TA):TI:=fun σ H R=>ta σ H fun vs H1=>∃ i j c:Int,vs=[.int i,.int j,.int c]/\(i.natAbs<2 ^ 40/\j.natAbs<2 ^ 40/\0<c/\c<2 ^ 20)/\R (Itr3 i c (if i<j then (j-i-1) / c+1 else 0:Int).toNat) H1
theorem zgT {pins:List (Addr×Obj)} {σ:St} {H:Hp} {s:Shared} {R:It->Hp->Prop} {E:Value->Shared->Prop} {lo hi c:Int} {t u v:Tok} {tk:Nat} (I:Inv X pins σ H s) (h1:lo.natAbs<2 ^ 40) (h2:hi.natAbs<2 ^ 40) (h3:0<c) (h4:c<2 ^ 20)
  (q:R (Itr3 lo c (if lo<hi then (hi-lo-1) / c+1 else 0:Int).toNat) H):wpAny (model X.prog X.w) X.A (pyIter (.ref s.heap.objs.size)) (PIE X pins σ tg R) E { s with heap:=s.heap.push { cls:=.type "range",data:=.fields #[.int lo t,.int hi u,.int c v] },toks:=tk }:=by
 refine wpAny_pyIter_range (IsRange.new ..) (zga h1 h2 h3 h4) ?_
 have I1:Inv X pins σ H { s with heap:=s.heap.push { cls:=.type "range",data:=.fields #[.int lo t,.int hi u,.int c v] },toks:=tk }:=I.kept fun b o e=>Heap.get?_push_of_some _ e
 refine ⟨(s.heap.push { cls:=.type "range",data:=.fields #[.int lo t,.int hi u,.int c v] }).objs.size,[(s.heap.push { cls:=.type "range",data:=.fields #[.int lo t,.int hi u,.int c v] }).objs.size],_,_,H,rfl,
  I1.kept (t' := tk) fun b o e=>Heap.get?_push_of_some _ e,zeS _ lo c (if lo<hi then (hi-lo-1) / c+1 else 0:Int).toNat,?_,fun b hb=>?_,q⟩
 ·have e1:lo+((0:Nat):Int)*c=lo:=by simp
  have e2:(((if lo<hi then (hi-lo-1) / c+1 else 0:Int).toNat:Nat):Int)-((0:Nat):Int)=Builtin.Range.rangeSize lo hi c:=by rw [zgR h3];omega
  show IsRangeIter _ _ (lo+((0:Nat):Int)*c) ((((if lo<hi then (hi-lo-1) / c+1 else 0:Int).toNat:Nat):Int)-((0:Nat):Int)) c
  rw [e1,e2]
  exact Heap.get?_push_size _ rfl
 ·have e:b=(s.heap.push { cls:=.type "range",data:=.fields #[.int lo t,.int hi u,.int c v] }).objs.size:=by simpa using hb
  subst e
  exact I1.fpOk (Nat.le_refl _) (I1.hok.fresh (Nat.le_refl _))
theorem zgU {a b c:Expr} {ta:TA} {p pos:Pos} (hg:Gl X "range") (hm:X.mg "range" = none) (ha:PA X [a,b,c] ta) (hs:starEach [a,b,c] X.env=[(false,eval a X.env),(false,eval b X.env),(false,eval c X.env)]:=by rfl) (hs2:starEach [b,c] X.env=[(false,eval b X.env),(false,eval c X.env)]:=by rfl) :
  PI X tg (.Call (.Name "range" p) [a,b,c] [] pos) (yhU ta):=by
 intro pins s σ H R I h
 refine Call_ (yd3 I hg hm boot_range (PyProof.Rows.callWith_type1 (thn (ha pos pins s σ H _ I h) fun us s1 ⟨vs,H1,I1,r1,q1⟩=>?_) (by rw [hs,hs2]) (by rw [hs2];rfl)))
 obtain ⟨i,j,c,e,⟨q1,q2,q3,q4⟩,q⟩:=q1
 subst e
 cases r1 with
 | cons r rr =>
  cases rr with
  | cons r' rr =>
   cases rr with
   | cons r'' rr =>
    cases rr
    obtain ⟨t,rfl⟩:=r
    obtain ⟨t',rfl⟩:=r'
    obtain ⟨t'',rfl⟩:=r''
    exact call_range_3 (by omega) (zgT I1 q1 q2 q3 q4 q) (.inl (PyProof.noPylong_small (by omega)))
end
end L2
namespace L2
open PySem PySem.Spec PyProof.Rows
open PySem.Builtin PySem.Builtin.Str
section
variable {X:Cx}
def cutS (z:Str) (lo hi:Option Int):Str:=⟨((z.cps.toList.drop (HT.sIx z.cps.toList.length 0 lo)).take (HT.sIx z.cps.toList.length z.cps.toList.length hi-HT.sIx z.cps.toList.length 0 lo)).toArray⟩
theorem zbl (n d:Nat) (i:Int):max 0 (min (if i<0 then i+(n:Int) else i) (n:Int))=((HT.sIx n d (some i):Nat):Int):=by
 show max 0 (min (if i<0 then i+(n:Int) else i) (n:Int))=(((if i<0 then (i+(n:Int)).toNat else min i.toNat n):Nat):Int)
 split<;>omega
theorem zbD {a b:Int} {A B:Nat} (ha:a=A) (hb:b=B):sliceRange a b 1=(List.range (B-A)).map fun k=>A+k:=by
 subst ha hb
 unfold sliceRange
 simp only [show (1:Int) > 0 by decide,if_true]
 have:(if (A:Int)<(B:Int) then ((B:Int)-A+1-1) / 1 else 0).toNat=B-A:=by
  split<;>(try simp only [Int.ediv_one])<;>omega
 rw [this]
 apply List.map_congr_left
 intro k _
 omega
theorem zhP (xs:List Nat) (i k:Nat):(List.range k).filterMap (fun m=>xs[i+m]?)=(xs.drop i).take k:=by
 induction k generalizing i with
 | zero=>simp
 | succ k ih =>
  rw [List.range_succ_eq_map,List.filterMap_cons,List.filterMap_map]
  have e:((fun m=>xs[i+m]?) ∘ Nat.succ)=fun m=>xs[(i+1)+m]? := by
   funext m;show xs[i+(m+1)]? = _;congr 1;omega
  rw [e,ih (i+1)]
  cases h:xs[i]? with
  | none =>
   have hl:xs.length<=i:=List.getElem?_eq_none_iff.mp h
   simp only [Nat.add_zero,h]
   rw [List.drop_of_length_le (by omega),List.drop_of_length_le hl];simp
  | some v =>
   have hi:=(List.getElem?_eq_some_iff.mp h).1
   simp only [Nat.add_zero,h]
   rw [List.drop_eq_getElem_cons hi,List.take_succ_cons]
   congr 1
   exact (Option.some.inj ((List.getElem?_eq_getElem hi).symm.trans h)).symm
theorem zgb (n:Nat) (lo hi:Option Int):strSliceIndices lo hi 1 n=(List.range (HT.sIx n n hi-HT.sIx n 0 lo)).map fun k=>HT.sIx n 0 lo+k:=by
 cases lo with
 | none =>
  cases hi with
  | none=>exact zbD rfl rfl
  | some j=>exact zbD rfl (zbl n n j)
 | some i =>
  cases hi with
  | none=>exact zbD (zbl n 0 i) rfl
  | some j=>exact zbD (zbl n 0 i) (zbl n n j)
theorem zhQ (z:Str) (lo hi:Option Int):Txt.slice z lo hi=cutS z lo hi:=by
 have hz:z.length=z.cps.toList.length:=by simp [Str.length]
 unfold Txt.slice cutS
 rw [hz,zgb,List.filterMap_map]
 have e:((fun x=>z.cps[x]?) ∘ fun k=>HT.sIx z.cps.toList.length 0 lo+k)=fun m=>z.cps.toList[HT.sIx z.cps.toList.length 0 lo+m]? := by
  funext m;simp
 rw [e,zhP]
 split
 ·rename_i hc
  simp only [beq_self_eq_true,Bool.true_and,beq_iff_eq,List.length_map,List.length_range] at hc
  have h1:HT.sIx z.cps.toList.length z.cps.toList.length hi<=z.cps.toList.length:=HT.sIx_le _ _ (Nat.le_refl _) _
  have h2:HT.sIx z.cps.toList.length 0 lo=0\/z.cps.toList.length=0:=by omega
  rw [hc]
  rcases h2 with h2 | h2
  ·rw [h2,List.drop_zero,List.take_of_length_le (Nat.le_refl _)]
  ·have:z.cps.toList=[]:=List.eq_nil_of_length_eq_zero h2
   have h3:z.cps = #[]:=by simpa using this
   simp [h3]
   cases z;simp_all
 ·rfl
theorem zc3 {v:Value} {o:Option Int} (p:IsPart v o):∃ l:Option (Int×Tok),v=partValue l/\l.map (·.1)=o:=by
 cases p with
 | none=>exact ⟨none,rfl,rfl⟩
 | int i t=>exact ⟨some (i,t),rfl,rfl⟩
theorem ygT:SlR X (fun x lo hi H Q=>∃ z,x = .str z/\z.length<=sizeLine/\Q (.str (cutS z lo hi)) H):=by
 intro pins s σ H x v vl vu lo hi sl Q I rx hs pl pu h
 obtain ⟨z,rfl,hz,q⟩:=h
 obtain ⟨t,rfl⟩:=rx
 obtain ⟨l,rfl,rfl⟩:=zc3 pl
 obtain ⟨u,rfl,rfl⟩:=zc3 pu
 refine ⟨"str",_,F.slot_str_getitem.lookup,typeIs_str _ _ _,?_⟩
 refine wpAny_getItem_str_slice (l:=l) (u:=u) (st:=none) hs rfl ?_
 refine post_val_or_str ⟨Nat.le_trans (Txt.slice_le z (l.map (·.1)) (u.map (·.1))) hz,fun t' k=>?_⟩
 have e:=zhQ z (l.map (·.1)) (u.map (·.1))
 refine ⟨.str (cutS z (l.map (·.1)) (u.map (·.1))),H,I.tok _,⟨t',?_⟩,q⟩
 rw [<- e];rfl
def yge (r r' r'':R2) (ta tb tc td:TE):TE:=fun σ H Q=>ta σ H fun x H1=>tb σ H1 fun y H2=>r x y H2 fun z H3=>∃ k,z = .bl k /\
 (if k=true then tc σ H3 fun w' H4=>r' y w' H4 fun z2 H5=>∃ k2,z2 = .bl k2/\(if k2=true then td σ H5 fun v' H6=>r'' w' v' H6 Q else Q (.bl false) H5) else Q (.bl false) H3)
theorem zgV {a b c d:Expr} {ta tb tc td:TE} {pos:Pos} {op op' op'':CmpOp} {r r' r'':R2} (ho:OpR X (compareOp op) r) (ho':OpR X (compareOp op') r') (ho'':OpR X (compareOp op'') r'') (ha:PE X a ta) (hb:PE X b tb) (hc:PE X c tc) (hd:PE X d td)
  (hm:lastMarks [op,op',op''] [b,c,d]=false:=by with_unfolding_all rfl):PT X (.Compare a [op,op',op''] [b,c,d] pos) (yfg (yge r r' r'' ta tb tc td)):=by
 intro pins s σ H Q I h
 refine isTrue_chain (thn (ha pins s σ H _ I h) fun v s1 ⟨x,H1,I1,r1,q1⟩=>test_link (thn (hb pins s1 σ H1 _ I1 q1) fun u s2 ⟨y,H2,I2,r2,q2⟩ =>
  thn (ho pins s2 σ H2 x y v u _ I2 r1 r2 q2) fun d s3 ⟨z,H3,I3,r3,k,e,q3⟩=>?_)) hm
 subst e
 cases r3
 refine wpAny_truthy_bool ?_
 cases k with
 | false =>
  obtain ⟨k',e',q'⟩:=q3
  cases e'
  exact ite_ff ⟨H3,I3,q'⟩
 | true =>
  refine ite_tt (test_link (thn (hc pins s3 σ H3 _ I3 q3) fun w' s4 ⟨z',H4,I4,r4,q4⟩=>thn (ho' pins s4 σ H4 y z' u w' _ I4 r2 r4 q4) fun d' s5 ⟨z2,H5,I5,r5,k2,e2,q5⟩=>?_))
  subst e2
  cases r5
  refine wpAny_truthy_bool ?_
  cases k2 with
  | false =>
   obtain ⟨k',e',q'⟩:=q5
   cases e'
   exact ite_ff ⟨H5,I5,q'⟩
  | true =>
   refine ite_tt (test_last (thn (hd pins s5 σ H5 _ I5 q5) fun w2 s6 ⟨z3,H6,I6,r6,q6⟩=>thn (ho'' pins s6 σ H6 z' z3 w' w2 _ I6 r4 r6 q6) fun d2 s7 ⟨z4,H7,I7,r7,k3,e3,q7⟩=>?_))
   subst e3
   cases r7
   exact wpAny_truthy_bool ⟨H7,I7,q7⟩
def repS (z:Str) (n:Nat):Str:=⟨((List.replicate n z.cps.toList).flatten).toArray⟩
end
end L2
namespace L2
open PySem PySem.Spec PyProof.Rows
def ya0 (X:Cx) (pins:List (Addr×Obj)) (x₁ x₂:Str) (jf:List (Nat×Str)) (scope:Scope) (cl:List (Str×Addr)) (s:Shared) (H:Hp) (fp:List Addr):Cx where
 prog:=X.prog
 w:=X.w
 K:=X.K
 mg:=X.mg
 base:=X.base
 A:=X.A
 N:=x₁::x₂::jf.map (·.2)
 s₀:=s
 H₀:=H
 env:=compEnvC scope cl s.heap.objs.size X.env
 outer:=X.stack
 stack:=X.stack
 ex:=fp
 fn:=fun _=>false
 calm:=X.calm
 pn:=X.pn++pins
 xe:=fun _ _=>False
def ybd (v v2:Option V) (js:List (Nat×Str)) (σ:St):St:=v::v2::js.map fun j=>(σ[j.1]?).join
def yez (K:PySem.W.Frag) (jf:List (Nat×Str)) (wi:TI) (tc:TT) (te:TE):TE:=fun σ H Q=>wi σ H fun J H1=>∀ D,H1 D=none->∃ W:Nat->Nat->List V->Hp->Prop,(∃ m,W 0 m [] (upd H1 D (.lst []))) /\
 ∀ i m ys H2,W i m ys H2->H2 D=some (.lst ys)/\((J.stop i H2/\Q (.ref D) H2)\/(J.go i H2/\ys.length<sizeLine/\∀ x H3,J.yld i H2 x H3->∃ a u v,x = .ref a/\SqT K H3 a [u,v]/\tc (ybd (some u) (some v) jf σ) H3 fun b H5 =>
  if b=true then te (ybd (some u) (some v) jf σ) H5 fun w H6=>H6 D=some (.lst ys)/\∃ m',m'<m/\W (i+1) m' (ys++[w]) (upd H6 D (.lst (ys++[w]))) else ∃ m',m'<m/\W (i+1) m' ys H5))
section
variable {X:Cx} {pins:List (Addr×Obj)} {σ:St} {H:Hp} {s:Shared} {x₁ x₂:Str} {jf:List (Nat×Str)} {scope:Scope} {fp:List Addr}
theorem Inv.block2 {h1:Heap} {tk:Nat} (I:Inv X pins σ H s) (hf:∀ b∈fp,FpOk X pins H b) (hlt:∀ b∈fp,b<s.heap.objs.size) (hjf:∀ p∈jf,X.N[p.1]? = some p.2) (hjl:∀ p∈jf,scope.names.lookup p.2=some .free) (hkind:scope.kind = .function)
  (hcell:∀ y∈scope.names,y.2 ≠ .cell) (hfr:∀ y∈scope.names,y.2 = .free->X.env.kindOf y.1=some .cell\/X.env.kindOf y.1=some .free)
  (hn:h1.Ns s.heap.objs.size (fun _=>none)) (hk:∀ b o,s.heap.get? b=some o->h1.get? b=some o) :
  Inv (ya0 X pins x₁ x₂ jf scope (yau X.env scope.names []) s H fp) [] (ybd none none jf σ) H { s with heap:=h1,toks:=tk }:=by
 have hsome:∀ y∈scope.names,y.2 = .free->(X.env.cells.lookup y.1).isSome=true:=fun y hy hyf=>Option.isSome_iff_exists.mpr (I.ok.has y.1 (hfr y hy hyf))
 have sub:∀ y c,(yau X.env scope.names []).lookup y=some c->X.env.cells.lookup y=some c:=zbd hsome (fun y c e=>by simp at e)
 have hsz:=I.sz
 have inE:∀ b,b∈(ya0 X pins x₁ x₂ jf scope (yau X.env scope.names []) s H fp).ex->b∈fp:=fun b z=>z
 have stk:∀ b∈frs X.stack,b<s.heap.objs.size:=fun b hb=>by
  obtain ⟨_,o,ho,_⟩:=I.stack.mem hb
  exact Heap.lt_size ho
 refine ⟨⟨I.ok.mod,hkind,I.ok.glob,I.ok.blt,Nat.le_refl _,fun y z c e1 e2=>I.ok.inj y z c (sub y c e1) (sub z c e2),fun y hy=>?_,fun y c hfn _=>(by cases hfn),I.ok.hd,I.ok.frames,.inl rfl,fun b hb=>?_,fun b o e=>I.bs b o e,Nat.le_trans I.ok.bsz hsz,fun b o e z=>?_,fun b hb z=>?_,I.stack,I.stkFree⟩,
  rfl,I.bare,Un.kept hk,⟨_,hn,fun i y v e1 e2 e3=>?_⟩,fun y c e=>?_,I.hok.fresh (Nat.le_refl _),fun y c e=>I.freeC y c (sub y c e),fun p hp=>?_,I.hok.kept hk,?_⟩
 ·have hy':(relabel scope X.env).names.lookup y=some .cell\/(relabel scope X.env).names.lookup y=some .free:=hy
  have mem:(y,NameKind.free)∈scope.names:=by
   rcases hy' with q | q
   ·rcases zay (env:=X.env) q with z | z
    ·exact absurd rfl (hcell _ (zaq z))
    ·exact zaq z.2
   ·rcases zay (env:=X.env) q with z | z
    ·exact zaq z
    ·exact zaq z.2
  exact Option.isSome_iff_exists.mp (zbe (.inl mem))
 ·exact ⟨Nat.ne_of_lt (hlt b hb),fun y c e=>(hf b hb).2.2.2.2.1 y c (sub y c e)⟩
 ·rcases (hf b z).2.2.2.1 with q | q
  ·exact I.ok.noex b o e q
  ·exact absurd (Nat.lt_of_lt_of_le (Heap.lt_size e) (Nat.le_trans I.ok.bsz q)) (Nat.lt_irrefl _)
 ·rcases List.mem_cons.mp (I.stkSub b z) with q | q
  ·exact (hf b hb).2.1 q
  ·exact (hf b hb).2.2.1 q
 ·have e1':(x₁::x₂::jf.map (·.2))[i]? = some y:=e1
  unfold ybd at e2
  cases i with
  | zero=>cases e2
  | succ i=>cases i with
   | zero=>cases e2
   | succ i =>
   rw [List.getElem?_cons_succ,List.getElem?_cons_succ,List.getElem?_map] at e1' e2
   cases q:jf[i]? with
   | none=>rw [q] at e2;cases e2
   | some p =>
    rw [q] at e1' e2
    have ey:p.2=y:=Option.some.inj e1'
    have ev:(σ[p.1]?).join=some v:=Option.some.inj e2
    have hp:p∈jf:=List.mem_of_getElem? q
    have eσ:σ[p.1]? = some (some v):=by
     cases z:σ[p.1]? with
     | none=>rw [z] at ev;cases ev
     | some r=>rw [z] at ev;rw [show r=some v from ev]
    have hfree:scope.names.lookup y=some .free:=by rw [<- ey];exact hjl p hp
    have mem:=zaq hfree
    have kX:=hfr _ mem rfl
    obtain ⟨m,hnX,hl⟩:=I.loc
    obtain ⟨u,ru,lk⟩:=hl p.1 y v (by rw [<- ey];exact hjf p hp) eσ (by
     rcases kX with z | z
     ·exact .inr (.inl z)
     ·exact .inr (.inr z))
    refine ⟨u,ru,.inr ⟨?_,?_⟩⟩
    ·have e3':Vis (relabel scope X.env) y:=e3
     rcases e3' with z | z | z
     ·exfalso
      rcases zay (env:=X.env) z with q | q
      ·rw [hfree] at q;cases q
      ·cases q.1
     ·exact .inl z
     ·exact .inr z
    ·rcases lk with ⟨z,_⟩ | ⟨_,c,hc,hcell'⟩
     ·exfalso
      rcases kX with q | q
      ·rw [show X.env.kindOf y=some .cell from q] at z;cases z
      ·rw [show X.env.kindOf y=some .free from q] at z;cases z
     ·obtain ⟨c',hc'⟩:=Option.isSome_iff_exists.mp (zbe (env:=X.env) (acc:=[]) (.inl mem))
      have e:=sub y c' hc'
      rw [hc] at e
      cases e
      obtain ⟨o,ho,hd⟩:=hcell'
      exact ⟨c,hc',o,hk c o ho,hd⟩
 ·obtain ⟨v,o,ho,hd⟩:=I.cell y c (sub y c e)
  exact ⟨v,o,hk c o ho,hd⟩
 ·have hp':p∈X.pn++pins:=by simpa [ya0] using hp
  obtain ⟨e,n,ne,nf,d⟩:=I.pin p hp'
  refine ⟨hk _ _ e,n,Nat.ne_of_lt (Heap.lt_size e),fun z=>?_,d⟩
  rcases List.mem_cons.mp (I.stkSub p.1 z) with q | q
  ·exact ne q
  ·exact nf q
 ·unfold ybd
  show _=(x₁::x₂::jf.map (·.2)).length
  simp
end
section
variable {X:Cx} {x₁ x₂:Str} {px p1 p2:Pos} {kk:Nat} {jf:List (Nat×Str)} {scope:Scope} {iter elt:Expr} {ifs:List Expr} {pos:Pos} {wi:TI} {tc:TT} {te:TE}
theorem zgW (hcalm:X.calm=true) (hi:PI X (.Tuple [.Name x₁ p1,.Name x₂ p2] kk px) iter wi) (hc:∀ pins cl s H fp,PTs (ya0 X pins x₁ x₂ jf scope cl s H fp) ifs tc) (he:∀ pins cl s H fp,PE (ya0 X pins x₁ x₂ jf scope cl s H fp) elt te)
  (hN:(x₁::x₂::jf.map (·.2)).Nodup) (hx:scope.names.lookup x₁=some .local) (hx2:scope.names.lookup x₂=some .local) (hjf:∀ p∈jf,X.N[p.1]? = some p.2) (hjl:∀ p∈jf,scope.names.lookup p.2=some .free) (hkind:scope.kind = .function)
  (hcell:∀ y∈scope.names,y.2 ≠ .cell) (hfr:∀ y∈scope.names,y.2 = .free->X.env.kindOf y.1=some .cell\/X.env.kindOf y.1=some .free)
  (hnames:∀ y∈scope.names,y.2 = .local->scope.names.lookup y.1=some .local) {use:Option (Value->Sem Unit)} {Qf:Value->Shared->Prop} {cpos:Pos}
  {pins:List (Addr×Obj)} {σ:St} {H:Hp} {s:Shared} {Q:VK} (I:Inv X pins σ H s) (h:yez X.K jf wi tc te σ H Q)
  (fin:∀ D C s6 H6 m6,Inv X pins σ H6 s6->Q (.ref D) H6->FpOk X pins H6 C->s6.heap.Ns C m6->compPost (model X.prog X.w) X.A X.xe use Qf (.ref D) C (.ok .next) s6) (hs:∀ x,foldedSetIterable iter X.env x=pure x) :
  wpAny (model X.prog X.w) X.A (comprehension (.ListComp elt [⟨.Tuple [.Name x₁ p1,.Name x₂ p2] kk px,iter,ifs,0⟩] scope pos) scope X.env cpos (newList []) false (eval iter X.env) use) Qf X.xe s:=by
 have hsome:∀ y∈scope.names,y.2 = .free->(X.env.cells.lookup y.1).isSome=true:=fun y hy hyf=>Option.isSome_iff_exists.mpr (I.ok.has y.1 (hfr y hy hyf))
 refine wpAny_comprehension_free (use:=use) rfl hs (zc2 hsome) hkind hnames (thn (hi pins s σ H _ I h) fun xv s1 h1=>thn h1 fun itv s2 h2=>?_)
 obtain ⟨it,fp,tn,J,H2,e,I2,T,st2,f2,h⟩:=h2
 subst e
 refine wpAny_newObj_type (wpAny_newFunctionEnv hcell (by intro y hy;simp at hy) (fun h₁ hns₁ hsb₁=>?_) hkind)
 have hD0:H2 s2.heap.objs.size=none:=I2.hok.fresh (Nat.le_refl _)
 obtain ⟨W,⟨m0,w0⟩,step⟩:=h s2.heap.objs.size hD0
 dsimp only at hns₁ hsb₁ ⊢
 have I3:Inv X pins σ (upd H2 s2.heap.objs.size (.lst [])) { s2 with heap:=s2.heap.push { cls:=.type "list",dict:=none,data:=.seq ([]:List Value).toArray } } :=
  I2.laid (t' := s2.toks) (fun b u q=>Heap.get?_push_of_some _ q) (Nat.le_refl _) ⟨Nat.zero_le _,[],0,.nil,Heap.get?_push_size _ rfl⟩
 generalize hH3:s2.heap.push { cls:=.type "list",dict:=none,data:=.seq ([]:List Value).toArray }=hp3 at hns₁ hsb₁ I3 ⊢
 have hsz3:hp3.objs.size=s2.heap.objs.size+1:=by rw [<- hH3,Heap.size_push]
 have k23:∀ b o,s2.heap.get? b=some o->hp3.get? b=some o:=fun b o q=>by rw [<- hH3];exact Heap.get?_push_of_some _ q
 have flt:∀ b∈fp,b<s2.heap.objs.size:=fun b hb=>by
  obtain ⟨o,q,_⟩:=T.obj 0 _ st2 b hb
  exact Heap.lt_size q
 have f3:∀ b∈fp,FpOk X pins (upd H2 s2.heap.objs.size (.lst [])) b:=fun b hb=>by
  obtain ⟨g0,g⟩:=f2 b hb
  exact ⟨by rw [yay (Nat.ne_of_lt (flt b hb))];exact g0,g⟩
 have kC:∀ b o,hp3.get? b=some o->h₁.get? b=some o:=fun b o q=>(hsb₁.2 b (Nat.ne_of_lt (Heap.lt_size q))).trans (Heap.get?_push_of_some _ q)
 have B0:=I3.block2 (x₁:=x₁) (x₂:=x₂) (jf:=jf) (scope:=scope) (fp:=fp) (h1:=h₁) (tk:=s2.toks+([]:List (Str×Value)).length) f3 (fun b hb=>by show b<hp3.objs.size;rw [hsz3];exact Nat.lt_succ_of_lt (flt b hb)) hjf hjl hkind hcell hfr (by simpa using hns₁) kC
 have st4:tn 0 h₁:=T.keep _ _ _ st2 fun b _ o q=>kC b o (k23 b o q)
 have w0' := w0
 have stat:∀ {H':Hp},(∀ b∈fp,H' b=none)->∀ b∈fp,FpOk (ya0 X pins x₁ x₂ jf scope (yau X.env scope.names []) { s2 with heap:=hp3 } (upd H2 s2.heap.objs.size (.lst [])) fp) [] H' b:=fun hn b hb=>by
  obtain ⟨_,g1,g2,g3,g4,g5⟩:=f2 b hb
  refine ⟨hn b hb,Nat.ne_of_lt (by show b<hp3.objs.size;rw [hsz3];exact Nat.lt_succ_of_lt (flt b hb)),fun z=>?_,.inl hb,fun y c q=>g4 y c (zbd hsome (fun y c e=>by simp at e) y c q),fun p hp=>g5 p (by simpa [ya0] using hp)⟩
  rcases List.mem_cons.mp (I2.stkSub b z) with q | q
  ·exact g1 q
  ·exact g2 q
 have loop:codeAny (model X.prog X.w) X.A (.compLoop (.ListComp elt [⟨.Tuple [.Name x₁ p1,.Name x₂ p2] kk px,iter,ifs,0⟩] scope pos) 0 (.ref it) (.ref s2.heap.objs.size) (compEnvC scope (yau X.env scope.names []) hp3.objs.size X.env))
   (compPost (model X.prog X.w) X.A X.xe use Qf (.ref s2.heap.objs.size) hp3.objs.size) { s2 with heap:=h₁,toks:=s2.toks+([]:List (Str×Value)).length }:=by
  refine zbY (fun n s' => ∃ i ys H',Inv (ya0 X pins x₁ x₂ jf scope (yau X.env scope.names []) { s2 with heap:=hp3 } (upd H2 s2.heap.objs.size (.lst [])) fp) [] (ybd none none jf σ) H' s'/\tn i s'.heap/\(∀ b∈fp,H' b=none)/\W i n ys H') ?_ m0
   ⟨0,[],_,B0,st4,fun b hb=>(f3 b hb).1,w0⟩
  rintro n s5 ⟨i,ys,H5,I5,st5,fr5,w5⟩
  obtain ⟨hD5,alt⟩:=step i n ys H5 w5
  rcases alt with ⟨stop,q5⟩ | ⟨go,hlen,next⟩
  ·refine wpAny_mono (T.done (ya0 X pins x₁ x₂ jf scope (yau X.env scope.names []) { s2 with heap:=hp3 } (upd H2 s2.heap.objs.size (.lst [])) fp) rfl rfl rfl hcalm i [] s5 _ H5 (fun _ _=>False) I5 (stat fr5) st5 stop) (fun r s6 ⟨hr,I6⟩=>?_) fun _ _ z=>z
   subst hr
   obtain ⟨m6,hn6,_⟩:=id I6.loc
   refine fin _ _ s6 H5 m6 ?_ q5 (I3.fpOk (Nat.le_refl _) I6.free) hn6
   refine I3.call' (ch:=fp) I6.os I6.base I6.hok I6.bare (fun b hb=>?_)
   obtain ⟨_,g1,g2,g3,g4,g5⟩:=f2 b hb
   exact ⟨g3,g1,g4,g5⟩
  ·refine wpAny_mono (T.item (ya0 X pins x₁ x₂ jf scope (yau X.env scope.names []) { s2 with heap:=hp3 } (upd H2 s2.heap.objs.size (.lst [])) fp) rfl rfl rfl hcalm i [] s5 _ H5 (fun _ _=>False) I5 (stat fr5) st5 go) (fun r s6 ⟨u,hr,h6⟩=>?_) fun _ _ z=>z
   subst hr
   refine wpAny_mono h6 (fun _ s7 ⟨x,H7,I7,r7,y7,st7,fr7⟩=>?_) fun _ _ z=>z
   have I7' := I7.pinned (stat fr7) (T.obj _ _ st7)
   have hloc:Loc (ya0 X pins x₁ x₂ jf scope (yau X.env scope.names []) { s2 with heap:=hp3 } (upd H2 s2.heap.objs.size (.lst [])) fp).env.scope x₁:=.inl (lookup_relabel_local hx)
   have hloc2:Loc (ya0 X pins x₁ x₂ jf scope (yau X.env scope.names []) { s2 with heap:=hp3 } (upd H2 s2.heap.objs.size (.lst [])) fp).env.scope x₂:=.inl (lookup_relabel_local hx2)
   obtain ⟨a8,u1,u2,rfl,sq8,q8⟩:=next x H7 y7
   have PGt:PG (ya0 X pins x₁ x₂ jf scope (yau X.env scope.names []) { s2 with heap:=hp3 } (upd H2 s2.heap.objs.size (.lst [])) fp) (.Tuple [.Name x₁ p1,.Name x₂ p2] kk px) (gTup X.K 2 (yff (yeg 0) (yff (yeg 1) gNil))) :=
    yfp hcalm (zcG (zcd hN rfl hloc (.inr (lookup_relabel_local hx))) (zcG (zcd hN rfl hloc2 (.inr (lookup_relabel_local hx2))) zfb))
   refine wpAny_mono (PGt ([]++ybE fp s7.heap) s7 _ H7 (.ref a8) _ (fun σ' H' => σ'=ybd (some u1) (some u2) jf σ/\H7=H') I7' r7 ⟨a8,[u1,u2],rfl,sq8,rfl,u1,[u2],rfl,u2,[],rfl,rfl,rfl,rfl⟩) (fun _ s8 ⟨σ8,H8,I8,e8,e8'⟩=>?_) fun _ _ z=>z
   subst e8 e8'
   have I8':Inv (ya0 X pins x₁ x₂ jf scope (yau X.env scope.names []) { s2 with heap:=hp3 } (upd H2 s2.heap.objs.size (.lst [])) fp) ([]++ybE fp s7.heap) (ybd (some u1) (some u2) jf σ) H7 s8:=I8
   have again:∀ {s9:Shared} {H9:Hp} {zs:List V} {m':Nat},Inv (ya0 X pins x₁ x₂ jf scope (yau X.env scope.names []) { s2 with heap:=hp3 } (upd H2 s2.heap.objs.size (.lst [])) fp) ([]++ybE fp s7.heap) (ybd (some u1) (some u2) jf σ) H9 s9->m'<n->W (i+1) m' zs H9 ->
     ∃ m,m<n/\∃ i ys H',Inv (ya0 X pins x₁ x₂ jf scope (yau X.env scope.names []) { s2 with heap:=hp3 } (upd H2 s2.heap.objs.size (.lst [])) fp) [] (ybd none none jf σ) H' s9/\tn i s9.heap/\(∀ b∈fp,H' b=none)/\W i m ys H' := fun {s9 H9 zs m'} I9 hm w9=>by
    refine ⟨m',hm,i+1,zs,H9,I9.unpinned.weak (by simp [ybd]) (fun j v e=>?_),T.keep _ _ _ st7 fun b hb o e=>(I9.pin (b,o) (List.mem_append_right _ (List.mem_append_right _ (zaO hb e)))).1,fun b hb=>?_,w9⟩
    ·cases j with
     | zero=>simp [ybd] at e
     | succ j=>cases j with
      | zero=>simp [ybd] at e
      | succ j=>simpa [ybd] using e
    ·obtain ⟨o,e,d⟩:=T.obj _ _ st7 b hb
     exact (I9.pin (b,o) (List.mem_append_right _ (List.mem_append_right _ (zaO hb e)))).2.1
   refine wpAny_mono (hc pins _ _ _ fp ([]++ybE fp s7.heap) s8 _ H7 _ I8' q8) (fun ok s9 ⟨H9,I9,q9⟩=>?_) fun _ _ z=>z
   cases ok with
   | false =>
    rw [if_neg Bool.false_ne_true] at q9 ⊢
    obtain ⟨m',hm,w9⟩:=q9
    exact again I9 hm w9
   | true =>
    rw [if_pos rfl] at q9 ⊢
    refine wpAny_mono (he pins _ _ _ fp ([]++ybE fp s7.heap) s9 _ H9 _ I9 q9) (fun y s10 ⟨v,H10,I10,r10,hD10,m',hm,w10⟩=>?_) fun _ _ z=>z
    refine wpAny_mono (zbX (X:=(ya0 X pins x₁ x₂ jf scope (yau X.env scope.names []) { s2 with heap:=hp3 } (upd H2 s2.heap.objs.size (.lst [])) fp)) ([]++ybE fp s7.heap) s10 (ybd (some u1) (some u2) jf σ) H10 (.ref s2.heap.objs.size) [v] (.ref s2.heap.objs.size) [y] (fun _ H' => H'=upd H10 s2.heap.objs.size (.lst (ys++[v]))) I10 rfl (.cons r10 .nil) ⟨_,ys,v,rfl,rfl,hD10,hlen,rfl⟩)
     (fun _ s11 ⟨_,H11,I11,_,e11⟩=>?_) fun _ _ z=>z
    subst e11
    exact again I11 hm w10
 exact codeAny_compStart_list loop (T.self _ 0 _ _ _ st4 loop)
theorem zhR (hcalm:X.calm=true) (hi:PI X (.Tuple [.Name x₁ p1,.Name x₂ p2] kk px) iter wi) (hc:∀ pins cl s H fp,PTs (ya0 X pins x₁ x₂ jf scope cl s H fp) ifs tc) (he:∀ pins cl s H fp,PE (ya0 X pins x₁ x₂ jf scope cl s H fp) elt te)
  (hN:(x₁::x₂::jf.map (·.2)).Nodup) (hx:scope.names.lookup x₁=some .local) (hx2:scope.names.lookup x₂=some .local) (hjf:∀ p∈jf,X.N[p.1]? = some p.2) (hjl:∀ p∈jf,scope.names.lookup p.2=some .free) (hkind:scope.kind = .function)
  (hcell:∀ y∈scope.names,y.2 ≠ .cell) (hfr:∀ y∈scope.names,y.2 = .free->X.env.kindOf y.1=some .cell\/X.env.kindOf y.1=some .free)
  (hnames:∀ y∈scope.names,y.2 = .local->scope.names.lookup y.1=some .local) (hs:∀ x,foldedSetIterable iter X.env x=pure x:=by intro _;rfl) :
  PE X (.ListComp elt [⟨.Tuple [.Name x₁ p1,.Name x₂ p2] kk px,iter,ifs,0⟩] scope pos) (yez X.K jf wi tc te):=by
 intro pins s σ H Q I h
 rw [eval_ListComp]
 refine zgW hcalm hi hc he hN hx hx2 hjf hjl hkind hcell hfr hnames (use:=none) (Qf:=EP X pins σ Q) I h (fun D C s6 H6 m6 I6 q6 f6 n6=>?_) hs
 refine ⟨m6,n6,fun h' hs' => ⟨.ref D,H6,?_,rfl,q6⟩⟩
 exact I6.turnedL (fp:=[C]) (t' := s6.toks) (fun b o hb q=>(hs'.2 b (fun z=>hb (by simp [z]))).trans q) (fun b hb=>by
  have e:b=C:=by simpa using hb
  subst e
  exact f6)
end
section
variable {X:Cx}
end
end L2
namespace Sm
open PySem L2
inductive AV where
 | non | bl (b:Bool) | int (i:Int) | str (x:Str)
 | tup (xs:List AV)
 | fl (xs:List AV)
 | ref (n:Nat)
 | exc (c:Nat)
 deriving Inhabited
inductive AO where
 | lst (xs:List AV)
 | dct (t:Bool) (kvs:List (AV×AV))
 | ins (c:Nat) (fs:List (Option AV))
abbrev AH:=List AO
abbrev En:=List (Option AV)
inductive Out (α:Type) where
 | ok (a:α) (h:AH)
 | ex (c:Nat) (h:AH)
 | bad
@[simp] def Out.bind {α β:Type} (o:Out α) (f:α->AH->Out β):Out β :=
 match o with
 | .ok a h=>f a h
 | .ex c h=>.ex c h
 | .bad=>.bad
inductive OutS where
 | nx (e:En) (h:AH)
 | rt (v:AV) (h:AH)
 | bk (e:En) (h:AH)
 | ct (e:En) (h:AH)
 | ex (c:Nat) (e:En) (h:AH)
 | bad
abbrev SE:=En->AH->Out AV
abbrev SB:=En->AH->Out Bool
abbrev SL:=En->AH->Out (List AV)
abbrev SS:=En->AH->OutS
abbrev Fn:=List AV->AH->Out AV
@[simp] def Out.go {α:Type} (o:Out α) (e:En) (f:α->AH->OutS):OutS :=
 match o with
 | .ok a h=>f a h
 | .ex c h=>.ex c e h
 | .bad=>.bad
structure Tb where
 K:PySem.W.Frag
 cls:Nat->Option Addr
 exc:Nat->Option Addr
 fields:Nat->List Str
 nd:∀ c,(fields c).Nodup
 few:∀ c,(fields c).length<=500
def KL (K:PySem.W.Frag) (a:Addr) (xs:List V):Prop:=∃ (o:Obj) (its:Array Value) (n:Nat),K.lookup a=some o/\o.cls = .type "list" /\ o.dict=none/\o.data = .seq its n/\its.size<=sizeLine/\Vals xs its.toList
structure Ix where
 refs:List Addr
 priv:List Addr
def Ix.all (ι:Ix):List Addr:=ι.refs++ι.priv
mutual
inductive RV (T:Tb) (ι:Ix) (H:Hp):AV->V->Prop
 | non:RV T ι H .non .non
 | bl (b:Bool):RV T ι H (.bl b) (.bl b)
 | int (i:Int):RV T ι H (.int i) (.int i)
 | str {x:Str} (n:x.length<=sizeLine) (o:x.cps.all (· < 0x110000)=true):RV T ι H (.str x) (.str x)
 | tup {xs:List AV} {us:List V} {a:Addr} (n:a∉ι.all) (h:H a=some (.tup us)) (r:RVs T ι H xs us):RV T ι H (.tup xs) (.ref a)
 | fl {xs:List AV} {us:List V} {a:Addr} (n:a∉ι.all) (h:Rd H a (.lst us)) (r:RVs T ι H xs us):RV T ι H (.fl xs) (.ref a)
 | kfl {xs:List AV} {us:List V} {a:Addr} (h:KL T.K a us) (r:RVs T ι H xs us):RV T ι H (.fl xs) (.ref a)
 | ref {k:Nat} {a:Addr} (h:ι.refs[k]? = some a):RV T ι H (.ref k) (.ref a)
 | exc {c:Nat} {C a:Addr} (n:a∉ι.all) (h:T.exc c=some C) (q:H a=some (excO a (.ref C))):RV T ι H (.exc c) (.ref a)
inductive RVs (T:Tb) (ι:Ix) (H:Hp):List AV->List V->Prop
 | nil:RVs T ι H [] []
 | cons {x:AV} {u:V} {xs:List AV} {us:List V} (r:RV T ι H x u) (rs:RVs T ι H xs us):RVs T ι H (x::xs) (u::us)
end
structure Grow (ι:Ix) (H:Hp) (ι':Ix) (H':Hp):Prop where
 pre:∃ n,ι'.refs=ι.refs++n/\∀ a∈n,H a=none
 priv:ι'.priv=ι.priv
 keep:∀ a o,a∉ι.refs->H a=some o->H' a=some o
 live:∀ a∈ι.all,H' a≠none
theorem zel:∀ {l:List Addr} {i j:Nat} {a:Addr},l.Nodup->l[i]? = some a->l[j]? = some a->i=j
 | [],_,_,_,_,e,_=>by simp at e
 | x::l,0,0,_,_,_,_=>rfl
 | x::l,0,j+1,a,n,e,f=>by
  simp at e f;subst e
  exact absurd (List.mem_of_getElem? f) (List.nodup_cons.mp n).1
 | x::l,i+1,0,a,n,e,f=>by
  simp at e f;subst f
  exact absurd (List.mem_of_getElem? e) (List.nodup_cons.mp n).1
 | x::l,i+1,j+1,a,n,e,f=>by
  simp at e f
  rw [zel (List.nodup_cons.mp n).2 e f]
theorem Ix.nr {ι:Ix} {a:Addr} (h:a∉ι.all):a∉ι.refs:=fun z=>h (List.mem_append_left _ z)
theorem Ix.np {ι:Ix} {a:Addr} (h:a∉ι.all):a∉ι.priv:=fun z=>h (List.mem_append_right _ z)
theorem Grow.refl {ι:Ix} {H:Hp} (l:∀ a∈ι.all,H a≠none):Grow ι H ι H:=⟨⟨[],by simp,by simp⟩,rfl,fun _ _ _ e=>e,l⟩
theorem Grow.at {ι ι':Ix} {H H':Hp} (g:Grow ι H ι' H') {k:Nat} {a:Addr} (h:ι.refs[k]? = some a):ι'.refs[k]? = some a:=by
 obtain ⟨n,e,_⟩:=g.pre
 rw [e,List.getElem?_append_left (List.getElem?_eq_some_iff.mp h).1]
 exact h
theorem Grow.outR {ι ι':Ix} {H H':Hp} (g:Grow ι H ι' H') {a:Addr} {o:HO} (n:a∉ι.refs) (e:H a=some o):a∉ι'.refs:=fun z=>by
 obtain ⟨m,e',hm⟩:=g.pre
 rw [e'] at z
 rcases List.mem_append.mp z with z | z
 ·exact n z
 ·rw [hm a z] at e;cases e
theorem Grow.out {ι ι':Ix} {H H':Hp} (g:Grow ι H ι' H') {a:Addr} {o:HO} (n:a∉ι.all) (e:H a=some o):a∉ι'.all:=fun z=>by
 rcases List.mem_append.mp z with z | z
 ·exact g.outR (Ix.nr n) e z
 ·rw [g.priv] at z;exact Ix.np n z
theorem Grow.trans {ι ι' ι'':Ix} {H H' H'':Hp} (g:Grow ι H ι' H') (k:Grow ι' H' ι'' H''):Grow ι H ι'' H'' := by
 obtain ⟨n,e1,hn⟩:=g.pre
 obtain ⟨m,e2,hm⟩:=k.pre
 refine ⟨⟨n++m,by rw [e2,e1];simp,fun a ha=>?_⟩,k.priv.trans g.priv,fun a o na e=>k.keep a o (g.outR na e) (g.keep a o na e),fun a ha=>k.live a ?_⟩
 ·rcases List.mem_append.mp ha with z | z
  ·exact hn a z
  ·have q:=hm a z
   by_cases hi:a∈ι.refs
   ·exact absurd q (g.live a (List.mem_append_left _ hi))
   ·cases e:H a with
    | none=>rfl
    | some o=>rw [g.keep a o hi e] at q;cases q
 ·rcases List.mem_append.mp ha with z | z
  ·exact List.mem_append_left _ (by rw [e1];exact List.mem_append_left _ z)
  ·exact List.mem_append_right _ (by rw [g.priv];exact z)
structure Ext (ι:Ix) (H:Hp) (ι':Ix) (H':Hp):Prop where
 at_:∀ {k:Nat} {a:Addr},ι.refs[k]? = some a->ι'.refs[k]? = some a
 keep:∀ a o,a∉ι.all->H a=some o->H' a=some o
 out:∀ a o,a∉ι.all->H a=some o->a∉ι'.all
theorem Grow.ext {ι ι':Ix} {H H':Hp} (g:Grow ι H ι' H'):Ext ι H ι' H' := ⟨g.at,fun a o n e=>g.keep a o (Ix.nr n) e,fun a o n e=>g.out n e⟩
theorem Ext.trans {ι ι' ι'':Ix} {H H' H'':Hp} (g:Ext ι H ι' H') (k:Ext ι' H' ι'' H''):Ext ι H ι'' H'' :=
 ⟨fun e=>k.at_ (g.at_ e),fun a o n e=>k.keep a o (g.out a o n e) (g.keep a o n e),fun a o n e=>k.out a o (g.out a o n e) (g.keep a o n e)⟩
theorem zfl {ι ι':Ix} {H H':Hp} (g:Ext ι H ι' H') {a:Addr} {u:HO} (n:a∉ι.all) (r:Rd H a u):Rd H' a u:=by
 rcases r with r | ⟨o,r⟩
 ·exact .inl (g.keep a _ n r)
 ·exact .inr ⟨o,g.keep a _ n r⟩
theorem ygU {ι ι':Ix} {H H':Hp} (g:Ext ι H ι' H') {a:Addr} {u:HO} (n:a∉ι.all) (r:Rd H a u):a∉ι'.all:=by
 rcases r with r | ⟨o,r⟩
 ·exact g.out _ _ n r
 ·exact g.out _ _ n r
mutual
theorem RV.ext {T:Tb} {ι ι':Ix} {H H':Hp} (g:Ext ι H ι' H'):∀ {x:AV} {u:V},RV T ι H x u->RV T ι' H' x u
 | _,_,.non=>.non
 | _,_,.bl b=>.bl b
 | _,_,.int i=>.int i
 | _,_,.str n o=>.str n o
 | _,_,.tup n h r=>.tup (g.out _ _ n h) (g.keep _ _ n h) (RVs.ext g r)
 | _,_,.fl n h r=>.fl (ygU g n h) (zfl g n h) (RVs.ext g r)
 | _,_,.kfl h r=>.kfl h (RVs.ext g r)
 | _,_,.ref h=>.ref (g.at_ h)
 | _,_,.exc n h q=>.exc (g.out _ _ n q) h (g.keep _ _ n q)
theorem RVs.ext {T:Tb} {ι ι':Ix} {H H':Hp} (g:Ext ι H ι' H'):∀ {xs:List AV} {us:List V},RVs T ι H xs us->RVs T ι' H' xs us
 | _,_,.nil=>.nil
 | _,_,.cons r rs=>.cons (RV.ext g r) (RVs.ext g rs)
end
theorem RV.mono {T:Tb} {ι ι':Ix} {H H':Hp} (g:Grow ι H ι' H') {x:AV} {u:V} (r:RV T ι H x u):RV T ι' H' x u:=r.ext g.ext
theorem RVs.mono {T:Tb} {ι ι':Ix} {H H':Hp} (g:Grow ι H ι' H') {xs:List AV} {us:List V} (r:RVs T ι H xs us):RVs T ι' H' xs us:=r.ext g.ext
section
variable {T:Tb} {ι:Ix} {H:Hp}
theorem RVs.length:∀ {xs:List AV} {us:List V},RVs T ι H xs us->xs.length=us.length
 | _,_,.nil=>rfl
 | _,_,.cons _ rs=>by simp [RVs.length rs]
theorem RVs.get:∀ {xs:List AV} {us:List V} {i:Nat} {x:AV},RVs T ι H xs us->xs[i]? = some x->∃ u,us[i]? = some u/\RV T ι H x u
 | _,_,_,_,.nil,e=>by simp at e
 | _,_,0,_,.cons r _,e=>by simp at e;subst e;exact ⟨_,rfl,r⟩
 | _,_,i+1,x,.cons _ t,e=>by
  obtain ⟨u,h1,h2⟩:=RVs.get (i:=i) (x:=x) t (by simpa using e)
  exact ⟨u,by simpa using h1,h2⟩
theorem RVs.append:∀ {xs ys:List AV} {us ws:List V},RVs T ι H xs us->RVs T ι H ys ws->RVs T ι H (xs++ys) (us++ws)
 | _,_,_,_,.nil,s=>s
 | _,_,_,_,.cons r t,s=>.cons r (RVs.append t s)
theorem RVs.set {x:AV} {u:V} (r:RV T ι H x u):∀ {xs:List AV} {us:List V} (i:Nat),RVs T ι H xs us->RVs T ι H (xs.set i x) (us.set i u)
 | _,_,_,.nil=>.nil
 | _,_,0,.cons _ t=>.cons r t
 | _,_,i+1,.cons q t=>.cons q (RVs.set r i t)
theorem RVs.take:∀ {xs:List AV} {us:List V} (n:Nat),RVs T ι H xs us->RVs T ι H (xs.take n) (us.take n)
 | _,_,0,_=>by simpa using RVs.nil
 | _,_,_+1,.nil=>.nil
 | _,_,n+1,.cons r t=>.cons r (RVs.take n t)
theorem RVs.drop:∀ {xs:List AV} {us:List V} (n:Nat),RVs T ι H xs us->RVs T ι H (xs.drop n) (us.drop n)
 | _,_,0,r=>r
 | _,_,_+1,.nil=>.nil
 | _,_,n+1,.cons _ t=>RVs.drop n t
end
def kA:Key->AV
 | .inl i=>.int i
 | .inr x=>.str x
def OR (T:Tb) (ι:Ix) (H:Hp):AO->HO->Prop
 | .lst xs,o=>∃ us,o = .lst us/\RVs T ι H xs us
 | .dct false kvs,o=>∃ kus:List (Key×V),o = .dK kus/\Paired (fun (p:AV×AV) (q:Key×V)=>p.1=kA q.1/\RV T ι H p.2 q.2) kvs kus
 | .dct true kvs,o=>∃ kus:List (List Key×V),o = .dT kus/\Paired (fun (p:AV×AV) (q:List Key×V)=>p.1 = .tup (q.1.map kA)/\RV T ι H p.2 q.2) kvs kus
 | .ins c fs,o=>∃ C dx fus,T.cls c=some C/\o = .ins C dx fus/\(fus.map (·.1)).Nodup/\(∀ p∈fus,p.1∈T.fields c)/\fs.length=(T.fields c).length /\
   ∀ (i:Nat) (v:AV),fs[i]? = some (some v)->∃ f u,(T.fields c)[i]? = some f/\fus.lookup f=some u/\RV T ι H v u
theorem OR.mono {T:Tb} {ι ι':Ix} {H H':Hp} (g:Grow ι H ι' H') {o:AO} {u:HO} (h:OR T ι H o u):OR T ι' H' o u:=by
 cases o with
 | lst xs=>obtain ⟨us,e,r⟩:=h;exact ⟨us,e,r.mono g⟩
 | dct t kvs =>
  cases t with
  | false=>obtain ⟨us,e,r⟩:=h;exact ⟨us,e,Paired.mapP r fun _ _ ⟨a,b⟩=>⟨a,b.mono g⟩⟩
  | true=>obtain ⟨us,e,r⟩:=h;exact ⟨us,e,Paired.mapP r fun _ _ ⟨a,b⟩=>⟨a,b.mono g⟩⟩
 | ins c fs =>
  obtain ⟨C,dx,fus,a,b,n,w,l,r⟩:=h
  refine ⟨C,dx,fus,a,b,n,w,l,fun i v e=>?_⟩
  obtain ⟨f,u,e1,e2,q⟩:=r i v e
  exact ⟨f,u,e1,e2,q.mono g⟩
structure Sim (T:Tb) (ι:Ix) (h:AH) (H:Hp):Prop where
 len:ι.refs.length=h.length
 nd:ι.refs.Nodup
 plive:∀ a∈ι.priv,H a≠none
 obj:∀ (i:Nat) (o:AO) (a:Addr),h[i]? = some o->ι.refs[i]? = some a->∃ u,H a=some u/\OR T ι H o u
section
variable {T:Tb} {ι:Ix} {h:AH} {H:Hp}
theorem Sim.live (S:Sim T ι h H):∀ a∈ι.all,H a≠none:=fun a ha z=>by
 rcases List.mem_append.mp ha with ha | ha
 ·obtain ⟨i,hi⟩:=List.mem_iff_getElem?.mp ha
  have hl:i<h.length:=by rw [<- S.len];exact (List.getElem?_eq_some_iff.mp hi).1
  obtain ⟨u,e,_⟩:=S.obj i h[i] a (by simp [hl]) hi
  rw [z] at e;cases e
 ·exact S.plive a ha z
theorem Sim.refl (S:Sim T ι h H):Grow ι H ι H:=.refl S.live
theorem Sim.fresh (S:Sim T ι h H) {p:Addr} (n:H p=none):p∉ι.all:=fun z=>S.live p z n
theorem Sim.still (S:Sim T ι h H) {H':Hp} (g:Grow ι H ι H') (k:∀ a∈ι.refs,H' a=H a):Sim T ι h H' :=
 ⟨S.len,S.nd,fun a ha=>g.live a (List.mem_append_right _ ha),fun i o a e1 e2=>by
  obtain ⟨u,e,r⟩:=S.obj i o a e1 e2
  exact ⟨u,by rw [k a (List.mem_of_getElem? e2)];exact e,r.mono g⟩⟩
theorem Sim.growNew (S:Sim T ι h H) {p:Addr} {o:HO} (n:H p=none):Grow ι H ι (upd H p o) :=
 ⟨⟨[],by simp,by simp⟩,rfl,fun a u _ e=>by rw [yay (zat e n)];exact e,fun a ha=>by
  rw [yay (show a≠p from fun z=>S.fresh n (z▸ha))];exact S.live a ha⟩
theorem Sim.new (S:Sim T ι h H) {p:Addr} {o:HO} (n:H p=none):Sim T ι h (upd H p o) :=
 S.still (S.growNew n) fun a ha=>yay fun z=>S.fresh n (z▸List.mem_append_left _ ha)
def Ix.add (ι:Ix) (p:Addr):Ix:=⟨ι.refs++[p],ι.priv⟩
theorem Sim.growAdd (S:Sim T ι h H) {p:Addr} {u:HO} (n:H p=none):Grow ι H (ι.add p) (upd H p u) :=
 ⟨⟨[p],rfl,fun a ha=>by have e:a=p:=(by simpa using ha);rw [e];exact n⟩,rfl,(S.growNew n).keep,(S.growNew n).live⟩
theorem Sim.add (S:Sim T ι h H) {p:Addr} {u:HO} {o:AO} (n:H p=none) (r:OR T (ι.add p) (upd H p u) o u):Sim T (ι.add p) (h++[o]) (upd H p u):=by
 refine ⟨by simp [Ix.add,S.len],?_,fun a ha=>(S.growNew n).live a (List.mem_append_right _ ha),fun i o' a e1 e2=>?_⟩
 ·show (ι.refs++[p]).Nodup
  rw [List.nodup_append]
  exact ⟨S.nd,by simp,fun a ha b hb z=>by have e:b=p:=(by simpa using hb);subst e;subst z;exact S.fresh n (List.mem_append_left _ ha)⟩
 ·replace e2:(ι.refs++[p])[i]? = some a:=e2
  by_cases hi:i<h.length
  ·rw [List.getElem?_append_left hi] at e1
   rw [List.getElem?_append_left (by rw [S.len];exact hi)] at e2
   obtain ⟨v,e,q⟩:=S.obj i o' a e1 e2
   exact ⟨v,by rw [yay (zat e n)];exact e,q.mono (S.growAdd n)⟩
  ·have e3:i=h.length:=by
    have:=(List.getElem?_eq_some_iff.mp e1).1
    simp at this;omega
   subst e3
   rw [List.getElem?_append_right (Nat.le_refl _)] at e1
   rw [List.getElem?_append_right (by rw [S.len];exact Nat.le_refl _),S.len] at e2
   simp at e1 e2
   subst e1 e2
   exact ⟨u,zas,r⟩
theorem Sim.addAt (S:Sim T ι h H) {p:Addr}:(ι.add p).refs[h.length]? = some p:=by
 show (ι.refs++[p])[h.length]? = some p
 rw [<- S.len];simp
theorem Sim.growSet (S:Sim T ι h H) {i:Nat} {a:Addr} {u:HO} (e:ι.refs[i]? = some a):Grow ι H ι (upd H a u) :=
 ⟨⟨[],by simp,by simp⟩,rfl,fun b o nb q=>by rw [yay (show b≠a from fun z=>nb (by rw [z];exact List.mem_of_getElem? e))];exact q,fun b hb=>by
  by_cases z:b=a
  ·subst z;rw [zas];simp
  ·rw [yay z];exact S.live b hb⟩
theorem Sim.set (S:Sim T ι h H) {i:Nat} {a:Addr} {u:HO} {o:AO} (e:ι.refs[i]? = some a) (r:OR T ι (upd H a u) o u):Sim T ι (h.set i o) (upd H a u):=by
 refine ⟨by simp [S.len],S.nd,fun b hb=>(S.growSet e).live b (List.mem_append_right _ hb),fun j o' b e1 e2=>?_⟩
 by_cases hj:j=i
 ·subst hj
  rw [e] at e2;cases e2
  have hl:j<h.length:=by rw [<- S.len];exact (List.getElem?_eq_some_iff.mp e).1
  rw [List.getElem?_set_self hl] at e1;cases e1
  exact ⟨u,zas,r⟩
 ·rw [List.getElem?_set_ne (Ne.symm hj)] at e1
  obtain ⟨v,q,r'⟩:=S.obj j o' b e1 e2
  have ne:b≠a:=fun z=>hj (by
   subst z
   exact zel S.nd e2 e)
  exact ⟨v,by rw [yay ne];exact q,r'.mono (S.growSet e)⟩
end
def Ix.hide (ι:Ix) (D:Addr):Ix:=⟨ι.refs,D::ι.priv⟩
theorem Ix.hide_all {ι:Ix} {D a:Addr}:a∉(ι.hide D).all ↔ a∉ι.all/\a≠D:=by
 unfold Ix.all Ix.hide
 simp only [List.mem_append,List.mem_cons]
 constructor
 ·intro h;exact ⟨fun z=>h (z.elim .inl fun z=>.inr (.inr z)),fun z=>h (.inr (.inl z))⟩
 ·rintro ⟨h1,h2⟩ (z | z | z)
  ·exact h1 (.inl z)
  ·exact h2 z
  ·exact h1 (.inr z)
section
variable {T:Tb} {ι:Ix} {H:Hp} {D:Addr}
theorem Ext.hide {o:HO} (hn:H D=none):Ext ι H (ι.hide D) (upd H D o):=⟨fun e=>e,fun a u n e=>by rw [yay (zat e hn)];exact e,fun a u n e=>Ix.hide_all.mpr ⟨n,zat e hn⟩⟩
theorem Ext.poke {o:HO}:Ext (ι.hide D) H (ι.hide D) (upd H D o):=⟨fun e=>e,fun a u n e=>by rw [yay (Ix.hide_all.mp n).2];exact e,fun a u n e=>n⟩
theorem Ext.show:Ext (ι.hide D) H ι H:=⟨fun e=>e,fun a u n e=>e,fun a u n e=>(Ix.hide_all.mp n).1⟩
theorem Ext.adopt:Ext (ι.hide D) H (ι.add D) H:=⟨fun {k a} e=>by
 show (ι.refs++[D])[k]? = some a
 replace e:ι.refs[k]? = some a:=e
 rw [List.getElem?_append_left (List.getElem?_eq_some_iff.mp e).1];exact e,fun a u n e=>e,fun a u n e z=>by
 rcases List.mem_append.mp z with z | z
 ·replace z:a∈ι.refs++[D]:=z
  rcases List.mem_append.mp z with z | z
  ·exact (Ix.hide_all.mp n).1 (List.mem_append_left _ z)
  ·exact (Ix.hide_all.mp n).2 (by simpa using z)
 ·exact (Ix.hide_all.mp n).1 (List.mem_append_right _ z)⟩
theorem OR.ext {ι ι':Ix} {H H':Hp} (g:Ext ι H ι' H') {o:AO} {u:HO} (h:OR T ι H o u):OR T ι' H' o u:=by
 cases o with
 | lst xs=>obtain ⟨us,e,r⟩:=h;exact ⟨us,e,r.ext g⟩
 | dct t kvs =>
  cases t with
  | false=>obtain ⟨us,e,r⟩:=h;exact ⟨us,e,Paired.mapP r fun _ _ ⟨a,b⟩=>⟨a,b.ext g⟩⟩
  | true=>obtain ⟨us,e,r⟩:=h;exact ⟨us,e,Paired.mapP r fun _ _ ⟨a,b⟩=>⟨a,b.ext g⟩⟩
 | ins c fs =>
  obtain ⟨C,dx,fus,a,b,n,w,l,r⟩:=h
  refine ⟨C,dx,fus,a,b,n,w,l,fun i v e=>?_⟩
  obtain ⟨f,u,e1,e2,q⟩:=r i v e
  exact ⟨f,u,e1,e2,q.ext g⟩
theorem Sim.hide {h:AH} {o:HO} (S:Sim T ι h H) (hn:H D=none):Sim T (ι.hide D) h (upd H D o) :=
 ⟨S.len,S.nd,fun a ha=>by
  rcases List.mem_cons.mp ha with rfl | ha
  ·rw [zas];simp
  ·rw [yay (show a≠D from fun z=>S.plive a ha (z▸hn))];exact S.plive a ha,fun i o' a e1 e2=>by
  obtain ⟨u,e,r⟩:=S.obj i o' a e1 e2
  exact ⟨u,by rw [yay (zat e hn)];exact e,r.ext (Ext.hide hn)⟩⟩
theorem Sim.poke {h:AH} {o:HO} (S:Sim T (ι.hide D) h H) (hr:D∉ι.refs):Sim T (ι.hide D) h (upd H D o) :=
 ⟨S.len,S.nd,fun a ha=>by
  by_cases z:a=D
  ·subst z;rw [zas];simp
  ·rw [yay z];exact S.plive a ha,fun i o' a e1 e2=>by
  obtain ⟨u,e,r⟩:=S.obj i o' a e1 e2
  have ne:a≠D:=fun z=>hr (z▸List.mem_of_getElem? e2)
  exact ⟨u,by rw [yay ne];exact e,r.ext Ext.poke⟩⟩
theorem Sim.show {h:AH} (S:Sim T (ι.hide D) h H):Sim T ι h H :=
 ⟨S.len,S.nd,fun a ha=>S.plive a (List.mem_cons_of_mem _ ha),fun i o' a e1 e2=>by
  obtain ⟨u,e,r⟩:=S.obj i o' a e1 e2
  exact ⟨u,e,r.ext Ext.show⟩⟩
theorem Sim.adopt {h:AH} {u:HO} {o:AO} (S:Sim T (ι.hide D) h H) (hr:D∉ι.refs) (e:H D=some u) (r:OR T (ι.add D) H o u):Sim T (ι.add D) (h++[o]) H:=by
 have hlen:ι.refs.length=h.length:=S.len
 refine ⟨by simp [Ix.add,hlen],?_,fun a ha=>S.plive a (List.mem_cons_of_mem _ ha),fun i o' a e1 e2=>?_⟩
 ·show (ι.refs++[D]).Nodup
  rw [List.nodup_append]
  exact ⟨S.nd,by simp,fun a ha b hb z=>by have e:b=D:=(by simpa using hb);subst e;subst z;exact hr ha⟩
 ·replace e2:(ι.refs++[D])[i]? = some a:=e2
  by_cases hi:i<h.length
  ·rw [List.getElem?_append_left hi] at e1
   rw [List.getElem?_append_left (by rw [hlen];exact hi)] at e2
   obtain ⟨v,e,q⟩:=S.obj i o' a e1 e2
   exact ⟨v,e,q.ext Ext.adopt⟩
  ·have e3:i=h.length:=by
    have:=(List.getElem?_eq_some_iff.mp e1).1
    simp at this;omega
   subst e3
   rw [List.getElem?_append_right (Nat.le_refl _)] at e1
   rw [List.getElem?_append_right (by rw [hlen];exact Nat.le_refl _),hlen] at e2
   simp at e1 e2
   subst e1 e2
   exact ⟨u,e,r⟩
end
def ER (T:Tb) (ι:Ix) (H:Hp) (e:En) (σ:St):Prop:=e.length=σ.length/\∀ (i:Nat) (v:AV),e[i]? = some (some v)->∃ u,σ[i]? = some (some u)/\RV T ι H v u
theorem ER.mono {T:Tb} {ι ι':Ix} {H H':Hp} {e:En} {σ:St} (r:ER T ι H e σ) (g:Grow ι H ι' H'):ER T ι' H' e σ :=
 ⟨r.1,fun i v q=>let ⟨u,a,b⟩:=r.2 i v q;⟨u,a,b.mono g⟩⟩
theorem ER.ext {T:Tb} {ι ι':Ix} {H H':Hp} {e:En} {σ:St} (r:ER T ι H e σ) (g:Ext ι H ι' H'):ER T ι' H' e σ :=
 ⟨r.1,fun i v q=>let ⟨u,a,b⟩:=r.2 i v q;⟨u,a,b.ext g⟩⟩
theorem ER.set {T:Tb} {ι:Ix} {H:Hp} {e:En} {σ:St} (r:ER T ι H e σ) {v:AV} {u:V} (q:RV T ι H v u) (i:Nat):ER T ι H (e.set i (some v)) (σ.set i (some u)):=by
 refine ⟨by simp [r.1],fun j w z=>?_⟩
 by_cases hj:j=i
 ·subst hj
  by_cases hl:j<e.length
  ·rw [List.getElem?_set_self hl] at z;cases z
   exact ⟨u,by rw [List.getElem?_set_self (by rw [<- r.1];exact hl)],q⟩
  ·rw [List.getElem?_eq_none (by simpa using hl)] at z;cases z
 ·rw [List.getElem?_set_ne (Ne.symm hj)] at z ⊢
  exact r.2 j w z
def Post {α β:Type} (T:Tb) (ι:Ix) (H:Hp) (E:XK) (R:Ix->Hp->α->β->Prop) (o:Out α) (Q:β->Hp->Prop):Prop :=
 match o with
 | .ok v h' => ∀ ι' H' u,Grow ι H ι' H'->Sim T ι' h' H'->R ι' H' v u->Q u H'
 | .ex c h' => ∀ ι' H' C,Grow ι H ι' H'->Sim T ι' h' H'->T.exc c=some C->E (.ref C) none H'
 | .bad=>False
def PostS (T:Tb) (ι:Ix) (H:Hp) (E:St->XK) (o:OutS) (D:Ends):Prop :=
 match o with
 | .nx e h' => ∀ ι' H' σ',Grow ι H ι' H'->Sim T ι' h' H'->ER T ι' H' e σ'->D.nx σ' H'
 | .bk e h' => ∀ ι' H' σ',Grow ι H ι' H'->Sim T ι' h' H'->ER T ι' H' e σ'->D.bk σ' H'
 | .ct e h' => ∀ ι' H' σ',Grow ι H ι' H'->Sim T ι' h' H'->ER T ι' H' e σ'->D.ct σ' H'
 | .rt v h' => ∀ ι' H' u,Grow ι H ι' H'->Sim T ι' h' H'->RV T ι' H' v u->D.rt u H'
 | .ex c e h' => ∀ ι' H' σ' C,Grow ι H ι' H'->Sim T ι' h' H'->ER T ι' H' e σ'->T.exc c=some C->E σ' (.ref C) none H'
 | .bad=>False
abbrev REq {α:Type}:Ix->Hp->α->α->Prop:=fun _ _ a b=>a=b
section
variable {T:Tb} {ι ι':Ix} {h:AH} {H H':Hp} {α β γ δ:Type} {E:XK} {R:Ix->Hp->α->β->Prop} {R':Ix->Hp->γ->δ->Prop}
theorem Post.shift {o:Out α} {Q:β->Hp->Prop} (p:Post T ι H E R o Q) (g:Grow ι H ι' H'):Post T ι' H' E R o Q:=by
 cases o with
 | ok v h' => exact fun i2 H2 u g2=>p i2 H2 u (g.trans g2)
 | ex c h' => exact fun i2 H2 C g2=>p i2 H2 C (g.trans g2)
 | bad=>exact p
theorem Post.bind {o:Out α} {f:α->AH->Out γ} {Q:δ->Hp->Prop} {Q1:β->Hp->Prop} (p:Post T ι H E R' (o.bind f) Q)
  (k:∀ v h' ι' H' u,Grow ι H ι' H'->Sim T ι' h' H'->R ι' H' v u->Post T ι' H' E R' (f v h') Q->Q1 u H'):Post T ι H E R o Q1:=by
 cases o with
 | ok v h' => exact fun i2 H2 u g S r=>k v h' i2 H2 u g S r (Post.shift p g)
 | ex c h' => exact p
 | bad=>exact p
theorem Post.now {v:α} {u:β} {Q:β->Hp->Prop} (p:Post T ι H E R (.ok v h) Q) (S:Sim T ι h H) (r:R ι H v u):Q u H:=p ι H u S.refl S r
theorem PostS.shift {E:St->XK} {o:OutS} {D:Ends} (p:PostS T ι H E o D) (g:Grow ι H ι' H'):PostS T ι' H' E o D:=by
 cases o with
 | nx e h' => exact fun i2 H2 u g2=>p i2 H2 u (g.trans g2)
 | bk e h' => exact fun i2 H2 u g2=>p i2 H2 u (g.trans g2)
 | ct e h' => exact fun i2 H2 u g2=>p i2 H2 u (g.trans g2)
 | rt v h' => exact fun i2 H2 u g2=>p i2 H2 u (g.trans g2)
 | ex c e h' => exact fun i2 H2 u C g2=>p i2 H2 u C (g.trans g2)
 | bad=>exact p
theorem PostS.go {E:St->XK} {o:Out α} {en:En} {σ:St} {f:α->AH->OutS} {D:Ends} {Q1:β->Hp->Prop} (p:PostS T ι H E (o.go en f) D) (er:ER T ι H en σ)
  (k:∀ v h' ι' H' u,Grow ι H ι' H'->Sim T ι' h' H'->R ι' H' v u->PostS T ι' H' E (f v h') D->Q1 u H'):Post T ι H (E σ) R o Q1:=by
 cases o with
 | ok v h' => exact fun i2 H2 u g S r=>k v h' i2 H2 u g S r (PostS.shift p g)
 | ex c h' => exact fun i2 H2 C g S e=>p i2 H2 σ C g S (er.mono g) e
 | bad=>exact p
end
def tE (T:Tb) (E:St->XK) (a:SE):TE:=fun σ H Q=>∃ ι h en,Sim T ι h H/\ER T ι H en σ/\Post T ι H (E σ) (RV T) (a en h) Q
def tT (T:Tb) (E:St->XK) (a:SB):TT:=fun σ H Q=>∃ ι h en,Sim T ι h H/\ER T ι H en σ/\Post T ι H (E σ) REq (a en h) Q
def tA (T:Tb) (E:St->XK) (a:SL):TA:=fun σ H Q=>∃ ι h en,Sim T ι h H/\ER T ι H en σ/\Post T ι H (E σ) (RVs T) (a en h) Q
def tS (T:Tb) (E:St->XK) (b:SS):TS:=fun D σ H=>∃ ι h en,Sim T ι h H/\ER T ι H en σ/\PostS T ι H E (b en h) D
abbrev PEA (T:Tb) (E:St->XK) (X:Cx) (e:Expr) (a:SE):Prop:=PE X e (tE T E a)
abbrev PTA (T:Tb) (E:St->XK) (X:Cx) (e:Expr) (a:SB):Prop:=PT X e (tT T E a)
abbrev PWA (T:Tb) (E:St->XK) (X:Cx) (e:Expr) (a:SB):Prop:=PW X e (tT T E a)
abbrev PAA (T:Tb) (E:St->XK) (X:Cx) (es:List Expr) (a:SL):Prop:=PA X es (tA T E a)
abbrev PSA (T:Tb) (E:St->XK) (X:Cx) (st:Stmt) (b:SS):Prop:=PS X st (tS T E b)
abbrev PSsA (T:Tb) (E:St->XK) (X:Cx) (sts:List Stmt) (b:SS):Prop:=PSs X sts (tS T E b)
theorem yaS {X:Cx} {e:Expr} {t t':TE} (h:PE X e t) (k:∀ σ H Q,t' σ H Q->t σ H Q):PE X e t' := fun pins s σ H Q I q=>h pins s σ H Q I (k σ H Q q)
theorem yd5 {X:Cx} {e:Expr} {t t':TT} (h:PT X e t) (k:∀ σ H Q,t' σ H Q->t σ H Q):PT X e t' := fun pins s σ H Q I q=>h pins s σ H Q I (k σ H Q q)
theorem yfA {X:Cx} {e:Expr} {t t':TT} (h:PW X e t) (k:∀ σ H Q,t' σ H Q->t σ H Q):PW X e t' := fun w pins s σ H Q I q=>h w pins s σ H Q I (k σ H Q q)
theorem yfB {X:Cx} {e:List Expr} {t t':TA} (h:PA X e t) (k:∀ σ H Q,t' σ H Q->t σ H Q):PA X e t' := fun p pins s σ H Q I q=>h p pins s σ H Q I (k σ H Q q)
theorem yb9 {X:Cx} {e:Stmt} {t t':TS} (h:PS X e t) (k:∀ D σ H,t' D σ H->t D σ H):PS X e t' := fun pins s σ H D I q=>h pins s σ H D I (k D σ H q)
theorem zfm {X:Cx} {e:List Stmt} {t t':TS} (h:PSs X e t) (k:∀ D σ H,t' D σ H->t D σ H):PSs X e t' := fun pins s σ H D I q=>h pins s σ H D I (k D σ H q)
theorem yfC {X:Cx} {st:Stmt} {t:TS} (h:PS X.nox st t):PS X st t:=fun pins s σ H D I hw=>by
 refine wpAny_mono (h pins s σ H D (I.wish _) hw) (fun f s' q=>SP.unwish q) fun _ _ z=>z.elim
end Sm
namespace Sm
open PySem L2
instance:DecidableEq AV:=fun _ _=>Classical.propDecidable _
@[simp] def sVar (i:Nat):SE:=fun en h=>match en[i]? with
 | some (some v)=>.ok v h
 | _=>.bad
@[simp] def sLit (v:AV):SE:=fun _ h=>.ok v h
abbrev F1:=AV->AH->Out AV
abbrev F2:=AV->AV->AH->Out AV
@[simp] def sOp1 (f:F1) (a:SE):SE:=fun en h=>(a en h).bind f
@[simp] def sOp2 (f:F2) (a b:SE):SE:=fun en h=>(a en h).bind fun x h1=>(b en h1).bind fun y h2=>f x y h2
@[simp] def sNil:SL:=fun _ h=>.ok [] h
@[simp] def sCons (a:SE) (r:SL):SL:=fun en h=>(a en h).bind fun x h1=>(r en h1).bind fun xs h2=>.ok (x::xs) h2
@[simp] def yad (F:Fn) (as:SL):SE:=fun en h=>(as en h).bind F
@[simp] def sTup (as:SL):SE:=fun en h=>(as en h).bind fun xs h1=>if xs.length<=1000 then .ok (.tup xs) h1 else .bad
@[simp] def sLst (as:SL):SE:=fun en h=>(as en h).bind fun xs h1=>if xs.length<=1000 then .ok (.fl xs) h1 else .bad
@[simp] def yby (as:SL):SE:=fun en h=>(as en h).bind fun xs h1=>if xs.length<=1000 then .ok (.ref h1.length) (h1++[.lst xs]) else .bad
@[simp] def yeT (t:Bool):SE:=fun _ h=>.ok (.ref h.length) (h++[.dct t []])
@[simp] def yim (v:AV) (h:AH):Option (List AV):=match v with
 | .tup xs=>some xs
 | .fl xs=>some xs
 | .ref n=>match h[n]? with
  | some (.lst xs)=>some xs
  | _=>none
 | _=>none
@[simp] def ybS (v:AV) (h:AH):Option (List AV):=match v with
 | .fl xs=>some xs
 | .ref n=>match h[n]? with
  | some (.lst xs)=>some xs
  | _=>none
 | _=>none
@[simp] def fAdd:F2:=fun x y h=>match x,y with
 | .int i,.int j=>.ok (.int (i+j)) h
 | .str i,.str j=>if i.length+j.length<=sizeLine then .ok (.str (i++j)) h else .bad
 | .tup xs,.tup ys=>if xs≠[]/\xs.length+ys.length<=sizeLine then .ok (.tup (xs++ys)) h else .bad
 | x,y=>match ybS x h,ybS y h with
  | some xs,some ys=>if xs.length+ys.length<=sizeLine then .ok (.fl (xs++ys)) h else .bad
  | _,_=>.bad
@[simp] def fSub:F2:=fun x y h=>match x,y with
 | .int i,.int j=>.ok (.int (i-j)) h
 | _,_=>.bad
@[simp] def fMul:F2:=fun x y h=>match x,y with
 | .int i,.int j=>if (i.natAbs<2 ^ 64\/j.natAbs<2 ^ 64)\/(i.natAbs<2 ^ 4000/\j.natAbs<2 ^ 4000) then .ok (.int (i*j)) h else .bad
 | _,_=>.bad
@[simp] def fDiv:F2:=fun x y h=>match x,y with
 | .int i,.int j=>if 0<j/\j.natAbs<2 ^ 200 then .ok (.int (i / j)) h else .bad
 | _,_=>.bad
@[simp] def fMod:F2:=fun x y h=>match x,y with
 | .int i,.int j=>if 0<j then .ok (.int (i % j)) h else .bad
 | _,_=>.bad
@[simp] def fPow:F2:=fun x y h=>match x,y with
 | .int i,.int j=>if 0<=j/\j<=1000000/\i.natAbs<2 ^ 64 then .ok (.int (i ^ j.toNat)) h else .bad
 | _,_=>.bad
@[simp] def fNeg:F1:=fun x h=>match x with
 | .int i=>.ok (.int (-i)) h
 | _=>.bad
def toDs (f:AV->Option PyData):List AV->Option (List PyData)
 | []=>some []
 | x::xs=>match f x,toDs f xs with
  | some d,some ds=>some (d::ds)
  | _,_=>none
def toD:Nat->AH->AV->Option PyData
 | 0,_,v=>match v with
  | .non=>some .none
  | .bl b=>some (.bool b)
  | .int i=>some (.int i)
  | .str x=>some (.str x)
  | _=>none
 | n+1,h,v=>match v with
  | .non=>some .none
  | .bl b=>some (.bool b)
  | .int i=>some (.int i)
  | .str x=>some (.str x)
  | .tup xs=>(toDs (toD n h) xs).map .tuple
  | .fl xs=>(toDs (toD n h) xs).map .list
  | .ref k=>match h[k]? with
   | some (.lst xs)=>(toDs (toD n h) xs).map .list
   | _=>none
  | .exc _=>none
@[simp] def eqA (x y:AV) (h:AH):Option Bool:=match x,y with
 | .int i,.int j=>some (decide (i=j))
 | .str i,.str j=>some (decide (i=j))
 | .bl i,.bl j=>some (decide (i=j))
 | .non,.non=>some true
 | x,y=>match toD 8 h x,toD 8 h y with
  | some d,some e=>some (PyData.eqv d e)
  | _,_=>none
@[simp] def fEq:F2:=fun x y h=>match eqA x y h with
 | some b=>.ok (.bl b) h
 | none=>.bad
@[simp] def fNe:F2:=fun x y h=>match eqA x y h with
 | some b=>.ok (.bl (!b)) h
 | none=>.bad
@[simp] def fLt:F2:=fun x y h=>match x,y with
 | .int i,.int j=>.ok (.bl (decide (i<j))) h
 | .str i,.str j=>.ok (.bl (decide (i.cps.toList<j.cps.toList))) h
 | _,_=>.bad
@[simp] def fLe:F2:=fun x y h=>match x,y with
 | .int i,.int j=>.ok (.bl (decide (i<=j))) h
 | .str i,.str j=>.ok (.bl (!decide (j.cps.toList<i.cps.toList))) h
 | _,_=>.bad
@[simp] def fGt:F2:=fun x y h=>match x,y with
 | .int i,.int j=>.ok (.bl (decide (j<i))) h
 | _,_=>.bad
@[simp] def fGe:F2:=fun x y h=>match x,y with
 | .int i,.int j=>.ok (.bl (decide (j<=i))) h
 | _,_=>.bad
@[simp] def truA (v:AV) (h:AH):Option Bool:=match v with
 | .non=>some false
 | .bl b=>some b
 | .int i=>some (i != 0)
 | .str y=>some ((y.length:Int) != 0)
 | .tup xs=>some (!xs.isEmpty)
 | .fl xs=>some (!xs.isEmpty)
 | .ref n=>match h[n]? with
  | some (.lst xs)=>some (!xs.isEmpty)
  | some (.dct false kvs)=>some (!kvs.isEmpty)
  | _=>none
 | _=>none
@[simp] def ydb (a:SE):SB:=fun en h=>(a en h).bind fun v h1=>match truA v h1 with
 | some b=>.ok b h1
 | none=>.bad
@[simp] def yaj (a:SE):SB:=fun en h=>(a en h).bind fun v h1=>match v with
 | .bl b=>.ok b h1
 | _=>.bad
@[simp] def sAnd (a b:SB):SB:=fun en h=>(a en h).bind fun x h1=>if x=true then b en h1 else .ok false h1
@[simp] def sOr (a b:SB):SB:=fun en h=>(a en h).bind fun x h1=>if x=true then .ok true h1 else b en h1
@[simp] def sNot (a:SB):SB:=fun en h=>(a en h).bind fun x h1=>.ok (!x) h1
@[simp] def yeA (a b:SE):SE:=fun en h=>(a en h).bind fun v h1=>match v with
 | .bl k=>if k=true then b en h1 else .ok (.bl false) h1
 | _=>.bad
@[simp] def sOrV (a b:SE):SE:=fun en h=>(a en h).bind fun v h1=>match v with
 | .bl k=>if k=true then .ok (.bl true) h1 else b en h1
 | _=>.bad
@[simp] def yf1 (a:SE):SE:=fun en h=>(a en h).bind fun v h1=>match v with
 | .bl b=>.ok (.bl (!b)) h1
 | _=>.bad
@[simp] def ybN (f f':F2) (a b c:SE):SE:=fun en h=>(a en h).bind fun x h1=>(b en h1).bind fun y h2=>(f x y h2).bind fun z h3=>match z with
 | .bl k=>if k=true then (c en h3).bind fun w h4=>f' y w h4 else .ok (.bl false) h3
 | _=>.bad
@[simp] def yat:SS:=fun en h=>.nx en h
@[simp] def sSeq (a b:SS):SS:=fun en h=>match a en h with
 | .nx e h' => b e h'
 | o=>o
@[simp] def yaJ (a:SE):SS:=fun en h=>(a en h).go en fun _ h' => .nx en h'
@[simp] def sRet (a:SE):SS:=fun en h=>(a en h).go en fun v h' => .rt v h'
@[simp] def sIf (c:SB) (a b:SS):SS:=fun en h=>(c en h).go en fun x h' => if x=true then a en h' else b en h'
@[simp] def sSet (i:Nat) (a:SE):SS:=fun en h=>(a en h).go en fun v h' => .nx (en.set i (some v)) h'
def ybF (c:SB) (b:SS):Nat->SS
 | 0=>fun _ _=>.bad
 | n+1=>fun en h=>match c en h with
  | .ok true h1=>(match b en h1 with
   | .nx e2 h2=>ybF c b n e2 h2
   | .ct e2 h2=>ybF c b n e2 h2
   | .bk e2 h2=>.nx e2 h2
   | .rt v h2=>.rt v h2
   | _=>.bad)
  | .ok false h1=>.nx en h1
  | _=>.bad
abbrev SI:=En->AH->Out (List AV×Option Nat)
@[simp] def ybz (w:Option Nat) (xs:List AV) (h:AH):Bool:=match w with
 | none=>true
 | some n=>match h[n]? with
  | some (.lst ys)=>decide (ys=xs)
  | _=>false
inductive Tg where
 | nm (i:Nat)
 | tup (is:List Nat)
 | nst (i:Nat) (is:List Nat)
@[simp] def yeB:List Nat->List AV->En->Option En
 | [],[],en=>some en
 | i::is,x::xs,en=>yeB is xs (en.set i (some x))
 | _,_,_=>none
@[simp] def setT (t:Tg) (v:AV) (en:En):Option En:=match t,v with
 | .nm i,v=>some (en.set i (some v))
 | .tup is,.tup xs=>yeB is xs en
 | .nst i is,.tup [y,.tup xs]=>yeB is xs (en.set i (some y))
 | _,_=>none
def ybu (w:Option Nat) (all:List AV) (t:Tg) (b:SS):List AV->SS
 | []=>fun en h=>if ybz w all h=true then .nx en h else .bad
 | x::xs=>fun en h=>if ybz w all h=true then
   (match setT t x en with
   | some e1=>(match b e1 h with
    | .nx e2 h2=>ybu w all t b xs e2 h2
    | .ct e2 h2=>ybu w all t b xs e2 h2
    | .bk e2 h2=>.nx e2 h2
    | .rt v h2=>.rt v h2
    | _=>.bad)
   | none=>.bad) else .bad
@[simp] def sFor (it:SI) (t:Tg) (b:SS):SS:=fun en h=>match it en h with
 | .ok (xs,w) h1=>ybu w xs t b xs en h1
 | _=>.bad
@[simp] def ydv (t:Tg) (a:SE):SS:=fun en h=>(a en h).go en fun v h' => match setT t v en with
 | some e=>.nx e h'
 | none=>.bad
@[simp] def iVal (a:SE):SI:=fun en h=>(a en h).bind fun v h1=>match v with
 | .fl xs=>.ok (xs,none) h1
 | .tup xs=>.ok (xs,none) h1
 | .str z=>.ok (z.cps.toList.map (fun c=>.str ⟨#[c]⟩),none) h1
 | .ref n=>match h1[n]? with
  | some (.lst xs)=>.ok (xs,some n) h1
  | _=>.bad
 | _=>.bad
@[simp] def ya3 (a:SE):SI:=fun en h=>(a en h).bind fun v h1=>match v with
 | .fl xs=>.ok (xs,none) h1
 | .tup xs=>.ok (xs,none) h1
 | .ref n=>match h1[n]? with
  | some (.lst xs)=>.ok (xs,some n) h1
  | _=>.bad
 | _=>.bad
def ya2 (lo:Int):Nat->List AV
 | 0=>[]
 | n+1=>.int lo::ya2 (lo+1) n
@[simp] def ybU (a:SE):SI:=fun en h=>(a en h).bind fun v h1=>match v with
 | .int j=>if j.natAbs<2 ^ 62 then .ok (ya2 0 j.toNat,none) h1 else .bad
 | _=>.bad
def numbered (k:Nat):List AV->List AV
 | []=>[]
 | x::xs=>.tup [.int k,x]::numbered (k+1) xs
@[simp] def iEnum (a:SE):SI:=fun en h=>(a en h).bind fun v h1=>match v with
 | .fl xs=>.ok (numbered 0 xs,none) h1
 | _=>.bad
def yaI (js:List Nat) (en:En) (w:Option Nat) (all:List AV) (c:SB) (e:SE):List AV->List AV->AH->Out (List AV)
 | [],ys,h=>if ybz w all h=true then .ok ys h else .bad
 | x::xs,ys,h=>if ybz w all h=true/\ys.length<sizeLine then
   (match c (some x::js.map fun j=>(en[j]?).join) h with
   | .ok true h1=>(match e (some x::js.map fun j=>(en[j]?).join) h1 with
    | .ok v h2=>yaI js en w all c e xs (ys++[v]) h2
    | _=>.bad)
   | .ok false h1=>yaI js en w all c e xs ys h1
   | _=>.bad) else .bad
@[simp] def sYes:SB:=fun _ h=>.ok true h
@[simp] def yaU (js:List Nat) (it:SI) (c:SB) (e:SE):SE:=fun en h=>match it en h with
 | .ok (xs,w) h1=>(match yaI js en w xs c e xs [] h1 with
  | .ok ys h2=>.ok (.fl ys) h2
  | _=>.bad)
 | _=>.bad
@[simp] def ydj (js:List Nat) (it:SI) (c:SB) (e:SE):SE:=fun en h=>match it en h with
 | .ok (xs,w) h1=>(match yaI js en w xs c e xs [] h1 with
  | .ok ys h2=>.ok (.ref h2.length) (h2++[.lst ys])
  | _=>.bad)
 | _=>.bad
@[simp] def mkFn (n m:Nat) (b:SS):Fn:=fun args h =>
 if args.length=n then
  match b (args.map some++List.replicate (m-n) none) h with
  | .nx _ h' => .ok .non h'
  | .rt v h' => .ok v h'
  | .ex c _ h' => .ex c h'
  | _=>.bad
 else .bad
@[simp] def yam (c:Nat) (F:Fn) (o:SE) (as:SL):SE:=fun en h=>(o en h).bind fun x h1=>match x with
 | .ref n=>match h1[n]? with
  | some (.ins c' _)=>if c'=c then (as en h1).bind fun xs h2=>F (x::xs) h2 else .bad
  | _=>.bad
 | _=>.bad
@[simp] def yeU (c k:Nat) (F:Fn) (as:SL):SE:=fun en h=>(as en h).bind fun xs h1=>match F (.ref h1.length::xs) (h1++[.ins c (List.replicate k none)]) with
 | .ok .non h2=>.ok (.ref h1.length) h2
 | .ex c h2=>.ex c h2
 | _=>.bad
@[simp] def sFld (c i:Nat) (o:SE):SE:=fun en h=>(o en h).bind fun x h1=>match x with
 | .ref n=>match h1[n]? with
  | some (.ins c' fs)=>if c'=c then (match fs[i]? with | some (some v)=>.ok v h1 | _=>.bad) else .bad
  | _=>.bad
 | _=>.bad
@[simp] def ycg (c i:Nat) (o v:SE):SS:=fun en h=>(v en h).go en fun y h1=>(o en h1).go en fun x h2=>match x with
 | .ref n=>match h2[n]? with
  | some (.ins c' fs)=>if c'=c then .nx en (h2.set n (.ins c (fs.set i (some y)))) else .bad
  | _=>.bad
 | _=>.bad
@[simp] def yb1 (c:Nat) (as:SL):SS:=fun en h=>(as en h).go en fun xs h1=>if xs.length<=1000 then .ex c en h1 else .bad
@[simp] def keyOf? (v:AV):Option Key:=match v with
 | .int i=>some (.inl i)
 | .str x=>some (.inr x)
 | _=>none
@[simp] def keysOf? : List AV->Option (List Key)
 | []=>some []
 | v::r=>match keyOf? v,keysOf? r with
  | some k,some ks=>some (k::ks)
  | _,_=>none
@[simp] def ybY (t:Bool) (v:AV):Bool:=match t,v with
 | false,v=>(keyOf? v).isSome
 | true,.tup xs=>(keysOf? xs).isSome
 | true,_=>false
def valA (kvs:List (AV×AV)) (k:AV):Option AV:=(kvs.find? fun p=>decide (p.1=k)).map (·.2)
def putA (kvs:List (AV×AV)) (k v:AV):List (AV×AV) :=
 if kvs.any (fun p=>decide (p.1=k)) then kvs.map fun p=>if p.1=k then (p.1,v) else p else kvs++[(k,v)]
@[simp] def fIx:F2:=fun x y h=>match x,y with
 | .str z,.int i=>match atI z.cps.toList i with
  | some c=>.ok (.str ⟨#[c]⟩) h
  | none=>.bad
 | .tup xs,.int i=>match atI xs i with
  | some v=>.ok v h
  | none=>.bad
 | .fl xs,.int i=>match atI xs i with
  | some v=>.ok v h
  | none=>.bad
 | .ref n,y=>match h[n]? with
  | some (.lst xs)=>match y with
   | .int i=>match atI xs i with
    | some v=>.ok v h
    | none=>.bad
   | _=>.bad
  | some (.dct t kvs)=>if ybY t y then (match valA kvs y with | some v=>.ok v h | none=>.bad) else .bad
  | _=>.bad
 | _,_=>.bad
@[simp] def yd6 (o i v:SE):SS:=fun en h=>(v en h).go en fun z h1=>(o en h1).go en fun x h2=>(i en h2).go en fun y h3=>match x with
 | .ref n=>match h3[n]? with
  | some (.lst xs)=>match y with
   | .int k=>match ixN xs.length k with
    | some j=>.nx en (h3.set n (.lst (xs.set j z)))
    | none=>.bad
   | _=>.bad
  | some (.dct t kvs)=>if ybY t y=true/\kvs.length<sizeLine then .nx en (h3.set n (.dct t (putA kvs y z))) else .bad
  | _=>.bad
 | _=>.bad
@[simp] def inA (x y:AV) (h:AH):Option Bool:=match x,y with
 | .str i,.str j=>some (!(Builtin.Str.occurrences j i 0 j.length 1).isEmpty)
 | x,.ref n=>match h[n]? with
  | some (.dct t kvs)=>if ybY t x then some (valA kvs x).isSome else none
  | some (.lst xs)=>match toD 8 h x,toDs (toD 8 h) xs with
   | some d,some ds=>some (ds.any fun e=>PyData.eqv e d)
   | _,_=>none
  | _=>none
 | x,.fl xs=>match toD 8 h x,toDs (toD 8 h) xs with
  | some d,some ds=>some (ds.any fun e=>PyData.eqv e d)
  | _,_=>none
 | x,.tup xs=>match toD 8 h x,toDs (toD 8 h) xs with
  | some d,some ds=>some (ds.any fun e=>PyData.eqv e d)
  | _,_=>none
 | _,_=>none
@[simp] def fIn:F2:=fun x y h=>match inA x y h with
 | some b=>.ok (.bl b) h
 | none=>.bad
@[simp] def ye3:F2:=fun x y h=>match inA x y h with
 | some b=>.ok (.bl (!b)) h
 | none=>.bad
@[simp] def fLen:Fn:=fun args h=>match args with
 | [.str x]=>.ok (.int x.length) h
 | [.tup xs]=>.ok (.int xs.length) h
 | [.fl xs]=>.ok (.int xs.length) h
 | [.ref n]=>match h[n]? with
  | some (.lst xs)=>.ok (.int xs.length) h
  | some (.dct false kvs)=>.ok (.int kvs.length) h
  | _=>.bad
 | _=>.bad
@[simp] def fAbs:Fn:=fun args h=>match args with
 | [.int i]=>.ok (.int (if i<0 then -i else i)) h
 | _=>.bad
@[simp] def ybm:Fn:=fun args h=>match args with
 | [.int i,.int j]=>.ok (.int (if j > i then j else i)) h
 | _=>.bad
@[simp] def ycW:Fn:=fun args h=>match args with
 | [.int i,.int j]=>.ok (.int (if j<i then j else i)) h
 | _=>.bad
@[simp] def ych:List AV->Option (List Bool)
 | []=>some []
 | .bl b::r=>(ych r).map (b :: ·)
 | _::_=>none
@[simp] def fAll:Fn:=fun args h=>match args with
 | [.fl xs]=>match ych xs with
  | some bs=>.ok (.bl (bs.all id)) h
  | none=>.bad
 | _=>.bad
@[simp] def tyN (v:AV) (h:AH):Option String:=match v with
 | .non=>some "NoneType"
 | .bl _=>some "bool"
 | .int _=>some "int"
 | .str _=>some "str"
 | .tup _=>some "tuple"
 | .fl _=>some "list"
 | .ref n=>match h[n]? with
  | some (.lst _)=>some "list"
  | some (.dct _ _)=>some "dict"
  | _=>none
 | .exc _=>none
@[simp] def sIsB (t:String) (a:SE):SE:=fun en h=>(a en h).bind fun v h1=>match tyN v h1 with
 | some n=>.ok (.bl (n == t || (t == "int" && n == "bool"))) h1
 | none=>.bad
abbrev FM:=AV->List AV->AH->Out AV
@[simp] def yaV (v:AV) (h:AH):Bool:=(ybS v h).isSome
@[simp] def yci (v:AV) (_:AH):Bool:=match v with
 | .str _=>true
 | _=>false
@[simp] def sBM (chk:AV->AH->Bool) (f:FM) (o:SE) (as:SL):SE:=fun en h=>(o en h).bind fun x h1=>if chk x h1=true then (as en h1).bind fun xs h2=>f x xs h2 else .bad
@[simp] def ybk:FM:=fun x vs h=>match x,vs with
 | .ref n,[y]=>match h[n]? with
  | some (.lst xs)=>if xs.length<sizeLine then .ok .non (h.set n (.lst (xs++[y]))) else .bad
  | _=>.bad
 | _,_=>.bad
@[simp] def ybp:FM:=fun x vs h=>match x,vs with
 | .str z,[.str y]=>.ok (.int ((Builtin.Str.occurrences z y 0 z.length (z.length+1)).length:Nat)) h
 | _,_=>.bad
def cutA {α:Type} (xs:List α) (lo hi:Option Int):List α:=(xs.drop (HT.sIx xs.length 0 lo)).take (HT.sIx xs.length xs.length hi-HT.sIx xs.length 0 lo)
end Sm
namespace Sm
open PySem L2
structure CA (T:Tb) (E:St->XK) (X:Cx):Prop where
 hK:X.K=T.K
 pass:ydL (CXE X.prog X.w) X E
abbrev EN:St->XK:=fun _=>E0
theorem CA.nox {T:Tb} {E:St->XK} {X:Cx} (c:CA T E X):CA T EN X.nox:=⟨c.hK,fun _ _ _ _ _ _ _ h=>by
 obtain ⟨_,_,_,_,_,_,_,_,_,_,_,_,_,_,q⟩:=h
 exact q.elim⟩
theorem CA.never {T:Tb} {X:Cx} (hK:X.K=T.K):CA T EN X:=⟨hK,fun _ _ _ _ _ _ _ h=>by
 obtain ⟨_,_,_,_,_,_,_,_,_,_,_,_,_,_,q⟩:=h
 exact q.elim⟩
section
variable {T:Tb} {ι:Ix} {h:AH} {H:Hp}
theorem ybv {x:AV} {u:V} {xs:List AV} (S:Sim T ι h H) (r:RV T ι H x u) (e:ybS x h=some xs):∃ a us,u = .ref a/\SqL T.K H a us/\RVs T ι H xs us:=by
 unfold ybS at e
 cases r with
 | fl n q r=>cases e;exact ⟨_,_,rfl,.inl q,r⟩
 | kfl q r=>cases e;exact ⟨_,_,rfl,.inr q,r⟩
 | @ref k a q =>
  dsimp only at e
  split at e
  ·rename_i ys hk
   cases e
   obtain ⟨u,e1,us,rfl,r⟩:=S.obj k _ a hk q
   exact ⟨a,us,rfl,.inl (.inl e1),r⟩
  ·cases e
 | _=>cases e
theorem yc3 {u:V} {xs:List AV} (r:RV T ι H (.tup xs) u):∃ a us,u = .ref a/\SqT T.K H a us/\RVs T ι H xs us:=by
 cases r with
 | tup n q r=>exact ⟨_,_,rfl,.of q,r⟩
theorem ybh {u:V} {x:Str} (r:RV T ι H (.str x) u):u = .str x/\x.length<=sizeLine/\x.cps.all (· < 0x110000)=true:=by
 cases r with
 | str n o=>exact ⟨rfl,n,o⟩
theorem yaC {u:V} {i:Int} (r:RV T ι H (.int i) u):u = .int i:=by cases r;rfl
theorem ycj {u:V} {i:Bool} (r:RV T ι H (.bl i) u):u = .bl i:=by cases r;rfl
theorem ye4 {u:V} (r:RV T ι H .non u):u = .non:=by cases r;rfl
theorem yeC {us:List V} {xs:List AV} {p:Addr} {E:XK} {Q:VK} (S:Sim T ι h H) (r:RVs T ι H xs us) (n:H p=none) (q:Post T ι H E (RV T) (.ok (.fl xs) h) Q):Q (.ref p) (upd H p (.lst us)) :=
 q ι _ _ (S.growNew n) (S.new n) (.fl (S.fresh n) (.inl zas) (r.mono (S.growNew n)))
theorem zdh {us:List V} {xs:List AV} {p:Addr} {E:XK} {Q:VK} (S:Sim T ι h H) (r:RVs T ι H xs us) (n:H p=none) (q:Post T ι H E (RV T) (.ok (.tup xs) h) Q):Q (.ref p) (upd H p (.tup us)) :=
 q ι _ _ (S.growNew n) (S.new n) (.tup (S.fresh n) zas (r.mono (S.growNew n)))
theorem zfn {us:List V} {xs:List AV} {p:Addr} {E:XK} {Q:VK} (S:Sim T ι h H) (r:RVs T ι H xs us) (n:H p=none) (q:Post T ι H E (RV T) (.ok (.ref h.length) (h++[.lst xs])) Q):Q (.ref p) (upd H p (.lst us)) :=
 q _ _ _ (S.growAdd n) (S.add n ⟨us,rfl,r.mono (S.growAdd n)⟩) (.ref S.addAt)
end
section
variable {T:Tb} {E:St->XK} {X:Cx} {pos:Pos}
theorem yaa (i:Nat) {x:Str} {p:Pos} (hN:X.N[i]? = some x:=by rfl) (hv:Vis X.env.scope x:=by first | exact Or.inl rfl | exact Or.inr (Or.inl rfl) | exact Or.inr (Or.inr rfl)) (hd:(x == ("__debug__" : Str))=false:=by decide)
  (hcd:(x == ("__classdict__" : Str))=false:=by decide):PEA T E X (.Name x p) (sVar i) :=
 yaS (pv i hN hv hd hcd) fun σ H Q ⟨ι,h,en,S,er,q⟩=>by
  unfold sVar at q
  split at q
  ·rename_i v hv
   obtain ⟨u,e,r⟩:=er.2 i v hv
   exact ⟨u,e,q.now S r⟩
  ·exact q.elim
theorem yac {i j p}:PEA T E X (.Constant (.int i) j p) (sLit (.int i)):=yaS ygk fun σ H Q ⟨ι,h,en,S,er,q⟩=>q.now S (.int i)
theorem r_bl {i j p}:PEA T E X (.Constant (.bool i) j p) (sLit (.bl i)):=yaS yhv fun σ H Q ⟨ι,h,en,S,er,q⟩=>q.now S (.bl i)
theorem yaN {x j p} (n:x.length<=sizeLine:=by decide +kernel) (o:x.cps.all (· < 0x110000)=true:=by decide +kernel):PEA T E X (.Constant (.str x) j p) (sLit (.str x)):=yaS ygl fun σ H Q ⟨ι,h,en,S,er,q⟩=>q.now S (.str n o)
theorem ziL {x:Str} {i:Int} {t:Tok} {p:Pos} (hg:Gl X x) (hm:X.mg x=some (.int i t)) (hd:(x == ("__debug__" : Str))=false:=by decide):PEA T E X (.Name x p) (sLit (.int i)) :=
 yaS (zik (v:=.int i) hg hm ⟨t,rfl⟩ hd) fun σ H Q ⟨ι,h,en,S,er,q⟩=>q.now S (.int i)
def OpS (T:Tb) (f:F2) (r:R2):Prop:=∀ (ι:Ix) (h:AH) (H:Hp) (x y:AV) (u w:V) (E:XK) (Q:VK),Sim T ι h H->RV T ι H x u->RV T ι H y w->Post T ι H E (RV T) (f x y h) Q->r u w H Q
def Op (T:Tb) (X:Cx) (g:Value->Value->Sem Value) (f:F2):Prop:=∃ r,OpR X g r/\OpS T f r
variable {a b c:Expr} {sa sb sc:SE}
theorem two {f:F2} {r:R2} (hs:OpS T f r) {σ:St} {H:Hp} {Q:VK} (q:tE T E (sOp2 f sa sb) σ H Q):tOp r (tE T E sa) (tE T E sb) σ H Q:=by
 obtain ⟨ι,h,en,S,er,q⟩:=q
 refine ⟨ι,h,en,S,er,q.bind fun x h1 ι1 H1 u g1 S1 r1 q1=>⟨ι1,h1,en,S1,er.mono g1,q1.bind fun y h2 ι2 H2 w g2 S2 r2 q2=>?_⟩⟩
 exact hs ι2 h2 H2 x y u w _ Q S2 (r1.mono g2) r2 q2
theorem yai {op:Operator} {f:F2} (ho:Op T X (binaryOp op) f) (ha:PEA T E X a sa) (hb:PEA T E X b sb):PEA T E X (.BinOp a op b pos) (sOp2 f sa sb):=by
 obtain ⟨r,h1,h2⟩:=ho
 exact yaS (yhE h1 ha hb) fun σ H Q q=>two h2 q
theorem ziM {i j:Str} (hi:i.cps.all (· < 0x110000)=true) (hj:j.cps.all (· < 0x110000)=true):(i++j).cps.all (· < 0x110000)=true:=by
 show (i.cps++j.cps).all _=true
 rw [Array.all_append,hi,hj];rfl
theorem zeT (i j:Str):(i++j).length=i.length+j.length:=by
 show (i.cps++j.cps).size=_
 rw [Array.size_append];rfl
theorem yaG (hK:X.K=T.K):Op T X (binaryOp .Add) fAdd:=by
 refine ⟨_,op_add.or (zf2.or (ziy.or zfk)),fun ι h H x y u w E Q S rx ry p=>?_⟩
 unfold fAdd at p
 split at p
 ·rw [yaC rx,yaC ry]
  exact .inl ⟨_,_,rfl,rfl,p.now S (.int _)⟩
 ·split at p
  ·rename_i hz
   obtain ⟨rfl,_,o1⟩:=ybh rx
   obtain ⟨rfl,_,o2⟩:=ybh ry
   exact .inr (.inl ⟨_,_,rfl,rfl,hz,p.now S (.str (by rw [zeT];exact hz) (ziM o1 o2))⟩)
  ·exact p.elim
 ·split at p
  ·rename_i hz
   obtain ⟨a,us,rfl,q1,r1⟩:=yc3 rx
   obtain ⟨b,ws,rfl,q2,r2⟩:=yc3 ry
   refine .inr (.inr (.inl ⟨a,b,us,ws,rfl,rfl,hK▸q1,hK▸q2,fun z=>hz.1 ?_,by rw [<- r1.length,<- r2.length];exact hz.2,fun z=>?_,fun _ l n=>zdh S (r1.append r2) n p⟩))
   ·subst z;cases r1;rfl
   ·subst z;cases r2
    rw [List.append_nil] at p
    exact p.now S rx
  ·exact p.elim
 ·split at p
  ·split at p
   ·rename_i e1 e2 hz
    obtain ⟨a,us,rfl,q1,r1⟩:=ybv S rx e1
    obtain ⟨b,ws,rfl,q2,r2⟩:=ybv S ry e2
    exact .inr (.inr (.inr ⟨a,b,us,ws,rfl,rfl,hK▸q1,hK▸q2,by rw [<- r1.length,<- r2.length];exact hz,fun l n=>yeC S (r1.append r2) n p⟩))
   ·exact p.elim
  ·exact p.elim
theorem ybq:Op T X (binaryOp .Sub) fSub:=by
 refine ⟨_,ygx,fun ι h H x y u w E Q S rx ry p=>?_⟩
 unfold fSub at p
 split at p
 ·rw [yaC rx,yaC ry]
  exact ⟨_,_,rfl,rfl,p.now S (.int _)⟩
 ·exact p.elim
theorem zfo {i:Int} (h:i.natAbs<2 ^ 4000):Builtin.Int.intBits i<=2 ^ 20:=by
 unfold Builtin.Int.intBits
 split
 ·exact Nat.zero_le _
 ·rename_i hz
  have h0:i.natAbs≠0:=fun z=>hz (by simpa using z)
  have:i.natAbs.log2<4000:=(Nat.log2_lt h0).mpr h
  exact Nat.le_trans (by omega:i.natAbs.log2+1<=4001) (by decide)
theorem ybg:Op T X (binaryOp .Mult) fMul:=by
 refine ⟨_,zhH,fun ι h H x y u w E Q S rx ry p=>?_⟩
 unfold fMul at p
 split at p
 ·split at p
  ·rename_i hz
   rw [yaC rx,yaC ry]
   exact ⟨_,_,rfl,rfl,hz.elim (fun z=>CMul.ok (z.elim (fun z=>.inl ⟨by omega,by omega⟩) (fun z=>.inr ⟨by omega,by omega⟩))) (fun z=>.of_bits (zfo z.1) (zfo z.2)),p.now S (.int _)⟩
  ·exact p.elim
 ·exact p.elim
theorem yeV:Op T X (binaryOp .FloorDiv) fDiv:=by
 refine ⟨_,zhG,fun ι h H x y u w E Q S rx ry p=>?_⟩
 unfold fDiv at p
 split at p
 ·split at p
  ·rename_i hz
   rw [yaC rx,yaC ry]
   exact ⟨_,_,rfl,rfl,⟨hz.1,by omega⟩,p.now S (.int _)⟩
  ·exact p.elim
 ·exact p.elim
theorem ycX:Op T X (binaryOp .Mod) fMod:=by
 refine ⟨_,ygy,fun ι h H x y u w E Q S rx ry p=>?_⟩
 unfold fMod at p
 split at p
 ·split at p
  ·rename_i hz
   rw [yaC rx,yaC ry]
   exact ⟨_,_,rfl,rfl,hz,p.now S (.int _)⟩
  ·exact p.elim
 ·exact p.elim
theorem ycw:Op T X (binaryOp .Pow) fPow:=by
 refine ⟨_,ygz,fun ι h H x y u w E Q S rx ry p=>?_⟩
 unfold fPow at p
 split at p
 ·split at p
  ·rename_i hz
   rw [yaC rx,yaC ry]
   exact ⟨_,_,rfl,rfl,hz,p.now S (.int _)⟩
  ·exact p.elim
 ·exact p.elim
theorem yf2 (ha:PEA T E X a sa):PEA T E X (.UnaryOp .USub a pos) (sOp1 fNeg sa) :=
 yaS (yhF ygA ha) fun σ H Q ⟨ι,h,en,S,er,q⟩=>⟨ι,h,en,S,er,q.bind fun x h1 ι1 H1 u g1 S1 r1 q1=>by
  unfold fNeg at q1
  split at q1
  ·rw [yaC r1]
   exact ⟨_,rfl,q1.now S1 (.int _)⟩
  ·exact q1.elim⟩
theorem zgX {ds:List PyData} (h:∀ d∈ds,d.canLay0=true):PyData.canLayAll0 ds=true:=by
 induction ds with
 | nil=>rfl
 | cons d r ih=>show (d.canLay0 && PyData.canLayAll0 r)=true;rw [h d (by simp),ih fun e he=>h e (by simp [he])];rfl
theorem zeU {n:Nat} {ds:List PyData} (h:∀ d∈ds,d.depth<=n):PyData.depthAll ds<=n:=by
 induction ds with
 | nil=>exact Nat.zero_le _
 | cons d r ih=>show max d.depth (PyData.depthAll r)<=n;have:=h d (by simp);have:=ih fun e he=>h e (by simp [he]);omega
section
variable {ι:Ix} {h:AH} {H:Hp}
theorem zbw {f:AV->Option PyData} {n:Nat} (hf:∀ {x:AV} {u:V} {d:PyData},RV T ι H x u->f x=some d->DaV T.K H u d/\d.canLay0=true/\d.depth<=n) :
  ∀ {xs:List AV} {us:List V} {ds:List PyData},RVs T ι H xs us->toDs f xs=some ds->DaVs T.K H us ds/\∀ d∈ds,d.canLay0=true/\d.depth<=n
 | _,_,ds,.nil,e=>by cases e;exact ⟨.nil,by simp⟩
 | _,_,ds,.cons (x:=x) (xs:=xs) r rs,e=>by
  unfold toDs at e
  split at e
  ·rename_i d ds' e1 e2
   cases e
   obtain ⟨q1,q2⟩:=hf r e1
   obtain ⟨q3,q4⟩:=zbw hf rs e2
   refine ⟨.cons q1 q3,fun d hd=>?_⟩
   rcases List.mem_cons.mp hd with rfl | hd
   ·exact q2
   ·exact q4 d hd
  ·cases e
theorem ycC (S:Sim T ι h H):∀ (n:Nat) {x:AV} {u:V} {d:PyData},RV T ι H x u->toD n h x=some d->DaV T.K H u d/\d.canLay0=true/\d.depth<=n
 | 0,x,u,d,r,e=>by
  unfold toD at e
  cases r with
  | non=>cases e;exact ⟨.non,rfl,Nat.le_refl _⟩
  | bl b=>cases e;exact ⟨.bl b,rfl,Nat.le_refl _⟩
  | int b=>cases e;exact ⟨.int b,rfl,Nat.le_refl _⟩
  | str a b=>cases e;exact ⟨.str _,b,Nat.le_refl _⟩
  | _=>cases e
 | n+1,x,u,d,r,e=>by
  unfold toD at e
  have many:∀ {xs:List AV} {us:List V} {ds:List PyData},RVs T ι H xs us->toDs (toD n h) xs=some ds->DaVs T.K H us ds/\∀ d∈ds,d.canLay0=true/\d.depth<=n:=fun r e=>zbw (fun r e=>ycC S n r e) r e
  have fin:∀ {ds:List PyData},(∀ d∈ds,d.canLay0=true/\d.depth<=n)->PyData.canLayAll0 ds=true/\PyData.depthAll ds+1<=n+1:=fun q=>⟨zgX fun d hd=>(q d hd).1,Nat.succ_le_succ (zeU fun d hd=>(q d hd).2)⟩
  cases r with
  | non=>cases e;exact ⟨.non,rfl,Nat.zero_le _⟩
  | bl b=>cases e;exact ⟨.bl b,rfl,Nat.zero_le _⟩
  | int b=>cases e;exact ⟨.int b,rfl,Nat.zero_le _⟩
  | str a b=>cases e;exact ⟨.str _,b,Nat.zero_le _⟩
  | tup k q r =>
   obtain ⟨ds,e1,rfl⟩:=Option.map_eq_some_iff.mp e
   obtain ⟨q1,q2⟩:=many r e1
   exact ⟨.tup (.of q) q1,fin q2⟩
  | fl k q r =>
   obtain ⟨ds,e1,rfl⟩:=Option.map_eq_some_iff.mp e
   obtain ⟨q1,q2⟩:=many r e1
   exact ⟨.lst (.inl q) q1,fin q2⟩
  | kfl q r =>
   obtain ⟨ds,e1,rfl⟩:=Option.map_eq_some_iff.mp e
   obtain ⟨q1,q2⟩:=many r e1
   exact ⟨.lst (.inr q) q1,fin q2⟩
  | @ref k a q =>
   dsimp only at e
   split at e
   ·rename_i ys hk
    obtain ⟨ds,e1,rfl⟩:=Option.map_eq_some_iff.mp e
    obtain ⟨u,e2,us,rfl,r⟩:=S.obj k _ a hk q
    obtain ⟨q1,q2⟩:=many r e1
    exact ⟨.lst (.inl (.inl e2)) q1,fin q2⟩
   ·cases e
  | exc _ _ _=>cases e
end
theorem ygV {i j:Int}:decide (V.int i=V.int j)=decide (i=j):=by rw [Bool.eq_iff_iff];simp
theorem ygW {i j:Str}:decide (V.str i=V.str j)=decide (i=j):=by rw [Bool.eq_iff_iff];simp
theorem yhV {i j:Bool}:decide (V.bl i=V.bl j)=decide (i=j):=by rw [Bool.eq_iff_iff];simp
theorem zfp {r:R2} {neg:Bool} (ho:OpR X g r) (h1:∀ x y H Q,(scal x y=true/\Q (.bl (if neg then !decide (x=y) else decide (x=y))) H)->r x y H Q)
  (h2:∀ x y H Q,(∃ d e,DaV T.K H x d/\DaV T.K H y e/\d.canLay0=true/\e.canLay0=true/\d.depth<=60/\Q (.bl (if neg then !PyData.eqv d e else PyData.eqv d e)) H)->r x y H Q) :
  OpS T (fun x y h=>match eqA x y h with | some b=>.ok (.bl (if neg then !b else b)) h | none=>.bad) r:=by
 intro ι h H x y u w E Q S rx ry p
 dsimp only at p
 cases hb:eqA x y h with
 | none=>rw [hb] at p;exact p.elim
 | some b =>
  rw [hb] at p
  dsimp only at p
  unfold eqA at hb
  split at hb
  ·cases hb
   rw [yaC rx,yaC ry]
   exact h1 _ _ _ _ ⟨rfl,by rw [ygV];exact p.now S (.bl _)⟩
  ·cases hb
   obtain ⟨rfl,_⟩:=ybh rx
   obtain ⟨rfl,_⟩:=ybh ry
   exact h1 _ _ _ _ ⟨rfl,by rw [ygW];exact p.now S (.bl _)⟩
  ·cases hb
   rw [ycj rx,ycj ry]
   exact h1 _ _ _ _ ⟨rfl,by rw [yhV];exact p.now S (.bl _)⟩
  ·cases hb
   rw [ye4 rx,ye4 ry]
   exact h1 _ _ _ _ ⟨rfl,by rw [show decide (V.non=V.non)=true from rfl];exact p.now S (.bl _)⟩
  ·split at hb
   ·rename_i d e e1 e2
    cases hb
    obtain ⟨q1,q2,q3⟩:=ycC S 8 rx e1
    obtain ⟨q4,q5,q6⟩:=ycC S 8 ry e2
    exact h2 _ _ _ _ ⟨d,e,q1,q4,q2,q5,by omega,p.now S (.bl _)⟩
   ·cases hb
theorem o_eq (hK:X.K=T.K) (hu:X.A.units+64<cLine):Op T X (compareOp .Eq) fEq :=
 ⟨_,op_eq.or (yfy hu),zfp (neg:=false) (op_eq.or (yfy hu)) (fun _ _ _ _ q=>.inl q) fun _ _ _ _ q=>.inr (hK▸q)⟩
theorem o_ne (hK:X.K=T.K) (hu:X.A.units+64<cLine):Op T X (compareOp .NotEq) fNe :=
 ⟨_,op_ne.or (yfz hu),zfp (neg:=true) (op_ne.or (yfz hu)) (fun _ _ _ _ q=>.inl q) fun _ _ _ _ q=>.inr (hK▸q)⟩
theorem o_lt:Op T X (compareOp .Lt) fLt:=by
 refine ⟨_,op_lt.or zgA,fun ι h H x y u w E Q S rx ry p=>?_⟩
 unfold fLt at p
 split at p
 ·rw [yaC rx,yaC ry]
  exact .inl ⟨_,_,rfl,rfl,p.now S (.bl _)⟩
 ·obtain ⟨rfl,_⟩:=ybh rx
  obtain ⟨rfl,_⟩:=ybh ry
  exact .inr ⟨_,_,rfl,rfl,p.now S (.bl _)⟩
 ·exact p.elim
theorem o_le:Op T X (compareOp .LtE) fLe:=by
 refine ⟨_,op_le.or zgQ,fun ι h H x y u w E Q S rx ry p=>?_⟩
 unfold fLe at p
 split at p
 ·rw [yaC rx,yaC ry]
  exact .inl ⟨_,_,rfl,rfl,p.now S (.bl _)⟩
 ·obtain ⟨rfl,_⟩:=ybh rx
  obtain ⟨rfl,_⟩:=ybh ry
  exact .inr ⟨_,_,rfl,rfl,p.now S (.bl _)⟩
 ·exact p.elim
theorem o_gt:Op T X (compareOp .Gt) fGt:=by
 refine ⟨_,yhG,fun ι h H x y u w E Q S rx ry p=>?_⟩
 unfold fGt at p
 split at p
 ·rw [yaC rx,yaC ry]
  exact ⟨_,_,rfl,rfl,p.now S (.bl _)⟩
 ·exact p.elim
theorem o_ge:Op T X (compareOp .GtE) fGe:=by
 refine ⟨_,yhH,fun ι h H x y u w E Q S rx ry p=>?_⟩
 unfold fGe at p
 split at p
 ·rw [yaC rx,yaC ry]
  exact ⟨_,_,rfl,rfl,p.now S (.bl _)⟩
 ·exact p.elim
theorem yej {op:CmpOp} {f:F2} (ho:Op T X (compareOp op) f) (ha:PEA T E X a sa) (hb:PEA T E X b sb) (hm:behindInMarks op b=false):PEA T E X (.Compare a [op] [b] pos) (sOp2 f sa sb):=by
 obtain ⟨r,h1,h2⟩:=ho
 exact yaS (zir h1 ha hb hm) fun σ H Q q=>two h2 q
theorem yap {op:CmpOp} {f:F2} (ho:Op T X (compareOp op) f) (ha:PEA T E X a sa) (hb:PEA T E X b sb) (hm:behindInMarks op b=false):PTA T E X (.Compare a [op] [b] pos) (yaj (sOp2 f sa sb)):=by
 obtain ⟨r,h1,h2⟩:=ho
 refine yd5 (zis h1 ha hb hm) fun σ H Q q=>two (E:=E) (Q:=fun x H' => ∃ k,x=V.bl k/\Q k H') h2 ?_
 obtain ⟨ι,h,en,S,er,q⟩:=q
 refine ⟨ι,h,en,S,er,q.bind fun x h1 ι1 H1 u g1 S1 r1 q1=>?_⟩
 split at q1
 ·rw [ycj r1]
  exact ⟨_,rfl,q1.now S1 rfl⟩
 ·exact q1.elim
theorem yf3 {f f':F2} {r r':R2} (hs:OpS T f r) (hs':OpS T f' r') {σ:St} {H:Hp} {Q:VK} (q:tE T E (ybN f f' sa sb sc) σ H Q):ye2 r r' (tE T E sa) (tE T E sb) (tE T E sc) σ H Q:=by
 obtain ⟨ι,h,en,S,er,q⟩:=q
 refine ⟨ι,h,en,S,er,q.bind fun x h1 ι1 H1 u g1 S1 r1 q1=>⟨ι1,h1,en,S1,er.mono g1,q1.bind fun y h2 ι2 H2 w g2 S2 r2 q2=>?_⟩⟩
 refine hs ι2 h2 H2 x y u w (E σ) _ S2 (r1.mono g2) r2 (q2.bind fun z h3 ι3 H3 k g3 S3 r3 q3=>?_)
 split at q3
 ·rename_i kk
  rw [ycj r3]
  refine ⟨kk,rfl,?_⟩
  by_cases hkk:kk=true
  ·rw [if_pos hkk] at q3 ⊢
   refine ⟨ι3,h3,en,S3,er.mono (g1.trans (g2.trans g3)),q3.bind fun v h4 ι4 H4 j g4 S4 r4 q4=>?_⟩
   exact hs' ι4 h4 H4 y v w j _ Q S4 (r2.mono (g3.trans g4)) r4 q4
  ·rw [if_neg hkk] at q3 ⊢
   exact q3.now S3 (.bl _)
 ·exact q3.elim
theorem zdi {op op':CmpOp} {f f':F2} (ho:Op T X (compareOp op) f) (ho':Op T X (compareOp op') f') (ha:PEA T E X a sa) (hb:PEA T E X b sb) (hc:PEA T E X c sc) (hm:lastMarks [op,op'] [b,c]=false:=by with_unfolding_all rfl) :
  PEA T E X (.Compare a [op,op'] [b,c] pos) (ybN f f' sa sb sc):=by
 obtain ⟨r,h1,h2⟩:=ho
 obtain ⟨r',h1',h2'⟩:=ho'
 exact yaS (zho h1 h1' ha hb hc hm) fun σ H Q q=>yf3 h2 h2' q
theorem zbf {op op':CmpOp} {f f':F2} (ho:Op T X (compareOp op) f) (ho':Op T X (compareOp op') f') (ha:PEA T E X a sa) (hb:PEA T E X b sb) (hc:PEA T E X c sc) (hm:lastMarks [op,op'] [b,c]=false:=by with_unfolding_all rfl) :
  PTA T E X (.Compare a [op,op'] [b,c] pos) (yaj (ybN f f' sa sb sc)):=by
 obtain ⟨r,h1,h2⟩:=ho
 obtain ⟨r',h1',h2'⟩:=ho'
 refine yd5 (zhp h1 h1' ha hb hc hm) fun σ H Q q=>yf3 (E:=E) (Q:=fun x H' => ∃ k,x=V.bl k/\Q k H') h2 h2' ?_
 obtain ⟨ι,h,en,S,er,q⟩:=q
 refine ⟨ι,h,en,S,er,q.bind fun x h1 ι1 H1 u g1 S1 r1 q1=>?_⟩
 split at q1
 ·rw [ycj r1]
  exact ⟨_,rfl,q1.now S1 rfl⟩
 ·exact q1.elim
theorem ygX {ι:Ix} {h:AH} {H:Hp} {v:AV} {u:V} {k:Bool} (S:Sim T ι h H) (r:RV T ι H v u) (e:truA v h=some k):TruV T.K u H k:=by
 unfold truA at e
 cases r with
 | non=>cases e;rfl
 | bl b=>cases e;rfl
 | int b=>cases e;rfl
 | str n o=>cases e;exact ⟨n,rfl⟩
 | tup n q r=>cases e;exact .inr (.inl ⟨_,.of q,by cases r<;>rfl⟩)
 | fl n q r=>cases e;exact .inl ⟨_,.inl q,by cases r<;>rfl⟩
 | kfl q r=>cases e;exact .inl ⟨_,.inr q,by cases r<;>rfl⟩
 | @ref n a q =>
  dsimp only at e
  split at e
  ·rename_i xs hk
   cases e
   obtain ⟨u,e1,us,rfl,r⟩:=S.obj n _ a hk q
   exact .inl ⟨us,.inl (.inl e1),by cases r<;>rfl⟩
  ·rename_i xs hk
   cases e
   obtain ⟨u,e1,us,rfl,r⟩:=S.obj n _ a hk q
   exact .inr (.inr ⟨us,e1,by cases r<;>rfl⟩)
  ·cases e
 | exc _ _ _=>cases e
theorem zaL (hK:X.K=T.K) (ha:PEA T E X a sa) (he:∀ whole,isTrue a X.env whole=(do let v <- whole;standAt a.pos;holding [v] (truthy v)):=by intro _;rfl):PTA T E X a (ydb sa) :=
 yd5 (zhq ha he) fun σ H Q ⟨ι,h,en,S,er,q⟩=>⟨ι,h,en,S,er,q.bind fun x h1 ι1 H1 u g1 S1 r1 q1=>by
  split at q1
  ·rename_i b hb
   exact ⟨b,hK▸ygX S1 r1 hb,q1.now S1 rfl⟩
  ·exact q1.elim⟩
variable {ca cb:SB} {rest:List Expr}
theorem yc4 (ha:PTA T E X a ca):PTA T E X (.UnaryOp .Not a pos) (sNot ca) :=
 yd5 (ygo ha) fun σ H Q ⟨ι,h,en,S,er,q⟩=>⟨ι,h,en,S,er,q.bind fun x h1 ι1 H1 u g1 S1 r1 q1=>by subst r1;exact q1.now S1 rfl⟩
theorem rt_w (h:PWA T E X a ca):PTA T E X a ca:=PW.pt h
theorem zdj (ha:PTA T E X a ca):PWA T E X (.BoolOp .And [a] pos) ca:=zim ha
theorem yeD (ha:PTA T E X a ca):PWA T E X (.BoolOp .Or [a] pos) ca:=ygm ha
theorem ydk (ha:PTA T E X a ca) (hb:PWA T E X (.BoolOp .And (b::rest) pos) cb):PWA T E X (.BoolOp .And (a::b::rest) pos) (sAnd ca cb) :=
 yfA (ygn ha hb) fun σ H Q ⟨ι,h,en,S,er,q⟩=>⟨ι,h,en,S,er,q.bind fun x h1 ι1 H1 u g1 S1 r1 q1=>by
  subst r1
  by_cases hx:x=true
  ·rw [if_pos hx] at q1 ⊢
   exact ⟨ι1,h1,en,S1,er.mono g1,q1⟩
  ·rw [if_neg hx] at q1 ⊢
   exact q1.now S1 rfl⟩
theorem yeE (ha:PTA T E X a ca) (hb:PWA T E X (.BoolOp .Or (b::rest) pos) cb):PWA T E X (.BoolOp .Or (a::b::rest) pos) (sOr ca cb) :=
 yfA (yhw ha hb) fun σ H Q ⟨ι,h,en,S,er,q⟩=>⟨ι,h,en,S,er,q.bind fun x h1 ι1 H1 u g1 S1 r1 q1=>by
  subst r1
  by_cases hx:x=true
  ·rw [if_pos hx] at q1 ⊢
   exact q1.now S1 rfl
  ·rw [if_neg hx] at q1 ⊢
   exact ⟨ι1,h1,en,S1,er.mono g1,q1⟩⟩
theorem yeF {op} (h:PEA T E X a sa):PEA T E X (.BoolOp op [a] pos) sa:=ygp h
theorem yeW (ha:PEA T E X a sa) (hb:PEA T E X (.BoolOp .And (b::rest) pos) sb):PEA T E X (.BoolOp .And (a::b::rest) pos) (yeA sa sb) :=
 yaS (ygq ha hb) fun σ H Q ⟨ι,h,en,S,er,q⟩=>⟨ι,h,en,S,er,q.bind fun x h1 ι1 H1 u g1 S1 r1 q1=>by
  split at q1
  ·rename_i kk
   rw [ycj r1]
   refine ⟨kk,rfl,?_⟩
   by_cases hkk:kk=true
   ·rw [if_pos hkk] at q1 ⊢
    exact ⟨ι1,h1,en,S1,er.mono g1,q1⟩
   ·rw [if_neg hkk] at q1 ⊢
    exact q1.now S1 (.bl _)
  ·exact q1.elim⟩
theorem r_or (ha:PEA T E X a sa) (hb:PEA T E X (.BoolOp .Or (b::rest) pos) sb):PEA T E X (.BoolOp .Or (a::b::rest) pos) (sOrV sa sb) :=
 yaS (yhz ha hb) fun σ H Q ⟨ι,h,en,S,er,q⟩=>⟨ι,h,en,S,er,q.bind fun x h1 ι1 H1 u g1 S1 r1 q1=>by
  split at q1
  ·rename_i kk
   rw [ycj r1]
   refine ⟨kk,rfl,?_⟩
   by_cases hkk:kk=true
   ·rw [if_pos hkk] at q1 ⊢
    exact q1.now S1 (.bl _)
   ·rw [if_neg hkk] at q1 ⊢
    exact ⟨ι1,h1,en,S1,er.mono g1,q1⟩
  ·exact q1.elim⟩
theorem yhW (ha:PEA T E X a sa):PEA T E X (.UnaryOp .Not a pos) (yf1 sa) :=
 yaS (ygr ha) fun σ H Q ⟨ι,h,en,S,er,q⟩=>⟨ι,h,en,S,er,q.bind fun x h1 ι1 H1 u g1 S1 r1 q1=>by
  split at q1
  ·rw [ycj r1]
   exact ⟨_,rfl,q1.now S1 (.bl _)⟩
  ·exact q1.elim⟩
variable {es:List Expr} {as:SL}
theorem yab:PAA T E X [] sNil:=yfB yft fun σ H Q ⟨ι,h,en,S,er,q⟩=>q.now S .nil
theorem zaa (ha:PEA T E X a sa) (hr:PAA T E X es as) (hs:starEach (a::es) X.env=(false,eval a X.env)::starEach es X.env:=by rfl):PAA T E X (a::es) (sCons sa as) :=
 yfB (zdd ha hr hs) fun σ H Q ⟨ι,h,en,S,er,q⟩=>⟨ι,h,en,S,er,q.bind fun x h1 ι1 H1 u g1 S1 r1 q1=>⟨ι1,h1,en,S1,er.mono g1,q1.bind fun xs h2 ι2 H2 us g2 S2 r2 q2=>q2.now S2 (.cons (r1.mono g2) r2)⟩⟩
theorem yba {k} (h:PAA T E X es as):PEA T E X (.Tuple es k pos) (sTup as) :=
 yaS (ygE h) fun σ H Q ⟨ι,h,en,S,er,q⟩=>⟨ι,h,en,S,er,q.bind fun xs h1 ι1 H1 us g1 S1 r1 q1=>by
  split at q1
  ·rename_i hl
   exact ⟨by rw [<- r1.length];exact Nat.le_trans hl (by decide),fun p n=>zdh S1 r1 n q1⟩
  ·exact q1.elim⟩
theorem ycx (h:PAA T E X es as):PEA T E X (.List es pos) (sLst as) :=
 yaS (yfu h) fun σ H Q ⟨ι,h,en,S,er,q⟩=>⟨ι,h,en,S,er,q.bind fun xs h1 ι1 H1 us g1 S1 r1 q1=>by
  split at q1
  ·rename_i hl
   exact ⟨by rw [<- r1.length];exact Nat.le_trans hl (by decide),fun p n=>yeC S1 r1 n q1⟩
  ·exact q1.elim⟩
theorem ybi (h:PAA T E X es as):PEA T E X (.List es pos) (yby as) :=
 yaS (yfu h) fun σ H Q ⟨ι,h,en,S,er,q⟩=>⟨ι,h,en,S,er,q.bind fun xs h1 ι1 H1 us g1 S1 r1 q1=>by
  split at q1
  ·rename_i hl
   exact ⟨by rw [<- r1.length];exact Nat.le_trans hl (by decide),fun p n=>zfn S1 r1 n q1⟩
  ·exact q1.elim⟩
theorem ziN:PEA T E X (.Dict [] [] pos) (yeT false) :=
 yaS zhA fun σ H Q ⟨ι,h,en,S,er,q⟩ p n=>q _ _ _ (S.growAdd n) (S.add n ⟨[],rfl,.nil⟩) (.ref S.addAt)
theorem ziO:PEA T E X (.Dict [] [] pos) (yeT true) :=
 yaS zhB fun σ H Q ⟨ι,h,en,S,er,q⟩ p n=>q _ _ _ (S.growAdd n) (S.add n ⟨[],rfl,.nil⟩) (.ref S.addAt)
end
end Sm
namespace Sm
open PySem L2
section
variable {T:Tb} {E:St->XK} {X:Cx} {pos:Pos} {a b:Expr} {sa sb:SE} {ca:SB} {st:Stmt} {sts ss1 ss2:List Stmt} {s1 s2:SS}
theorem yaq:PSsA T E X [] yat:=zfm zin fun D σ H ⟨ι,h,en,S,er,q⟩=>q ι H σ S.refl S er
theorem zab (h1:PSA T E X st s1) (h2:PSsA T E X sts s2):PSsA T E X (st::sts) (sSeq s1 s2) :=
 zfm (zhl h1 h2) fun D σ H ⟨ι,h,en,S,er,q⟩=>by
  refine ⟨ι,h,en,S,er,?_⟩
  unfold sSeq at q
  cases e:s1 en h with
  | nx e1 h1 =>
   rw [e] at q
   exact fun ι' H' σ' g S' er' => ⟨ι',h1,e1,S',er',q.shift g⟩
  | rt v h1=>rw [e] at q;exact q
  | bk e1 h1=>rw [e] at q;exact q
  | ct e1 h1=>rw [e] at q;exact q
  | ex c e1 h1=>rw [e] at q;exact q
  | bad=>rw [e] at q;exact q
theorem yae (h1:PSA T E X st s1):PSsA T E X [st] s1:=zio h1
theorem yaF (ha:PEA T E X a sa) (hs:swapsWith a none pos.line X.env=pure false:=by rfl):PSA T E X (.Expr a pos) (yaJ sa) :=
 yb9 (ziq ha hs) fun D σ H ⟨ι,h,en,S,er,q⟩=>⟨ι,h,en,S,er,q.go er fun v h1 ι1 H1 u g1 S1 r1 q1=>q1 ι1 H1 σ S1.refl S1 (er.mono g1)⟩
theorem yan (ha:PEA T E X a sa):PSA T E X (.Return (some a) pos) (sRet sa) :=
 yb9 (ygs ha) fun D σ H ⟨ι,h,en,S,er,q⟩=>⟨ι,h,en,S,er,q.go er fun v h1 ι1 H1 u g1 S1 r1 q1=>q1 ι1 H1 u S1.refl S1 r1⟩
theorem r_if (hc:PTA T E X a ca) (h1:PSsA T E X ss1 s1) (h2:PSsA T E X ss2 s2):PSA T E X (.If a ss1 ss2 pos) (sIf ca s1 s2) :=
 yb9 (yhC hc h1 h2) fun D σ H ⟨ι,h,en,S,er,q⟩=>⟨ι,h,en,S,er,q.go er fun x h1 ι1 H1 u g1 S1 r1 q1=>by
  subst r1
  by_cases hx:x=true
  ·rw [if_pos hx] at q1 ⊢
   exact ⟨ι1,h1,en,S1,er.mono g1,q1⟩
  ·rw [if_neg hx] at q1 ⊢
   exact ⟨ι1,h1,en,S1,er.mono g1,q1⟩⟩
theorem yfD {σ:St} {H:Hp} {D:Ends} {i:Nat} (q:tS T E (sSet i sa) D σ H):tAsg (tE T E sa) (yeg i) D σ H:=by
 obtain ⟨ι,h,en,S,er,q⟩:=q
 exact ⟨ι,h,en,S,er,q.go er fun v h1 ι1 H1 u g1 S1 r1 q1=>q1 ι1 H1 _ S1.refl S1 ((er.mono g1).set r1 i)⟩
theorem yak {i:Nat} {x:Str} {p':Pos} (hN:X.N.Nodup) (ha:PEA T E X a sa) (hi:X.N[i]? = some x:=by rfl) (hx:Loc X.env.scope x:=by first | exact Or.inl rfl | exact Or.inr rfl) (hs:swapsWith a (some (.Name x p')) pos.line X.env=pure false:=by rfl)
  (hf:X.fn x=true\/X.env.scope.names.lookup x=some .local:=by first | exact .inl rfl | exact .inr rfl | assumption):PSA T E X (.Assign [.Name x p'] a pos) (sSet i sa) :=
 yb9 (ygu hN hi hx ha hs hf) fun D σ H q=>yfD q
theorem zfq (n:Nat) (hc:PTA T EN X.nox a ca) (hb:PSsA T EN X.nox sts s1):PSA T E X (.While a sts [] pos) (ybF ca s1 n) :=
 yb9 (yfC (zhm PassesOwn.never hc hb)) fun D σ H ⟨ι,h,en,S,er,q⟩=>by
  refine ⟨fun m σ H=>∃ ι h en,Sim T ι h H/\ER T ι H en σ/\PostS T ι H E (ybF ca s1 m en h) D,⟨n,ι,h,en,S,er,q⟩,?_⟩
  rintro m σ H ⟨ι,h,en,S,er,q⟩
  cases m with
  | zero=>exact (show False from q).elim
  | succ m =>
   unfold ybF at q
   refine ⟨ι,h,en,S,er,?_⟩
   cases e:ca en h with
   | bad=>rw [e] at q;exact q
   | ex c h1=>rw [e] at q;exact (show False from q).elim
   | ok x h1 =>
    rw [e] at q
    intro ι1 H1 u g1 S1 r1
    subst r1
    have q1:=PostS.shift q g1
    cases x with
    | true =>
     rw [if_pos rfl]
     refine ⟨fun σ H=>∃ ι h en,Sim T ι h H/\ER T ι H en σ/\PostS T ι H E (ybF ca s1 m en h) D,fun σ' H' w=>⟨m,Nat.lt_succ_self m,w⟩,ι1,h1,en,S1,er.mono g1,?_⟩
     dsimp only at q1
     cases e2:s1 en h1 with
     | nx e3 h3=>rw [e2] at q1;exact fun ι2 H2 σ2 g2 S2 er2=>⟨ι2,h3,e3,S2,er2,q1.shift g2⟩
     | ct e3 h3=>rw [e2] at q1;exact fun ι2 H2 σ2 g2 S2 er2=>⟨ι2,h3,e3,S2,er2,q1.shift g2⟩
     | bk e3 h3=>rw [e2] at q1;exact q1
     | rt v h3=>rw [e2] at q1;exact q1
     | ex c e3 h3=>rw [e2] at q1;exact (show False from q1).elim
     | bad=>rw [e2] at q1;exact q1
    | false =>
     rw [if_neg Bool.false_ne_true]
     exact q1 ι1 H1 σ S1.refl S1 (er.mono g1)
theorem zdL {ι:Ix} {H:Hp}:∀ {is:List Nat} {xs:List AV} {us:List V} {en e:En} {σ:St},RVs T ι H xs us->ER T ι H en σ->yeB is xs en=some e->ER T ι H e ((is.zip us).foldl (fun σ p=>σ.set p.1 (some p.2)) σ)/\us.length=is.length
 | [],_,_,en,e,σ,.nil,er,q=>by cases q;exact ⟨er,rfl⟩
 | i::is,_,_,en,e,σ,.cons r rs,er,q=>by
  obtain ⟨h1,h2⟩:=zdL (is:=is) rs (er.set r i) q
  exact ⟨h1,by simp [h2]⟩
 | [],_,_,en,e,σ,.cons r rs,er,q=>by cases q
 | i::is,_,_,en,e,σ,.nil,er,q=>by cases q
def PGA (T:Tb) (X:Cx) (tg:Expr) (t:Tg):Prop:=∃ g,PG X tg g/\∀ {ι:Ix} {h:AH} {H:Hp} {en e:En} {σ:St} {v:AV} {u:V} {Q:St->Hp->Prop},Sim T ι h H->ER T ι H en σ->RV T ι H v u->setT t v en=some e ->
 (∀ σ',ER T ι H e σ'->Q σ' H)->g u σ H Q
theorem zcg {i:Nat} {x:Str} (hN:X.N.Nodup) (hi:X.N[i]? = some x:=by rfl) (hx:Loc X.env.scope x:=by first | exact Or.inl rfl | exact Or.inr rfl) (hf:X.fn x=true\/X.env.scope.names.lookup x=some .local:=by first | exact .inl rfl | exact .inr rfl | assumption) :
  PGA T X (.Name x pos) (.nm i):=⟨_,zcd hN hi hx hf,fun S er r e k=>by cases e;exact k _ (er.set r i)⟩
def PGsA (X:Cx) (es:List Expr) (is:List Nat):Prop:=PGs X es (fun vs σ H Q=>vs.length=is.length/\Q ((is.zip vs).foldl (fun σ p=>σ.set p.1 (some p.2)) σ) H)
theorem zfr {X:Cx} {es:List Expr} {t t':TGs} (h:PGs X es t) (k:∀ vs σ H Q,t' vs σ H Q->t vs σ H Q):PGs X es t' := fun pins s σ H vs us Q I r q=>h pins s σ H vs us Q I r (k vs σ H Q q)
theorem zaD:PGsA X [] []:=zfr zfb fun vs σ H Q ⟨l,q⟩=>by
 cases vs with
 | nil=>exact ⟨rfl,q⟩
 | cons=>cases l
theorem zaj {i:Nat} {is:List Nat} {x:Str} {p:Pos} {es:List Expr} (hN:X.N.Nodup) (hr:PGsA X es is) (hi:X.N[i]? = some x:=by rfl) (hx:Loc X.env.scope x:=by first | exact Or.inl rfl | exact Or.inr rfl)
  (hf:X.fn x=true\/X.env.scope.names.lookup x=some .local:=by first | exact .inl rfl | exact .inr rfl | assumption) (hs:(assignEach (.Name x p::es) X.env).map (·.2)=assign (.Name x p) X.env::(assignEach es X.env).map (·.2):=by rfl):PGsA X (.Name x p::es) (i::is) :=
 zfr (zcG (zcd hN hi hx hf) hr hs) fun vs σ H Q ⟨l,q⟩=>by
  cases vs with
  | nil=>cases l
  | cons v r=>exact ⟨v,r,rfl,Nat.succ.inj l,q⟩
theorem yb2 {es:List Expr} {is:List Nat} {k:Nat} (hK:X.K=T.K) (hc:X.calm=true) (h:PGsA X es is) (hn:(assignEach es X.env).length=is.length:=by rfl) (hst:(assignEach es X.env).findIdx? (·.1)=none:=by rfl):PGA T X (.Tuple es k pos) (.tup is) :=
 ⟨_,yfp hc h hn hst,fun {ι h H en e σ v u Q} S er r q k=>by
  unfold setT at q
  split at q
  ·rename_i hh;cases hh
  ·rename_i hh
   cases hh
   obtain ⟨a,us,rfl,q1,r1⟩:=yc3 r
   obtain ⟨h1,h2⟩:=zdL r1 er q
   exact ⟨a,us,rfl,hK▸q1,h2,h2,k _ h1⟩
  ·rename_i hh;cases hh
  ·cases q⟩
theorem ydl {tg:Expr} {t:Tg} (ha:PEA T E X a sa) (hg:PGA T X tg t) (hs:swapsWithSole [tg] a pos.line X.env=pure false:=by rfl) (hw:swappedStores [tg] a X.env=pure none:=by rfl)
  (h1:(assignEach [tg] X.env).map (·.2)=[assign tg X.env]:=by rfl):PSA T E X (.Assign [tg] a pos) (ydv t sa):=by
 obtain ⟨g,hg1,hg2⟩:=hg
 refine yb9 (yfq ha hg1 hs hw h1) fun D σ H ⟨ι,h,en,S,er,q⟩=>⟨ι,h,en,S,er,q.go er fun v h1 ι1 H1 u g1 S1 r1 q1=>?_⟩
 split at q1
 ·rename_i e he
  exact hg2 S1 (er.mono g1) r1 he fun σ' er' => q1 ι1 H1 σ' S1.refl S1 er'
 ·exact q1.elim
structure ItR (T:Tb) (J:It) (ι:Ix) (H:Hp) (xs:List AV) (w:Option Nat):Prop where
 go:∀ (i:Nat) (ι':Ix) (h':AH) (H':Hp) (x:AV),Ext ι H ι' H'->Sim T ι' h' H'->ybz w xs h'=true->xs[i]? = some x->J.go i H'/\∀ u H2,J.yld i H' u H2->Grow ι' H' ι' H2/\Sim T ι' h' H2/\RV T ι' H2 x u
 stop:∀ (i:Nat) (ι':Ix) (h':AH) (H':Hp),Ext ι H ι' H'->Sim T ι' h' H'->ybz w xs h'=true->xs.length<=i->J.stop i H'
def tI (T:Tb) (it:SI):TI:=fun σ H R=>∃ ι h en,Sim T ι h H/\ER T ι H en σ/\match it en h with
 | .ok (xs,w) h' => ∀ ι' H' J,Grow ι H ι' H'->Sim T ι' h' H'->ItR T J ι' H' xs w->R J H'
 | _=>False
abbrev PIA (T:Tb) (X:Cx) (tg iter:Expr) (it:SI):Prop:=PI X tg iter (tI T it)
theorem yd7 {X:Cx} {tg iter:Expr} {t t':TI} (h:PI X tg iter t) (k:∀ σ H R,t' σ H R->t σ H R):PI X tg iter t' := fun pins s σ H R I q=>h pins s σ H R I (k σ H R q)
theorem PI.or {X:Cx} {tg iter:Expr} {t t':TI} (h:PI X tg iter t) (h':PI X tg iter t'):PI X tg iter (fun σ H R=>t σ H R\/t' σ H R):=fun pins s σ H R I q=>q.elim (h pins s σ H R I) (h' pins s σ H R I)
theorem yfE {ι:Ix} {H:Hp} {a:Addr} {us:List V} {xs:List AV} {K:PySem.W.Frag} (keep:∀ (ι':Ix) (H':Hp),Ext ι H ι' H'->SqL K H' a us) (r:RVs T ι H xs us):ItR T (Itl K a) ι H xs none:=by
 constructor
 ·intro i ι' h' H' x g S _ e
  obtain ⟨u,e1,r1⟩:=(r.ext g).get e
  refine ⟨⟨us,u,keep ι' H' g,e1⟩,?_⟩
  rintro u2 H2 ⟨rfl,y⟩
  have z:=y us (keep ι' _ g)
  rw [e1] at z;cases z
  exact ⟨S.refl,S,r1⟩
 ·intro i ι' h' H' g S _ hl
  exact ⟨us,keep ι' H' g,by rw [<- r.length];exact hl⟩
theorem ygY {ι:Ix} {H:Hp} {a:Addr} {us:List V} {xs:List AV} {K:PySem.W.Frag} (keep:∀ (ι':Ix) (H':Hp),Ext ι H ι' H'->SqT K H' a us) (r:RVs T ι H xs us):ItR T (Itt K a) ι H xs none:=by
 constructor
 ·intro i ι' h' H' x g S _ e
  obtain ⟨u,e1,r1⟩:=(r.ext g).get e
  refine ⟨⟨us,u,keep ι' H' g,e1⟩,?_⟩
  rintro u2 H2 ⟨rfl,y⟩
  have z:=y us (keep ι' _ g)
  rw [e1] at z;cases z
  exact ⟨S.refl,S,r1⟩
 ·intro i ι' h' H' g S _ hl
  exact ⟨us,keep ι' H' g,by rw [<- r.length];exact hl⟩
theorem ziP {ι:Ix} {H:Hp} {a:Addr} {n:Nat} {xs:List AV} {K:PySem.W.Frag} (e:ι.refs[n]? = some a):ItR T (Itl K a) ι H xs (some n):=by
 have at_:∀ {ι':Ix} {h':AH} {H':Hp},Ext ι H ι' H'->Sim T ι' h' H'->ybz (some n) xs h'=true->∃ us,H' a=some (.lst us)/\RVs T ι' H' xs us:=fun {ι' h' H'} g S l=>by
  unfold ybz at l
  dsimp only at l
  split at l
  ·rename_i ys hy
   have z:=of_decide_eq_true l
   subst z
   obtain ⟨u,e1,us,rfl,r⟩:=S.obj n _ a hy (g.at_ e)
   exact ⟨us,e1,r⟩
  ·cases l
 constructor
 ·intro i ι' h' H' x g S l e
  obtain ⟨us,e0,r⟩:=at_ g S l
  obtain ⟨u,e1,r1⟩:=r.get e
  refine ⟨⟨us,u,.of e0,e1⟩,?_⟩
  rintro u2 H2 ⟨rfl,y⟩
  have z:=y us (.of e0)
  rw [e1] at z;cases z
  exact ⟨S.refl,S,r1⟩
 ·intro i ι' h' H' g S l hl
  obtain ⟨us,e0,r⟩:=at_ g S l
  exact ⟨us,.of e0,by rw [<- r.length];exact hl⟩
theorem ziQ {ι:Ix} {H:Hp} {x:Str} (o:x.cps.all (· < 0x110000)=true):ItR T (Its x) ι H (x.cps.toList.map fun c=>.str ⟨#[c]⟩) none:=by
 constructor
 ·intro i ι' h' H' y g S _ e
  rw [List.getElem?_map] at e
  obtain ⟨c,e1,rfl⟩:=Option.map_eq_some_iff.mp e
  have hi:i<x.cps.size:=by
   have:=(List.getElem?_eq_some_iff.mp e1).1
   simpa using this
  refine ⟨hi,?_⟩
  rintro u H2 ⟨rfl,c',e2,rfl⟩
  have z:x.cps[i]? = some c:=by simpa using e1
  rw [e2] at z;cases z
  refine ⟨S.refl,S,.str (show 1<=sizeLine by decide) ?_⟩
  have m:=Array.mem_of_getElem? e2
  have:=Array.all_eq_true_iff_forall_mem.mp o _ m
  simpa using this
 ·intro i ι' h' H' g S _ hl
  show x.cps.size<=i
  simpa using hl
theorem zgc (n:Nat):∀ (lo:Int) (i:Nat),(ya2 lo n)[i]? = if i<n then some (.int (lo+i)) else none:=by
 induction n with
 | zero=>intro lo i;simp [ya2]
 | succ n ih =>
  intro lo i
  cases i with
  | zero=>simp [ya2]
  | succ i =>
   show (ya2 (lo+1) n)[i]? = _
   rw [ih]
   by_cases h:i<n
   ·rw [if_pos h,if_pos (by omega)]
    congr 2
    show lo+1+(i:Int)=lo+((i+1:Nat):Int)
    omega
   ·rw [if_neg h,if_neg (by omega)]
theorem zd2 (n:Nat):∀ lo:Int,(ya2 lo n).length=n:=by
 induction n with
 | zero=>intro lo;rfl
 | succ n ih=>intro lo;show (ya2 (lo+1) n).length+1=n+1;rw [ih]
theorem zgY {ι:Ix} {H:Hp} {lo:Int} {n:Nat}:ItR T (Itr lo n) ι H (ya2 lo n) none:=by
 constructor
 ·intro i ι' h' H' y g S _ e
  rw [zgc] at e
  split at e
  ·rename_i hi
   cases e
   refine ⟨hi,?_⟩
   rintro u H2 ⟨rfl,rfl⟩
   exact ⟨S.refl,S,.int _⟩
  ·cases e
 ·intro i ι' h' H' g S _ hl
  rw [zd2] at hl
  exact hl
theorem numbered_get:∀ (xs:List AV) (k i:Nat),(numbered k xs)[i]? = (xs[i]?).map fun x=>.tup [.int ((k+i:Nat):Int),x]
 | [],k,i=>by simp [numbered]
 | x::xs,k,0=>by simp [numbered]
 | x::xs,k,i+1=>by
  show (numbered (k+1) xs)[i]? = _
  rw [numbered_get xs (k+1) i]
  show _=(xs[i]?).map _
  congr 1
  funext y
  rw [show k+1+i=k+(i+1) by omega]
theorem zbm:∀ (xs:List AV) (k:Nat),(numbered k xs).length=xs.length
 | [],_=>rfl
 | x::xs,k=>by show (numbered (k+1) xs).length+1=_;rw [zbm xs];rfl
theorem zem {ι:Ix} {H:Hp} {a:Addr} {us:List V} {xs:List AV} {K:PySem.W.Frag} (keep:∀ (ι':Ix) (H':Hp),Ext ι H ι' H'->SqL K H' a us) (r:RVs T ι H xs us):ItR T (Ite K a) ι H (numbered 0 xs) none:=by
 constructor
 ·intro i ι' h' H' x g S _ e
  rw [numbered_get] at e
  obtain ⟨y,e0,rfl⟩:=Option.map_eq_some_iff.mp e
  obtain ⟨u,e1,r1⟩:=(r.ext g).get e0
  refine ⟨⟨us,u,keep ι' H' g,e1⟩,?_⟩
  rintro u2 H2 ⟨t,y2,rfl,hn,rfl,hy⟩
  have z:=hy us (keep ι' _ g)
  rw [e1] at z;cases z
  have g2:=S.growNew (o:=.tup [.int i,u]) hn
  refine ⟨g2,S.new hn,.tup (S.fresh hn) zas (.cons ?_ (.cons (r1.mono g2) .nil))⟩
  rw [Nat.zero_add]
  exact .int _
 ·intro i ι' h' H' g S _ hl
  rw [zbm] at hl
  exact ⟨us,keep ι' H' g,by rw [<- r.length];exact hl⟩
theorem yf4 {ι:Ix} {H:Hp} {a:Addr} {us:List V} (n:a∉ι.all) (h:Rd H a (.lst us)):∀ (ι':Ix) (H':Hp),Ext ι H ι' H'->SqL T.K H' a us:=fun _ _ g=>.inl (zfl g n h)
theorem yhX {ι:Ix} {H:Hp} {a:Addr} {us:List V} (n:a∉ι.all) (h:H a=some (.tup us)):∀ (ι':Ix) (H':Hp),Ext ι H ι' H'->SqT T.K H' a us:=fun _ _ g=>.of (g.keep _ _ n h)
theorem yeG {K K':PySem.W.Frag} {H:Hp} {a:Addr} {us:List V} (e:K=K') (h:SqL K' H a us):SqL K H a us:=e▸h
theorem yeX {σ:St} {H:Hp} {R:It->Hp->Prop} {ι:Ix} {h h1:AH} {en:En} {v:AV} {xs:List AV} {w:Option Nat} (hK:X.K=T.K) (S:Sim T ι h H) (er:ER T ι H en σ) (e:sa en h = .ok v h1) (hv:(v = .fl xs/\w=none)\/∃ n,v = .ref n/\h1[n]? = some (.lst xs)/\w=some n)
  (q:∀ ι' H' J,Grow ι H ι' H'->Sim T ι' h1 H'->ItR T J ι' H' xs w->R J H'):yfX X.K (tE T E sa) σ H R:=by
 refine ⟨ι,h,en,S,er,?_⟩
 rw [e]
 intro ι1 H1 u g1 S1 r1
 rcases hv with ⟨rfl,rfl⟩ | ⟨n,rfl,hn,rfl⟩
 ·cases r1 with
  | fl n hr rs=>exact ⟨_,rfl,⟨_,yeG hK (.inl hr)⟩,q ι1 H1 _ g1 S1 (hK▸yfE (yf4 n hr) rs)⟩
  | kfl hr rs=>exact ⟨_,rfl,⟨_,yeG hK (.inr hr)⟩,q ι1 H1 _ g1 S1 (hK▸yfE (fun _ _ _=>.inr hr) rs)⟩
 ·cases r1 with
  | ref hr =>
   obtain ⟨u,e1,us,rfl,rs⟩:=S1.obj n _ _ hn hr
   exact ⟨_,rfl,⟨_,.of e1⟩,q ι1 H1 _ g1 S1 (ziP hr)⟩
theorem yf5 {σ:St} {H:Hp} {R:It->Hp->Prop} {ι:Ix} {h h1:AH} {en:En} {xs:List AV} (hK:X.K=T.K) (S:Sim T ι h H) (er:ER T ι H en σ) (e:sa en h = .ok (.tup xs) h1)
  (q:∀ ι' H' J,Grow ι H ι' H'->Sim T ι' h1 H'->ItR T J ι' H' xs none->R J H'):iTup X.K (tE T E sa) σ H R:=by
 refine ⟨ι,h,en,S,er,?_⟩
 rw [e]
 intro ι1 H1 u g1 S1 r1
 cases r1 with
 | tup n hr rs=>exact ⟨_,rfl,⟨_,.of hr⟩,q ι1 H1 _ g1 S1 (hK▸ygY (yhX n hr) rs)⟩
theorem za1 {tg:Expr} (hK:X.K=T.K) (ha:PEA T E X a sa):PIA T X tg a (ya3 sa) :=
 yd7 (PI.or (zfc ha) (yfr ha)) fun σ H R ⟨ι,h,en,S,er,q⟩=>by
  unfold ya3 at q
  cases e:sa en h with
  | bad=>rw [e] at q;exact q.elim
  | ex c h1=>rw [e] at q;exact q.elim
  | ok v h1 =>
   rw [e] at q
   cases v with
   | fl xs=>exact .inl (yeX hK S er e (.inl ⟨rfl,rfl⟩) q)
   | tup xs=>exact .inr (yf5 hK S er e q)
   | ref n =>
    dsimp only [Out.bind] at q
    cases e2:h1[n]? with
    | none=>rw [e2] at q;exact q.elim
    | some o =>
     rw [e2] at q
     cases o with
     | lst xs=>exact .inl (yeX hK S er e (.inr ⟨n,rfl,e2,rfl⟩) q)
     | _=>exact q.elim
   | _=>exact q.elim
theorem ydM {y:Str} {py:Pos} (hK:X.K=T.K) (ha:PEA T E X a sa):PIA T X (.Name y py) a (iVal sa) :=
 yd7 (PI.or (zfc ha) (PI.or (yfr ha) (ygO ha))) fun σ H R ⟨ι,h,en,S,er,q⟩=>by
  unfold iVal at q
  cases e:sa en h with
  | bad=>rw [e] at q;exact q.elim
  | ex c h1=>rw [e] at q;exact q.elim
  | ok v h1 =>
   rw [e] at q
   cases v with
   | fl xs=>exact .inl (yeX hK S er e (.inl ⟨rfl,rfl⟩) q)
   | tup xs=>exact .inr (.inl (yf5 hK S er e q))
   | str z =>
    refine .inr (.inr ⟨ι,h,en,S,er,?_⟩)
    rw [e]
    intro ι1 H1 u g1 S1 r1
    obtain ⟨rfl,_,o⟩:=ybh r1
    exact ⟨_,rfl,q ι1 H1 _ g1 S1 (ziQ o)⟩
   | ref n =>
    dsimp only [Out.bind] at q
    cases e2:h1[n]? with
    | none=>rw [e2] at q;exact q.elim
    | some o =>
     rw [e2] at q
     cases o with
     | lst xs=>exact .inl (yeX hK S er e (.inr ⟨n,rfl,e2,rfl⟩) q)
     | _=>exact q.elim
   | _=>exact q.elim
theorem zbn {tg:Expr} {p:Pos} (hg:Gl X "range") (hm:X.mg "range" = none) (ha:PEA T E X a sa) (hs:starEach [a] X.env=[(false,eval a X.env)]:=by rfl):PIA T X tg (.Call (.Name "range" p) [a] [] pos) (ybU sa) :=
 yd7 (zgy hg hm (zaa ha yab hs) hs) fun σ H R ⟨ι,h,en,S,er,q⟩=>by
  unfold ybU at q
  refine ⟨ι,h,en,S,er,?_⟩
  unfold sCons
  cases e:sa en h with
  | bad=>rw [e] at q;exact q
  | ex c h1=>rw [e] at q;exact q.elim
  | ok v h1 =>
   rw [e] at q
   intro ι1 H1 u g1 S1 r1
   dsimp only [Out.bind] at q
   cases v with
   | int j =>
    dsimp only at q
    split at q
    ·rename_i hx
     split at hx
     ·rename_i hb
      cases hx
      cases r1 with
      | cons r r' =>
       cases r'
       rw [yaC r]
       exact ⟨j,rfl,by omega,by omega,q ι1 H1 _ g1 S1 zgY⟩
     ·cases hx
    ·exact q.elim
   | _=>exact q.elim
theorem ziR {p tp:Pos} {es:List Expr} {k:Nat} (hK:X.K=T.K) (hg:Gl X "enumerate") (hm:X.mg "enumerate" = none) (ha:PEA T E X a sa) (hs:starEach [a] X.env=[(false,eval a X.env)]:=by rfl):PIA T X (.Tuple es k tp) (.Call (.Name "enumerate" p) [a] [] pos) (Sm.iEnum sa) :=
 yd7 (ziF hg hm (zaa ha yab hs) hs) fun σ H R ⟨ι,h,en,S,er,q⟩=>by
  unfold Sm.iEnum at q
  refine ⟨ι,h,en,S,er,?_⟩
  unfold sCons
  cases e:sa en h with
  | bad=>rw [e] at q;exact q
  | ex c h1=>rw [e] at q;exact q.elim
  | ok v h1 =>
   rw [e] at q
   intro ι1 H1 u g1 S1 r1
   dsimp only [Out.bind] at q
   cases v with
   | fl xs =>
    cases r1 with
    | cons r r' =>
     cases r'
     cases r with
     | fl n hr rs=>exact ⟨_,rfl,⟨_,yeG hK (.inl hr)⟩,q ι1 H1 _ g1 S1 (hK▸zem (yf4 n hr) rs)⟩
     | kfl hr rs=>exact ⟨_,rfl,⟨_,yeG hK (.inr hr)⟩,q ι1 H1 _ g1 S1 (hK▸zem (fun _ _ _=>.inr hr) rs)⟩
   | _=>exact q.elim
theorem zbZ {α:Type} {xs:List α} {i:Nat} (h:i<xs.length):xs.drop i=xs[i]::xs.drop (i+1):=by simp
theorem ydc {tg iter:Expr} {it:SI} {t:Tg} (hc:X.calm=true) (hi:PIA T X.nox tg iter it) (hg:PGA T X.nox tg t) (hb:PSsA T EN X.nox sts s1) (hs:∀ x,foldedSetIterable iter X.nox.env x=pure x:=by intro _;rfl) :
  PSA T E X (.For tg iter sts [] pos) (sFor it t s1):=by
 obtain ⟨g,hg1,hg2⟩:=hg
 refine yb9 (yfC (ygw PassesOwn.never hc hi hg1 hb hs)) fun D σ H ⟨ι,h,en,S,er,q⟩=>⟨ι,h,en,S,er,?_⟩
 unfold sFor at q
 cases e:it en h with
 | bad=>rw [e] at q;exact q
 | ex c h1=>rw [e] at q;exact q
 | ok p h1 =>
  obtain ⟨xs,w⟩:=p
  rw [e] at q
  intro ι1 H1 J g1 S1 IR
  refine ⟨fun i m σ H=>m=xs.length-i/\i<=xs.length/\∃ ι' h' en',Grow ι1 H1 ι' H/\Sim T ι' h' H/\ER T ι' H en' σ/\PostS T ι' H E (ybu w xs t s1 (xs.drop i) en' h') D,
   ⟨xs.length,by simp,Nat.zero_le _,ι1,h1,en,S1.refl,S1,er.mono g1,PostS.shift q g1⟩,?_⟩
  rintro i m σ H ⟨rfl,hi,ι',h',en',g',S',er',q'⟩
  by_cases hl:i<xs.length
  ·rw [zbZ hl] at q'
   unfold ybu at q'
   split at q'
   ·rename_i hlive
    obtain ⟨go,yld⟩:=IR.go i ι' h' H xs[i] g'.ext S' hlive (by simp [hl])
    refine .inr ⟨go,fun σ H=>∃ ι' h' en',Grow ι1 H1 ι' H/\Sim T ι' h' H/\ER T ι' H en' σ/\PostS T ι' H E (ybu w xs t s1 (xs.drop (i+1)) en' h') D,
     fun σ' H' w' => ⟨xs.length-(i+1),by omega,rfl,hl,w'⟩,fun x H' y=>?_⟩
    obtain ⟨g2,S2,r2⟩:=yld x H' y
    split at q'
    ·rename_i e1 he1
     refine hg2 S2 (er'.mono g2) r2 he1 fun σ' er2=>⟨ι',h',e1,S2,er2,?_⟩
     have q2:=PostS.shift q' g2
     cases e2:s1 e1 h' with
     | nx e3 h3=>rw [e2] at q2;exact fun ι3 H3 σ3 g3 S3 er3=>⟨ι3,h3,e3,g'.trans (g2.trans g3),S3,er3,q2.shift g3⟩
     | ct e3 h3=>rw [e2] at q2;exact fun ι3 H3 σ3 g3 S3 er3=>⟨ι3,h3,e3,g'.trans (g2.trans g3),S3,er3,q2.shift g3⟩
     | bk e3 h3=>rw [e2] at q2;exact q2
     | rt v h3=>rw [e2] at q2;exact q2
     | ex c e3 h3=>rw [e2] at q2;exact (show False from q2).elim
     | bad=>rw [e2] at q2;exact q2
    ·exact (show False from q').elim
   ·exact (show False from q').elim
  ·have ei:i=xs.length:=by omega
   subst ei
   rw [List.drop_length] at q'
   unfold ybu at q'
   split at q'
   ·rename_i hlive
    exact .inl ⟨IR.stop _ ι' h' H g'.ext S' hlive (Nat.le_refl _),q' ι' H σ S'.refl S' er'⟩
   ·exact (show False from q').elim
theorem ER.comp {ι:Ix} {H:Hp} {en:En} {σ:St} {x:AV} {u:V} {jf:List (Nat×Str)} (er:ER T ι H en σ) (r:RV T ι H x u):ER T ι H (some x::(jf.map (·.1)).map fun j=>(en[j]?).join) (ybt (some u) jf σ):=by
 refine ⟨by simp [ybt],fun i v e=>?_⟩
 cases i with
 | zero=>simp at e;subst e;exact ⟨u,rfl,r⟩
 | succ i =>
  simp only [List.getElem?_cons_succ,List.getElem?_map] at e
  unfold ybt
  simp only [List.getElem?_cons_succ,List.getElem?_map]
  cases e1:jf[i]? with
  | none=>rw [e1] at e;cases e
  | some j =>
   rw [e1] at e
   simp only [Option.map_some,Option.some.injEq] at e
   have e2:en[j.1]? = some (some v):=by
    cases e3:en[j.1]? with
    | none=>rw [e3] at e;cases e
    | some o=>rw [e3] at e;exact congrArg some e
   obtain ⟨u',e4,r'⟩:=er.2 j.1 v e2
   exact ⟨u',by simp [e4],r'⟩
theorem zfs {jf:List (Nat×Str)} {it:SI} {cc:SB} {ce:SE} {σ:St} {H:Hp} {Q:VK} {ι:Ix} {h:AH} {en:En} (S:Sim T ι h H) (er:ER T ι H en σ)
  (q:match it en h with | .ok (xs,w) h1=>(match yaI (jf.map (·.1)) en w xs cc ce xs [] h1 with | .ok ys h2=>∀ ι' H' D vs,Grow ι H ι' H'->Sim T (ι'.hide D) h2 H'->RVs T (ι'.hide D) H' ys vs->H' D=some (.lst vs)->D∉ι'.all->(∀ n,ι'.refs=ι.refs++n->∀ a∈n++[D],H a=none)->Q (.ref D) H' | _=>False) | _=>False) :
  yei jf (tI T it) (tT T EN cc) (tE T EN ce) σ H Q:=by
 refine ⟨ι,h,en,S,er,?_⟩
 cases e:it en h with
 | bad=>rw [e] at q;exact q
 | ex c h1=>rw [e] at q;exact q
 | ok p h1 =>
  obtain ⟨xs,w⟩:=p
  rw [e] at q
  dsimp only at q
  intro ι1 H1 J g1 S1 IR D hD
  refine ⟨fun i m ys H2=>m=xs.length-i/\i<=xs.length/\H2 D=some (.lst ys)/\∃ ι' h' vs,Grow ι1 H1 ι' H2/\Ext ι1 H1 (ι'.hide D) H2/\Sim T (ι'.hide D) h' H2/\ER T (ι'.hide D) H2 en σ/\RVs T (ι'.hide D) H2 vs ys/\D∉ι'.refs /\
   (match yaI (jf.map (·.1)) en w xs cc ce (xs.drop i) vs h' with | .ok ys h2=>∀ ι' H' D vs,Grow ι H ι' H'->Sim T (ι'.hide D) h2 H'->RVs T (ι'.hide D) H' ys vs->H' D=some (.lst vs)->D∉ι'.all->(∀ n,ι'.refs=ι.refs++n->∀ a∈n++[D],H a=none)->Q (.ref D) H' | _=>False),?_,?_⟩
  ·exact ⟨xs.length,by simp,Nat.zero_le _,zas,ι1,h1,[],S1.growNew hD,Ext.hide hD,S1.hide hD,(er.mono g1).ext (Ext.hide hD),.nil,fun z=>S1.fresh hD (List.mem_append_left _ z),q⟩
  ·rintro i m ys H2 ⟨rfl,hi,hH2,ι',h',vs,g',x',S',er',rv',nD',q'⟩
   refine ⟨hH2,?_⟩
   by_cases hl:i<xs.length
   ·rw [zbZ hl] at q'
    unfold yaI at q'
    by_cases hs:ybz w xs h'=true/\vs.length<sizeLine
    ·rw [if_pos hs] at q'
     obtain ⟨hs1,hs2⟩:=hs
     obtain ⟨go,yld⟩:=IR.go i _ h' H2 xs[i] x' S' hs1 (by simp [hl])
     refine .inr ⟨go,by rw [<- rv'.length];exact hs2,fun x H3 y=>?_⟩
     obtain ⟨g3,S3,r3⟩:=yld x H3 y
     have er3:=er'.mono g3
     refine ⟨ι'.hide D,h',_,S3,ER.comp er3 r3,?_⟩
     cases ec:cc (some xs[i]::(jf.map (·.1)).map fun j=>(en[j]?).join) h' with
     | bad=>rw [ec] at q';exact q'
     | ex c h5=>rw [ec] at q';exact q'.elim
     | ok bb h5 =>
      rw [ec] at q'
      intro ι5 H5 b5 g5 S5 r5
      subst r5
      have g35:=g3.trans g5
      have hD5:H5 D=some (.lst ys):=g35.keep D _ nD' hH2
      have eι:ι5=Ix.hide ⟨ι5.refs,ι'.priv⟩ D:=by
       have:=g5.priv
       cases ι5
       simp only at this
       subst this
       rfl
      have nD5:D∉ι5.refs:=g35.outR nD' hH2
      have gG5:Grow ι1 H1 ⟨ι5.refs,ι'.priv⟩ H5:=by
       obtain ⟨n,en1,hn⟩:=g'.pre
       obtain ⟨k,ek,hk⟩:=g35.pre
       refine ⟨⟨n++k,?_,fun a ha=>?_⟩,g'.priv,fun a o na ea=>?_,fun a ha=>?_⟩
       ·show ι5.refs=_;rw [ek];show ι'.refs++k=_;rw [en1];simp
       ·rcases List.mem_append.mp ha with z | z
        ·exact hn a z
        ·have z2:=hk a z
         by_cases hr:a∈ι1.refs
         ·exact absurd z2 (g'.live a (List.mem_append_left _ hr))
         ·cases e9:H1 a with
          | none=>rfl
          | some o=>rw [g'.keep a o hr e9] at z2;cases z2
       ·exact g35.keep a o (g'.outR na ea) (g'.keep a o na ea)
       ·have:a∈(ι'.hide D).all:=by
         rcases List.mem_append.mp ha with z | z
         ·exact List.mem_append_left _ (by show a∈ι'.refs;rw [en1];exact List.mem_append_left _ z)
         ·exact List.mem_append_right _ (List.mem_cons_of_mem _ (by rw [g'.priv];exact z))
        exact g35.live a this
      have x5:Ext ι1 H1 (Ix.hide ⟨ι5.refs,ι'.priv⟩ D) H5:=eι▸x'.trans g35.ext
      have er5:=er3.mono g5
      have rv5:=(rv'.mono g35)
      cases bb with
      | false =>
       rw [if_neg Bool.false_ne_true]
       refine ⟨xs.length-(i+1),by omega,rfl,hl,hD5,⟨ι5.refs,ι'.priv⟩,h5,vs,gG5,x5,eι▸S5,eι▸er5,eι▸rv5,nD5,q'⟩
      | true =>
       rw [if_pos rfl]
       refine ⟨ι5,h5,_,S5,(ER.comp er3 r3).mono g5,?_⟩
       dsimp only at q'
       cases ee:ce (some xs[i]::(jf.map (·.1)).map fun j=>(en[j]?).join) h5 with
       | bad=>rw [ee] at q';exact q'
       | ex c h6=>rw [ee] at q';exact q'.elim
       | ok v h6 =>
        rw [ee] at q'
        intro ι6 H6 u6 g6 S6 r6
        have g56:=g6
        have hD6:H6 D=some (.lst ys):=g56.keep D _ nD5 hD5
        have eι6:ι6=Ix.hide ⟨ι6.refs,ι'.priv⟩ D:=by
         have h1:=g6.priv
         have h2:=g5.priv
         rw [h2] at h1
         cases ι6
         simp only at h1
         subst h1
         rfl
        have nD6:D∉ι6.refs:=g56.outR nD5 hD5
        have gG6:Grow ι1 H1 ⟨ι6.refs,ι'.priv⟩ (upd H6 D (.lst (ys++[u6]))):=by
         obtain ⟨n,en1,hn⟩:=gG5.pre
         obtain ⟨k,ek,hk⟩:=g56.pre
         have hD1:∀ a o,H1 a=some o->a≠D:=fun a o ea=>zat ea hD
         refine ⟨⟨n++k,?_,fun a ha=>?_⟩,g'.priv,fun a o na ea=>?_,fun a ha=>?_⟩
         ·show ι6.refs=_;rw [ek];have z:ι5.refs=ι1.refs++n:=en1;rw [z];simp
         ·rcases List.mem_append.mp ha with z | z
          ·exact hn a z
          ·have z2:=hk a z
           by_cases hr:a∈ι1.refs
           ·exact absurd z2 (gG5.live a (List.mem_append_left _ hr))
           ·cases e9:H1 a with
            | none=>rfl
            | some o=>rw [gG5.keep a o hr e9] at z2;cases z2
         ·rw [yay (hD1 a o ea)]
          exact g56.keep a o (gG5.outR na ea) (gG5.keep a o na ea)
         ·by_cases zD:a=D
          ·subst zD;rw [zas];simp
          ·rw [yay zD]
           have:a∈ι5.all:=by
            rcases List.mem_append.mp ha with z | z
            ·exact List.mem_append_left _ (by have z':ι5.refs=ι1.refs++n:=en1;rw [z'];exact List.mem_append_left _ z)
            ·rw [eι];exact List.mem_append_right _ (List.mem_cons_of_mem _ (by show a∈ι'.priv;rw [g'.priv];exact z))
           exact g56.live a this
        refine ⟨hD6,xs.length-(i+1),by omega,rfl,hl,zas,⟨ι6.refs,ι'.priv⟩,h6,vs++[v],gG6,?_,?_,?_,?_,nD6,q'⟩
        ·exact (eι6▸(x'.trans (g35.ext.trans g6.ext))).trans Ext.poke
        ·exact Sim.poke (eι6▸S6) nD6
        ·exact ER.ext (eι6▸er5.mono g6) Ext.poke
        ·have:RVs T ι6 H6 (vs++[v]) (ys++[u6]):=(rv5.mono g6).append (.cons r6 .nil)
         exact RVs.ext Ext.poke (eι6▸this)
    ·rw [if_neg hs] at q';exact q'.elim
   ·have ei:i=xs.length:=by omega
    subst ei
    rw [List.drop_length] at q'
    unfold yaI at q'
    by_cases hs:ybz w xs h'=true
    ·rw [if_pos hs] at q'
     have hp:D∉ι'.priv:=fun z=>by rw [g'.priv] at z;exact S1.plive D z hD
     refine .inl ⟨IR.stop _ _ h' H2 x' S' hs (Nat.le_refl _),q' ι' H2 D ys (g1.trans g') S' rv' hH2 (fun z=>(List.mem_append.mp z).elim nD' hp) fun n en1 a ha=>?_⟩
     obtain ⟨k,ek,hk⟩:=(g1.trans g').pre
     have:n=k:=List.append_cancel_left (en1.symm.trans ek)
     subst this
     rcases List.mem_append.mp ha with z | z
     ·exact hk a z
     ·have z':a=D:=by simpa using z
      subst z'
      cases e9:H a with
      | none=>rfl
      | some o =>
       by_cases hr:a∈ι.refs
       ·have z1:a∈ι1.refs:=by
         obtain ⟨k1,ek1,_⟩:=g1.pre
         rw [ek1];exact List.mem_append_left _ hr
        exact absurd hD (S1.live a (List.mem_append_left _ z1))
       ·rw [g1.keep a o hr e9] at hD;cases hD
    ·rw [if_neg hs] at q';exact q'.elim
end
end Sm
namespace Sm
open PySem PySem.Spec L2
section
variable {T:Tb} {E:St->XK} {X:Cx} {pos px:Pos} {iter elt:Expr} {ifs:List Expr} {scope:Scope} {x₁:Str} {jf:List (Nat×Str)} {it:SI} {cc:SB} {ce:SE}
theorem zft {σ:St} {H:Hp} {Q:VK} (q:tE T E (yaU (jf.map (·.1)) it cc ce) σ H Q):yei jf (tI T it) (tT T EN cc) (tE T EN ce) σ H Q:=by
 obtain ⟨ι,h,en,S,er,q⟩:=q
 refine zfs S er ?_
 unfold yaU at q
 cases e:it en h with
 | bad=>rw [e] at q;exact q
 | ex c h1=>rw [e] at q;exact q.elim
 | ok p h1 =>
  obtain ⟨xs,w⟩:=p
  rw [e] at q
  dsimp only at q ⊢
  cases e2:yaI (jf.map (·.1)) en w xs cc ce xs [] h1 with
  | bad=>rw [e2] at q;exact q
  | ex c h1=>rw [e2] at q;exact q.elim
  | ok ys h2 =>
   rw [e2] at q
   exact fun ι' H' D vs g S' r hD nD _=>q ι' H' _ g S'.show (.fl nD (.inl hD) (r.ext Ext.show))
theorem zhS {σ:St} {H:Hp} {Q:VK} (q:tE T E (ydj (jf.map (·.1)) it cc ce) σ H Q):yei jf (tI T it) (tT T EN cc) (tE T EN ce) σ H Q:=by
 obtain ⟨ι,h,en,S,er,q⟩:=q
 refine zfs S er ?_
 unfold ydj at q
 cases e:it en h with
 | bad=>rw [e] at q;exact q
 | ex c h1=>rw [e] at q;exact q.elim
 | ok p h1 =>
  obtain ⟨xs,w⟩:=p
  rw [e] at q
  dsimp only at q ⊢
  cases e2:yaI (jf.map (·.1)) en w xs cc ce xs [] h1 with
  | bad=>rw [e2] at q;exact q
  | ex c h1=>rw [e2] at q;exact q.elim
  | ok ys h2 =>
   rw [e2] at q
   intro ι' H' D vs g S' r hD nD hn
   obtain ⟨n,en1,_⟩:=g.pre
   have S2:Sim T (ι'.add D) (h2++[.lst ys]) H' := S'.adopt (Ix.nr nD) hD ⟨vs,rfl,r.ext Ext.adopt⟩
   refine q (ι'.add D) H' _ ⟨⟨n++[D],?_,hn n en1⟩,g.priv,g.keep,g.live⟩ S2 (.ref ?_)
   ·show ι'.refs++[D]=_;rw [en1];simp
   ·show (ι'.refs++[D])[h2.length]? = some D
    have:ι'.refs.length=h2.length:=S'.len
    rw [<- this];simp
theorem zaS:PTs X [] (tT T E sYes):=fun pins s σ H Q I ⟨ι,h,en,S,er,q⟩=>ziG pins s σ H Q I (q.now S rfl)
theorem zdk {c:Expr} (hc:PTA T E X c cc):PTs X [c] (tT T E cc):=ziH hc
structure CompOk (X:Cx) (x₁:Str) (jf:List (Nat×Str)) (scope:Scope):Prop where
 hN:(x₁::jf.map (·.2)).Nodup
 hx:scope.names.lookup x₁=some .local
 hjf:∀ p∈jf,X.N[p.1]? = some p.2
 hjl:∀ p∈jf,scope.names.lookup p.2=some .free
 hkind:scope.kind = .function
 hcell:∀ y∈scope.names,y.2 ≠ .cell
 hfr:∀ y∈scope.names,y.2 = .free->X.env.kindOf y.1=some .cell\/X.env.kindOf y.1=some .free
 hnames:∀ y∈scope.names,y.2 = .local->scope.names.lookup y.1=some .local
theorem ydN (C:CompOk X x₁ jf scope) (hcalm:X.calm=true) (hi:PIA T X (.Name x₁ px) iter it) (hc:∀ pins cl s H fp,PTs (yaZ X pins x₁ jf scope cl s H fp) ifs (tT T EN cc)) (he:∀ pins cl s H fp,PEA T EN (yaZ X pins x₁ jf scope cl s H fp) elt ce)
  (hs:∀ x,foldedSetIterable iter X.env x=pure x:=by intro _;rfl):PEA T E X (.ListComp elt [⟨.Name x₁ px,iter,ifs,0⟩] scope pos) (yaU (jf.map (·.1)) it cc ce) :=
 yaS (zfj hcalm hi hc he C.hN C.hx C.hjf C.hjl C.hkind C.hcell C.hfr C.hnames hs) fun _ _ _ q=>zft q
theorem ziS (C:CompOk X x₁ jf scope) (hcalm:X.calm=true) (hi:PIA T X (.Name x₁ px) iter it) (hc:∀ pins cl s H fp,PTs (yaZ X pins x₁ jf scope cl s H fp) ifs (tT T EN cc)) (he:∀ pins cl s H fp,PEA T EN (yaZ X pins x₁ jf scope cl s H fp) elt ce)
  (hs:∀ x,foldedSetIterable iter X.env x=pure x:=by intro _;rfl):PEA T E X (.ListComp elt [⟨.Name x₁ px,iter,ifs,0⟩] scope pos) (ydj (jf.map (·.1)) it cc ce) :=
 yaS (zfj hcalm hi hc he C.hN C.hx C.hjf C.hjl C.hkind C.hcell C.hfr C.hnames hs) fun _ _ _ q=>zhS q
theorem ziT {y:Str} {py spos:Pos} {i:Nat} (C:CompOk X x₁ jf scope) (hcalm:X.calm=true) (hi:PIA T X (.Name x₁ px) iter it) (hc:∀ pins cl s H fp,PTs (yaZ X pins x₁ jf scope cl s H fp) ifs (tT T EN cc)) (he:∀ pins cl s H fp,PEA T EN (yaZ X pins x₁ jf scope cl s H fp) elt ce)
  (hNX:X.N.Nodup) (hi':X.N[i]? = some y:=by rfl) (hy:X.env.scope.names.lookup y=some .local:=by rfl) (hsw:swapsWith (.ListComp elt [⟨.Name x₁ px,iter,ifs,0⟩] scope pos) (some (.Name y py)) spos.line X.env=pure true:=by rfl) (hs:∀ x,foldedSetIterable iter X.env x=pure x:=by intro _;rfl) :
  PSA T E X (.Assign [.Name y py] (.ListComp elt [⟨.Name x₁ px,iter,ifs,0⟩] scope pos) spos) (sSet i (yaU (jf.map (·.1)) it cc ce)) :=
 yb9 (ziI hcalm hi hc he C.hN C.hx C.hjf C.hjl C.hkind C.hcell C.hfr C.hnames hNX hi' hy hsw hs) fun D σ H q=>zft (yfD q)
end
def spA (T:Tb) (F:Fn):Sp:=fun vs H Q E=>∃ ι h args,Sim T ι h H/\RVs T ι H args vs/\Post T ι H E (RV T) (F args h) Q
def yhY (F:Fn) (n:Nat):Prop:=∀ args h,args.length≠n->F args h = .bad
theorem zc4 (n m:Nat) (b:SS):yhY (mkFn n m b) n:=fun args h hl=>by
 unfold mkFn
 rw [if_neg hl]
theorem okA {P:Program} {w:World} {K:PySem.W.Frag} {mg:Str->Option Value} {base:Heap} {T:Tb} {x qual:Str} {st:Stmt} {f:Addr} {fd:FuncData} {N ps:List Str} {k:Nat} {b:SS} (F:Fun K x qual st f fd) (hK:K=T.K) (S:FnScope N ps (yag st))
  (hbody:∀ (cdv:Value) (A:Around) (outer:List Env) (s:Shared) (H:Hp) (E:XK),Room k (A.deeper (PyProof.Rows.envOfC qual (yag st) s.heap.objs.size f cdv))->CA T (fun _=>E) (cxOf (CXE P w) P w K mg base N qual (yag st) f cdv A outer s H E) ->
   PSsA T (fun _=>E) (cxOf (CXE P w) P w K mg base N qual (yag st) f cdv A outer s H E) (yb3 st) b):FnOk P w K mg base (CXE P w) (k+1) f fd ps (spA T (mkFn ps.length N.length b)):=by
 refine F.okE S (fun vs H Q E h=>?_) (fun cdv A outer s H vs Q E hr h=>?_)
 ·obtain ⟨ι,h,args,_,r,q⟩:=h
  by_cases hl:args.length=ps.length
  ·rw [<- hl,r.length]
  ·rw [zc4 _ _ _ args h hl] at q;exact q.elim
 ·obtain ⟨ι,h,args,Si,r,q⟩:=h
  refine ⟨_,hbody cdv A outer s H E hr ⟨hK,ziK⟩,ι,h,args.map some++List.replicate (N.length-ps.length) none,Si,?_,?_⟩
  ·by_cases hl:args.length=ps.length
   ·refine ⟨by simp [L2.start,r.length,<- hl],fun i v e=>?_⟩
    unfold L2.start
    by_cases hi:i<args.length
    ·rw [List.getElem?_append_left (by simpa using hi),List.getElem?_map] at e
     rw [List.getElem?_append_left (by simpa [<- r.length] using hi),List.getElem?_map]
     obtain ⟨x,e1,e2⟩:=Option.map_eq_some_iff.mp e
     cases e2
     obtain ⟨u,e3,r3⟩:=r.get e1
     exact ⟨u,by rw [e3];rfl,r3⟩
    ·rw [List.getElem?_append_right (by simpa using hi),List.getElem?_replicate] at e
     split at e
     ·cases e
     ·cases e
   ·rw [zc4 _ _ _ args h hl] at q;exact q.elim
  ·unfold mkFn at q
   split at q
   ·split at q
    ·rename_i e1 h1 he
     rw [he]
     exact fun ι' H' σ' g S' er=>q ι' H' _ g S' .non
    ·rename_i v h1 he
     rw [he]
     exact q
    ·rename_i c e1 h1 he
     rw [he]
     exact fun ι' H' σ' C g S' er ec=>q ι' H' C g S' ec
    ·exact q.elim
   ·exact q.elim
structure GF (P:Program) (w:World) (T:Tb) (mg:Str->Option Value) (base:Heap) (k:Nat) (x:Str) (F:Fn):Prop where
 ex:∃ f fd ps,mg x=some (.ref f)/\PySem.W.keepIn T.K (.ref f)=true/\Binds T.K fd ps []/\FnOk P w T.K mg base (CXE P w) k f fd ps (spA T F)
structure GM (P:Program) (w:World) (T:Tb) (mg:Str->Option Value) (base:Heap) (k:Nat) (c:Nat) (m:Str) (F:Fn):Prop where
 ex:∃ C f fd ps,T.cls c=some C/\Cls T.K C/\Meth T.K C m f/\Binds T.K fd ps []/\FnOk P w T.K mg base (CXE P w) k f fd ps (spA T F)
 no:m∉T.fields c
section
variable {T:Tb} {E:St->XK} {X:Cx} {pos p apos:Pos} {e o a:Expr} {es:List Expr} {x m:Str} {F:Fn} {k c:Nat} {as:SL} {so sa:SE}
theorem yah (hK:X.K=T.K) (C:CA T E X) (G:GF X.prog X.w T X.mg X.base k x F) (hr:Room k X.A) (hg:Gl X x) (ha:PAA T E X (e::es) as) (hdb:(x == ("__debug__" : Str))=false:=by decide)
  (he:starEach (e::es) X.env=(false,eval e X.env)::starEach es X.env:=by rfl) (hpl:(backTo pos (starEach es X.env)).any (·.1)=false:=by rfl):PEA T E X (.Call (.Name x p) (e::es) [] pos) (yad F as):=by
 obtain ⟨f,fd,ps,h1,h2,h3,h4⟩:=G.ex
 refine yaS (zhL (Ex:=E) (dvs:=[]) (hK▸h4) hr hg h1 (hK▸h2) (hK▸h3) .nil C.pass ha hdb he hpl) fun σ H Q ⟨ι,h,en,S,er,q⟩=>⟨ι,h,en,S,er,q.bind fun xs h1 ι1 H1 us g1 S1 r1 q1=>?_⟩
 rw [List.append_nil]
 exact ⟨ι1,h1,xs,S1,r1,q1⟩
theorem zfu {C:Addr} {σ:St} {H:Hp} {Q:VK} (hc:T.cls c=some C) (no:m∉T.fields c) (q:tE T E (yam c F so as) σ H Q):yfx C m (spA T F) [] E (tE T E so) (tA T E as) σ H Q:=by
 obtain ⟨ι,h,en,S,er,q⟩:=q
 refine ⟨ι,h,en,S,er,q.bind fun x h1 ι1 H1 u g1 S1 r1 q1=>?_⟩
 split at q1
 ·rename_i n
  split at q1
  ·rename_i c' fs hn
   split at q1
   ·rename_i ec
    subst ec
    cases r1 with
    | @ref _ a hr =>
     obtain ⟨o,e1,C',dx,fus,hC,rfl,nd,hw,hl,_⟩:=S1.obj n _ a hn hr
     rw [hc] at hC;cases hC
     refine ⟨a,dx,fus,rfl,e1,?_,ι1,h1,en,S1,er.mono g1,q1.bind fun xs h2 ι2 H2 us g2 S2 r2 q2=>?_⟩
     ·cases e:fus.lookup m with
      | none=>rfl
      | some v =>
       have:=PySem.mem_of_lookup e
       exact absurd (hw _ this) no
     ·rw [List.append_nil]
      exact ⟨ι2,h2,.ref n::xs,S2,.cons (.ref (g2.at hr)) r2,q2⟩
   ·exact q1.elim
  ·exact q1.elim
 ·exact q1.elim
theorem yal {pl:Sem Bool} (hK:X.K=T.K) (CC:CA T E X) (G:GM X.prog X.w T X.mg X.base k c m F) (hr:Room k X.A) (ho:PEA T E X o so) (ha:PAA T E X (e::es) as)
  (hst:starEach (e::es) X.env=(false,eval e X.env)::starEach es X.env:=by rfl) (hpl:(backTo pos (starEach es X.env)).any (·.1)=false:=by rfl)
  (ht:eval (.Call (.Attribute o m apos) (e::es) [] pos) X.env=(do
   let ov <- eval o X.env
   standAt apos.atName
   let (f,first) <- holding [ov] (getMethod ov m pl)
   callWith pos f first (backTo pos (starEach (e::es) X.env)) (backToKw pos (keywordEach [] X.env))):=by rfl):PEA T E X (.Call (.Attribute o m apos) (e::es) [] pos) (yam c F so as):=by
 obtain ⟨C,f,fd,ps,h1,h2,h3,h4,h5⟩:=G.ex
 exact yaS (zhM (Ex:=E) (dvs:=[]) (pl:=pl) ho (hK▸h2) (hK▸h3) (hK▸h5) hr (hK▸h4) .nil CC.pass ha hst hpl ht) fun σ H Q q=>zfu h1 G.no q
theorem zfv {pl:Sem Bool} (hK:X.K=T.K) (CC:CA T E X) (G:GM X.prog X.w T X.mg X.base k c m F) (hr:Room k X.A) (ho:PEA T E X o so)
  (ht:eval (.Call (.Attribute o m apos) [] [] pos) X.env=(do
   let ov <- eval o X.env
   standAt apos.atName
   let (f,first) <- holding [ov] (getMethod ov m pl)
   callWith pos f first (backTo pos (starEach [] X.env)) (backToKw pos (keywordEach [] X.env))):=by rfl):PEA T E X (.Call (.Attribute o m apos) [] [] pos) (yam c F so sNil):=by
 obtain ⟨C,f,fd,ps,h1,h2,h3,h4,h5⟩:=G.ex
 intro pins s σ H Q I q
 have q' := zfu (C:=C) h1 G.no q
 refine PySem.W.methodCall_KW (pl:=pl) (thn (ho pins s σ H _ I q') fun u s1 ⟨x,H1,I1,rx,a,dx,fs,ex,ea,l,q⟩=>?_) ht
 subst ex
 obtain rfl:u=Value.ref a:=rx
 refine zcZ I1 ea (hK▸h2) (hK▸h3) l ?_
 obtain ⟨ι,h,en,S,er,q⟩:=q
 refine PySem.W.callWith_K0 (first:=[.ref a]) I1.kIn (hK▸h3.kp) (zde (dvs:=[]) (us:=[.ref a]) (vs:=[.ref a]) (hK▸h5) hr (hK▸h4) .nil CC.pass I1 (.cons rfl .nil) (q.now S .nil))
structure CF (T:Tb) (c:Nat):Prop where
 ex:∃ C,T.cls c=some C/\Cls T.K C/\∀ f∈T.fields c,NoAttr T.K C f
structure GK (P:Program) (w:World) (T:Tb) (mg:Str->Option Value) (base:Heap) (k:Nat) (c:Nat) (x:Str) (F:Fn):Prop where
 ex:∃ C f fd ps,T.cls c=some C/\mg x=some (.ref C)/\Mk T.K C f/\Binds T.K fd ps []/\FnOk P w T.K mg base (CXE P w) k f fd ps (spA T F)
theorem zgZ {CX:CXT} {C f:Addr} {fd:FuncData} {ps:List Str} {sp:Sp} {dvs:List V} {ds:List Value} {pins:List (Addr×Obj)} {σ:St} {H:Hp} {s:Shared} {Q:VK} {us:List Value} {vs:List V} (M:Mk X.K C f) (F:FnOk X.prog X.w X.K X.mg X.base CX k f fd ps sp) (hr:Room (k+1) X.A) (hb:Binds X.K fd ps ds) (hd:Vals dvs ds)
  (hx:ydL CX X E) (I:L2.Inv X pins σ H s) (r:Vals vs us)
  (h:∀ x dx,H x=none->H dx=none->dx≠x->sp (.ref x::(vs++dvs)) (upd (upd H dx (.own x)) x (.ins C dx [])) (fun v H2=>v = .non/\Q (.ref x) H2) (E σ)) :
  wpAny (model X.prog X.w) X.A (call (.ref C) us) (EP X pins σ Q) X.xe s:=by
 have hq:=h (s.heap.objs.size+1) s.heap.objs.size (I.hok.fresh (Nat.le_succ _)) (I.hok.fresh (Nat.le_refl _)) (Nat.ne_of_lt (Nat.lt_succ_self _))
 have I2:=Inv.made (C:=C) I
 have r2:Vals (V.ref (s.heap.objs.size+1)::(vs++dvs)) (Value.ref (s.heap.objs.size+1)::(us++ds)):=.cons rfl (r.append hd)
 have hl:(Value.ref (s.heap.objs.size+1)::us++ds).length=ps.length:=by
  have e:=r2.length
  rw [F.len _ _ _ _ hq] at e
  exact e.symm
 refine wpAny_call (zht (f:=f) I.kIn M.makes M.init (beq_iff_eq.mp M.fn) (codeAny_mono (F.run _ X.stack _ _ ⟨Value.ref (s.heap.objs.size+1)::us,[]⟩ (Value.ref (s.heap.objs.size+1)::(us++ds)) _ _ (E σ) (hr.make C us [])
  (I2.env0.make C us []) (hb _ (Value.ref (s.heap.objs.size+1)::us) I2.kIn hl) r2 hq) fun r s' hq' => ?_))
 cases r with
 | error e=>exact hx pins σ _ _ e s' I2 hq'
 | ok fl =>
  cases fl with
  | ret u =>
   obtain ⟨v,H',I3,rv,ev,q3⟩:=I2.after hq'
   subst ev
   exact ⟨rv,⟨V.ref (s.heap.objs.size+1),H',I3,rfl,q3⟩⟩
  | next=>exact False.elim hq'
  | brk=>exact False.elim hq'
  | cont=>exact False.elim hq'
theorem ziU {C:Addr} {xs:List AV} {us:List V} {H:Hp} {Q:VK} {ι:Ix} {h:AH} {E:XK} {n:Nat} (hc:T.cls c=some C) (hn:(T.fields c).length=n) (S:Sim T ι h H) (r:RVs T ι H xs us)
  (q:Post T ι H E (RV T) (match F (.ref h.length::xs) (h++[.ins c (List.replicate n none)]) with | .ok .non h2=>Out.ok (AV.ref h.length) h2 | .ex c h2=>.ex c h2 | _=>.bad) Q) :
  ∀ x dx,H x=none->H dx=none->dx≠x->spA T F (.ref x::us) (upd (upd H dx (.own x)) x (.ins C dx [])) (fun v H2=>v = .non/\Q (.ref x) H2) E:=by
 intro x dx nx ndx ne
 have nx':(upd H dx (.own x)) x=none:=by rw [yay (Ne.symm ne)];exact nx
 have S1:=S.new (o:=.own x) ndx
 have g1:=S.growNew (o:=.own x) ndx
 have g2:=S1.growAdd (u:=.ins C dx []) nx'
 have S2:Sim T (ι.add x) (h++[.ins c (List.replicate n none)]) (upd (upd H dx (.own x)) x (.ins C dx [])):=S1.add nx' ⟨C,dx,[],hc,rfl,by simp,by simp,by simp [hn],fun i v e=>by
  rw [List.getElem?_replicate] at e
  split at e
  ·cases e
  ·cases e⟩
 refine ⟨ι.add x,_,.ref h.length::xs,S2,.cons (.ref S.addAt) (r.mono (g1.trans g2)),?_⟩
 have q2:=q.shift (g1.trans g2)
 cases e:F (.ref h.length::xs) (h++[.ins c (List.replicate n none)]) with
 | bad=>rw [e] at q2;exact q2
 | ex c' h2=>rw [e] at q2;exact q2
 | ok v h2 =>
  rw [e] at q2
  cases v with
  | non=>exact fun ι' H' u g S' r' => ⟨ye4 r',q2 ι' H' _ g S' (.ref (g.at S.addAt))⟩
  | _=>exact (show False from q2).elim
theorem ziV {n:Nat} (hK:X.K=T.K) (CC:CA T E X) (G:GK X.prog X.w T X.mg X.base k c x F) (hr:Room (k+1) X.A) (hg:Gl X x) (hn:(T.fields c).length=n:=by rfl) (hdb:(x == ("__debug__" : Str))=false:=by decide):PEA T E X (.Call (.Name x p) [] [] pos) (yeU c n F sNil):=by
 obtain ⟨C,f,fd,ps,h1,h2,h3,h4,h5⟩:=G.ex
 intro pins s σ H Q I ⟨ι,h,en,S,er,q⟩
 refine wpAny_Call_Name_kw (zcc I hg h2 ?_ hdb)
 have M:Mk X.K C f:=hK▸h3
 exact PySem.W.callWith_K0 I.kIn M.kp (zgZ (us:=[]) (vs:=[]) (dvs:=[]) M (hK▸h5) hr (hK▸h4) .nil CC.pass I .nil (ziU h1 hn S .nil q))
theorem yaH {i:Nat} {f:Str} (hK:X.K=T.K) (CFc:CF T c) (ho:PEA T E X o so) (hf:(T.fields c)[i]? = some f:=by rfl) (hb:attributeBase o f X.env (eval o X.env)=eval o X.env:=by rfl):PEA T E X (.Attribute o f pos) (Sm.sFld c i so):=by
 obtain ⟨C,hC,hcl,hna⟩:=CFc.ex
 refine yaS (ygC ho hb) fun σ H Q ⟨ι,h,en,S,er,q⟩=>⟨ι,h,en,S,er,q.bind fun x h1 ι1 H1 u g1 S1 r1 q1=>?_⟩
 split at q1
 ·rename_i n
  split at q1
  ·rename_i c' fs hn
   split at q1
   ·rename_i ec
    subst ec
    split at q1
    ·rename_i v hv
     cases r1 with
     | @ref _ a hr =>
      obtain ⟨o,e1,C',dx,fus,hC',rfl,nd,hw,hl,hr2⟩:=S1.obj n _ a hn hr
      rw [hC] at hC';cases hC'
      obtain ⟨f',u,e2,e3,r3⟩:=hr2 i v hv
      rw [hf] at e2;cases e2
      exact ⟨a,_,dx,fus,u,rfl,e1,hK▸hcl,hK▸hna f (List.mem_of_getElem? hf),e3,q1.now S1 r3⟩
    ·exact q1.elim
   ·exact q1.elim
  ·exact q1.elim
 ·exact q1.elim
theorem zdM (f:Str) (v:V):∀ {fs:List (Str×V)},(fs.map (·.1)).Nodup->((putF f v fs).map (·.1)).Nodup/\∀ g,g∈(putF f v fs).map (·.1)->g=f\/g∈fs.map (·.1)
 | [],_=>by simp [putF]
 | (g,x)::r,n=>by
  obtain ⟨n1,n2⟩:=List.nodup_cons.mp (show (g::r.map (·.1)).Nodup from n)
  unfold putF
  split
  ·rename_i e
   subst e
   exact ⟨n,fun k hk=>.inr hk⟩
  ·rename_i e
   obtain ⟨h1,h2⟩:=zdM f v (fs:=r) n2
   refine ⟨List.nodup_cons.mpr ⟨fun z=>?_,h1⟩,fun k hk=>?_⟩
   ·rcases h2 g z with z | z
    ·exact e z
    ·exact n1 z
   ·rcases List.mem_cons.mp hk with z | z
    ·exact .inr (by rw [z];simp)
    ·rcases h2 k z with z | z
     ·exact .inl z
     ·exact .inr (List.mem_cons_of_mem _ z)
theorem zen:∀ {l m:List Str},l.Nodup->(∀ x∈l,x∈m)->l.length<=m.length
 | [],m,_,_=>Nat.zero_le _
 | x::l,m,n,h=>by
  obtain ⟨n1,n2⟩:=List.nodup_cons.mp n
  have hx:=h x (by simp)
  have:=zen (l:=l) (m:=m.erase x) n2 fun y hy=>by
   have ne:y≠x:=fun z=>n1 (z▸hy)
   exact (List.mem_erase_of_ne ne).mpr (h y (by simp [hy]))
  rw [List.length_erase_of_mem hx] at this
  have:0<m.length:=List.length_pos_of_mem hx
  simp only [List.length_cons]
  omega
theorem zaM {i:Nat} {f:Str} {p':Pos} (hK:X.K=T.K) (CFc:CF T c) (ho:PEA T E X o so) (ha:PEA T E X a sa) (hf:(T.fields c)[i]? = some f:=by rfl) (hs:swapsWith a (some (.Attribute o f p')) pos.line X.env=pure false:=by rfl) :
  PSA T E X (.Assign [.Attribute o f p'] a pos) (ycg c i so sa):=by
 obtain ⟨C,hC,hcl,hna⟩:=CFc.ex
 refine yb9 (ygD ho ha hs) fun D σ H ⟨ι,h,en,S,er,q⟩=>⟨ι,h,en,S,er,q.go er fun y h1 ι1 H1 v g1 S1 r1 q1=>⟨ι1,h1,en,S1,er.mono g1,q1.go (er.mono g1) fun x h2 ι2 H2 u g2 S2 r2 q2=>?_⟩⟩
 split at q2
 ·rename_i n
  split at q2
  ·rename_i c' fs hn
   split at q2
   ·rename_i ec
    subst ec
    cases r2 with
    | @ref _ a hr =>
     obtain ⟨o,e1,C',dx,fus,hC',rfl,nd,hw,hl,hr2⟩:=S2.obj n _ a hn hr
     rw [hC] at hC';cases hC'
     have hmem:f∈T.fields c' := List.mem_of_getElem? hf
     have hlen:fus.length<1000:=by
      have:=zen nd (m:=T.fields c') (fun x hx=>by
       obtain ⟨p,hp,rfl⟩:=List.mem_map.mp hx
       exact hw p hp)
      have:=T.few c'
      rw [List.length_map] at *
      omega
     obtain ⟨k1,k2⟩:=zdM f v nd
     have g3:=S2.growSet (u:=.ins C dx (putF f v fus)) hr
     refine ⟨a,C,dx,fus,rfl,e1,hK▸hcl,hK▸hna f hmem,hlen,q2 ι2 _ σ g3 (S2.set hr ⟨C,dx,putF f v fus,hC,rfl,k1,fun p hp=>?_,by simp [hl],fun j w hj=>?_⟩) (er.mono (g1.trans (g2.trans g3)))⟩
     ·rcases k2 p.1 (List.mem_map.mpr ⟨p,hp,rfl⟩) with z | z
      ·rw [z];exact hmem
      ·obtain ⟨p',hp',e⟩:=List.mem_map.mp z
       rw [<- e];exact hw p' hp'
     ·by_cases hji:j=i
      ·subst hji
       have hjl:j<fs.length:=by
        have:=(List.getElem?_eq_some_iff.mp hj).1
        simpa using this
       rw [List.getElem?_set_self hjl] at hj
       cases hj
       exact ⟨f,v,hf,by rw [za6,if_pos rfl],r1.mono (g2.trans g3)⟩
      ·rw [List.getElem?_set_ne (Ne.symm hji)] at hj
       obtain ⟨f',u,e2,e3,r3⟩:=hr2 j w hj
       have ne:f'≠f:=fun z=>hji (zcE (T.nd c') e2 (z▸hf))
       exact ⟨f',u,e2,by rw [za6,if_neg ne];exact e3,r3.mono g3⟩
   ·exact (show False from q2).elim
  ·exact (show False from q2).elim
 ·exact (show False from q2).elim
end
end Sm
namespace Sm
open PySem PySem.Spec L2
theorem yfh {T:Tb} {ι:Ix} {H:Hp} {k:Key} {u:V} (r:RV T ι H (kA k) u):u=kV k:=by
 cases k with
 | inl i=>exact yaC r
 | inr x=>exact (ybh r).1
theorem ye5 {k j:Key} (e:kA k=kA j):k=j:=by
 cases k<;>cases j<;>simp [kA] at e<;>simp [e]
theorem zdl:∀ {ks js:List Key},ks.map kA=js.map kA->ks=js
 | [],[],_=>rfl
 | [],_::_,e=>by simp at e
 | _::_,[],e=>by simp at e
 | k::ks,j::js,e=>by
  simp only [List.map_cons,List.cons.injEq] at e
  rw [ye5 e.1,zdl e.2]
theorem yfF {T:Tb} {ι:Ix} {H:Hp}:∀ {ks:List Key} {us:List V},RVs T ι H (ks.map kA) us->us=ks.map kV
 | [],_,.nil=>rfl
 | k::ks,_,.cons r rs=>by rw [yfh r,yfF rs];rfl
theorem zbE {v:AV} {k:Key} (e:keyOf? v=some k):v=kA k:=by
 unfold keyOf? at e
 split at e<;>cases e<;>rfl
theorem za7:∀ {vs:List AV} {ks:List Key},keysOf? vs=some ks->vs=ks.map kA
 | [],_,e=>by cases e;rfl
 | v::vs,ks,e=>by
  unfold keysOf? at e
  split at e
  ·rename_i k ks' e1 e2
   cases e
   rw [zbE e1,za7 e2];rfl
  ·cases e
theorem yeH {κ:Type} [DecidableEq κ] {T:Tb} {ι:Ix} {H:Hp} {f:κ->AV} (hf:∀ {a b},f a=f b->a=b) {k:κ}:∀ {kvs:List (AV×AV)} {kus:List (κ×V)},Paired (fun (p:AV×AV) (q:κ×V)=>p.1=f q.1/\RV T ι H p.2 q.2) kvs kus ->
  (valA kvs (f k)=none/\valV kus k=none)\/∃ v u,valA kvs (f k)=some v/\valV kus k=some u/\RV T ι H v u
 | _,_,.nil=>.inl ⟨rfl,rfl⟩
 | (a,v)::kvs,(j,u)::kus,.cons ⟨e,r⟩ rs=>by
  by_cases h:j=k
  ·subst h
   replace e:a=f j:=e
   subst e
   exact .inr ⟨v,u,by simp [valA],zbC rfl,r⟩
  ·have h' : ¬ a=f k:=fun z=>h (hf (e.symm.trans z))
   rcases yeH hf rs (k:=k) with ⟨h1,h2⟩ | ⟨v',u',h1,h2,h3⟩
   ·refine .inl ⟨?_,by rw [zbc h];exact h2⟩
    unfold valA at h1 ⊢
    rw [List.find?_cons,decide_eq_false h']
    exact h1
   ·refine .inr ⟨v',u',?_,by rw [zbc h];exact h2,h3⟩
    unfold valA at h1 ⊢
    rw [List.find?_cons,decide_eq_false h']
    exact h1
theorem zdm {kvs:List (AV×AV)} {k:AV}:(kvs.any fun p=>decide (p.1=k))=(valA kvs k).isSome:=by
 induction kvs with
 | nil=>rfl
 | cons p r ih =>
  unfold valA at ih ⊢
  rw [List.any_cons,List.find?_cons,ih]
  cases h:decide (p.1=k)<;>simp
theorem yfG {κ:Type} [DecidableEq κ] {T:Tb} {ι:Ix} {H:Hp} {f:κ->AV} (hf:∀ {a b},f a=f b->a=b) {k:κ} {v:AV} {u:V} (rv:RV T ι H v u) {kvs:List (AV×AV)} {kus:List (κ×V)} (r:Paired (fun (p:AV×AV) (q:κ×V)=>p.1=f q.1/\RV T ι H p.2 q.2) kvs kus) :
  Paired (fun (p:AV×AV) (q:κ×V)=>p.1=f q.1/\RV T ι H p.2 q.2) (putA kvs (f k) v) (putK kus k u):=by
 have e:(kvs.any fun p=>decide (p.1=f k))=kus.any fun kv=>decide (kv.1=k):=by
  rw [zdm,zcI]
  rcases yeH hf r (k:=k) with ⟨h1,h2⟩ | ⟨v',u',h1,h2,h3⟩
  ·rw [h1,h2];rfl
  ·rw [h1,h2];rfl
 unfold putA putK
 rw [e]
 by_cases h:(kus.any fun kv=>decide (kv.1=k))=true
 ·rw [if_pos h,if_pos h]
  clear e h
  induction r with
  | nil=>exact .nil
  | cons p rs ih =>
   rename_i a b l1 l2
   refine .cons ?_ ih
   obtain ⟨e1,r1⟩:=p
   dsimp only
   by_cases hk:b.1=k
   ·rw [if_pos hk,if_pos (by rw [e1,hk])]
    exact ⟨e1,rv⟩
   ·rw [if_neg hk,if_neg (fun z=>hk (hf (e1.symm.trans z)))]
    exact ⟨e1,r1⟩
 ·rw [if_neg h,if_neg h]
  have app:∀ {l1:List (AV×AV)} {l2:List (κ×V)},Paired (fun (p:AV×AV) (q:κ×V)=>p.1=f q.1/\RV T ι H p.2 q.2) l1 l2->Paired (fun (p:AV×AV) (q:κ×V)=>p.1=f q.1/\RV T ι H p.2 q.2) (l1++[(f k,v)]) (l2++[(k,u)]):=fun z=>by
   induction z with
   | nil=>exact .cons ⟨rfl,rv⟩ .nil
   | cons p _ ih=>exact .cons p ih
  exact app r
section
variable {T:Tb} {ι:Ix} {h:AH} {H:Hp}
theorem keyT {xs:List AV} {u:V} {ks:List Key} (r:RV T ι H (.tup xs) u) (e:keysOf? xs=some ks):∃ b,u = .ref b/\KTup H b ks:=by
 have:=za7 e
 subst this
 cases r with
 | tup n q r=>exact ⟨_,rfl,.of (by rw [<- yfF r];exact q)⟩
theorem zfw {n:Nat} {t:Bool} {kvs:List (AV×AV)} {y:AV} {a:Addr} {w:V} (S:Sim T ι h H) (hn:h[n]? = some (.dct t kvs)) (hr:ι.refs[n]? = some a) (ry:RV T ι H y w) (hk:ybY t y=true) :
  ∃ o,DGet H a w o/\((valA kvs y=none/\o=none)\/∃ v u,valA kvs y=some v/\o=some u/\RV T ι H v u):=by
 obtain ⟨ob,e1,r⟩:=S.obj n _ a hn hr
 cases t with
 | false =>
  obtain ⟨kus,rfl,r⟩:=r
  have hk':(keyOf? y).isSome=true:=hk
  obtain ⟨k,ek⟩:=Option.isSome_iff_exists.mp hk'
  have:=zbE ek
  subst this
  rw [yfh ry]
  refine ⟨valV kus k,.k e1,?_⟩
  rcases yeH ye5 r (k:=k) with ⟨h1,h2⟩ | ⟨v',u',h1,h2,h3⟩
  ·exact .inl ⟨h1,h2⟩
  ·exact .inr ⟨v',u',h1,h2,h3⟩
 | true =>
  obtain ⟨kus,rfl,r⟩:=r
  unfold ybY at hk
  split at hk
  ·rename_i hh;cases hh
  ·rename_i xs hh
   obtain ⟨ks,ek⟩:=Option.isSome_iff_exists.mp hk
   obtain ⟨b,rfl,hb⟩:=keyT ry ek
   have:=za7 ek
   subst this
   refine ⟨valV kus ks,.t e1 hb,?_⟩
   rcases yeH (f:=fun ks:List Key=>AV.tup (ks.map kA)) (fun e=>zdl (by injection e)) r (k:=ks) with ⟨h1,h2⟩ | ⟨v',u',h1,h2,h3⟩
   ·exact .inl ⟨h1,h2⟩
   ·exact .inr ⟨v',u',h1,h2,h3⟩
  ·cases hk
theorem ziW {n:Nat} {t:Bool} {kvs:List (AV×AV)} {y z:AV} {a:Addr} {w u:V} (S:Sim T ι h H) (hn:h[n]? = some (.dct t kvs)) (hr:ι.refs[n]? = some a) (ry:RV T ι H y w) (rz:RV T ι H z u) (hk:ybY t y=true) (hl:kvs.length<sizeLine) :
  ∃ H',DPut H a w u H'/\Grow ι H ι H'/\Sim T ι (h.set n (.dct t (putA kvs y z))) H' := by
 obtain ⟨ob,e1,r⟩:=S.obj n _ a hn hr
 cases t with
 | false =>
  obtain ⟨kus,rfl,r⟩:=r
  have hk':(keyOf? y).isSome=true:=hk
  obtain ⟨k,ek⟩:=Option.isSome_iff_exists.mp hk'
  have:=zbE ek
  subst this
  rw [yfh ry]
  have g:=S.growSet (u:=.dK (putK kus k u)) hr
  exact ⟨_,.k e1 (by rw [<- Paired.length r];exact hl),g,S.set hr ⟨_,rfl,yfG ye5 (rz.mono g) (Paired.mapP r fun _ _ ⟨p,q⟩=>⟨p,q.mono g⟩)⟩⟩
 | true =>
  obtain ⟨kus,rfl,r⟩:=r
  unfold ybY at hk
  split at hk
  ·rename_i hh;cases hh
  ·rename_i xs hh
   obtain ⟨ks,ek⟩:=Option.isSome_iff_exists.mp hk
   obtain ⟨b,rfl,hb⟩:=keyT ry ek
   have:=za7 ek
   subst this
   have g:=S.growSet (u:=.dT (putK kus ks u)) hr
   exact ⟨_,.t e1 hb (by rw [<- Paired.length r];exact hl),g,S.set hr ⟨_,rfl,yfG (f:=fun ks:List Key=>AV.tup (ks.map kA)) (fun e=>zdl (by injection e)) (rz.mono g) (Paired.mapP r fun _ _ ⟨p,q⟩=>⟨p,q.mono g⟩)⟩⟩
  ·cases hk
theorem RVs.atI {xs:List AV} {us:List V} {i:Int} {v:AV} (r:RVs T ι H xs us) (e:atI xs i=some v):∃ u,L2.atI us i=some u/\RV T ι H v u:=by
 unfold L2.atI at e ⊢
 rw [<- r.length]
 obtain ⟨j,e1,e2⟩:=Option.bind_eq_some_iff.mp e
 obtain ⟨u,e3,r3⟩:=r.get e2
 exact ⟨u,by rw [e1];exact e3,r3⟩
end
section
variable {T:Tb} {E:St->XK} {X:Cx} {pos:Pos} {a b c:Expr} {sa sb sc:SE}
theorem yhZ {e:Expr} {t t':TE} (h:PE X e t) (h':PE X e t'):PE X e (fun σ H Q=>t σ H Q\/t' σ H Q):=fun pins s σ H Q I q=>q.elim (h pins s σ H Q I) (h' pins s σ H Q I)
theorem yh0 {e:Stmt} {t t':TS} (h:PS X e t) (h':PS X e t'):PS X e (fun D σ H=>t D σ H\/t' D σ H):=fun pins s σ H Q I q=>q.elim (h pins s σ H Q I) (h' pins s σ H Q I)
theorem r_ix (hK:X.K=T.K) (hu:X.A.units+64<cLine) (ha:PEA T E X a sa) (hb:PEA T E X b sb) (hs:yfe b:=by exact fun _ _=>rfl):PEA T E X (.Subscript a b pos) (sOp2 fIx sa sb):=by
 refine yaS (yhZ (yhL ygH ha hb hs) (ziD (Nat.lt_of_le_of_lt (Nat.add_le_add_left (by decide:1<=64) _) hu) ha hb hs)) fun σ H Q q=>?_
 obtain ⟨ι,h,en,S,er,q⟩:=q
 have left:(∀ x h1 y h2,sa en h = .ok x h1->sb en h1 = .ok y h2->∀ n t kvs,x = .ref n->h2[n]? = some (.dct t kvs)->False)->tOp (rIx X.K) (tE T E sa) (tE T E sb) σ H Q:=fun no=>by
  refine ⟨ι,h,en,S,er,?_⟩
  unfold sOp2 at q
  cases e1:sa en h with
  | bad=>rw [e1] at q;exact q
  | ex c h1=>rw [e1] at q;exact q
  | ok x h1 =>
   rw [e1] at q
   intro ι1 H1 u g1 S1 r1
   refine ⟨ι1,h1,en,S1,er.mono g1,?_⟩
   dsimp only [Out.bind] at q
   cases e2:sb en h1 with
   | bad=>rw [e2] at q;exact q
   | ex c h2=>rw [e2] at q;exact Post.shift (R:=RV T) (o:=.ex c h2) q g1
   | ok y h2 =>
    rw [e2] at q
    intro ι2 H2 w g2 S2 r2
    have q2:=Post.shift q (g1.trans g2)
    have r1' := r1.mono g2
    dsimp only at q2
    unfold fIx at q2
    split at q2
    ·rename_i z i
     split at q2
     ·rename_i cc hc
      obtain ⟨rfl,zl,zo⟩:=ybh r1'
      rw [yaC r2]
      refine .inr (.inr ⟨z,i,cc,rfl,rfl,zl,hc,q2.now S2 (.str (show 1<=sizeLine by decide) ?_)⟩)
      obtain ⟨j,_,e3,_⟩:=zcf hc
      have m:cc∈z.cps:=by
       have:=List.mem_of_getElem? e3
       simpa using this
      have:=Array.all_eq_true_iff_forall_mem.mp zo _ m
      simpa using this
     ·exact q2.elim
    ·rename_i xs i
     split at q2
     ·rename_i v hv
      obtain ⟨b,us,rfl,sq,rs⟩:=yc3 r1'
      obtain ⟨u2,e3,r3⟩:=rs.atI hv
      rw [yaC r2]
      exact .inr (.inl ⟨b,us,i,u2,rfl,rfl,hK▸sq,e3,q2.now S2 r3⟩)
     ·exact q2.elim
    ·rename_i xs i
     split at q2
     ·rename_i v hv
      obtain ⟨b,us,rfl,sq,rs⟩:=ybv S2 r1' rfl
      obtain ⟨u2,e3,r3⟩:=rs.atI hv
      rw [yaC r2]
      exact .inl ⟨b,us,i,u2,rfl,rfl,hK▸sq,e3,q2.now S2 r3⟩
     ·exact q2.elim
    ·rename_i n
     split at q2
     ·rename_i xs hn
      split at q2
      ·rename_i i
       split at q2
       ·rename_i v hv
        obtain ⟨b,us,rfl,sq,rs⟩:=ybv (xs:=xs) S2 r1' (by simp [ybS,hn])
        obtain ⟨u2,e3,r3⟩:=rs.atI hv
        rw [yaC r2]
        exact .inl ⟨b,us,i,u2,rfl,rfl,hK▸sq,e3,q2.now S2 r3⟩
       ·exact q2.elim
      ·exact q2.elim
     ·rename_i t kvs hn
      exact (no _ h1 _ h2 e1 e2 n t kvs rfl hn).elim
     ·exact q2.elim
    ·exact q2.elim
 by_cases dd:∃ x h1 y h2,sa en h = .ok x h1/\sb en h1 = .ok y h2/\∃ n t kvs,x = .ref n/\h2[n]? = some (.dct t kvs)
 ·obtain ⟨x,h1,y,h2,e1,e2,n,t,kvs,rfl,hn⟩:=dd
  refine .inr ⟨ι,h,en,S,er,?_⟩
  unfold sOp2 at q
  rw [e1] at q ⊢
  intro ι1 H1 u g1 S1 r1
  refine ⟨ι1,h1,en,S1,er.mono g1,?_⟩
  dsimp only [Out.bind] at q
  rw [e2] at q ⊢
  intro ι2 H2 w g2 S2 r2
  have q2:=Post.shift q (g1.trans g2)
  have r1' := r1.mono g2
  dsimp only at q2
  unfold fIx at q2
  simp only [hn] at q2
  split at q2
  ·rename_i hk
   cases r1' with
   | @ref _ ad hr =>
    obtain ⟨o,dg,alt⟩:=zfw S2 hn hr r2 hk
    rcases alt with ⟨v1,rfl⟩ | ⟨v,u,v1,rfl,r3⟩
    ·rw [v1] at q2;exact q2.elim
    ·rw [v1] at q2
     exact ⟨ad,u,rfl,dg,q2.now S2 r3⟩
  ·exact q2.elim
 ·exact .inl (left fun x h1 y h2 e1 e2 n t kvs e3 e4=>dd ⟨x,h1,y,h2,e1,e2,n,t,kvs,e3,e4⟩)
theorem zdn {p':Pos} (hu:X.A.units+64<cLine) (ho:PEA T E X a sa) (hi:PEA T E X b sb) (hv:PEA T E X c sc) (hs:swapsWith c (some (.Subscript a b p')) pos.line X.env=pure false:=by rfl) (hs':swapsWithSole [.Subscript a b p'] c pos.line X.env=pure false:=by rfl) (hw:swappedStores [.Subscript a b p'] c X.env=pure none:=by rfl)
  (h1:(assignEach [.Subscript a b p'] X.env).map (·.2)=[assign (.Subscript a b p') X.env]:=by rfl)
  (has:∀ v,assign (.Subscript a b p') X.env v=(do
   let ov <- holding [v] (eval a X.env)
   let iv <- holding [v,ov] (eval b X.env)
   standAt p'
   holding [v,ov,iv] (setItem ov iv v)
   release [v,ov,iv] []):=by intro _;rfl):PSA T E X (.Assign [.Subscript a b p'] c pos) (yd6 sa sb sc):=by
 refine yb9 (yh0 (yfq hv (ygt ho hi zhw has) hs' hw h1) (ziE (Nat.lt_of_le_of_lt (Nat.add_le_add_left (by decide:1<=64) _) hu) ho hi hv hs)) fun D σ H q=>?_
 obtain ⟨ι,h,en,S,er,q⟩:=q
 unfold yd6 at q
 by_cases dd:∃ z h1 x h2 y h3,sc en h = .ok z h1/\sa en h1 = .ok x h2/\sb en h2 = .ok y h3/\∃ n t kvs,x = .ref n/\h3[n]? = some (.dct t kvs)
 ·obtain ⟨z,h1,x,h2,y,h3,e1,e2,e3,n,t,kvs,rfl,hn⟩:=dd
  refine .inr ⟨ι,h,en,S,er,?_⟩
  rw [e1] at q ⊢
  intro ι1 H1 u g1 S1 r1
  refine ⟨ι1,h1,en,S1,er.mono g1,?_⟩
  dsimp only [Out.go] at q
  rw [e2] at q ⊢
  intro ι2 H2 w g2 S2 r2
  refine ⟨ι2,h2,en,S2,er.mono (g1.trans g2),?_⟩
  dsimp only at q
  rw [e3] at q ⊢
  intro ι3 H3 j g3 S3 r3
  have q2:=PostS.shift q (g1.trans (g2.trans g3))
  simp only [hn] at q2
  split at q2
  ·rename_i hk
   cases (r2.mono g3) with
   | @ref _ ad hr =>
    obtain ⟨H4,dp,g4,S4⟩:=ziW S3 hn hr r3 (r1.mono (g2.trans g3)) hk.1 hk.2
    exact ⟨ad,H4,rfl,dp,q2 ι3 H4 σ g4 S4 (er.mono (g1.trans (g2.trans (g3.trans g4))))⟩
  ·exact q2.elim
 ·refine .inl ⟨ι,h,en,S,er,?_⟩
  cases e1:sc en h with
  | bad=>rw [e1] at q;exact q
  | ex cc h1=>rw [e1] at q;exact fun i2 H2 C g S e=>q i2 H2 σ C g S (er.mono g) e
  | ok z h1 =>
   rw [e1] at q
   intro ι1 H1 u g1 S1 r1
   refine ⟨ι1,h1,en,S1,er.mono g1,?_⟩
   dsimp only [Out.go] at q
   cases e2:sa en h1 with
   | bad=>rw [e2] at q;exact q
   | ex cc h2=>rw [e2] at q;exact fun i2 H2 C g S e=>q i2 H2 σ C (g1.trans g) S (er.mono (g1.trans g)) e
   | ok x h2 =>
    rw [e2] at q
    intro ι2 H2 w g2 S2 r2
    refine ⟨ι2,h2,en,S2,er.mono (g1.trans g2),?_⟩
    dsimp only at q
    cases e3:sb en h2 with
    | bad=>rw [e3] at q;exact q
    | ex cc h3=>rw [e3] at q;exact fun i2 H2 C g S e=>q i2 H2 σ C (g1.trans (g2.trans g)) S (er.mono (g1.trans (g2.trans g))) e
    | ok y h3 =>
     rw [e3] at q
     intro ι3 H3 j g3 S3 r3
     have q2:=PostS.shift q (g1.trans (g2.trans g3))
     dsimp only at q2
     split at q2
     ·rename_i n
      split at q2
      ·rename_i xs hn
       split at q2
       ·rename_i k
        split at q2
        ·rename_i jj hj
         cases (r2.mono g3) with
         | @ref _ ad hr =>
          obtain ⟨o,e4,us,rfl,rs⟩:=S3.obj n _ ad hn hr
          have g4:=S3.growSet (u:=.lst (us.set jj u)) hr
          rw [yaC r3]
          exact ⟨ad,us,k,jj,rfl,rfl,e4,by rw [<- rs.length];exact hj,q2 ι3 _ σ g4 (S3.set hr ⟨_,rfl,RVs.set (r1.mono (g2.trans (g3.trans g4))) jj (rs.mono g4)⟩) (er.mono (g1.trans (g2.trans (g3.trans g4))))⟩
        ·exact q2.elim
       ·exact q2.elim
      ·rename_i t kvs hn
       exact (dd ⟨_,h1,_,h2,_,h3,e1,e2,e3,n,t,kvs,rfl,hn⟩).elim
      ·exact q2.elim
     ·exact q2.elim
theorem zfx {g:Value->Value->Sem Value} {r:R2} {neg:Bool} (hK:X.K=T.K)
  (h1:∀ (i j:Str) H Q,Q (V.bl (if neg then !(!(Builtin.Str.occurrences j i 0 j.length 1).isEmpty) else !(Builtin.Str.occurrences j i 0 j.length 1).isEmpty)) H->r (.str i) (.str j) H Q)
  (h2:∀ x y H Q p xs d ds,y=V.ref p->SqL T.K H p xs->DaV T.K H x d->DaVs T.K H xs ds->d.canLay0=true->(∀ e∈ds,e.canLay0=true/\e.depth<=30)->Q (V.bl (if neg then !(ds.any fun e=>PyData.eqv e d) else ds.any fun e=>PyData.eqv e d)) H->r x y H Q)
  (h2t:∀ x y H Q p xs d ds,y=V.ref p->SqT T.K H p xs->DaV T.K H x d->DaVs T.K H xs ds->d.canLay0=true->(∀ e∈ds,e.canLay0=true/\e.depth<=30)->Q (V.bl (if neg then !(ds.any fun e=>PyData.eqv e d) else ds.any fun e=>PyData.eqv e d)) H->r x y H Q)
  (h3:∀ (y:V) (a:Addr) o H Q,DGet H a y o->Q (V.bl (if neg then !o.isSome else o.isSome)) H->r y (.ref a) H Q) :
  OpS T (fun x y h=>match inA x y h with | some b=>.ok (.bl (if neg then !b else b)) h | none=>.bad) r:=by
 intro ι h H x y u w E Q S rx ry p
 dsimp only at p
 cases hb:inA x y h with
 | none=>rw [hb] at p;exact p.elim
 | some b =>
  rw [hb] at p
  dsimp only at p
  unfold inA at hb
  split at hb
  ·cases hb
   obtain ⟨rfl,_⟩:=ybh rx
   obtain ⟨rfl,_⟩:=ybh ry
   exact h1 _ _ _ _ (p.now S (.bl _))
  ·rename_i n
   split at hb
   ·rename_i t kvs hn
    split at hb
    ·rename_i hk
     cases hb
     cases ry with
     | @ref _ ad hr =>
      obtain ⟨o,dg,alt⟩:=zfw S hn hr rx hk
      refine h3 u ad o H Q dg ?_
      rcases alt with ⟨v1,rfl⟩ | ⟨v,u',v1,rfl,r3⟩
      ·rw [v1] at p;exact p.now S (.bl _)
      ·rw [v1] at p;exact p.now S (.bl _)
    ·cases hb
   ·rename_i xs hn
    split at hb
    ·rename_i d ds e1 e2
     cases hb
     obtain ⟨a,us,rfl,sq,rs⟩:=ybv (xs:=xs) S ry (by simp [ybS,hn])
     obtain ⟨q1,q2,q3⟩:=ycC S 8 rx e1
     obtain ⟨q4,q5⟩:=zbw (n:=8) (fun r e=>ycC S 8 r e) rs e2
     exact h2 _ _ _ _ a us d ds rfl sq q1 q4 q2 (fun e he=>⟨(q5 e he).1,by have:=(q5 e he).2;omega⟩) (p.now S (.bl _))
    ·cases hb
   ·cases hb
  ·rename_i xs
   split at hb
   ·rename_i d ds e1 e2
    cases hb
    obtain ⟨a,us,rfl,sq,rs⟩:=ybv S ry rfl
    obtain ⟨q1,q2,q3⟩:=ycC S 8 rx e1
    obtain ⟨q4,q5⟩:=zbw (n:=8) (fun r e=>ycC S 8 r e) rs e2
    exact h2 _ _ _ _ a us d ds rfl sq q1 q4 q2 (fun e he=>⟨(q5 e he).1,by have:=(q5 e he).2;omega⟩) (p.now S (.bl _))
   ·cases hb
  ·rename_i xs
   split at hb
   ·rename_i d ds e1 e2
    cases hb
    obtain ⟨a,us,rfl,sq,rs⟩:=yc3 ry
    obtain ⟨q1,q2,q3⟩:=ycC S 8 rx e1
    obtain ⟨q4,q5⟩:=zbw (n:=8) (fun r e=>ycC S 8 r e) rs e2
    exact h2t _ _ _ _ a us d ds rfl sq q1 q4 q2 (fun e he=>⟨(q5 e he).1,by have:=(q5 e he).2;omega⟩) (p.now S (.bl _))
   ·cases hb
  ·cases hb
end
end Sm
namespace L2
open PySem PySem.Spec PyProof.Rows
section
variable {X:Cx} {pins:List (Addr×Obj)} {σ:St} {H:Hp} {s:Shared}
theorem zb0 (I:Inv X pins σ H s) (hu:X.A.units+64<cLine) {xs:List V} {ds:List PyData} {its:List Value} {d:PyData} {v:Value} {as:List Addr} (ra:Reads s.heap v d as) (hds:DaVs X.K H xs ds) (r:Vals xs its) (cd:d.canLay0=true) (cds:∀ e∈ds,e.canLay0=true/\e.depth<=30) :
  (∀ y,y∈its.toArray->SeqAt.EqAt X.A.in1 s y v (isD s.heap d y))/\its.toArray.any (isD s.heap d)=ds.any fun e=>PyData.eqv e d:=by
 obtain ⟨hl,hat⟩:=zdf I hds r
 constructor
 ·intro y hy
  have hy':y∈its:=by simpa using hy
  obtain ⟨j,hj⟩:=List.getElem?_of_mem hy'
  have hlt:=(List.getElem?_eq_some_iff.mp hj).1
  have hdj:ds[j]? = some (ds[j]'(by omega)):=List.getElem?_eq_getElem (by omega)
  obtain ⟨bs,rb⟩:=hat j _ _ hj hdj
  have cj:=cds _ (List.mem_of_getElem? hdj)
  rw [yey cj.1 rb]
  exact SeqAt.eqAt_reads _ _ _ _ _ _ _ _ rb ra cj.1 cd (by
   have:=Nat.min_le_left (ds[j]'(by omega)).depth d.depth
   show X.A.units+1+_<cLine
   omega)
 ·rw [<- Array.any_toList]
  refine zdg hl fun j u e h1 h2=>?_
  obtain ⟨bs,rb⟩:=hat j _ _ h1 h2
  exact yey (cds _ (List.mem_of_getElem? h2)).1 rb
def ygf (K:PySem.W.Frag):R2:=fun x y H Q=>∃ p xs d ds,y = .ref p/\SqL K H p xs/\DaV K H x d/\DaVs K H xs ds/\d.canLay0=true/\(∀ e∈ds,e.canLay0=true/\e.depth<=30)/\Q (.bl (!(ds.any fun e=>PyData.eqv e d))) H
def yh1 (K:PySem.W.Frag):R2:=fun x y H Q=>∃ p xs d ds,y = .ref p/\SqT K H p xs/\DaV K H x d/\DaVs K H xs ds/\d.canLay0=true/\(∀ e∈ds,e.canLay0=true/\e.depth<=30)/\Q (.bl (ds.any fun e=>PyData.eqv e d)) H
def yfV (K:PySem.W.Frag):R2:=fun x y H Q=>∃ p xs d ds,y = .ref p/\SqT K H p xs/\DaV K H x d/\DaVs K H xs ds/\d.canLay0=true/\(∀ e∈ds,e.canLay0=true/\e.depth<=30)/\Q (.bl (!(ds.any fun e=>PyData.eqv e d))) H
theorem zg0 (hu:X.A.units+64<cLine):OpR X (compareOp .NotIn) (ygf X.K):=by
 intro pins s σ H x y v u Q I rx ry h
 obtain ⟨p,xs,d,ds,rfl,hq,hd,hds,cd,cds,q⟩:=h
 cases ry
 obtain ⟨its,r,pl,hz⟩:=I.list hq
 obtain ⟨as,ra⟩:=hd.reads I rx
 obtain ⟨h1,h2⟩:=zb0 I hu ra hds r cd cds
 exact SeqAt.notIn_listAt (isD s.heap d) pl.isList h1 ⟨.bl _,H,I,rfl,by rw [h2];exact q⟩
theorem ziX (hu:X.A.units+64<cLine):OpR X (compareOp .In) (yh1 X.K):=by
 intro pins s σ H x y v u Q I rx ry h
 obtain ⟨p,xs,d,ds,rfl,hq,hd,hds,cd,cds,q⟩:=h
 cases ry
 obtain ⟨its,r,pl,hz⟩:=I.tuple hq
 obtain ⟨as,ra⟩:=hd.reads I rx
 obtain ⟨h1,h2⟩:=zb0 I hu ra hds r cd cds
 exact SeqAt.in_tupleAt (isD s.heap d) pl h1 ⟨.bl _,H,I,rfl,by rw [h2];exact q⟩
theorem zgd (hu:X.A.units+64<cLine):OpR X (compareOp .NotIn) (yfV X.K):=by
 intro pins s σ H x y v u Q I rx ry h
 obtain ⟨p,xs,d,ds,rfl,hq,hd,hds,cd,cds,q⟩:=h
 cases ry
 obtain ⟨its,r,pl,hz⟩:=I.tuple hq
 obtain ⟨as,ra⟩:=hd.reads I rx
 obtain ⟨h1,h2⟩:=zb0 I hu ra hds r cd cds
 exact SeqAt.notIn_tupleAt (isD s.heap d) pl h1 ⟨.bl _,H,I,rfl,by rw [h2];exact q⟩
theorem zg1 (hu:X.A.units+64<cLine):OpR X (compareOp .In) (fun x y H Q=>∃ a o,y = .ref a/\DGet H a x o/\Q (.bl o.isSome) H):=by
 intro pins s σ H x y v u Q I rx ry h
 obtain ⟨a,o,rfl,g,q⟩:=h
 cases ry
 exact d_in (Nat.lt_of_le_of_lt (Nat.add_le_add_left (by decide:1<=64) _) hu) I g rx fun s' I' => ⟨.bl _,H,I',rfl,q⟩
theorem zeo (hu:X.A.units+64<cLine):OpR X (compareOp .NotIn) (fun x y H Q=>∃ a o,y = .ref a/\DGet H a x o/\Q (.bl (!o.isSome)) H):=by
 intro pins s σ H x y v u Q I rx ry h
 obtain ⟨a,o,rfl,g,q⟩:=h
 cases ry
 exact ziB (Nat.lt_of_le_of_lt (Nat.add_le_add_left (by decide:1<=64) _) hu) I g rx fun s' I' => ⟨.bl _,H,I',rfl,q⟩
end
end L2
namespace Sm
open PySem PySem.Spec L2
section
variable {T:Tb} {E:St->XK} {X:Cx}
theorem o_in (hK:X.K=T.K) (hu:X.A.units+64<cLine):Op T X (compareOp .In) fIn:=by
 refine ⟨_,zgB.or ((ygS hu).or ((ziX hu).or (zg1 hu))),zfx (neg:=false) (g:=compareOp .In) hK ?_ ?_ ?_ ?_⟩
 ·exact fun i j H Q q=>.inl ⟨i,j,rfl,rfl,q⟩
 ·exact fun x y H Q p xs d ds e1 e2 e3 e4 e5 e6 q=>.inr (.inl ⟨p,xs,d,ds,e1,hK▸e2,hK▸e3,hK▸e4,e5,e6,q⟩)
 ·exact fun x y H Q p xs d ds e1 e2 e3 e4 e5 e6 q=>.inr (.inr (.inl ⟨p,xs,d,ds,e1,hK▸e2,hK▸e3,hK▸e4,e5,e6,q⟩))
 ·exact fun y a o H Q g q=>.inr (.inr (.inr ⟨a,o,rfl,g,q⟩))
theorem zfy (hK:X.K=T.K) (hu:X.A.units+64<cLine):Op T X (compareOp .NotIn) ye3:=by
 refine ⟨_,zef.or ((zg0 hu).or ((zgd hu).or (zeo hu))),zfx (neg:=true) (g:=compareOp .NotIn) hK ?_ ?_ ?_ ?_⟩
 ·exact fun i j H Q q=>.inl ⟨i,j,rfl,rfl,q⟩
 ·exact fun x y H Q p xs d ds e1 e2 e3 e4 e5 e6 q=>.inr (.inl ⟨p,xs,d,ds,e1,hK▸e2,hK▸e3,hK▸e4,e5,e6,q⟩)
 ·exact fun x y H Q p xs d ds e1 e2 e3 e4 e5 e6 q=>.inr (.inr (.inl ⟨p,xs,d,ds,e1,hK▸e2,hK▸e3,hK▸e4,e5,e6,q⟩))
 ·exact fun y a o H Q g q=>.inr (.inr (.inr ⟨a,o,rfl,g,q⟩))
end
end Sm
namespace Sm
open PySem PySem.Spec L2
abbrev ErrC (x:Str) (C:Addr) (mg:Str->Option Value) (base:Heap):Prop:=PyProof.Rows.OwnCls x C [.type "ValueError",.type "Exception",.type "BaseException",.type "object"] "ValueError.__new__" mg base
structure GX (T:Tb) (mg:Str->Option Value) (base:Heap) (c:Nat) (x:Str):Prop where
 ex:∃ C,T.exc c=some C/\ErrC x C mg base
section
variable {T:Tb} {E:St->XK} {X:Cx} {pos np cpos:Pos} {e:Expr} {es:List Expr} {x:Str} {c:Nat} {as:SL}
theorem zaG (G:GX T X.mg X.base c x) (hr:yeN X E) (hg:Gl X x) (ha:PAA T E X (e::es) as) (hc:X.calm=true:=by rfl) (hex:X.ex=[]:=by rfl)
  (hdb:(x == ("__debug__" : Str))=false:=by decide) (he:starEach (e::es) X.env=(false,eval e X.env)::starEach es X.env:=by rfl) (hpl:(backTo cpos (starEach es X.env)).any (·.1)=false:=by rfl) :
  PSA T E X (.Raise (some (.Call (.Name x np) (e::es) [] cpos)) none pos) (yb1 c as):=by
 obtain ⟨C,h1,O⟩:=G.ex
 refine yb9 (zhK O PySem.F.excBase_ValueError hc hex hr hg ha hdb he hpl) fun D σ H ⟨ι,h,en,S,er,q⟩=>⟨ι,h,en,S,er,q.go er fun xs h1' ι1 H1 us g1 S1 r1 q1=>?_⟩
 split at q1
 ·rename_i hl
  exact ⟨by rw [<- r1.length];exact hl,q1 ι1 H1 σ C S1.refl S1 (er.mono g1) h1⟩
 ·exact q1.elim
end
def ydw (T:Tb) (f:Fn) (r:List V->Hp->VK->Prop):Prop:=∀ (ι:Ix) (h:AH) (H:Hp) (xs:List AV) (us:List V) (E:XK) (Q:VK),Sim T ι h H->RVs T ι H xs us->Post T ι H E (RV T) (f xs h) Q->r us H Q
section
variable {T:Tb} {E:St->XK} {X:Cx} {pos p:Pos} {e a:Expr} {es:List Expr} {x:Str} {as:SL} {sa:SE}
theorem yh2 {f:Fn} {r:List V->Hp->VK->Prop} (hs:ydw T f r) {σ:St} {H:Hp} {Q:VK} (q:tE T E (yad f as) σ H Q):tCB r (tA T E as) σ H Q:=by
 obtain ⟨ι,h,en,S,er,q⟩:=q
 exact ⟨ι,h,en,S,er,q.bind fun xs h1 ι1 H1 us g1 S1 r1 q1=>hs ι1 h1 H1 xs us _ Q S1 r1 q1⟩
theorem r_bi {id:String} {f:Fn} (hc:∃ r,CallR X (.builtin id) r/\ydw T f r) (hg:Gl X x) (hm:X.mg x=none) (hv:bootBuiltins x=some (.builtin id)) (ha:PAA T E X (e::es) as) (hn:x ≠ "__name__" := by decide) (hdb:(x == ("__debug__" : Str))=false:=by decide)
  (he:starEach (e::es) X.env=(false,eval e X.env)::starEach es X.env:=by rfl) (hpl:(backTo pos (starEach es X.env)).any (·.1)=false:=by rfl):PEA T E X (.Call (.Name x p) (e::es) [] pos) (yad f as):=by
 obtain ⟨r,h1,h2⟩:=hc
 exact yaS (zed h1 hg hm hv ha hn hdb he hpl) fun σ H Q q=>yh2 h2 q
theorem b_len (hK:X.K=T.K):∃ r,CallR X (.builtin "len") r/\ydw T fLen r:=by
 refine ⟨_,zeh.or (zeg.or zgN),fun ι h H xs us E Q S r q=>?_⟩
 unfold fLen at q
 split at q
 ·cases r with
  | cons r r' =>
   cases r'
   obtain ⟨rfl,n,_⟩:=ybh r
   exact .inl ⟨_,rfl,n,q.now S (.int _)⟩
 ·cases r with
  | cons r r' =>
   cases r'
   obtain ⟨a,us,rfl,sq,rs⟩:=yc3 r
   exact .inr (.inl ⟨a,us,rfl,.inr (hK▸sq),by rw [<- rs.length];exact q.now S (.int _)⟩)
 ·cases r with
  | cons r r' =>
   cases r'
   obtain ⟨a,us,rfl,sq,rs⟩:=ybv S r rfl
   exact .inr (.inl ⟨a,us,rfl,.inl (hK▸sq),by rw [<- rs.length];exact q.now S (.int _)⟩)
 ·rename_i n
  cases r with
  | cons r r' =>
   cases r'
   split at q
   ·rename_i xs hn
    obtain ⟨a,us,rfl,sq,rs⟩:=ybv (xs:=xs) S r (by simp [ybS,hn])
    exact .inr (.inl ⟨a,us,rfl,.inl (hK▸sq),by rw [<- rs.length];exact q.now S (.int _)⟩)
   ·rename_i kvs hn
    cases r with
    | @ref _ ad hr =>
     obtain ⟨o,e1,kus,rfl,rs⟩:=S.obj n _ ad hn hr
     exact .inr (.inr ⟨ad,kus,rfl,e1,by rw [<- Paired.length rs];exact q.now S (.int _)⟩)
   ·exact q.elim
 ·exact q.elim
theorem b_abs:∃ r,CallR X (.builtin "abs") r/\ydw T fAbs r:=by
 refine ⟨_,zhr,fun ι h H xs us E Q S r q=>?_⟩
 unfold fAbs at q
 split at q
 ·cases r with
  | cons r r' => cases r';rw [yaC r];exact ⟨_,rfl,q.now S (.int _)⟩
 ·exact q.elim
theorem yd8 (hc:X.calm=true:=by rfl):∃ r,CallR X (.builtin "max") r/\ydw T ybm r:=by
 refine ⟨_,zgC hc,fun ι h H xs us E Q S r q=>?_⟩
 unfold ybm at q
 split at q
 ·cases r with
  | cons r r' => cases r' with
   | cons r1 r2=>cases r2;rw [yaC r,yaC r1];exact ⟨_,_,rfl,q.now S (.int _)⟩
 ·exact q.elim
theorem yfH (hc:X.calm=true:=by rfl):∃ r,CallR X (.builtin "min") r/\ydw T ycW r:=by
 refine ⟨_,zgD hc,fun ι h H xs us E Q S r q=>?_⟩
 unfold ycW at q
 split at q
 ·cases r with
  | cons r r' => cases r' with
   | cons r1 r2=>cases r2;rw [yaC r,yaC r1];exact ⟨_,_,rfl,q.now S (.int _)⟩
 ·exact q.elim
theorem zep {ι:Ix} {H:Hp}:∀ {xs:List AV} {us:List V} {bs:List Bool},RVs T ι H xs us->ych xs=some bs->us=bs.map V.bl
 | _,_,_,.nil,e=>by cases e;rfl
 | _,_,bs,.cons (x:=x) r rs,e=>by
  unfold ych at e
  split at e
  ·rename_i hh;cases hh
  ·rename_i b r' hh
   cases hh
   obtain ⟨bs',e1,rfl⟩:=Option.map_eq_some_iff.mp e
   rw [ycj r,zep rs e1];rfl
  ·cases e
theorem b_all (hK:X.K=T.K) (hc:X.calm=true:=by rfl):∃ r,CallR X (.builtin "all") r/\ydw T fAll r:=by
 refine ⟨_,zhF hc,fun ι h H xs us E Q S r q=>?_⟩
 unfold fAll at q
 split at q
 ·split at q
  ·rename_i bs hb
   cases r with
   | cons r r' =>
    cases r'
    obtain ⟨a,us,rfl,sq,rs⟩:=ybv S r rfl
    rw [zep rs hb] at sq
    exact ⟨a,bs,rfl,hK▸sq,q.now S (.bl _)⟩
  ·exact q.elim
 ·exact q.elim
abbrev tys:List String:=["NoneType", "bool", "int", "str", "list", "tuple", "dict"]
theorem yfI (K:PySem.W.Frag):∀ n∈tys,∀ t∈tys,PySem.W.kitOne K (.type n) (.type t)=some (n == t || (t == "int" && n == "bool")):=by
 intro n hn t ht
 simp only [tys,List.mem_cons,List.not_mem_nil,or_false] at hn ht
 rcases hn with rfl | rfl | rfl | rfl | rfl | rfl | rfl<;>rcases ht with rfl | rfl | rfl | rfl | rfl | rfl | rfl<;>rfl
theorem zg2 {c:V} {cv:Value} (rc:∀ u,RelV c u->u=cv) :
  CallR X (.builtin "isinstance") (fun xs H Q=>∃ a us r,xs=[.ref a,c]/\SqL X.K H a us/\PySem.W.kitOne X.K (.type "list") cv=some r/\Q (.bl r) H):=by
 intro pins s σ H xs us Q I r h
 obtain ⟨a,ws,k,rfl,sq,hk,q⟩:=h
 obtain ⟨u,w',rfl,rx,ry⟩:=yeR r
 obtain rfl:=rc _ ry
 obtain rfl:u=Value.ref a:=rx
 obtain ⟨its,_,⟨o,n,e1,e2,_⟩,_⟩:=I.list sq
 exact PySem.W.kia_one PySem.W.kitx_list I.kIn ⟨_,e1,e2⟩ hk (fun z=>nomatch z) fun tk=>⟨.bl k,H,I.tok _,rfl,q⟩
theorem yh3 {ι:Ix} {h:AH} {H:Hp} {v:AV} {u:V} {n:String} (S:Sim T ι h H) (r:RV T ι H v u) (e:tyN v h=some n):(TyOf T.K H u (.type n)\/(n = "list" /\ ∃ a us,u = .ref a/\SqL T.K H a us))/\n∈tys:=by
 unfold tyN at e
 cases r with
 | non=>cases e;exact ⟨.inl .non,by decide⟩
 | bl b=>cases e;exact ⟨.inl (.bl b),by decide⟩
 | int b=>cases e;exact ⟨.inl (.int b),by decide⟩
 | str n o=>cases e;exact ⟨.inl (.str _),by decide⟩
 | tup n q r=>cases e;exact ⟨.inl (.tup q),by decide⟩
 | fl n q r=>cases e;exact ⟨.inr ⟨rfl,_,_,rfl,.inl q⟩,by decide⟩
 | kfl q r=>cases e;exact ⟨.inr ⟨rfl,_,_,rfl,.inr q⟩,by decide⟩
 | @ref k a q =>
  dsimp only at e
  split at e
  ·rename_i xs hn
   cases e
   obtain ⟨o,e1,us,rfl,rs⟩:=S.obj k _ a hn q
   exact ⟨.inl (.lst e1),by decide⟩
  ·rename_i t kvs hn
   cases e
   obtain ⟨o,e1,r⟩:=S.obj k _ a hn q
   cases t with
   | false=>obtain ⟨kus,rfl,rs⟩:=r;exact ⟨.inl (.dK e1),by decide⟩
   | true=>obtain ⟨kus,rfl,rs⟩:=r;exact ⟨.inl (.dT e1),by decide⟩
  ·cases e
 | exc _ _ _=>cases e
theorem yeY {t:Str} {id:String} {p2:Pos} (hK:X.K=T.K) (hg:Gl X "isinstance") (hm:X.mg "isinstance" = none) (ha:PEA T E X a sa) (hgt:Gl X t) (hmt:X.mg t=none) (hvt:bootBuiltins t=some (.type id)) (hid:id∈tys) (hnt:t ≠ "__name__" := by decide) (hdt:(t == ("__debug__" : Str))=false:=by decide)
  (he:starEach [a,.Name t p2] X.env=(false,eval a X.env)::starEach [.Name t p2] X.env:=by rfl):PEA T E X (.Call (.Name "isinstance" p) [a,.Name t p2] [] pos) (sIsB id sa):=by
 refine yaS (zed ((zhE (X:=X) (yf0 id)).or (zg2 (X:=X) (yf0 id))) hg hm PyProof.Rows.boot_isinstance (zdd ha (zdd (zil (v:=.ty id) hgt hmt hvt rfl hnt hdt) yft) he) (he:=he)) fun σ H Q ⟨ι,h,en,S,er,q⟩=>⟨ι,h,en,S,er,q.bind fun v h1 ι1 H1 u g1 S1 r1 q1=>?_⟩
 split at q1
 ·rename_i n hn
  obtain ⟨ty,hmem⟩:=yh3 S1 r1 hn
  rcases ty with ty | ⟨rfl,ad,us,rfl,sq⟩
  ·exact .inl ⟨u,.type n,_,rfl,hK▸ty,yfI _ n hmem id hid,q1.now S1 (.bl _)⟩
  ·exact .inr ⟨ad,us,_,rfl,hK▸sq,yfI _ _ hmem id hid,q1.now S1 (.bl _)⟩
 ·exact q1.elim
def MtS (T:Tb) (f:FM) (r:V->List V->Hp->VK->Prop):Prop:=∀ (ι:Ix) (h:AH) (H:Hp) (x:AV) (xs:List AV) (u:V) (us:List V) (E:XK) (Q:VK),Sim T ι h H->RV T ι H x u->RVs T ι H xs us->Post T ι H E (RV T) (f x xs h) Q->r u us H Q
def ChkS (T:Tb) (chk:AV->AH->Bool) (n:String):Prop:=∀ (ι:Ix) (h:AH) (H:Hp) (x:AV) (u:V),Sim T ι h H->RV T ι H x u->chk x h=true->tyV T.K n u H
theorem zau:ChkS T yaV "list" := fun ι h H x u S r e=>by
 obtain ⟨xs,e1⟩:=Option.isSome_iff_exists.mp e
 obtain ⟨a,us,rfl,sq,rs⟩:=ybv S r e1
 exact .inl ⟨rfl,us,sq⟩
theorem zfz:ChkS T yci "str" := fun ι h H x u S r e=>by
 unfold yci at e
 split at e
 ·obtain ⟨rfl,_⟩:=ybh r;rfl
 ·cases e
variable {o:Expr} {so:SE} {name:Str} {apos:Pos} {chk:AV->AH->Bool} {f:FM} {tn id:String}
theorem r_bm (hK:X.K=T.K) (pa:PlainAttrs tn) (slot:Slot tn name id) (hty:typeOf (.builtin id)=pure (.type "method_descriptor")) (hm:∃ r,MtR X id r/\MtS T f r) (hc:ChkS T chk tn) (ho:PEA T E X o so) (ha:PAA T E X (e::es) as)
  (hbase:attributeBase o name X.env (eval o X.env)=eval o X.env:=by rfl)
  (hfew:((backTo pos (starEach (e::es) X.env)).all (fun x=>!x.1) && (backToKw pos (keywordEach [] X.env)).all (fun x=>x.1.isSome)
   && decide ((e::es).length+([]:List Keyword).length+(if ([]:List Keyword).isEmpty then 0 else 1)<30))=true:=by rfl)
  (hline:(apos.endLine == pos.line)=true:=by rfl) (hs:starEach (e::es) X.env=(false,eval e X.env)::starEach es X.env:=by rfl) (hplain:(backTo pos (starEach es X.env)).any (·.1)=false:=by rfl) :
  PEA T E X (.Call (.Attribute o name apos) (e::es) [] pos) (sBM chk f so as):=by
 obtain ⟨r,h1,h2⟩:=hm
 refine yaS (yhN pa slot hty h1 ho ha hbase hfew hline hs hplain) fun σ H Q ⟨ι,h,en,S,er,q⟩=>⟨ι,h,en,S,er,q.bind fun x h1 ι1 H1 u g1 S1 r1 q1=>?_⟩
 by_cases hx:chk x h1=true
 ·rw [if_pos hx] at q1
  exact ⟨hK▸hc ι1 h1 H1 x u S1 r1 hx,ι1,h1,en,S1,er.mono g1,q1.bind fun xs h2' ι2 H2 us g2 S2 r2 q2=>h2 ι2 h2' H2 x xs u us _ Q S2 (r1.mono g2) r2 q2⟩
 ·rw [if_neg hx] at q1;exact q1.elim
theorem zaz:∃ r,MtR X "list.append" r/\MtS T ybk r:=by
 refine ⟨_,zbX,fun ι h H x xs u us E Q S rx rs q=>?_⟩
 unfold ybk at q
 split at q
 ·rename_i n y
  split at q
  ·rename_i ys hn
   split at q
   ·rename_i hl
    cases rx with
    | @ref _ ad hr =>
     cases rs with
     | @cons _ uu _ _ r r' =>
      cases r'
      obtain ⟨o,e1,ws,rfl,rw_⟩:=S.obj n _ ad hn hr
      have g:=S.growSet (u:=.lst (ws++[uu])) hr
      exact ⟨ad,ws,_,rfl,rfl,e1,by rw [<- rw_.length];exact hl,q ι _ _ g (S.set hr ⟨_,rfl,(rw_.mono g).append (.cons (r.mono g) .nil)⟩) .non⟩
   ·exact q.elim
  ·exact q.elim
 ·exact q.elim
theorem zeq:∃ r,MtR X "str.count" r/\MtS T ybp r:=by
 refine ⟨_,zek,fun ι h H x xs u us E Q S rx rs q=>?_⟩
 unfold ybp at q
 split at q
 ·cases rs with
  | cons r r' =>
   cases r'
   obtain ⟨rfl,_⟩:=ybh rx
   obtain ⟨rfl,_⟩:=ybh r
   exact ⟨_,_,rfl,rfl,q.now S (.int _)⟩
 ·exact q.elim
end
end Sm
namespace Sm
open PySem PySem.Spec L2
theorem Out.bind_assoc {α β γ:Type} (o:Out α) (f:α->AH->Out β) (g:β->AH->Out γ):(o.bind f).bind g=o.bind fun a h=>(f a h).bind g:=by cases o<;>rfl
section
variable {T:Tb} {E:St->XK} {X:Cx} {pos p2:Pos} {a b:Expr} {sa sb:SE}
def tO (T:Tb) (E:St->XK):Option SE->TO
 | none=>yfd
 | some s=>yfY (tE T E s)
abbrev POA (T:Tb) (E:St->XK) (X:Cx) (e:Option Expr) (s:Option SE):Prop:=PO X e (tO T E s)
theorem zaT:POA T E X none none:=ziw
theorem zaK (h:PEA T E X a sa):POA T E X (some a) (some sa):=zix h
@[simp] def yeZ (s:Option SE):En->AH->Out (Option Int):=fun en h=>match s with
 | none=>.ok none h
 | some l=>(l en h).bind fun v h2=>match v with | .int i=>.ok (some i) h2 | _=>.bad
theorem zfA {s:Option SE} {σ:St} {H:Hp} {ι:Ix} {h:AH} {en:En} {γ δ:Type} {R':Ix->Hp->γ->δ->Prop} {Q0:δ->Hp->Prop} {f:Option Int->AH->Out γ} {Q:Option Int->Hp->Prop} (S:Sim T ι h H) (er:ER T ι H en σ) (q:Post T ι H (E σ) R' ((yeZ s en h).bind f) Q0)
  (k:∀ l h' ι' H',Grow ι H ι' H'->Sim T ι' h' H'->Post T ι' H' (E σ) R' (f l h') Q0->Q l H'):tO T E s σ H Q:=by
 cases s with
 | none=>exact k none h ι H S.refl S q
 | some l =>
  refine ⟨ι,h,en,S,er,?_⟩
  unfold yeZ at q
  dsimp only at q
  rw [Out.bind_assoc] at q
  refine q.bind fun v h1 ι1 H1 u g1 S1 r1 q1=>?_
  split at q1
  ·rw [yaC r1]
   exact ⟨_,rfl,k _ _ ι1 H1 g1 S1 q1⟩
  ·exact q1.elim
@[simp] def ya9 (x:AV) (l u:Option Int) (h:AH):Out AV:=match x with
 | .fl xs=>.ok (.fl (cutA xs l u)) h
 | .str z=>.ok (.str (cutS z l u)) h
 | .tup xs=>if ¬ (HT.sIx xs.length 0 l=0/\HT.sIx xs.length xs.length u=xs.length) then .ok (.tup (cutA xs l u)) h else .bad
 | .ref n=>match h[n]? with
  | some (.lst xs)=>.ok (.fl (cutA xs l u)) h
  | _=>.bad
 | _=>.bad
@[simp] def sCut (a:SE) (lo hi:Option SE):SE:=fun en h=>(a en h).bind fun x h1=>(yeZ lo en h1).bind fun l h2=>(yeZ hi en h2).bind fun u h3=>ya9 x l u h3
theorem RVs.cut {ι:Ix} {H:Hp} {xs:List AV} {us:List V} {lo hi:Option Int} (r:RVs T ι H xs us):RVs T ι H (cutA xs lo hi) (cutV us lo hi):=by
 unfold cutA cutV
 rw [<- r.length]
 exact (r.drop _).take _
theorem ygZ {ι:Ix} {H:Hp} {z:Str} {l u:Option Int} (hz:z.length<=sizeLine) (hc:z.cps.all (· < 0x110000)=true):RV T ι H (.str (cutS z l u)) (.str (cutS z l u)):=by
 refine .str ?_ ?_
 ·refine Nat.le_trans ?_ hz
  simp [cutS,Str.length];omega
 ·simp only [cutS,List.all_toArray,List.all_eq_true]
  intro c h
  have hm:c∈z.cps.toList:=List.mem_of_mem_drop (List.mem_of_mem_take h)
  exact (Array.all_eq_true_iff_forall_mem.mp hc) c (by simpa using hm)
theorem zaP {lo hi:Option Expr} {sl sh:Option SE} (hK:X.K=T.K) (ha:PEA T E X a sa) (hl:POA T E X lo sl) (hh:POA T E X hi sh):PEA T E X (.Subscript a (.Slice lo hi none p2) pos) (sCut sa sl sh):=by
 refine yaS (zhv (ziA.or (sl_tup.or ygT)) ha hl hh) fun σ H Q ⟨ι,h,en,S,er,q⟩=>⟨ι,h,en,S,er,q.bind fun x h1 ι1 H1 u g1 S1 r1 q1=>?_⟩
 refine zfA (E:=E) S1 (er.mono g1) q1 fun l h2 ι2 H2 g2 S2 q2=>zfA (E:=E) S2 (er.mono (g1.trans g2)) q2 fun w h3 ι3 H3 g3 S3 q3=>?_
 have r3:=r1.mono (g2.trans g3)
 unfold ya9 at q3
 split at q3
 ·obtain ⟨ad,us,rfl,sq,rs⟩:=ybv S3 r3 rfl
  exact .inl ⟨ad,us,rfl,hK▸sq,fun p n=>yeC S3 rs.cut n q3⟩
 ·obtain ⟨rfl,hz,hc⟩:=ybh r3
  exact .inr (.inr ⟨_,rfl,hz,q3.now S3 (ygZ hz hc)⟩)
 ·rename_i xs
  split at q3
  ·rename_i hz
   obtain ⟨ad,us,rfl,sq,rs⟩:=yc3 r3
   exact .inr (.inl ⟨ad,us,rfl,hK▸sq,by rw [<- rs.length];exact hz,fun p n=>zdh S3 rs.cut n q3⟩)
  ·exact q3.elim
 ·split at q3
  ·rename_i xs hn
   obtain ⟨ad,us,rfl,sq,rs⟩:=ybv (xs:=xs) S3 r3 (by simp [ybS,hn])
   exact .inl ⟨ad,us,rfl,hK▸sq,fun p n=>yeC S3 rs.cut n q3⟩
  ·exact q3.elim
 ·exact q3.elim
theorem r_gI {x:Str} {i:Int} {p:Pos} (hg:Gl X x) (hm:∃ t,X.mg x=some (.int i t)) (hd:(x == ("__debug__" : Str))=false:=by decide):PEA T E X (.Name x p) (sLit (.int i)):=by
 obtain ⟨t,hm⟩:=hm
 exact ziL hg hm hd
end
def DG (K:PySem.W.Frag) (mg:Str->Option Value) (x:Str) (st:Stmt) (ps:List Str):Prop:=∃ f fd,mg x=some (.ref f)/\PySem.W.keepIn K (.ref f)=true/\Binds K fd ps []/\Fun K x x st f fd
end Sm
namespace Sm
open PySem PySem.Spec L2
def yeO (N:List Str) (sc:Scope) (x₁:Str) (jf:List (Nat×Str)) (scope:Scope):Bool :=
 decide (x₁::jf.map (·.2)).Nodup && (scope.names.lookup x₁ == some .local) && jf.all (fun p=>N[p.1]? == some p.2) && jf.all (fun p=>scope.names.lookup p.2 == some .free) && (scope.kind == .function) &&
 scope.names.all (fun y=>y.2 != .cell) && scope.names.all (fun y=>y.2 != .free || sc.names.lookup y.1 == some .cell || sc.names.lookup y.1 == some .free) && scope.names.all (fun y=>y.2 != .local || scope.names.lookup y.1 == some .local)
theorem zaE {X:Cx} {N:List Str} {sc scope:Scope} {x₁:Str} {jf:List (Nat×Str)} (hN:X.N=N) (hk:∀ x,X.env.kindOf x=sc.names.lookup x) (h:yeO N sc x₁ jf scope=true):CompOk X x₁ jf scope:=by
 unfold yeO at h
 simp only [Bool.and_eq_true,decide_eq_true_eq,List.all_eq_true,beq_iff_eq,bne_iff_ne,Bool.or_eq_true] at h
 obtain ⟨⟨⟨⟨⟨⟨⟨h1,h2⟩,h3⟩,h4⟩,h5⟩,h6⟩,h7⟩,h8⟩:=h
 refine ⟨h1,h2,fun p hp=>by rw [hN];exact h3 p hp,h4,h5,fun y hy=>h6 y hy,fun y hy e=>?_,fun y hy e=>?_⟩
 ·rw [hk]
  rcases h7 y hy with (z | z) | z
  ·exact absurd e z
  ·exact .inl z
  ·exact .inr z
 ·rcases h8 y hy with z | z
  ·exact absurd e z
  ·exact z
end Sm
namespace Sm
open PySem PySem.Spec L2
theorem zdo {T:Tb} {ι:Ix} {H:Hp}:∀ ns:List Int,RVs T ι H (ns.map AV.int) (ns.map V.int)
 | []=>.nil
 | n::ns=>.cons (.int n) (zdo ns)
theorem sim0 {T:Tb} {H:Hp}:Sim T ⟨[],[]⟩ [] H:=⟨rfl,List.nodup_nil,(fun _ z=>nomatch z),(fun i o a e=>by simp at e)⟩
def spL (K:PySem.W.Frag):Sp:=fun vs H Q _=>∃ (a:Addr) (ns:List Int),vs=[.ref a]/\SqL K H a (ns.map V.int)/\ns.length<=63/\∀ H',Q (.bl true) H'
theorem ziY {T:Tb} {F:Fn} (ht:∀ ns:List Int,ns.length<=63->∃ h',F [.fl (ns.map AV.int)] [] = .ok (.bl true) h'):∀ vs H Q E,spL T.K vs H Q E->spA T F vs H Q E:=by
 rintro vs H Q E ⟨a,ns,rfl,hs,hl,q⟩
 obtain ⟨h',e⟩:=ht ns hl
 refine ⟨⟨[],[]⟩,[],[.fl (ns.map AV.int)],sim0,.cons ?_ .nil,?_⟩
 ·rcases hs with hs | hs
  ·exact .fl (by simp [Ix.all]) hs (zdo ns)
  ·exact .kfl hs (zdo ns)
 ·rw [e]
  intro ι' H' u g S r
  rw [ycj r]
  exact q H'
theorem zg3 {P:Program} {w:World} {outer:List Env} {H:Hp} {s s':Shared} {e:Value} (h:CXE P w outer H s (fun _ _ _=>False) e s'):False:=by
 obtain ⟨_,_,_,_,_,_,_,_,_,_,_,_,_,_,q⟩:=h
 exact q
end Sm
namespace Sm
open PySem PySem.Spec L2
@[simp] def yd9:List AV->Option (List Int)
 | []=>some []
 | .int i::r=>(yd9 r).map (i :: ·)
 | _=>none
@[simp] def fSum:Fn:=fun args h=>match args with
 | [.fl xs]=>match yd9 xs with
  | some ns=>.ok (.int ns.sum) h
  | none=>.bad
 | _=>.bad
@[simp] def yck (a b c:SE):SI:=fun en h=>(a en h).bind fun v h1=>(b en h1).bind fun w h2=>(c en h2).bind fun z h3=>match v,w,z with
 | .int i,.int j,.int k=>if i.natAbs<2 ^ 40/\j.natAbs<2 ^ 40/\0<k/\k<2 ^ 20 then .ok ((List.range (if i<j then (j-i-1) / k+1 else 0:Int).toNat).map (fun m:Nat=>.int (i+m*k)),none) h3 else .bad
 | _,_,_=>.bad
@[simp] def fIsB:F2:=fun x y h=>match x,y with
 | .bl a,.bl b=>.ok (.bl (a == b)) h
 | _,_=>.bad
@[simp] def yeP (f f' f'':F2) (a b c d:SE):SE:=fun en h=>(a en h).bind fun x h1=>(b en h1).bind fun y h2=>(f x y h2).bind fun z h3=>match z with
 | .bl k=>if k=true then (c en h3).bind fun w h4=>(f' y w h4).bind fun z2 h5=>(match z2 with
  | .bl k2=>if k2=true then (d en h5).bind fun v h6=>f'' w v h6 else .ok (.bl false) h5
  | _=>.bad) else .ok (.bl false) h3
 | _=>.bad
section
variable {T:Tb} {E:St->XK} {X:Cx} {pos p:Pos} {e a b c:Expr} {sa sb sc:SE}
theorem zfB {ι:Ix} {H:Hp}:∀ {xs:List AV} {us:List V} {bs:List Int},RVs T ι H xs us->yd9 xs=some bs->us=bs.map V.int
 | _,_,_,.nil,e=>by cases e;rfl
 | _,_,bs,.cons (x:=x) r rs,e=>by
  unfold yd9 at e
  split at e
  ·rename_i hh;cases hh
  ·rename_i b r' hh
   cases hh
   obtain ⟨bs',e1,rfl⟩:=Option.map_eq_some_iff.mp e
   rw [yaC r,zfB rs e1];rfl
  ·cases e
theorem b_sum (hK:X.K=T.K) (hc:X.calm=true:=by rfl):∃ r,CallR X (.builtin "sum") r/\ydw T fSum r:=by
 refine ⟨_,zhO hc,fun ι h H xs us E Q S r q=>?_⟩
 unfold fSum at q
 split at q
 ·split at q
  ·rename_i bs hb
   cases r with
   | cons r r' =>
    cases r'
    obtain ⟨a,us,rfl,sq,rs⟩:=ybv S r rfl
    rw [zfB rs hb] at sq
    exact ⟨a,bs,rfl,hK▸sq,q.now S (.int _)⟩
  ·exact q.elim
 ·exact q.elim
theorem zge {ι:Ix} {H:Hp} {lo c:Int} {n:Nat}:ItR T (Itr3 lo c n) ι H ((List.range n).map (fun m:Nat=>AV.int (lo+m*c))) none:=by
 constructor
 ·intro i ι' h' H' y g S _ e
  rw [List.getElem?_map] at e
  obtain ⟨m,e1,rfl⟩:=Option.map_eq_some_iff.mp e
  have hi:i<n:=by
   have:=(List.getElem?_eq_some_iff.mp e1).1
   simpa using this
  rw [List.getElem?_range hi] at e1
  cases e1
  refine ⟨hi,?_⟩
  rintro u H2 ⟨rfl,rfl⟩
  exact ⟨S.refl,S,.int _⟩
 ·intro i ι' h' H' g S _ hl
  have hl':n<=i:=by simpa using hl
  exact hl'
theorem zdN {tg:Expr} {p:Pos} (hg:Gl X "range") (hm:X.mg "range" = none) (ha:PEA T E X a sa) (hb:PEA T E X b sb) (hc:PEA T E X c sc) (hs:starEach [a,b,c] X.env=[(false,eval a X.env),(false,eval b X.env),(false,eval c X.env)]:=by rfl) (hs2:starEach [b,c] X.env=[(false,eval b X.env),(false,eval c X.env)]:=by rfl) (hs3:starEach [c] X.env=[(false,eval c X.env)]:=by rfl) :
  PIA T X tg (.Call (.Name "range" p) [a,b,c] [] pos) (yck sa sb sc) :=
 yd7 (zgU hg hm (zaa ha (zaa hb (zaa hc yab hs3) (by rw [hs2,hs3])) (by rw [hs,hs2])) hs hs2) fun σ H R ⟨ι,h,en,S,er,q⟩=>by
  unfold yck at q
  refine ⟨ι,h,en,S,er,?_⟩
  unfold sCons
  cases e:sa en h with
  | bad=>rw [e] at q;exact q
  | ex c h1=>rw [e] at q;exact q.elim
  | ok v h1 =>
   rw [e] at q
   dsimp only [Out.bind] at q ⊢
   cases e':sb en h1 with
   | bad=>rw [e'] at q;exact q
   | ex c h1=>rw [e'] at q;exact q.elim
   | ok v' h2 =>
    rw [e'] at q
    dsimp only at q ⊢
    cases e'':sc en h2 with
    | bad=>rw [e''] at q;exact q
    | ex c h1=>rw [e''] at q;exact q.elim
    | ok v'' h3 =>
     rw [e''] at q
     dsimp only at q
     intro ι1 H1 u g1 S1 r1
     split at q
     ·rename_i hx
      split at hx
      ·split at hx
       ·rename_i hb
        cases hx
        cases r1 with
        | cons r r' =>
         cases r' with
         | cons r2 r3 =>
          cases r3 with
          | cons r4 r5 =>
           cases r5
           rw [yaC r,yaC r2,yaC r4]
           exact ⟨_,_,_,rfl,hb,q ι1 H1 _ g1 S1 zge⟩
       ·cases hx
      ·cases hx
     ·exact q.elim
theorem yc5 {sts:List Stmt} {E:St->XK}:PSsA T E X sts (fun _ _=>.bad):=fun pins s σ H D I ⟨ι,h,en,S,er,q⟩=>q.elim
theorem zg4 {d:Expr} {sd:SE} {op op' op'':CmpOp} {f f' f'':F2} (ho:Op T X (compareOp op) f) (ho':Op T X (compareOp op') f') (ho'':Op T X (compareOp op'') f'') (ha:PEA T E X a sa) (hb:PEA T E X b sb) (hc:PEA T E X c sc) (hd:PEA T E X d sd) (hm:lastMarks [op,op',op''] [b,c,d]=false:=by with_unfolding_all rfl) :
  PTA T E X (.Compare a [op,op',op''] [b,c,d] pos) (yaj (yeP f f' f'' sa sb sc sd)):=by
 obtain ⟨r,h1,hs⟩:=ho
 obtain ⟨r',h1',hs'⟩:=ho'
 obtain ⟨r'',h1'',hs''⟩:=ho''
 refine yd5 (zgV h1 h1' h1'' ha hb hc hd hm) fun σ H Q q=>?_
 obtain ⟨ι,h,en,S,er,q⟩:=q
 unfold yaj yeP at q
 rw [Out.bind_assoc] at q
 refine ⟨ι,h,en,S,er,q.bind fun x h1 ι1 H1 u g1 S1 r1 q1=>?_⟩
 rw [Out.bind_assoc] at q1
 refine ⟨ι1,h1,en,S1,er.mono g1,q1.bind fun y h2 ι2 H2 w g2 S2 r2 q2=>?_⟩
 rw [Out.bind_assoc] at q2
 refine hs ι2 h2 H2 x y u w (E σ) _ S2 (r1.mono g2) r2 (q2.bind fun z h3 ι3 H3 k g3 S3 r3 q3=>?_)
 split at q3
 ·rename_i kk
  rw [ycj r3]
  refine ⟨kk,rfl,?_⟩
  by_cases hkk:kk=true
  ·rw [if_pos hkk] at q3 ⊢
   rw [Out.bind_assoc] at q3
   refine ⟨ι3,h3,en,S3,er.mono (g1.trans (g2.trans g3)),q3.bind fun v h4 ι4 H4 j g4 S4 r4 q4=>?_⟩
   rw [Out.bind_assoc] at q4
   refine hs' ι4 h4 H4 y v w j (E σ) _ S4 (r2.mono (g3.trans g4)) r4 (q4.bind fun z2 h5 ι5 H5 k5 g5 S5 r5 q5=>?_)
   split at q5
   ·rename_i k2
    rw [ycj r5]
    refine ⟨k2,rfl,?_⟩
    by_cases hk2:k2=true
    ·rw [if_pos hk2] at q5 ⊢
     rw [Out.bind_assoc] at q5
     refine ⟨ι5,h5,en,S5,er.mono (g1.trans (g2.trans (g3.trans (g4.trans g5)))),q5.bind fun v6 h6 ι6 H6 j6 g6 S6 r6 q6=>?_⟩
     refine hs'' ι6 h6 H6 v v6 j j6 (E σ) _ S6 (r4.mono (g5.trans g6)) r6 (q6.bind fun z7 h7 ι7 H7 k7 g7 S7 r7 q7=>?_)
     split at q7
     ·rw [ycj r7];exact ⟨_,rfl,q7.now S7 rfl⟩
     ·exact q7.elim
    ·rw [if_neg hk2] at q5 ⊢
     exact ⟨false,rfl,q5.now S5 rfl⟩
   ·exact q5.elim
  ·rw [if_neg hkk] at q3 ⊢
   exact ⟨false,rfl,q3.now S3 rfl⟩
 ·exact q3.elim
end
theorem el1:∀ {us:List Value},us.length=1->∃ a:Value,us=[a]
 | [a],_=>⟨a,rfl⟩
theorem el2:∀ {us:List Value},us.length=2->∃ a b:Value,us=[a,b]
 | [a,b],_=>⟨a,b,rfl⟩
theorem el3:∀ {us:List Value},us.length=3->∃ a b c:Value,us=[a,b,c]
 | [a,b,c],_=>⟨a,b,c,rfl⟩
theorem el4:∀ {us:List Value},us.length=4->∃ a b c d:Value,us=[a,b,c,d]
 | [a,b,c,d],_=>⟨a,b,c,d,rfl⟩
theorem el5:∀ {us:List Value},us.length=5->∃ a b c d e:Value,us=[a,b,c,d,e]
 | [a,b,c,d,e],_=>⟨a,b,c,d,e,rfl⟩
@[simp] def yb6:FM:=fun x vs h=>match x,vs with
 | .ref n,[.ref k]=>match h[n]?,h[k]? with
  | some (.lst xs),some (.lst ys)=>if xs.length+ys.length<=sizeLine then .ok .non (h.set n (.lst (xs++ys))) else .bad
  | _,_=>.bad
 | _,_=>.bad
theorem yeI {T:Tb} {X:Cx}:∃ r,MtR X "list.extend" r/\MtS T yb6 r:=by
 refine ⟨_,zgI,fun ι h H x xs u us E Q S rx rs q=>?_⟩
 unfold yb6 at q
 split at q
 ·rename_i n k
  split at q
  ·rename_i ys zs hn hk
   split at q
   ·rename_i hl
    cases rx with
    | @ref _ ad hr =>
     cases rs with
     | @cons _ uu _ _ r r' =>
      cases r'
      cases r with
      | @ref _ bd hb =>
       obtain ⟨o,e1,ws,rfl,rw_⟩:=S.obj n _ ad hn hr
       obtain ⟨o2,e2,ws2,rfl,rw2⟩:=S.obj k _ bd hk hb
       have g:=S.growSet (u:=.lst (ws++ws2)) hr
       exact ⟨ad,bd,ws,ws2,rfl,rfl,e1,e2,by rw [<- rw_.length,<- rw2.length];exact hl,q ι _ _ g (S.set hr ⟨_,rfl,(rw_.mono g).append (rw2.mono g)⟩) .non⟩
   ·exact q.elim
  ·exact q.elim
 ·exact q.elim
def ydd:Nat:=100000000
end Sm
namespace Sm
open PySem PySem.Spec L2
@[simp] def yek:F2:=fun x y h=>match ybS x h,ybS y h with
 | some xs,some ys=>if xs.length+ys.length<=sizeLine then .ok (.ref h.length) (h++[.lst (xs++ys)]) else .bad
 | _,_=>.bad
section
variable {T:Tb} {E:St->XK} {X:Cx} {pos:Pos}
theorem yg0 (hK:X.K=T.K):Op T X (binaryOp .Add) yek:=by
 refine ⟨_,zfk,fun ι h H x y u w E Q S rx ry p=>?_⟩
 unfold yek at p
 split at p
 ·split at p
  ·rename_i e1 e2 hz
   obtain ⟨a,us,rfl,q1,r1⟩:=ybv S rx e1
   obtain ⟨b,ws,rfl,q2,r2⟩:=ybv S ry e2
   exact ⟨a,b,us,ws,rfl,rfl,hK▸q1,hK▸q2,by rw [<- r1.length,<- r2.length];exact hz,fun l n=>zfn S (r1.append r2) n p⟩
  ·exact p.elim
 ·exact p.elim
end
end Sm
namespace Sm
open PySem PySem.Spec L2
def un2 {α:Type} (c:En->AH->Out α):En->AH->Out α:=fun en h=>match en with
 | some (.tup [y,z])::r=>c (some y::some z::r) h
 | _=>.bad
theorem yg1 {α:Type} (c:En->AH->Out α) (x:AV):(∃ y z,x = .tup [y,z])\/∀ r h,un2 c (some x::r) h = .bad:=by
 match x with
 | .tup [y,z]=>exact .inl ⟨y,z,rfl⟩
 | .tup []=>exact .inr fun _ _=>rfl
 | .tup [_]=>exact .inr fun _ _=>rfl
 | .tup (_::_::_::_)=>exact .inr fun _ _=>rfl
 | .non=>exact .inr fun _ _=>rfl
 | .exc _=>exact .inr fun _ _=>rfl
 | .bl _=>exact .inr fun _ _=>rfl
 | .int _=>exact .inr fun _ _=>rfl
 | .str _=>exact .inr fun _ _=>rfl
 | .fl _=>exact .inr fun _ _=>rfl
 | .ref _=>exact .inr fun _ _=>rfl
@[simp] theorem yil {α:Type} (c:En->AH->Out α) (y z:AV) (r:En) (h:AH):un2 c (some (.tup [y,z])::r) h=c (some y::some z::r) h:=rfl
@[simp] def ybG (js:List Nat) (it:SI) (c:SB) (e:SE):SE:=yaU js it (un2 c) (un2 e)
section
variable {T:Tb} {E:St->XK} {X:Cx} {pos px p1 p2:Pos} {kk:Nat} {iter elt:Expr} {ifs:List Expr} {scope:Scope} {x₁ x₂:Str} {jf:List (Nat×Str)} {it:SI} {cc:SB} {ce:SE}
theorem ER.comp2 {ι:Ix} {H:Hp} {en:En} {σ:St} {x y:AV} {u v:V} {jf:List (Nat×Str)} (er:ER T ι H en σ) (r:RV T ι H x u) (r2:RV T ι H y v):ER T ι H (some x::some y::(jf.map (·.1)).map fun j=>(en[j]?).join) (ybd (some u) (some v) jf σ):=by
 obtain ⟨h1,h2⟩:=ER.comp (jf:=jf) er r2
 refine ⟨by simp [ybd],fun i v e=>?_⟩
 cases i with
 | zero=>simp at e;subst e;exact ⟨u,rfl,r⟩
 | succ i=>exact h2 i v (by simpa using e)
theorem zhT {jf:List (Nat×Str)} {it:SI} {cc:SB} {ce:SE} {σ:St} {H:Hp} {Q:VK} {ι:Ix} {h:AH} {en:En} (S:Sim T ι h H) (er:ER T ι H en σ)
  (q:match it en h with | .ok (xs,w) h1=>(match yaI (jf.map (·.1)) en w xs (un2 cc) (un2 ce) xs [] h1 with | .ok ys h2=>∀ ι' H' D vs,Grow ι H ι' H'->Sim T (ι'.hide D) h2 H'->RVs T (ι'.hide D) H' ys vs->H' D=some (.lst vs)->D∉ι'.all->(∀ n,ι'.refs=ι.refs++n->∀ a∈n++[D],H a=none)->Q (.ref D) H' | _=>False) | _=>False) :
  yez T.K jf (tI T it) (tT T EN cc) (tE T EN ce) σ H Q:=by
 refine ⟨ι,h,en,S,er,?_⟩
 cases e:it en h with
 | bad=>rw [e] at q;exact q
 | ex c h1=>rw [e] at q;exact q
 | ok p h1 =>
  obtain ⟨xs,w⟩:=p
  rw [e] at q
  dsimp only at q
  intro ι1 H1 J g1 S1 IR D hD
  refine ⟨fun i m ys H2=>m=xs.length-i/\i<=xs.length/\H2 D=some (.lst ys)/\∃ ι' h' vs,Grow ι1 H1 ι' H2/\Ext ι1 H1 (ι'.hide D) H2/\Sim T (ι'.hide D) h' H2/\ER T (ι'.hide D) H2 en σ/\RVs T (ι'.hide D) H2 vs ys/\D∉ι'.refs /\
   (match yaI (jf.map (·.1)) en w xs (un2 cc) (un2 ce) (xs.drop i) vs h' with | .ok ys h2=>∀ ι' H' D vs,Grow ι H ι' H'->Sim T (ι'.hide D) h2 H'->RVs T (ι'.hide D) H' ys vs->H' D=some (.lst vs)->D∉ι'.all->(∀ n,ι'.refs=ι.refs++n->∀ a∈n++[D],H a=none)->Q (.ref D) H' | _=>False),?_,?_⟩
  ·exact ⟨xs.length,by simp,Nat.zero_le _,zas,ι1,h1,[],S1.growNew hD,Ext.hide hD,S1.hide hD,(er.mono g1).ext (Ext.hide hD),.nil,fun z=>S1.fresh hD (List.mem_append_left _ z),q⟩
  ·rintro i m ys H2 ⟨rfl,hi,hH2,ι',h',vs,g',x',S',er',rv',nD',q'⟩
   refine ⟨hH2,?_⟩
   by_cases hl:i<xs.length
   ·rw [zbZ hl] at q'
    unfold yaI at q'
    by_cases hs:ybz w xs h'=true/\vs.length<sizeLine
    ·rw [if_pos hs] at q'
     obtain ⟨hs1,hs2⟩:=hs
     obtain ⟨go,yld⟩:=IR.go i _ h' H2 xs[i] x' S' hs1 (by simp [hl])
     refine .inr ⟨go,by rw [<- rv'.length];exact hs2,fun x H3 y=>?_⟩
     obtain ⟨g3,S3,r3⟩:=yld x H3 y
     have er3:=er'.mono g3
     obtain ⟨y1,y2,exi⟩:∃ y1 y2,xs[i] = .tup [y1,y2]:=by
      rcases yg1 cc xs[i] with z | z
      ·exact z
      ·rw [z] at q';exact q'.elim
     rw [exi] at r3
     simp only [exi,un2] at q'
     obtain ⟨aa,us,rfl,sq,rss⟩:=yc3 r3
     cases rss with
     | cons rA rB' => cases rB' with
       | cons rB rN =>
     cases rN
     refine ⟨aa,_,_,rfl,sq,ι'.hide D,h',_,S3,ER.comp2 er3 rA rB,?_⟩
     cases ec:cc (some y1::some y2::(jf.map (·.1)).map fun j=>(en[j]?).join) h' with
     | bad=>rw [ec] at q';exact q'
     | ex c h5=>rw [ec] at q';exact q'.elim
     | ok bb h5 =>
      rw [ec] at q'
      intro ι5 H5 b5 g5 S5 r5
      subst r5
      have g35:=g3.trans g5
      have hD5:H5 D=some (.lst ys):=g35.keep D _ nD' hH2
      have eι:ι5=Ix.hide ⟨ι5.refs,ι'.priv⟩ D:=by
       have:=g5.priv
       cases ι5
       simp only at this
       subst this
       rfl
      have nD5:D∉ι5.refs:=g35.outR nD' hH2
      have gG5:Grow ι1 H1 ⟨ι5.refs,ι'.priv⟩ H5:=by
       obtain ⟨n,en1,hn⟩:=g'.pre
       obtain ⟨k,ek,hk⟩:=g35.pre
       refine ⟨⟨n++k,?_,fun a ha=>?_⟩,g'.priv,fun a o na ea=>?_,fun a ha=>?_⟩
       ·show ι5.refs=_;rw [ek];show ι'.refs++k=_;rw [en1];simp
       ·rcases List.mem_append.mp ha with z | z
        ·exact hn a z
        ·have z2:=hk a z
         by_cases hr:a∈ι1.refs
         ·exact absurd z2 (g'.live a (List.mem_append_left _ hr))
         ·cases e9:H1 a with
          | none=>rfl
          | some o=>rw [g'.keep a o hr e9] at z2;cases z2
       ·exact g35.keep a o (g'.outR na ea) (g'.keep a o na ea)
       ·have:a∈(ι'.hide D).all:=by
         rcases List.mem_append.mp ha with z | z
         ·exact List.mem_append_left _ (by show a∈ι'.refs;rw [en1];exact List.mem_append_left _ z)
         ·exact List.mem_append_right _ (List.mem_cons_of_mem _ (by rw [g'.priv];exact z))
        exact g35.live a this
      have x5:Ext ι1 H1 (Ix.hide ⟨ι5.refs,ι'.priv⟩ D) H5:=eι▸x'.trans g35.ext
      have er5:=er3.mono g5
      have rv5:=(rv'.mono g35)
      cases bb with
      | false =>
       rw [if_neg Bool.false_ne_true]
       refine ⟨xs.length-(i+1),by omega,rfl,hl,hD5,⟨ι5.refs,ι'.priv⟩,h5,vs,gG5,x5,eι▸S5,eι▸er5,eι▸rv5,nD5,q'⟩
      | true =>
       rw [if_pos rfl]
       refine ⟨ι5,h5,_,S5,(ER.comp2 er3 rA rB).mono g5,?_⟩
       dsimp only at q'
       cases ee:ce (some y1::some y2::(jf.map (·.1)).map fun j=>(en[j]?).join) h5 with
       | bad=>rw [ee] at q';exact q'
       | ex c h6=>rw [ee] at q';exact q'.elim
       | ok v h6 =>
        rw [ee] at q'
        intro ι6 H6 u6 g6 S6 r6
        have g56:=g6
        have hD6:H6 D=some (.lst ys):=g56.keep D _ nD5 hD5
        have eι6:ι6=Ix.hide ⟨ι6.refs,ι'.priv⟩ D:=by
         have h1:=g6.priv
         have h2:=g5.priv
         rw [h2] at h1
         cases ι6
         simp only at h1
         subst h1
         rfl
        have nD6:D∉ι6.refs:=g56.outR nD5 hD5
        have gG6:Grow ι1 H1 ⟨ι6.refs,ι'.priv⟩ (upd H6 D (.lst (ys++[u6]))):=by
         obtain ⟨n,en1,hn⟩:=gG5.pre
         obtain ⟨k,ek,hk⟩:=g56.pre
         have hD1:∀ a o,H1 a=some o->a≠D:=fun a o ea=>zat ea hD
         refine ⟨⟨n++k,?_,fun a ha=>?_⟩,g'.priv,fun a o na ea=>?_,fun a ha=>?_⟩
         ·show ι6.refs=_;rw [ek];have z:ι5.refs=ι1.refs++n:=en1;rw [z];simp
         ·rcases List.mem_append.mp ha with z | z
          ·exact hn a z
          ·have z2:=hk a z
           by_cases hr:a∈ι1.refs
           ·exact absurd z2 (gG5.live a (List.mem_append_left _ hr))
           ·cases e9:H1 a with
            | none=>rfl
            | some o=>rw [gG5.keep a o hr e9] at z2;cases z2
         ·rw [yay (hD1 a o ea)]
          exact g56.keep a o (gG5.outR na ea) (gG5.keep a o na ea)
         ·by_cases zD:a=D
          ·subst zD;rw [zas];simp
          ·rw [yay zD]
           have:a∈ι5.all:=by
            rcases List.mem_append.mp ha with z | z
            ·exact List.mem_append_left _ (by have z':ι5.refs=ι1.refs++n:=en1;rw [z'];exact List.mem_append_left _ z)
            ·rw [eι];exact List.mem_append_right _ (List.mem_cons_of_mem _ (by show a∈ι'.priv;rw [g'.priv];exact z))
           exact g56.live a this
        refine ⟨hD6,xs.length-(i+1),by omega,rfl,hl,zas,⟨ι6.refs,ι'.priv⟩,h6,vs++[v],gG6,?_,?_,?_,?_,nD6,q'⟩
        ·exact (eι6▸(x'.trans (g35.ext.trans g6.ext))).trans Ext.poke
        ·exact Sim.poke (eι6▸S6) nD6
        ·exact ER.ext (eι6▸er5.mono g6) Ext.poke
        ·have:RVs T ι6 H6 (vs++[v]) (ys++[u6]):=(rv5.mono g6).append (.cons r6 .nil)
         exact RVs.ext Ext.poke (eι6▸this)
    ·rw [if_neg hs] at q';exact q'.elim
   ·have ei:i=xs.length:=by omega
    subst ei
    rw [List.drop_length] at q'
    unfold yaI at q'
    by_cases hs:ybz w xs h'=true
    ·rw [if_pos hs] at q'
     have hp:D∉ι'.priv:=fun z=>by rw [g'.priv] at z;exact S1.plive D z hD
     refine .inl ⟨IR.stop _ _ h' H2 x' S' hs (Nat.le_refl _),q' ι' H2 D ys (g1.trans g') S' rv' hH2 (fun z=>(List.mem_append.mp z).elim nD' hp) fun n en1 a ha=>?_⟩
     obtain ⟨k,ek,hk⟩:=(g1.trans g').pre
     have:n=k:=List.append_cancel_left (en1.symm.trans ek)
     subst this
     rcases List.mem_append.mp ha with z | z
     ·exact hk a z
     ·have z':a=D:=by simpa using z
      subst z'
      cases e9:H a with
      | none=>rfl
      | some o =>
       by_cases hr:a∈ι.refs
       ·have z1:a∈ι1.refs:=by
         obtain ⟨k1,ek1,_⟩:=g1.pre
         rw [ek1];exact List.mem_append_left _ hr
        exact absurd hD (S1.live a (List.mem_append_left _ z1))
       ·rw [g1.keep a o hr e9] at hD;cases hD
    ·rw [if_neg hs] at q';exact q'.elim
theorem zhU {σ:St} {H:Hp} {Q:VK} (q:tE T E (yaU (jf.map (·.1)) it (un2 cc) (un2 ce)) σ H Q):yez T.K jf (tI T it) (tT T EN cc) (tE T EN ce) σ H Q:=by
 obtain ⟨ι,h,en,S,er,q⟩:=q
 refine zhT S er ?_
 unfold yaU at q
 cases e:it en h with
 | bad=>rw [e] at q;exact q
 | ex c h1=>rw [e] at q;exact q.elim
 | ok p h1 =>
  obtain ⟨xs,w⟩:=p
  rw [e] at q
  dsimp only at q ⊢
  cases e2:yaI (jf.map (·.1)) en w xs (un2 cc) (un2 ce) xs [] h1 with
  | bad=>rw [e2] at q;exact q
  | ex c h1=>rw [e2] at q;exact q.elim
  | ok ys h2 =>
   rw [e2] at q
   exact fun ι' H' D vs g S' r hD nD _=>q ι' H' _ g S'.show (.fl nD (.inl hD) (r.ext Ext.show))
structure CompOk2 (X:Cx) (x₁ x₂:Str) (jf:List (Nat×Str)) (scope:Scope):Prop where
 hN:(x₁::x₂::jf.map (·.2)).Nodup
 hx:scope.names.lookup x₁=some .local
 hx2:scope.names.lookup x₂=some .local
 hjf:∀ p∈jf,X.N[p.1]? = some p.2
 hjl:∀ p∈jf,scope.names.lookup p.2=some .free
 hkind:scope.kind = .function
 hcell:∀ y∈scope.names,y.2 ≠ .cell
 hfr:∀ y∈scope.names,y.2 = .free->X.env.kindOf y.1=some .cell\/X.env.kindOf y.1=some .free
 hnames:∀ y∈scope.names,y.2 = .local->scope.names.lookup y.1=some .local
theorem zdp (hK:X.K=T.K) (C:CompOk2 X x₁ x₂ jf scope) (hcalm:X.calm=true) (hi:PIA T X (.Tuple [.Name x₁ p1,.Name x₂ p2] kk px) iter it) (hc:∀ pins cl s H fp,PTs (ya0 X pins x₁ x₂ jf scope cl s H fp) ifs (tT T EN cc)) (he:∀ pins cl s H fp,PEA T EN (ya0 X pins x₁ x₂ jf scope cl s H fp) elt ce)
  (hs:∀ x,foldedSetIterable iter X.env x=pure x:=by intro _;rfl):PEA T E X (.ListComp elt [⟨.Tuple [.Name x₁ p1,.Name x₂ p2] kk px,iter,ifs,0⟩] scope pos) (ybG (jf.map (·.1)) it cc ce) :=
 yaS (zhR hcalm hi hc he C.hN C.hx C.hx2 C.hjf C.hjl C.hkind C.hcell C.hfr C.hnames hs) fun _ _ _ q=>hK▸zhU q
end
def ye6 (N:List Str) (sc:Scope) (x₁ x₂:Str) (jf:List (Nat×Str)) (scope:Scope):Bool :=
 yeO N sc x₁ jf scope && decide (x₁::x₂::jf.map (·.2)).Nodup && (scope.names.lookup x₂ == some .local)
theorem zbF {X:Cx} {N:List Str} {sc scope:Scope} {x₁ x₂:Str} {jf:List (Nat×Str)} (hN:X.N=N) (hk:∀ x,X.env.kindOf x=sc.names.lookup x) (h:ye6 N sc x₁ x₂ jf scope=true):CompOk2 X x₁ x₂ jf scope:=by
 unfold ye6 at h
 simp only [Bool.and_eq_true,decide_eq_true_eq,beq_iff_eq] at h
 obtain ⟨⟨h1,h2⟩,h3⟩:=h
 have C:=zaE hN hk h1
 exact ⟨h2,C.hx,h3,C.hjf,C.hjl,C.hkind,C.hcell,C.hfr,C.hnames⟩
section
variable {T:Tb} {E:St->XK} {X:Cx} {pos p pos' p':Pos} {a:Expr} {sa:SE}
end
end Sm
namespace Sm
open PySem PySem.Spec L2
@[simp] def ydO:FM:=fun x vs h=>match x,vs with
 | .ref n,[.int i]=>match h[n]? with
  | some (.lst xs)=>if 0<=i/\i<2 ^ 40 then (match xs[i.toNat]? with
   | some y=>.ok y (h.set n (.lst (xs.eraseIdx i.toNat)))
   | none=>.bad) else .bad
  | _=>.bad
 | _,_=>.bad
theorem RVs.erase {T:Tb} {ι:Ix} {H:Hp} {xs:List AV} {us:List V} (r:RVs T ι H xs us) (k:Nat):RVs T ι H (xs.eraseIdx k) (us.eraseIdx k):=by
 rw [List.eraseIdx_eq_take_drop_succ,List.eraseIdx_eq_take_drop_succ]
 exact (r.take k).append (r.drop (k+1))
theorem ziZ {T:Tb} {X:Cx}:∃ r,MtR X "list.pop" r/\MtS T ydO r:=by
 refine ⟨_,zhx,fun ι h H x xs u us E Q S rx rs q=>?_⟩
 unfold ydO at q
 split at q
 ·rename_i n i
  split at q
  ·rename_i ys hn
   split at q
   ·rename_i hi
    split at q
    ·rename_i y hy
     cases rx with
     | @ref _ ad hr =>
      cases rs with
      | cons r1 r2 =>
      cases r2
      rw [yaC r1]
      obtain ⟨o,e1,ws,rfl,rw_⟩:=S.obj n _ ad hn hr
      have g:=S.growSet (u:=.lst (ws.eraseIdx i.toNat)) hr
      obtain ⟨v,e2,r2⟩:=rw_.get hy
      have hl:=(List.getElem?_eq_some_iff.mp hy).1
      have hl2:=rw_.length
      have h40:i<1099511627776:=hi.2
      refine ⟨ad,ws,i,i.toNat,v,rfl,rfl,e1,by omega,by omega,?_,e2,q ι _ _ g (S.set hr ⟨_,rfl,(rw_.mono g).erase i.toNat⟩) (r2.mono g)⟩
      unfold seqIndex?
      simp only [show ¬ i<0 by omega,if_false]
      simp;omega
    ·exact q.elim
   ·exact q.elim
  ·exact q.elim
 ·exact q.elim
end Sm
namespace L2
open PySem PySem.Spec PyProof.Rows
abbrev lsO (xs:Array Value) (n:Nat) (sl:Array (Option Value)):Obj:={ cls:=.type "list",data:=.seq xs n,slots:=sl }
theorem zi0 {l b:Addr} {xs ys:Array Value} {n m:Nat} {sl:Array (Option Value)} (c : ¬ (!xs.isEmpty && Builtin.List.listTooLong (xs.size+ys.size))=true) (c1:xs.size<=sizeLine) (c2:xs.size+ys.size<=sizeLine+1) :
  Meets (Builtin.«list.extend» ⟨[.ref l,.ref b],[]⟩) (fun _ R s=>s.heap.get? l=some (lsO xs n #[])/\s.heap.get? b=some (lsO ys m sl)/\R (.ok (.ret .none)) { s with heap:=s.heap.update l (Obj.mapSeq fun x=>x++ys),toks:=s.toks }):=by
 refine .of_wp fun _ _ _ _ s z=>?_
 cases s
 have z1:=z.1
 have z2:=z.2.1
 have z3:=z.2.2
 have k1:=PySem.AutoSeq1.idx_int
 have k2:=PySem.AutoSeq1.sub_tuple_tuple
 have k3:=PySem.AutoSeq1.sub_list_list
 have k4:=PySem.AutoSeq1.sub_tuple_list
 have k5:=PySem.AutoSeq1.sub_list_tuple
 have sz:(xs++ys).size<=sizeLine+1:=by rw [Array.size_append];exact c2
 wp_walk using (wpAny_updateSeq z1 rfl (hz:=c1) (_hz' := sz)),PySem.AutoSeq1.wpAny_loadPart' z1,PySem.AutoSeq1.wpAny_loadPart' z2
 exact ⟨_,rfl,z3⟩
section
variable {X:Cx}
def yh4 (K:PySem.W.Frag):V->List V->Hp->VK->Prop:=fun x vs H Q=>∃ l b xs zs,x = .ref l/\vs=[.ref b]/\H l=some (.lst xs)/\SqL K H b zs/\xs.length+zs.length<=sizeLine/\Q .non (upd H l (.lst (xs++zs)))
theorem zi1:MtR X "list.extend" (yh4 X.K):=by
 intro pins s σ H x vs v us Q I rx rv h
 obtain ⟨l,b,xs,zs,rfl,rfl,hH,hB,hz,q⟩:=h
 cases rx
 obtain ⟨u,rfl,ru⟩:=rv.one
 cases ru
 obtain ⟨z,its,n,r,hl,e⟩:=I.lstM hH
 obtain ⟨its2,r2,⟨⟨oc,od,oda,osl⟩,n2,e1,e2,e3,e4⟩,hz2⟩:=I.list hB
 dsimp only at e2 e3 e4
 subst e2 e3 e4
 have hl2:=r2.length
 have hsz:its.toArray.size+its2.toArray.size<=sizeLine:=by rw [List.size_toArray,List.size_toArray];omega
 have hlong : ¬ (!its.toArray.isEmpty && Builtin.List.listTooLong (its.toArray.size+its2.toArray.size))=true:=by
  rw [zei hsz,Bool.and_false]
  exact Bool.false_ne_true
 refine call_meets F.slot_list_extend ⟨_,e,rfl⟩ F.entry_list_extend (F.args_list_extend_2 _ _)
  (zi0 (n:=n) (m:=n2) (sl:=osl) hlong (by rw [List.size_toArray];omega) (by omega)) ⟨e,e1,?_⟩
 refine ⟨.non,_,I.lset (its' := its++its2) hH e (by simp) (r.append r2) ?_,rfl,q⟩
 rw [List.length_append]
 omega
end
end L2
namespace Sm
open PySem PySem.Spec L2
@[simp] def yel:FM:=fun x vs h=>match x,vs with
 | .ref n,[y]=>match h[n]?,ybS y h with
  | some (.lst xs),some ys=>if xs.length+ys.length<=sizeLine then .ok .non (h.set n (.lst (xs++ys))) else .bad
  | _,_=>.bad
 | _,_=>.bad
theorem yg2 {T:Tb} {X:Cx} (hK:X.K=T.K):∃ r,MtR X "list.extend" r/\MtS T yel r:=by
 refine ⟨_,zi1,fun ι h H x xs u us E Q S rx rs q=>?_⟩
 unfold yel at q
 split at q
 ·rename_i n y
  split at q
  ·rename_i ys zs hn hy
   split at q
   ·rename_i hl
    cases rx with
    | @ref _ ad hr =>
     cases rs with
     | @cons _ uu _ _ r r' =>
      cases r'
      obtain ⟨o,e1,ws,rfl,rw_⟩:=S.obj n _ ad hn hr
      obtain ⟨bd,ws2,rfl,sq,rw2⟩:=ybv S r hy
      have g:=S.growSet (u:=.lst (ws++ws2)) hr
      exact ⟨ad,bd,ws,ws2,rfl,rfl,e1,hK▸sq,by rw [<- rw_.length,<- rw2.length];exact hl,q ι _ _ g (S.set hr ⟨_,rfl,(rw_.mono g).append (rw2.mono g)⟩) .non⟩
   ·exact q.elim
  ·exact q.elim
 ·exact q.elim
section
variable {T:Tb} {E:L2.St->XK} {X:Cx} {pos:Pos} {a b:Expr} {sa sb:SE}
end
end Sm
namespace L2
open PySem PySem.Spec
theorem Room.m {j k:Nat} {A:Around} (hr:Room k A) (h:Nat.ble j k=true:=by rfl):Room j A:=hr.mono (Nat.le_of_ble_eq_true h)
end L2
namespace Sm
open PySem PySem.Spec L2
def DK (K:PySem.W.Frag) (x:Str) (st:Stmt):Prop:=∃ f fd,PySem.W.nsIn K mainGlobals x=some (some (.ref f))/\Fun K x x st f fd
def DN (K:PySem.W.Frag) (C:Addr) (m q:Str) (st:Stmt):Prop:=∃ f fd,Meth K C m f/\Fun K m q st f fd
def DMm (K:PySem.W.Frag) (cls:Nat->Option Addr) (c:Nat) (m q:Str) (st:Stmt) (ps:List Str):Prop:=∃ C f fd,cls c=some C/\Cls K C/\Meth K C m f/\Binds K fd ps []/\Fun K m q st f fd
def DI (K:PySem.W.Frag) (cls:Nat->Option Addr) (mg:Str->Option Value) (c:Nat) (x q:Str) (st:Stmt) (ps:List Str):Prop:=∃ C f fd,cls c=some C/\mg x=some (.ref C)/\Mk K C f/\Binds K fd ps []/\Fun K "__init__" q st f fd
section
variable {P:Program} {w:World} {K:PySem.W.Frag} {mg:Str->Option Value} {base h:Heap} {T:Tb} {x m q:Str} {st:Stmt} {f C:Addr} {N ps:List Str} {k c:Nat} {b:SS} {cls:Nat->Option Addr}
section
variable {oc:Value} {od an:Option Addr} {osl:Array (Option Value)} {kV doc pm cdv ct:Value}
theorem dk (a:PySem.W.nsIn K mainGlobals x=some (some (.ref f))) (l:K.lookup f=some ⟨oc,od,.func (PySem.W.fnOf x x (ycP st) (yb3 st) (yag st) .none kV doc pm an cdv ct),osl⟩)
  (c:PySem.W.codeIn K cdv x=true) (k:PySem.W.keepIn K (.ref f)=true):DK K x st:=⟨f,_,a,yfv l c k⟩
theorem dn (a:PySem.W.findIn K (.ref C) m=some (some (.ref f))) (i:PySem.W.isFn K (.ref f)=true) (l:K.lookup f=some ⟨oc,od,.func (PySem.W.fnOf m q (ycP st) (yb3 st) (yag st) .none kV doc pm an cdv ct),osl⟩)
  (c:PySem.W.codeIn K cdv q=true) (k:PySem.W.keepIn K (.ref f)=true):DN K C m q st:=⟨f,_,⟨a,i,k⟩,yfv l c k⟩
end
abbrev BA (x q:Str) (st:Stmt) (us:List Value) (r:List (Str×Value)):Prop:=∀ (kV doc pm:Value) (an:Option Addr) (cdv ct:Value),bindArgs (PySem.W.fnOf x q (ycP st) (yb3 st) (yag st) .none kV doc pm an cdv ct) ⟨us,[]⟩=pure r
def BL (x q:Str) (st:Stmt) (ps:List Str):Prop:=∀ (us:List Value),us.length=ps.length->BA x q st us (ps.zip us)
theorem bl1 {p1:Str} (h:∀ a,BA x q st [a] [(p1,a)]:=by exact fun _ _ _ _ _ _ _=>rfl):BL x q st [p1]:=fun us e=>by obtain ⟨_,rfl⟩:=el1 e;exact h _
theorem bl2 {p1 p2:Str} (h:∀ a b,BA x q st [a,b] [(p1,a),(p2,b)]:=by exact fun _ _ _ _ _ _ _ _=>rfl):BL x q st [p1,p2]:=fun us e=>by obtain ⟨_,_,rfl⟩:=el2 e;exact h _ _
theorem bl3 {p1 p2 p3:Str} (h:∀ a b c,BA x q st [a,b,c] [(p1,a),(p2,b),(p3,c)]:=by exact fun _ _ _ _ _ _ _ _ _=>rfl):BL x q st [p1,p2,p3]:=fun us e=>by obtain ⟨_,_,_,rfl⟩:=el3 e;exact h _ _ _
theorem bl4 {p1 p2 p3 p4:Str} (h:∀ a b c d,BA x q st [a,b,c,d] [(p1,a),(p2,b),(p3,c),(p4,d)]:=by exact fun _ _ _ _ _ _ _ _ _ _=>rfl):BL x q st [p1,p2,p3,p4]:=fun us e=>by obtain ⟨_,_,_,_,rfl⟩:=el4 e;exact h _ _ _ _
theorem bl5 {p1 p2 p3 p4 p5:Str} (h:∀ a b c d e,BA x q st [a,b,c,d,e] [(p1,a),(p2,b),(p3,c),(p4,d),(p5,e)]:=by exact fun _ _ _ _ _ _ _ _ _ _ _=>rfl):BL x q st [p1,p2,p3,p4,p5]:=fun us e=>by obtain ⟨_,_,_,_,_,rfl⟩:=el5 e;exact h _ _ _ _ _
theorem dg (X:K.In h) (G:h.Ns mainGlobals mg) (d:DK K x st) (hb:BL x x st ps):DG K mg x st ps:=by
 obtain ⟨f,fd,a,F⟩:=d
 exact ⟨f,fd,PySem.W.mg_of X G a,F.kp,F.binds fun _ _ _ _ _ _ us hl=>hb us hl _ _ _ _ _ _,F⟩
theorem dm (hc:cls c=some C) (k:Cls K C) (d:DN K C m q st) (hb:BL m q st ps):DMm K cls c m q st ps:=by
 obtain ⟨f,fd,M,F⟩:=d
 exact ⟨C,f,fd,hc,k,M,F.binds fun _ _ _ _ _ _ us hl=>hb us hl _ _ _ _ _ _,F⟩
theorem di (hc:cls c=some C) (hx:mg x=some (.ref C)) (mk:PySem.W.makesIn K C=true) (kc:PySem.W.keepIn K (.ref C)=true) (d:DN K C "__init__" q st) (hb:BL "__init__" q st ps):DI K cls mg c x q st ps:=by
 obtain ⟨f,fd,M,F⟩:=d
 exact ⟨C,f,fd,hc,hx,⟨mk,M.at_,M.fn,kc⟩,F.binds fun _ _ _ _ _ _ us hl=>hb us hl _ _ _ _ _ _,F⟩
theorem dlaw {fa:Addr} {p:Str} (X:K.In h) (G:h.Ns mainGlobals mg) (hfa:mg x=some (.ref fa)) (d:DK K x st) (hb:BL x x st [p]):∃ fd:FuncData,(∀ (s:Shared) (v:Value),BindsTo s fd ⟨[v],[]⟩ [(p,v)])/\Fun K x x st fa fd:=by
 obtain ⟨f,fd,a,F⟩:=d
 have e:=hfa.symm.trans (PySem.W.mg_of X G a)
 cases e
 refine ⟨fd,fun s v=>?_,F⟩
 obtain ⟨oc,od,kV,doc,pm,an,cdv,ct,osl,rfl,lk,hcd⟩:=F.ex
 exact .of_eq (hb [v] rfl _ _ _ _ _ _)
theorem fsk {sc:Scope} (h1:sc.kind = .function:=by rfl) (h2:sc.isCoroutine=false:=by rfl) (h3:sc.isGenerator=false:=by rfl) (h4:N.Nodup:=by decide +kernel) (h5:N.take ps.length=ps:=by rfl)
  (h6:∀ x∈ps,sc.names.lookup x=some .local\/sc.names.lookup x=some .cell:=by decide +kernel) (h7:∀ y∈sc.names,y.2 ≠ .free:=by decide +kernel):FnScope N ps sc:=⟨h1,h2,h3,h4,h5,h6,h7⟩
abbrev ye0 (P:Program) (w:World) (mg:Str->Option Value) (base:Heap) (T:Tb) (q:Str) (st:Stmt) (f:Addr) (N:List Str) (k:Nat) (b:SS):Prop :=
 ∀ {cdv:Value} {A:Around} {outer:List Env} {s:Shared} {H:Hp} {E:XK},Room k (A.deeper (PyProof.Rows.envOfC q (yag st) s.heap.objs.size f cdv))->CA T (fun _=>E) (cxOf (CXE P w) P w T.K mg base N q (yag st) f cdv A outer s H E) ->
  (A.deeper (PyProof.Rows.envOfC q (yag st) s.heap.objs.size f cdv)).units+64<cLine->N.Nodup->PSsA T (fun _=>E) (cxOf (CXE P w) P w T.K mg base N q (yag st) f cdv A outer s H E) (yb3 st) b
theorem gf (d:DG T.K mg x st ps) (S:FnScope N ps (yag st)) (hb:∀ {f},ye0 P w mg base T x st f N k b):GF P w T mg base (k+1) x (mkFn ps.length N.length b):=by
 obtain ⟨f,fd,h1,h2,h3,h4⟩:=d
 exact ⟨f,fd,_,h1,h2,h3,okA h4 rfl S fun cdv A outer s H E hr C=>hb hr C (hu64 hr) S.nd⟩
theorem gm (d:DMm T.K T.cls c m q st ps) (S:FnScope N ps (yag st)) (no:m∉T.fields c) (hb:∀ {f},ye0 P w mg base T q st f N k b):GM P w T mg base (k+1) c m (mkFn ps.length N.length b):=by
 obtain ⟨C,f,fd,h0,hc,h1,h3,h4⟩:=d
 exact ⟨⟨C,f,fd,_,h0,hc,h1,h3,okA h4 rfl S fun cdv A outer s H E hr C=>hb hr C (hu64 hr) S.nd⟩,no⟩
theorem gk (d:DI T.K T.cls mg c x q st ps) (S:FnScope N ps (yag st)) (hb:∀ {f},ye0 P w mg base T q st f N k b):GK P w T mg base (k+1) c x (mkFn ps.length N.length b):=by
 obtain ⟨C,f,fd,h0,h1,h2,h3,h4⟩:=d
 exact ⟨C,f,fd,_,h0,h1,h2,h3,okA h4 rfl S fun cdv A outer s H E hr C=>hb hr C (hu64 hr) S.nd⟩
theorem gl {f:Addr} {fd:FuncData} (h4:Fun T.K x x st f fd) (S:FnScope N ps (yag st)) (hb:ye0 P w mg base T x st f N k b):FnOk P w T.K mg base (CXE P w) (k+1) f fd ps (spA T (mkFn ps.length N.length b)) :=
 okA h4 rfl S fun cdv A outer s H E hr C=>hb hr C (hu64 hr) S.nd
def XI (K:PySem.W.Frag) (X:Addr):Prop:=PySem.W.excIn K X [.type "ValueError",.type "Exception",.type "BaseException",.type "object"] "ValueError.__new__" = true
theorem xi {X:Addr} (h:PySem.W.excIn K X [.type "ValueError",.type "Exception",.type "BaseException",.type "object"] "ValueError.__new__" = true):XI K X:=h
theorem gx {X:Addr} {n:Nat} {g:Heap} (KB:K.In g) (KX:K.In h) (G:h.Ns mainGlobals mg) (hc:T.exc n=some X) (e:PySem.W.nsIn K mainGlobals x=some (some (.ref X))) (hx:XI K X):GX T mg g n x:=⟨X,hc,zhN KB (PySem.W.mg_of KX G e) hx⟩
def NA (K:PySem.W.Frag) (x:Str) (v:Option Value):Prop:=PySem.W.nsIn K mainGlobals x=some v
theorem na {v:Option Value} (h:PySem.W.nsIn K mainGlobals x=some v):NA K x v:=h
def FA (K:PySem.W.Frag) (C:Addr) (x:Str):Prop:=PySem.W.findIn K (.ref C) x=some none
theorem fatt (h:PySem.W.findIn K (.ref C) x=some none):FA K C x:=h
end
end Sm
namespace Sk
open PySem PySem.Spec L2 Sm
abbrev ygg:Nat:=0
abbrev yik:Nat:=1
abbrev yh5:Nat:=2
abbrev yfW:Nat:=3
abbrev yfi:Nat:=4
abbrev yfj:Nat:=5
abbrev yh6:Nat:=6
def yca:Fn:=mkFn 1 1
  (sSeq (ycg 0 0 (sVar 0) (yby sNil))
  (sSeq (ycg 0 1 (sVar 0) (yeT true))
  (sSeq (ycg 0 2 (sVar 0) (yby (sCons (sLit (.int 0)) sNil)))
  (sSeq (ycg 0 3 (sVar 0) (yby (sCons (sLit (.int 0)) sNil)))
  (sSeq (ycg 0 4 (sVar 0) (yby (sCons (sLit (.int 0)) sNil)))
  (sSeq (ycg 0 5 (sVar 0) (yby (sCons (sOp1 fNeg (sLit (.int 1))) sNil)))
  (sSeq (ycg 0 6 (sVar 0) (yby (sCons (sLit (.int 0)) sNil)))
  (ycg 0 7 (sVar 0) (yby (sCons (sLit (.int 0)) sNil))))))))))
def ybR:Fn:=mkFn 2 3
  (sSeq (sSet 2 (sOp2 fMod (sOp2 fMul (sOp2 fAdd (sOp2 fAdd (sOp2 fMod (sVar 0) (sLit (.int 1000000007))) (sOp2 fMul (sLit (.int 7919)) (sVar 1))) (sLit (.int 101))) (sLit (.int 48271))) (sLit (.int 2147483647))))
  (sRet (sOp2 fMod (sOp2 fMul (sOp2 fMod (sOp2 fMul (sVar 2) (sVar 2)) (sLit (.int 2147483629))) (sLit (.int 69621))) (sLit (.int 2147483647)))))
def ybB:SS :=
  (sSet 2 (sOp2 fAdd (sOp2 fMul (sVar 2) (sOp2 fMul (sOp2 fPow (sLit (.int 10)) (sLit (.int 60))) (sOp2 fPow (sLit (.int 10)) (sLit (.int 60))))) (sOp2 fMod (sOp2 fIx (sVar 0) (sVar 3)) (sOp2 fMul (sOp2 fPow (sLit (.int 10)) (sLit (.int 60))) (sOp2 fPow (sLit (.int 10)) (sLit (.int 60)))))))
def ybC:SS :=
  (sSet 4 (sOp2 fAdd (sOp2 fMul (sVar 4) (sLit (.int 2147483647))) (yad ybR (sCons (sOp2 fAdd (sOp2 fAdd (sVar 2) (sOp2 fMul (sLit (.int 1009)) (sVar 1))) (yad fLen (sCons (sVar 0) sNil))) (sCons (sVar 3) sNil)))))
def ybH:Fn:=mkFn 2 5
  (sSeq (sSet 2 (sLit (.int 0)))
  (sSeq (sFor (yck (sVar 1) (yad fLen (sCons (sVar 0) sNil)) (sLit (.int 12))) (.nm 3) ybB)
  (sSeq (sIf (yaj (sOp2 fGe (sVar 2) (sOp2 fPow (sLit (.int 10)) (sLit (.int 18))))) (sRet (yby (sCons (sVar 2) sNil))) yat)
  (sSeq (sSet 2 (sOp2 fAdd (sVar 2) (yad fSum (sCons (yaU [] (iVal (sVar 0)) sYes (sOp2 fMod (sVar 0) (sOp2 fPow (sLit (.int 10)) (sLit (.int 18))))) sNil))))
  (sSeq (sSet 4 (sLit (.int 0)))
  (sSeq (sFor (ybU (sLit (.int 24))) (.nm 3) ybC)
  (sRet (yby (sCons (sVar 4) sNil)))))))))
def yb4:SS :=
  (sSet 2 (sOp2 fAdd (sOp2 fMul (sVar 2) (sLit (.int 2147483647))) (yad ybR (sCons (sOp2 fAdd (sVar 0) (sOp2 fMul (sLit (.int 1009)) (sVar 1))) (sCons (sVar 3) sNil)))))
def yc6:Fn:=mkFn 2 4
  (sSeq (sSet 0 (sOp2 fMod (sVar 0) (sOp2 fMul (sOp2 fPow (sLit (.int 10)) (sLit (.int 60))) (sOp2 fPow (sLit (.int 10)) (sLit (.int 60))))))
  (sSeq (sIf (yaj (sOp2 fGe (sVar 0) (sOp2 fPow (sLit (.int 10)) (sLit (.int 18))))) (sRet (yby (sCons (sVar 0) sNil))) yat)
  (sSeq (sSet 2 (sLit (.int 0)))
  (sSeq (sFor (ybU (sLit (.int 12))) (.nm 3) yb4)
  (sRet (yby (sCons (sVar 2) sNil)))))))
def yar:Fn:=mkFn 2 3
  (sSeq (sSet 2 (sOp2 fMod (sOp2 fIx (sVar 0) (sLit (.int 0))) (sVar 1)))
  (sSeq (yd6 (sVar 0) (sLit (.int 0)) (sOp2 fDiv (sOp2 fIx (sVar 0) (sLit (.int 0))) (sVar 1)))
  (sRet (sVar 2))))
def ya5:Fn:=mkFn 1 1
  (sRet (yad fSum (sCons (ybG [] (ya3 (sVar 0)) sYes (sOp2 fMul (yad fLen (sCons (sVar 0) sNil)) (sVar 1))) sNil)))
def yde:Fn:=mkFn 1 1
  (sRet (yeA (sIsB "int" (sVar 0)) (yf1 (sIsB "bool" (sVar 0)))))
def ybT:Fn:=mkFn 2 2
  (sRet (yeA (yad yde (sCons (sVar 1) sNil)) (ybN fLe fLe (sLit (.int 1)) (sVar 1) (yad fLen (sCons (Sm.sFld 0 0 (sVar 0)) sNil)))))
def ya1:Fn:=mkFn 2 2
  (sIf (sNot (ydb (yam 0 ybT (sVar 0) (sCons (sVar 1) sNil)))) (yb1 2 (sCons (sLit (.str "no piece of the shelf has this number")) sNil)) yat)
def yaP:Fn:=mkFn 2 2
  (sIf (yaj (sOp2 fNe (sVar 1) (sLit (.int 0)))) (yaJ (yam 0 ya1 (sVar 0) (sCons (sVar 1) sNil))) yat)
def yaA:Fn:=mkFn 2 2
  (sSeq (yaJ (yam 0 yaP (sVar 0) (sCons (sVar 1) sNil)))
  (sRet (sOp2 fIx (Sm.sFld 0 5 (sVar 0)) (sVar 1))))
def ybI:Fn:=mkFn 1 1
  (sRet (yad fLen (sCons (Sm.sFld 0 0 (sVar 0)) sNil)))
def ybV:Fn:=mkFn 1 1
  (sRet (yaU [] (iVal (sVar 0)) (yaj (sOp2 fGt (sOp2 fMul (yad fLen (sCons (sOp2 fIx (sVar 0) (sLit (.int 0))) sNil)) (sOp2 fIx (sVar 0) (sLit (.int 1)))) (sLit (.int 0)))) (sVar 0)))
def ybe:SS :=
  (sSeq (sSet 6 (sOp2 fMul (yad fLen (sCons (sVar 4) sNil)) (sVar 5)))
  (sSeq (sSet 7 (yad ycW (sCons (sVar 5) (sCons (sOp2 fDiv (yad ybm (sCons (sLit (.int 0)) (sCons (sVar 1) sNil))) (yad fLen (sCons (sVar 4) sNil))) sNil))))
  (sSeq (sSet 8 (yad ycW (sCons (yad fLen (sCons (sVar 4) sNil)) (sCons (yad ybm (sCons (sLit (.int 0)) (sCons (sOp2 fSub (sVar 1) (sOp2 fMul (sVar 7) (yad fLen (sCons (sVar 4) sNil)))) sNil))) sNil))))
  (sSeq (sIf (yaj (sOp2 fEq (sVar 7) (sVar 5))) (sSet 8 (sLit (.int 0))) yat)
  (sSeq (yaJ (sBM yaV yb6 (sVar 2) (sCons (yby (sCons (sTup (sCons (sVar 4) (sCons (sVar 7) sNil))) (sCons (sTup (sCons (sCut (sVar 4) none (some (sVar 8))) (sCons (sLit (.int 1)) sNil))) sNil))) sNil)))
  (sSeq (sIf (yaj (sOp2 fLt (sVar 7) (sVar 5))) (yaJ (sBM yaV yb6 (sVar 3) (sCons (yby (sCons (sTup (sCons (sCut (sVar 4) (some (sVar 8)) none) (sCons (sLit (.int 1)) sNil))) (sCons (sTup (sCons (sVar 4) (sCons (sOp2 fSub (sOp2 fSub (sVar 5) (sVar 7)) (sLit (.int 1))) sNil))) sNil))) sNil))) yat)
  (sSet 1 (sOp2 fSub (sVar 1) (sVar 6)))))))))
def ya6:Fn:=mkFn 2 9
  (sSeq (sSet 2 (yby sNil))
  (sSeq (sSet 3 (yby sNil))
  (sSeq (sFor (ya3 (sVar 0)) (.tup [4,5]) ybe)
  (sRet (sTup (sCons (yad ybV (sCons (sVar 2) sNil)) (sCons (yad ybV (sCons (sVar 3) sNil)) sNil)))))))
def yaz:Fn:=mkFn 2 2
  (sSeq (yaJ (yam 0 yaP (sVar 0) (sCons (sVar 1) sNil)))
  (sRet (sOp2 fIx (Sm.sFld 0 2 (sVar 0)) (sVar 1))))
def ycp:Fn:=mkFn 3 4
  (sSeq (sSet 3 (yam 0 yaz (sVar 0) (sCons (sVar 1) sNil)))
  (sIf (sNot (yaj (ybN fLe fLe (sLit (.int 0)) (sVar 2) (sVar 3)))) (yb1 6 (sCons (sLit (.str "the text has no such place, and does not end there")) sNil)) yat))
def ybD:Fn:=mkFn 1 1
  (sIf (yaj (sOp2 fGt (sVar 0) (sLit (.int 1000000000000000000)))) (yb1 5 (sCons (sLit (.str "the text would have more than 10 ** 18 signs")) sNil)) yat)
def ybw:Fn:=mkFn 2 2
  (sSeq (yaJ (yam 0 yaP (sVar 0) (sCons (sVar 1) sNil)))
  (sRet (sOp2 fIx (Sm.sFld 0 7 (sVar 0)) (sVar 1))))
def ybo:Fn:=mkFn 2 2
  (sSeq (yaJ (yam 0 yaP (sVar 0) (sCons (sVar 1) sNil)))
  (sRet (sOp2 fIx (Sm.sFld 0 6 (sVar 0)) (sVar 1))))
def ycY:Fn:=mkFn 3 3
  (sRet (sOp2 fGt (sOp2 fAdd (yam 0 yaz (sVar 0) (sCons (yam 0 ybw (sVar 0) (sCons (sVar 1) sNil)) sNil)) (yam 0 yaz (sVar 0) (sCons (yam 0 ybo (sVar 0) (sCons (sVar 2) sNil)) sNil))) (sLit (.int 8))))
def yax:Fn:=mkFn 2 2
  (sSeq (yaJ (yam 0 ya1 (sVar 0) (sCons (sVar 1) sNil)))
  (sRet (sOp2 fIx (Sm.sFld 0 0 (sVar 0)) (sOp2 fSub (sVar 1) (sLit (.int 1))))))
def yaW:Fn:=mkFn 3 4
  (sSeq (yaJ (yam 0 ya1 (sVar 0) (sCons (sVar 1) sNil)))
  (sSeq (yaJ (yam 0 ya1 (sVar 0) (sCons (sVar 2) sNil)))
  (sSeq (sSet 3 (sOp2 fAdd (sOp2 fIx (Sm.sFld 0 2 (sVar 0)) (sOp2 fIx (Sm.sFld 0 7 (sVar 0)) (sVar 1))) (sOp2 fIx (Sm.sFld 0 2 (sVar 0)) (sOp2 fIx (Sm.sFld 0 6 (sVar 0)) (sVar 2)))))
  (sSeq (sIf (yaj (sOp2 fLe (sVar 3) (sLit (.int 8)))) (yb1 3 (sCons (sLit (.str "the leaves where the parts meet have no more than eight signs together")) sNil)) yat)
  (sSeq (sIf (yaj (sOp2 fGt (yad fAbs (sCons (sOp2 fSub (sOp2 fIx (Sm.sFld 0 5 (sVar 0)) (sVar 1)) (sOp2 fIx (Sm.sFld 0 5 (sVar 0)) (sVar 2))) sNil)) (sLit (.int 1)))) (yb1 4 (sCons (sLit (.str "the heights of the parts differ by more than one")) sNil)) yat)
  (sIf (yaj (sOp2 fGt (sOp2 fAdd (sOp2 fIx (Sm.sFld 0 2 (sVar 0)) (sVar 1)) (sOp2 fIx (Sm.sFld 0 2 (sVar 0)) (sVar 2))) (sLit (.int 1000000000000000000)))) (yb1 5 (sCons (sLit (.str "the fork would have more than 10 ** 18 signs")) sNil)) yat))))))
def ycq:Fn:=mkFn 2 3
  (sSeq (yaJ (sBM yaV ybk (Sm.sFld 0 0 (sVar 0)) (sCons (sVar 1) sNil)))
  (sSeq (sSet 2 (yad fLen (sCons (Sm.sFld 0 0 (sVar 0)) sNil)))
  (sSeq (yd6 (Sm.sFld 0 1 (sVar 0)) (sVar 1) (sVar 2))
  (sRet (sVar 2)))))
def ybJ:Fn:=mkFn 2 4
  (sSeq (yaJ (yam 0 ycq (sVar 0) (sCons (sVar 1) sNil)))
  (sSeq (sSet 2 (sOp2 fIx (sVar 1) (sLit (.int 1))))
  (sSeq (sSet 3 (sOp2 fIx (sVar 1) (sLit (.int 2))))
  (sSeq (yaJ (sBM yaV ybk (Sm.sFld 0 2 (sVar 0)) (sCons (sOp2 fAdd (sOp2 fIx (Sm.sFld 0 2 (sVar 0)) (sVar 2)) (sOp2 fIx (Sm.sFld 0 2 (sVar 0)) (sVar 3))) sNil)))
  (sSeq (yaJ (sBM yaV ybk (Sm.sFld 0 3 (sVar 0)) (sCons (sOp2 fAdd (sOp2 fIx (Sm.sFld 0 3 (sVar 0)) (sVar 2)) (sOp2 fIx (Sm.sFld 0 3 (sVar 0)) (sVar 3))) sNil)))
  (sSeq (yaJ (sBM yaV ybk (Sm.sFld 0 4 (sVar 0)) (sCons (sOp2 fAdd (sOp2 fIx (Sm.sFld 0 4 (sVar 0)) (sVar 2)) (sOp2 fIx (Sm.sFld 0 4 (sVar 0)) (sVar 3))) sNil)))
  (sSeq (yaJ (sBM yaV ybk (Sm.sFld 0 5 (sVar 0)) (sCons (sOp2 fAdd (yad ybm (sCons (sOp2 fIx (Sm.sFld 0 5 (sVar 0)) (sVar 2)) (sCons (sOp2 fIx (Sm.sFld 0 5 (sVar 0)) (sVar 3)) sNil))) (sLit (.int 1))) sNil)))
  (sSeq (yaJ (sBM yaV ybk (Sm.sFld 0 6 (sVar 0)) (sCons (sOp2 fIx (Sm.sFld 0 6 (sVar 0)) (sVar 2)) sNil)))
  (yaJ (sBM yaV ybk (Sm.sFld 0 7 (sVar 0)) (sCons (sOp2 fIx (Sm.sFld 0 7 (sVar 0)) (sVar 3)) sNil)))))))))))
def yaf:Fn:=mkFn 3 4
  (sSeq (yaJ (yam 0 yaW (sVar 0) (sCons (sVar 1) (sCons (sVar 2) sNil))))
  (sSeq (sSet 3 (sTup (sCons (sLit (.str "fork")) (sCons (sVar 1) (sCons (sVar 2) sNil)))))
  (sSeq (sIf (yaj (sOp2 ye3 (sVar 3) (Sm.sFld 0 1 (sVar 0)))) (yaJ (yam 0 ybJ (sVar 0) (sCons (sVar 3) sNil))) yat)
  (sRet (sOp2 fIx (Sm.sFld 0 1 (sVar 0)) (sVar 3))))))
def ydA (G:Fn):Fn:=mkFn 3 4
  (sSeq (sSet 3 (yam 0 yax (sVar 0) (sCons (sVar 1) sNil)))
  (sSeq (sIf (yaj (sOp2 fEq (sOp2 fIx (sVar 3) (sLit (.int 0))) (sLit (.str "leaf")))) (sRet (sVar 2)) yat)
  (sRet (yam 0 yaf (sVar 0) (sCons (sOp2 fIx (sVar 3) (sLit (.int 1))) (sCons (yad G (sCons (sVar 0) (sCons (sOp2 fIx (sVar 3) (sLit (.int 2))) (sCons (sVar 2) sNil)))) sNil))))))
def ya8:Nat->Fn
 | 0=>mkFn 3 4 (fun _ _=>.bad)
 | d+1=>ydA (ya8 d)
def yaO:Fn:=mkFn 3 7
  (sSeq (sIf (yaj (sOp2 fLt (sOp2 fSub (yam 0 yaA (sVar 0) (sCons (sVar 2) sNil)) (yam 0 yaA (sVar 0) (sCons (sVar 1) sNil))) (sLit (.int 2)))) (sRet (yam 0 yaf (sVar 0) (sCons (sVar 1) (sCons (sVar 2) sNil)))) yat)
  (sSeq (sSet 3 (yam 0 yax (sVar 0) (sCons (sVar 2) sNil)))
  (sSeq (sSet 4 (sOp2 fIx (sVar 3) (sLit (.int 1))))
  (sSeq (sSet 5 (sOp2 fIx (sVar 3) (sLit (.int 2))))
  (sSeq (sIf (yaj (sOp2 fLe (yam 0 yaA (sVar 0) (sCons (sVar 4) sNil)) (yam 0 yaA (sVar 0) (sCons (sVar 5) sNil)))) (sRet (yam 0 yaf (sVar 0) (sCons (yam 0 yaf (sVar 0) (sCons (sVar 1) (sCons (sVar 4) sNil))) (sCons (sVar 5) sNil)))) yat)
  (sSeq (sSet 6 (yam 0 yax (sVar 0) (sCons (sVar 4) sNil)))
  (sRet (yam 0 yaf (sVar 0) (sCons (yam 0 yaf (sVar 0) (sCons (sVar 1) (sCons (sOp2 fIx (sVar 6) (sLit (.int 1))) sNil))) (sCons (yam 0 yaf (sVar 0) (sCons (sOp2 fIx (sVar 6) (sLit (.int 2))) (sCons (sVar 5) sNil))) sNil))))))))))
def yb7 (G:Fn):Fn:=mkFn 2 4
  (sSeq (sSet 2 (yam 0 yax (sVar 0) (sCons (sVar 1) sNil)))
  (sSeq (sIf (yaj (sOp2 fEq (sOp2 fIx (sVar 2) (sLit (.int 0))) (sLit (.str "leaf")))) (sRet (sLit (.int 0))) yat)
  (sSeq (sSet 3 (yad G (sCons (sVar 0) (sCons (sOp2 fIx (sVar 2) (sLit (.int 1))) sNil))))
  (sSeq (sIf (yaj (sOp2 fEq (sVar 3) (sLit (.int 0)))) (sRet (sOp2 fIx (sVar 2) (sLit (.int 2)))) yat)
  (sRet (yad yaO (sCons (sVar 0) (sCons (sVar 3) (sCons (sOp2 fIx (sVar 2) (sLit (.int 2))) sNil)))))))))
def yaB:Nat->Fn
 | 0=>mkFn 2 4 (fun _ _=>.bad)
 | d+1=>yb7 (yaB d)
def yaT:Fn:=mkFn 3 7
  (sSeq (sIf (yaj (sOp2 fLt (sOp2 fSub (yam 0 yaA (sVar 0) (sCons (sVar 1) sNil)) (yam 0 yaA (sVar 0) (sCons (sVar 2) sNil))) (sLit (.int 2)))) (sRet (yam 0 yaf (sVar 0) (sCons (sVar 1) (sCons (sVar 2) sNil)))) yat)
  (sSeq (sSet 3 (yam 0 yax (sVar 0) (sCons (sVar 1) sNil)))
  (sSeq (sSet 4 (sOp2 fIx (sVar 3) (sLit (.int 1))))
  (sSeq (sSet 5 (sOp2 fIx (sVar 3) (sLit (.int 2))))
  (sSeq (sIf (yaj (sOp2 fLe (yam 0 yaA (sVar 0) (sCons (sVar 5) sNil)) (yam 0 yaA (sVar 0) (sCons (sVar 4) sNil)))) (sRet (yam 0 yaf (sVar 0) (sCons (sVar 4) (sCons (yam 0 yaf (sVar 0) (sCons (sVar 5) (sCons (sVar 2) sNil))) sNil)))) yat)
  (sSeq (sSet 6 (yam 0 yax (sVar 0) (sCons (sVar 5) sNil)))
  (sRet (yam 0 yaf (sVar 0) (sCons (yam 0 yaf (sVar 0) (sCons (sVar 4) (sCons (sOp2 fIx (sVar 6) (sLit (.int 1))) sNil))) (sCons (yam 0 yaf (sVar 0) (sCons (sOp2 fIx (sVar 6) (sLit (.int 2))) (sCons (sVar 2) sNil))) sNil))))))))))
def ydT (G:Fn):Fn:=mkFn 3 5
  (sSeq (sSet 3 (sOp2 fSub (yam 0 yaA (sVar 0) (sCons (sVar 1) sNil)) (yam 0 yaA (sVar 0) (sCons (sVar 2) sNil))))
  (sSeq (sIf (yaj (sOp2 fGt (sVar 3) (sLit (.int 1)))) (sSeq (sSet 4 (yam 0 yax (sVar 0) (sCons (sVar 1) sNil)))
  (sRet (yad yaO (sCons (sVar 0) (sCons (sOp2 fIx (sVar 4) (sLit (.int 1))) (sCons (yad G (sCons (sVar 0) (sCons (sOp2 fIx (sVar 4) (sLit (.int 2))) (sCons (sVar 2) sNil)))) sNil)))))) yat)
  (sSeq (sIf (yaj (sOp2 fLt (sVar 3) (sOp1 fNeg (sLit (.int 1))))) (sSeq (sSet 4 (yam 0 yax (sVar 0) (sCons (sVar 2) sNil)))
  (sRet (yad yaT (sCons (sVar 0) (sCons (yad G (sCons (sVar 0) (sCons (sVar 1) (sCons (sOp2 fIx (sVar 4) (sLit (.int 1))) sNil)))) (sCons (sOp2 fIx (sVar 4) (sLit (.int 2))) sNil)))))) yat)
  (sRet (yam 0 yaf (sVar 0) (sCons (sVar 1) (sCons (sVar 2) sNil)))))))
def ya7:Nat->Fn
 | 0=>mkFn 3 5 (fun _ _=>.bad)
 | d+1=>ydT (ya7 d)
def ybO:Fn:=mkFn 1 1
  (sRet (sOrV (sOp2 fEq (sVar 0) (sLit (.str "\n"))) (ybN fLe fLe (sLit (.str " ")) (sVar 0) (sLit (.str "~")))))
def ycD:Fn:=mkFn 1 1
  (sSeq (sIf (sNot (ydb (sIsB "str" (sVar 0)))) (sRet (sLit (.bl false))) yat)
  (sRet (yad fAll (sCons (yaU [] (iVal (sVar 0)) sYes (yad ybO (sCons (sVar 0) sNil))) sNil))))
def ydf:Fn:=mkFn 1 1
  (sRet (yeA (yad ycD (sCons (sVar 0) sNil)) (ybN fLe fLe (sLit (.int 1)) (yad fLen (sCons (sVar 0) sNil)) (sLit (.int 8)))))
def ydx:Fn:=mkFn 1 1
  (sRet (sBM yci ybp (sVar 0) (sCons (sLit (.str "\n")) sNil)))
def ybK:Fn:=mkFn 2 4
  (sSeq (sSet 2 (yam 0 ycq (sVar 0) (sCons (sVar 1) sNil)))
  (sSeq (sSet 3 (sOp2 fIx (sVar 1) (sLit (.int 1))))
  (sSeq (yaJ (sBM yaV ybk (Sm.sFld 0 2 (sVar 0)) (sCons (yad fLen (sCons (sVar 3) sNil)) sNil)))
  (sSeq (yaJ (sBM yaV ybk (Sm.sFld 0 3 (sVar 0)) (sCons (yad ydx (sCons (sVar 3) sNil)) sNil)))
  (sSeq (yaJ (sBM yaV ybk (Sm.sFld 0 4 (sVar 0)) (sCons (sLit (.int 1)) sNil)))
  (sSeq (yaJ (sBM yaV ybk (Sm.sFld 0 5 (sVar 0)) (sCons (sLit (.int 0)) sNil)))
  (sSeq (yaJ (sBM yaV ybk (Sm.sFld 0 6 (sVar 0)) (sCons (sVar 2) sNil)))
  (yaJ (sBM yaV ybk (Sm.sFld 0 7 (sVar 0)) (sCons (sVar 2) sNil))))))))))
def yaD:Fn:=mkFn 2 3
  (sSeq (sIf (sNot (ydb (yad ydf (sCons (sVar 1) sNil)))) (yb1 1 (sCons (sLit (.str "a leaf is a plain text of one to eight signs")) sNil)) yat)
  (sSeq (sSet 2 (sTup (sCons (sLit (.str "leaf")) (sCons (sVar 1) sNil))))
  (sSeq (sIf (yaj (sOp2 ye3 (sVar 2) (Sm.sFld 0 1 (sVar 0)))) (yaJ (yam 0 ybK (sVar 0) (sCons (sVar 2) sNil))) yat)
  (sRet (sOp2 fIx (Sm.sFld 0 1 (sVar 0)) (sVar 2))))))
def ycb:Fn:=mkFn 3 6
  (sSeq (sSet 3 (sOp2 fAdd (sOp2 fIx (yam 0 yax (sVar 0) (sCons (yam 0 ybw (sVar 0) (sCons (sVar 1) sNil)) sNil)) (sLit (.int 1))) (sOp2 fIx (yam 0 yax (sVar 0) (sCons (yam 0 ybo (sVar 0) (sCons (sVar 2) sNil)) sNil)) (sLit (.int 1)))))
  (sSeq (sSet 4 (yad (ya8 90) (sCons (sVar 0) (sCons (sVar 1) (sCons (yam 0 yaD (sVar 0) (sCons (sVar 3) sNil)) sNil)))))
  (sSeq (sSet 5 (yad (yaB 90) (sCons (sVar 0) (sCons (sVar 2) sNil))))
  (sSeq (sIf (yaj (sOp2 fEq (sVar 5) (sLit (.int 0)))) (sRet (sVar 4)) yat)
  (sRet (yad (ya7 90) (sCons (sVar 0) (sCons (sVar 4) (sCons (sVar 5) sNil)))))))))
def yav:Fn:=mkFn 3 3
  (sSeq (yaJ (yad ybD (sCons (sOp2 fAdd (yam 0 yaz (sVar 0) (sCons (sVar 1) sNil)) (yam 0 yaz (sVar 0) (sCons (sVar 2) sNil))) sNil)))
  (sSeq (sIf (yaj (sOp2 fEq (sVar 1) (sLit (.int 0)))) (sRet (sVar 2)) yat)
  (sSeq (sIf (yaj (sOp2 fEq (sVar 2) (sLit (.int 0)))) (sRet (sVar 1)) yat)
  (sSeq (sIf (ydb (yad ycY (sCons (sVar 0) (sCons (sVar 1) (sCons (sVar 2) sNil))))) (sRet (yad (ya7 90) (sCons (sVar 0) (sCons (sVar 1) (sCons (sVar 2) sNil))))) yat)
  (sRet (yad ycb (sCons (sVar 0) (sCons (sVar 1) (sCons (sVar 2) sNil)))))))))
def ybZ (G:Fn):Fn:=mkFn 3 5
  (sSeq (sIf (yaj (sOp2 fEq (sVar 2) (sLit (.int 0)))) (sRet (sLit (.int 0))) yat)
  (sSeq (sIf (yaj (sOp2 fEq (sVar 2) (yam 0 yaz (sVar 0) (sCons (sVar 1) sNil)))) (sRet (sVar 1)) yat)
  (sSeq (sSet 3 (yam 0 yax (sVar 0) (sCons (sVar 1) sNil)))
  (sSeq (sIf (yaj (sOp2 fEq (sOp2 fIx (sVar 3) (sLit (.int 0))) (sLit (.str "leaf")))) (sRet (yam 0 yaD (sVar 0) (sCons (sCut (sOp2 fIx (sVar 3) (sLit (.int 1))) none (some (sVar 2))) sNil))) yat)
  (sSeq (sSet 4 (yam 0 yaz (sVar 0) (sCons (sOp2 fIx (sVar 3) (sLit (.int 1))) sNil)))
  (sSeq (sIf (yaj (sOp2 fLe (sVar 2) (sVar 4))) (sRet (yad G (sCons (sVar 0) (sCons (sOp2 fIx (sVar 3) (sLit (.int 1))) (sCons (sVar 2) sNil))))) yat)
  (sRet (yad yav (sCons (sVar 0) (sCons (sOp2 fIx (sVar 3) (sLit (.int 1))) (sCons (yad G (sCons (sVar 0) (sCons (sOp2 fIx (sVar 3) (sLit (.int 2))) (sCons (sOp2 fSub (sVar 2) (sVar 4)) sNil)))) sNil)))))))))))
def yas:Nat->Fn
 | 0=>mkFn 3 5 (fun _ _=>.bad)
 | d+1=>ybZ (yas d)
def ycc (G:Fn):Fn:=mkFn 3 5
  (sSeq (sIf (yaj (sOp2 fEq (sVar 2) (sLit (.int 0)))) (sRet (sVar 1)) yat)
  (sSeq (sIf (yaj (sOp2 fEq (sVar 2) (yam 0 yaz (sVar 0) (sCons (sVar 1) sNil)))) (sRet (sLit (.int 0))) yat)
  (sSeq (sSet 3 (yam 0 yax (sVar 0) (sCons (sVar 1) sNil)))
  (sSeq (sIf (yaj (sOp2 fEq (sOp2 fIx (sVar 3) (sLit (.int 0))) (sLit (.str "leaf")))) (sRet (yam 0 yaD (sVar 0) (sCons (sCut (sOp2 fIx (sVar 3) (sLit (.int 1))) (some (sVar 2)) none) sNil))) yat)
  (sSeq (sSet 4 (yam 0 yaz (sVar 0) (sCons (sOp2 fIx (sVar 3) (sLit (.int 1))) sNil)))
  (sSeq (sIf (yaj (sOp2 fGe (sVar 2) (sVar 4))) (sRet (yad G (sCons (sVar 0) (sCons (sOp2 fIx (sVar 3) (sLit (.int 2))) (sCons (sOp2 fSub (sVar 2) (sVar 4)) sNil))))) yat)
  (sRet (yad yav (sCons (sVar 0) (sCons (yad G (sCons (sVar 0) (sCons (sOp2 fIx (sVar 3) (sLit (.int 1))) (sCons (sVar 2) sNil)))) (sCons (sOp2 fIx (sVar 3) (sLit (.int 2))) sNil)))))))))))
def yaw:Nat->Fn
 | 0=>mkFn 3 5 (fun _ _=>.bad)
 | d+1=>ycc (yaw d)
def ydm:Fn:=mkFn 4 6
  (sSeq (sSet 4 (sOp2 fAdd (yam 0 yaz (sVar 0) (sCons (sVar 1) sNil)) (yam 0 yaz (sVar 0) (sCons (sVar 3) sNil))))
  (sSeq (yaJ (yad ycp (sCons (sVar 0) (sCons (sVar 1) (sCons (sVar 2) sNil)))))
  (sSeq (yaJ (yad ybD (sCons (sVar 4) sNil)))
  (sSeq (sSet 5 (yad yav (sCons (sVar 0) (sCons (yad (yas 90) (sCons (sVar 0) (sCons (sVar 1) (sCons (sVar 2) sNil)))) (sCons (sVar 3) sNil)))))
  (sRet (yad yav (sCons (sVar 0) (sCons (sVar 5) (sCons (yad (yaw 90) (sCons (sVar 0) (sCons (sVar 1) (sCons (sVar 2) sNil)))) sNil)))))))))
def ybX:Fn:=mkFn 5 11
  (sSeq (ydv (.tup [5,6]) (sVar 1))
  (sSeq (ydv (.tup [7,8]) (sVar 2))
  (sSeq (sIf (yaj (sOp2 fEq (sVar 3) (sLit (.int 1)))) (sRet (sLst (sCons (sTup (sCons (yad yav (sCons (sVar 0) (sCons (sVar 5) (sCons (sVar 7) sNil)))) (sCons (sOp2 fAdd (sVar 6) (sVar 8)) sNil))) sNil))) yat)
  (sSeq (ydv (.tup [9,10]) (yad ya6 (sCons (sVar 6) (sCons (sVar 4) sNil))))
  (sRet (sLst (sCons (sTup (sCons (yad ydm (sCons (sVar 0) (sCons (sVar 5) (sCons (sVar 4) (sCons (sVar 7) sNil))))) (sCons (sOp2 fAdd (sOp2 fAdd (sVar 9) (sVar 8)) (sVar 10)) sNil))) sNil)))))))
def ycQ:Fn:=mkFn 3 3
  (sSeq (yaJ (yad ycp (sCons (sVar 0) (sCons (sVar 1) (sCons (sVar 2) sNil)))))
  (sRet (sTup (sCons (yad (yas 90) (sCons (sVar 0) (sCons (sVar 1) (sCons (sVar 2) sNil)))) (sCons (yad (yaw 90) (sCons (sVar 0) (sCons (sVar 1) (sCons (sVar 2) sNil)))) sNil)))))
def ybP:Fn:=mkFn 4 5
  (sSeq (sSet 4 (yam 0 yaz (sVar 0) (sCons (sVar 1) sNil)))
  (sIf (sNot (yaj (yeP fLe fLe fLe (sLit (.int 0)) (sVar 2) (sVar 3) (sVar 4)))) (yb1 6 (sCons (sLit (.str "the text has no such stretch")) sNil)) yat))
def ycr:Fn:=mkFn 4 4
  (sSeq (yaJ (yad ybP (sCons (sVar 0) (sCons (sVar 1) (sCons (sVar 2) (sCons (sVar 3) sNil))))))
  (sRet (yad (yaw 90) (sCons (sVar 0) (sCons (yad (yas 90) (sCons (sVar 0) (sCons (sVar 1) (sCons (sVar 3) sNil)))) (sCons (sVar 2) sNil))))))
def ycs:Fn:=mkFn 4 4
  (sSeq (yaJ (yad ybP (sCons (sVar 0) (sCons (sVar 1) (sCons (sVar 2) (sCons (sVar 3) sNil))))))
  (sRet (yad yav (sCons (sVar 0) (sCons (yad (yas 90) (sCons (sVar 0) (sCons (sVar 1) (sCons (sVar 2) sNil)))) (sCons (yad (yaw 90) (sCons (sVar 0) (sCons (sVar 1) (sCons (sVar 3) sNil)))) sNil))))))
def ybQ:Fn:=mkFn 5 12
  (sSeq (ydv (.tup [5,6]) (sVar 1))
  (sSeq (ydv (.tup [7,8]) (yad ya6 (sCons (sVar 6) (sCons (sVar 3) sNil))))
  (sSeq (sIf (yaj (sOp2 fEq (sVar 2) (sLit (.int 3)))) (sSeq (sSet 9 (yad ycQ (sCons (sVar 0) (sCons (sVar 5) (sCons (sVar 3) sNil)))))
  (sRet (sLst (sCons (sTup (sCons (sOp2 fIx (sVar 9) (sLit (.int 0))) (sCons (sVar 7) sNil))) (sCons (sTup (sCons (sOp2 fIx (sVar 9) (sLit (.int 1))) (sCons (sVar 8) sNil))) sNil))))) yat)
  (sSeq (ydv (.tup [10,11]) (yad ya6 (sCons (sVar 8) (sCons (sOp2 fSub (sVar 4) (sVar 3)) sNil))))
  (sSeq (sIf (yaj (sOp2 fEq (sVar 2) (sLit (.int 4)))) (sRet (sLst (sCons (sTup (sCons (yad ycs (sCons (sVar 0) (sCons (sVar 5) (sCons (sVar 3) (sCons (sVar 4) sNil))))) (sCons (sOp2 fAdd (sVar 7) (sVar 11)) sNil))) sNil))) yat)
  (sRet (sLst (sCons (sTup (sCons (yad ycr (sCons (sVar 0) (sCons (sVar 5) (sCons (sVar 3) (sCons (sVar 4) sNil))))) (sCons (sVar 10) sNil))) sNil))))))))
def ycZ:Fn:=mkFn 1 2
  (sSeq (sSet 1 (sLit (.str "abcdefghijklmnopqrstuvwxyzABCDEFGHIJKLMNOPQRSTUVWXYZ0123456789 !#$&'()*+,-./:;<=>?\x40[]^_{|}~")))
  (sRet (sOp2 fIx (sLst (sCons (sLit (.str "ab")) (sCons (sOp2 fAdd (sLit (.str "ab")) (sLit (.str "\n"))) (sCons (sOp2 fAdd (sOp2 fAdd (sOp2 fAdd (sOp2 fAdd (sVar 1) (sLit (.str "\n"))) (sLit (.str "\\"))) (sLit (.str "\""))) (sLit (.str "`"))) (sCons (sLit (.str "a")) sNil))))) (sVar 0))))
def ybr:SS :=
  (sSet 3 (sOp2 fAdd (sVar 3) (sOp2 fIx (sVar 2) (yad yar (sCons (sVar 0) (sCons (yad fLen (sCons (sVar 2) sNil)) sNil))))))
def yct:Fn:=mkFn 2 5
  (sSeq (sSet 2 (yad ycZ (sCons (yad yar (sCons (sVar 0) (sCons (sLit (.int 4)) sNil))) sNil)))
  (sSeq (sSet 3 (sLit (.str "")))
  (sSeq (sFor (ybU (yad yar (sCons (sVar 0) (sCons (sOp2 fAdd (sVar 1) (sLit (.int 1))) sNil)))) (.nm 4) ybr)
  (sRet (sVar 3)))))
def ydy (G:Fn):Fn:=mkFn 3 5
  (sSeq (sIf (yaj (sOp2 fEq (sVar 2) (sLit (.int 0)))) (sRet (sLit (.int 0))) yat)
  (sSeq (sSet 3 (yad G (sCons (sVar 0) (sCons (sVar 1) (sCons (sOp2 fDiv (sVar 2) (sLit (.int 2))) sNil)))))
  (sSeq (sSet 4 (yad yav (sCons (sVar 0) (sCons (sVar 3) (sCons (sVar 3) sNil)))))
  (sSeq (sIf (yaj (sOp2 fEq (sOp2 fMod (sVar 2) (sLit (.int 2))) (sLit (.int 0)))) (sRet (sVar 4)) yat)
  (sRet (yad yav (sCons (sVar 0) (sCons (sVar 4) (sCons (sVar 1) sNil)))))))))
def yaX:Nat->Fn
 | 0=>mkFn 3 5 (fun _ _=>.bad)
 | d+1=>ydy (yaX d)
def ycl:Fn:=mkFn 3 4
  (sSeq (sSet 3 (yam 0 yaz (sVar 0) (sCons (sVar 1) sNil)))
  (sSeq (sIf (yaj (sOp2 fLt (sVar 2) (sLit (.int 0)))) (yb1 6 (sCons (sLit (.str "a text is repeated 0 times at least")) sNil)) yat)
  (sSeq (yaJ (yad ybD (sCons (sOp2 fMul (sVar 3) (sVar 2)) sNil)))
  (sSeq (sIf (yaj (sOp2 fEq (sVar 1) (sLit (.int 0)))) (sRet (sLit (.int 0))) yat)
  (sRet (yad (yaX 64) (sCons (sVar 0) (sCons (sVar 1) (sCons (sVar 2) sNil)))))))))
def yeq (G:Fn):Fn:=mkFn 2 3
  (sSeq (sIf (yaj (sOp2 fEq (yad fLen (sCons (sVar 1) sNil)) (sLit (.int 1)))) (sRet (sOp2 fIx (sVar 1) (sLit (.int 0)))) yat)
  (sSeq (sSet 2 (sOp2 fDiv (yad fLen (sCons (sVar 1) sNil)) (sLit (.int 2))))
  (sRet (yam 0 yaf (sVar 0) (sCons (yad G (sCons (sVar 0) (sCons (sCut (sVar 1) none (some (sVar 2))) sNil))) (sCons (yad G (sCons (sVar 0) (sCons (sCut (sVar 1) (some (sVar 2)) none) sNil))) sNil))))))
def ybL:Nat->Fn
 | 0=>mkFn 2 3 (fun _ _=>.bad)
 | d+1=>yeq (ybL d)
def ydP:Fn:=mkFn 2 3
  (sSeq (sIf (sNot (ydb (yad ycD (sCons (sVar 1) sNil)))) (yb1 1 (sCons (sLit (.str "a text is built of a plain text")) sNil)) yat)
  (sSeq (sIf (yaj (sOp2 fGt (yad fLen (sCons (sVar 1) sNil)) (sLit (.int 10000)))) (yb1 5 (sCons (sLit (.str "a text is built of ten thousand signs at most")) sNil)) yat)
  (sSeq (sIf (yaj (sOp2 fEq (sVar 1) (sLit (.str "")))) (sRet (sLit (.int 0))) yat)
  (sSeq (sSet 2 (yaU [0,1] (yck (sLit (.int 0)) (yad fLen (sCons (sVar 1) sNil)) (sLit (.int 8))) sYes (yam 0 yaD (sVar 1) (sCons (sCut (sVar 2) (some (sVar 0)) (some (sOp2 fAdd (sVar 0) (sLit (.int 8))))) sNil))))
  (sRet (yad (ybL 20) (sCons (sVar 0) (sCons (sVar 2) sNil))))))))
def ybn:Fn:=mkFn 2 4
  (sSeq (sSet 2 (sOp2 fAdd (sCut (sLit (.str "ba\ncdefg")) (some (yad yar (sCons (sVar 1) (sCons (sLit (.int 8)) sNil)))) none) (yad yct (sCons (sVar 1) (sCons (sLit (.int 12)) sNil)))))
  (sSeq (sSet 3 (sOp2 fAdd (sLit (.int 1)) (yad yar (sCons (sVar 1) (sCons (sOp2 fIx (sLst (sCons (sLit (.int 9)) (sCons (sOp2 fPow (sLit (.int 10)) (sLit (.int 6))) (sCons (sOp2 fPow (sLit (.int 10)) (sLit (.int 15))) sNil)))) (yad yar (sCons (sVar 1) (sCons (sLit (.int 3)) sNil)))) sNil)))))
  (sRet (sLst (sCons (sTup (sCons (yad ycl (sCons (sVar 0) (sCons (yad ydP (sCons (sVar 0) (sCons (sVar 2) sNil))) (sCons (sVar 3) sNil)))) (sCons (sLst (sCons (sTup (sCons (sVar 2) (sCons (sVar 3) sNil))) sNil)) sNil))) sNil)))))
def ycm:Fn:=mkFn 3 12
  (sSeq (sSet 3 (yad yar (sCons (sVar 2) (sCons (sLit (.int 6)) sNil))))
  (sSeq (sIf (sOr (yaj (sOp2 fLt (yad fLen (sCons (sVar 1) sNil)) (sLit (.int 2)))) (yaj (sOp2 fEq (sVar 3) (sLit (.int 0))))) (sRet (sTup (sCons (yad ybn (sCons (sVar 0) (sCons (sVar 2) sNil))) (sCons (sLit (.bl true)) sNil)))) yat)
  (sSeq (sSet 4 (sOp2 fIx (sVar 1) (yad yar (sCons (sVar 2) (sCons (yad fLen (sCons (sVar 1) sNil)) sNil)))))
  (sSeq (sSet 5 (sOp2 fIx (sVar 1) (yad yar (sCons (sVar 2) (sCons (yad fLen (sCons (sVar 1) sNil)) sNil)))))
  (sSeq (sSet 6 (yad ya5 (sCons (sOp2 fIx (sVar 4) (sLit (.int 1))) sNil)))
  (sSeq (sSet 7 (yad yar (sCons (sVar 2) (sCons (sOp2 fAdd (sVar 6) (sLit (.int 1))) sNil))))
  (sSeq (sSet 8 (sOp2 fAdd (sVar 7) (yad yar (sCons (sVar 2) (sCons (sOp2 fAdd (sOp2 fSub (sVar 6) (sVar 7)) (sLit (.int 1))) sNil)))))
  (sSeq (sSet 9 (yam 0 yaA (sVar 0) (sCons (sOp2 fIx (sVar 4) (sLit (.int 0))) sNil)))
  (sSeq (sIf (yaj (sOp2 fLt (sVar 3) (sLit (.int 3)))) (sSeq (sSet 9 (yad ybm (sCons (sVar 9) (sCons (yam 0 yaA (sVar 0) (sCons (sOp2 fIx (sVar 5) (sLit (.int 0))) sNil)) sNil))))
  (sIf (sOr (yaj (sOp2 fGt (sOp2 fAdd (sVar 6) (yad ya5 (sCons (sOp2 fIx (sVar 5) (sLit (.int 1))) sNil))) (sOp2 fPow (sLit (.int 10)) (sLit (.int 18))))) (yaj (sOp2 fGt (yad fLen (sCons (sOp2 fAdd (sOp2 fIx (sVar 4) (sLit (.int 1))) (sOp2 fIx (sVar 5) (sLit (.int 1)))) sNil)) (sLit (.int 38))))) (sRet (sTup (sCons (yad ybn (sCons (sVar 0) (sCons (sVar 2) sNil))) (sCons (sLit (.bl true)) sNil)))) yat)) yat)
  (sSeq (sSet 10 (yam 0 ybI (sVar 0) sNil))
  (sSeq (sIf (yaj (sOp2 fLt (sVar 3) (sLit (.int 3)))) (sSet 11 (yad ybX (sCons (sVar 0) (sCons (sVar 4) (sCons (sVar 5) (sCons (sVar 3) (sCons (sVar 7) sNil))))))) (sSet 11 (yad ybQ (sCons (sVar 0) (sCons (sVar 4) (sCons (sVar 3) (sCons (sVar 7) (sCons (sVar 8) sNil))))))))
  (sRet (sTup (sCons (sVar 11) (sCons (sOp2 fLe (sOp2 fSub (yam 0 ybI (sVar 0) sNil) (sVar 10)) (sOp2 fMul (sOp2 fIx (sLst (sCons (sLit (.int 0)) (sCons (sLit (.int 16)) (sCons (sLit (.int 200)) (sCons (sLit (.int 64)) (sCons (sLit (.int 200)) (sCons (sLit (.int 200)) sNil))))))) (sVar 3)) (sOp2 fAdd (sVar 9) (sLit (.int 1))))) sNil)))))))))))))))
def ydg (G:Fn):Fn:=mkFn 3 7
  (sSeq (sIf (yaj (sOp2 fIn (sVar 1) (sVar 2))) (sRet (sOp2 fIx (sVar 2) (sVar 1))) yat)
  (sSeq (sSet 3 (yam 0 yax (sVar 0) (sCons (sVar 1) sNil)))
  (sSeq (sSet 4 (sTup sNil))
  (sSeq (sIf (sAnd (yaj (sOp2 fEq (sOp2 fIx (sVar 3) (sLit (.int 0))) (sLit (.str "leaf")))) (sAnd (ydb (sIsB "str" (sOp2 fIx (sVar 3) (sLit (.int 1))))) (yaj (ybN fLt fLt (sLit (.int 0)) (yad fLen (sCons (sOp2 fIx (sVar 3) (sLit (.int 1))) sNil)) (sLit (.int 9)))))) (sSet 4 (sTup (sCons (sLit (.int 0)) (sCons (yad fLen (sCons (sOp2 fIx (sVar 3) (sLit (.int 1))) sNil)) (sCons (yad fLen (sCons (sOp2 fIx (sVar 3) (sLit (.int 1))) sNil)) (sCons (yad fLen (sCons (sOp2 fIx (sVar 3) (sLit (.int 1))) sNil)) (sCons (sLit (.int 1)) sNil))))))) yat)
  (sSeq (sIf (sAnd (yaj (sOp2 fEq (sOp2 fIx (sVar 3) (sLit (.int 0))) (sLit (.str "fork")))) (sAnd (yaj (ybN fLt fLt (sLit (.int 0)) (sOp2 fIx (sVar 3) (sLit (.int 1))) (sVar 1))) (yaj (ybN fLt fLt (sLit (.int 0)) (sOp2 fIx (sVar 3) (sLit (.int 2))) (sVar 1))))) (sSeq (sSet 5 (yad G (sCons (sVar 0) (sCons (sOp2 fIx (sVar 3) (sLit (.int 1))) (sCons (sVar 2) sNil)))))
  (sSeq (sSet 6 (yad G (sCons (sVar 0) (sCons (sOp2 fIx (sVar 3) (sLit (.int 2))) (sCons (sVar 2) sNil)))))
  (sIf (sAnd (yaj (sOp2 fNe (sVar 5) (sTup sNil))) (sAnd (yaj (sOp2 fNe (sVar 6) (sTup sNil))) (sAnd (yaj (sOp2 fLt (yad fAbs (sCons (sOp2 fSub (sOp2 fIx (sVar 5) (sLit (.int 0))) (sOp2 fIx (sVar 6) (sLit (.int 0)))) sNil)) (sLit (.int 2)))) (yaj (sOp2 fGt (sOp2 fAdd (sOp2 fIx (sVar 5) (sLit (.int 3))) (sOp2 fIx (sVar 6) (sLit (.int 2)))) (sLit (.int 8))))))) (sSet 4 (sTup (sCons (sOp2 fAdd (sLit (.int 1)) (yad ybm (sCons (sOp2 fIx (sVar 5) (sLit (.int 0))) (sCons (sOp2 fIx (sVar 6) (sLit (.int 0))) sNil)))) (sCons (sOp2 fAdd (sOp2 fIx (sVar 5) (sLit (.int 1))) (sOp2 fIx (sVar 6) (sLit (.int 1)))) (sCons (sOp2 fIx (sVar 5) (sLit (.int 2))) (sCons (sOp2 fIx (sVar 6) (sLit (.int 3))) (sCons (sOp2 fAdd (sOp2 fIx (sVar 5) (sLit (.int 4))) (sOp2 fIx (sVar 6) (sLit (.int 4)))) sNil))))))) yat))) yat)
  (sSeq (yd6 (sVar 2) (sVar 1) (sVar 4))
  (sRet (sVar 4))))))))
def yaY:Nat->Fn
 | 0=>mkFn 3 7 (fun _ _=>.bad)
 | d+1=>ydg (yaY d)
def ybs:SS :=
  (sSeq (sSet 4 (sOp2 fAdd (sVar 4) (sOp2 fMul (yad fLen (sCons (sVar 5) sNil)) (sVar 6))))
  (yaJ (sBM yaV yb6 (sVar 3) (sCons (yby (sCons (sOp2 fSub (sVar 4) (sLit (.int 1))) (sCons (sVar 4) (sCons (sOp2 fSub (sVar 4) (yad fLen (sCons (sVar 5) sNil))) sNil)))) sNil))))
def yc0:Fn:=mkFn 2 7
  (sSeq (sSet 2 (yad ya5 (sCons (sVar 0) sNil)))
  (sSeq (sSet 3 (yby (sCons (sLit (.int 0)) (sCons (sOp2 fSub (sVar 2) (sLit (.int 1))) sNil))))
  (sSeq (sSet 4 (sLit (.int 0)))
  (sSeq (sFor (ya3 (sCut (sVar 0) none (some (sLit (.int 12))))) (.tup [5,6]) ybs)
  (sSeq (yaJ (sBM yaV yb6 (sVar 3) (sCons (ydj [1,2] (ybU (sLit (.int 3))) sYes (yad yar (sCons (sVar 1) (sCons (sVar 2) sNil)))) sNil)))
  (sRet (yaU [2] (iVal (sVar 3)) (yaj (ybN fLe fLt (sLit (.int 0)) (sVar 0) (sVar 1))) (sVar 0))))))))
def ycE:Fn:=mkFn 2 2
  (sSeq (yaJ (yam 0 yaP (sVar 0) (sCons (sVar 1) sNil)))
  (sRet (sOp2 fIx (Sm.sFld 0 3 (sVar 0)) (sVar 1))))
def ybf:SS :=
  (sSeq (sSet 5 (sOp2 fIx (sOp2 fIx (sVar 3) (sOp2 fIx (sVar 4) (sLit (.int 1)))) (sLit (.int 1))))
  (sSeq (sIf (yaj (sOp2 fLt (sVar 2) (sVar 5))) (sSet 1 (sOp2 fIx (sVar 4) (sLit (.int 1)))) (sSeq (sSet 1 (sOp2 fIx (sVar 4) (sLit (.int 2))))
  (sSet 2 (sOp2 fSub (sVar 2) (sVar 5)))))
  (sSet 4 (yam 0 yax (sVar 0) (sCons (sVar 1) sNil)))))
def yb0:Fn:=mkFn 4 6
  (sSeq (sSet 4 (yam 0 yax (sVar 0) (sCons (sVar 1) sNil)))
  (sSeq (ybF (yaj (sOp2 fEq (sOp2 fIx (sVar 4) (sLit (.int 0))) (sLit (.str "fork")))) ybf ydd)
  (sRet (sOp2 fIx (sOp2 fIx (sVar 4) (sLit (.int 1))) (sVar 2)))))
def yaM:SS :=
  (sSeq (sIf (yaj (sOp2 fLt (sVar 1) (sOp2 fMul (yad fLen (sCons (sVar 2) sNil)) (sVar 3)))) (sRet (sOp2 fIx (sVar 2) (sOp2 fMod (sVar 1) (yad fLen (sCons (sVar 2) sNil))))) yat)
  (sSet 1 (sOp2 fSub (sVar 1) (sOp2 fMul (yad fLen (sCons (sVar 2) sNil)) (sVar 3)))))
def ybb:Fn:=mkFn 2 4
  (sSeq (sFor (ya3 (sVar 0)) (.tup [2,3]) yaM)
  (sRet (sLit (.str ""))))
def yaQ:Fn:=mkFn 4 8
  (sSeq (sSet 4 (yad ya5 (sCons (sVar 2) sNil)))
  (sSeq (sIf (sOr (yaj (sOp2 fEq (sVar 1) (sLit (.int 0)))) (yaj (sOp2 fEq (sVar 4) (sLit (.int 0))))) (sRet (yeA (sOp2 fEq (sVar 1) (sLit (.int 0))) (sOp2 fEq (sVar 4) (sLit (.int 0))))) yat)
  (sSeq (sSet 5 (yeT false))
  (sSeq (sSet 6 (yad (yaY 90) (sCons (sVar 0) (sCons (sVar 1) (sCons (sVar 5) sNil)))))
  (sSeq (sIf (sOr (yaj (sOp2 fEq (sVar 6) (sTup sNil))) (sOr (yaj (sOp2 fNe (sOp2 fIx (sVar 6) (sLit (.int 1))) (sVar 4))) (yaj (sOp2 fNe (yam 0 yaz (sVar 0) (sCons (sVar 1) sNil)) (sVar 4))))) (sRet (sLit (.bl false))) yat)
  (sSeq (sIf (yaj (sOp2 fNe (yam 0 ycE (sVar 0) (sCons (sVar 1) sNil)) (yad fSum (sCons (ybG [] (ya3 (sVar 2)) sYes (sOp2 fMul (sBM yci ybp (sVar 0) (sCons (sLit (.str "\n")) sNil)) (sVar 1))) sNil)))) (sRet (sLit (.bl false))) yat)
  (sSeq (sSet 7 (yad yc0 (sCons (sVar 2) (sCons (sVar 3) sNil))))
  (sRet (yad fAll (sCons (yaU [0,1,5,2] (iVal (sVar 7)) sYes (sOp2 fEq (yad yb0 (sCons (sVar 1) (sCons (sVar 2) (sCons (sVar 0) (sCons (sVar 3) sNil))))) (yad ybb (sCons (sVar 4) (sCons (sVar 0) sNil))))) sNil))))))))))
def ycB:SS :=
  (sIf (sNot (ydb (yad yaQ (sCons (sVar 1) (sCons (sVar 9) (sCons (sVar 10) (sCons (sVar 6) sNil))))))) (sRet (sLit (.bl false))) yat)
def ycR:SS :=
  (yaJ (sBM yaV ydO (sVar 2) (sCons (yad yar (sCons (sVar 6) (sCons (yad fLen (sCons (sVar 2) sNil)) sNil))) sNil)))
def ycS:SS :=
  (sSeq (sSet 6 (yad yc6 (sCons (sVar 5) (sCons (sVar 4) sNil))))
  (sSeq (ydv (.tup [7,8]) (yad ycm (sCons (sVar 1) (sCons (sVar 2) (sCons (sVar 6) sNil)))))
  (sSeq (sIf (sNot (ydb (sVar 8))) (sRet (sLit (.bl false))) yat)
  (sSeq (sFor (ya3 (sVar 7)) (.tup [9,10]) ycB)
  (sSeq (yaJ (sBM yaV yel (sVar 3) (sCons (sVar 7) sNil)))
  (sSeq (sSet 2 (sOp2 yek (sVar 2) (yaU [] (iVal (sVar 7)) (yaj (sOp2 fLt (yad fLen (sCons (sOp2 fIx (sVar 0) (sLit (.int 1))) sNil)) (sLit (.int 40)))) (sVar 0))))
  (ybF (yaj (sOp2 fGt (yad fLen (sCons (sVar 2) sNil)) (sLit (.int 6)))) ycR ydd)))))))
def yfk:Fn:=mkFn 1 11
  (sSeq (sSet 1 (yeU 0 8 yca sNil))
  (sSeq (sSet 2 (sLst sNil))
  (sSeq (sSet 3 (yby sNil))
  (sSeq (sFor (Sm.iEnum (sOp2 fAdd (sVar 0) (sLst (sCons (sLit (.int 0)) (sCons (sLit (.int 1)) (sCons (sLit (.int 2)) sNil)))))) (.tup [4,5]) ycS)
  (sSeq (sSet 6 (yad ybH (sCons (sVar 0) (sCons (sLit (.int 0)) sNil))))
  (sRet (yad fAll (sCons (ybG [1,6] (ya3 (sVar 3)) sYes (yad yaQ (sCons (sVar 2) (sCons (sVar 0) (sCons (sVar 1) (sCons (sVar 3) sNil)))))) sNil))))))))
end Sk
set_option exponentiation.threshold 2000
namespace Sk
open PySem PySem.Spec L2 Sm
theorem zfC {w:Option Nat} {all:List AV} {t:Tg} {b:SS} (P:Nat->En->AH->Prop):∀ (xs:List AV) (i:Nat) (en:En) (h:AH),P i en h ->
  (∀ i en h,P i en h->ybz w all h=true) ->
  (∀ (j:Nat) (x:AV) (en:En) (h:AH),xs[j]? = some x->P (i+j) en h->∃ e1 e2 h2,setT t x en=some e1/\(b e1 h = .nx e2 h2\/b e1 h = .ct e2 h2)/\P (i+j+1) e2 h2) ->
  ∃ e' h',ybu w all t b xs en h = .nx e' h'/\P (i+xs.length) e' h'
 | [],i,en,h,p,lv,_=>⟨en,h,by unfold ybu;rw [if_pos (lv _ _ _ p)],p⟩
 | x::xs,i,en,h,p,lv,s=>by
  obtain ⟨e1,e2,h2,q1,q2,q3⟩:=s 0 x en h rfl p
  obtain ⟨e',h',r1,r2⟩:=zfC P xs (i+1) e2 h2 q3 lv fun j y en h e q=>by
   have:=s (j+1) y en h (by simpa using e) (by rw [show i+(j+1)=i+1+j by lia];exact q)
   rw [show i+(j+1)+1=i+1+j+1 by lia] at this
   exact this
  refine ⟨e',h',?_,by rw [List.length_cons,show i+(xs.length+1)=i+1+xs.length by lia];exact r2⟩
  unfold ybu
  rw [if_pos (lv _ _ _ p)]
  simp only [q1]
  rcases q2 with q2 | q2
  ·rw [q2];exact r1
  ·rw [q2];exact r1
theorem zaI {α:Type} {js:List Nat} {en:En} {w:Option Nat} {all:List AV} {c:SB} {e:SE} {g f:α->AV} {p:α->Bool} {h:AH} (lv:ybz w all h=true):∀ (cs:List α) (ys:List AV),(∀ x∈cs,c (some (g x)::js.map fun j=>(en[j]?).join) h = .ok (p x) h)->(∀ x∈cs,p x=true->e (some (g x)::js.map fun j=>(en[j]?).join) h = .ok (f x) h)->ys.length+cs.length<=sizeLine ->
  yaI js en w all c e (cs.map g) ys h = .ok (ys++(cs.filter p).map f) h
 | [],ys,_,_,_=>by rw [List.map_nil];unfold yaI;rw [if_pos lv];simp
 | x::xs,ys,hc,he,hl=>by
  have hl':ys.length<sizeLine:=by simp at hl;lia
  rw [List.map_cons]
  unfold yaI
  rw [if_pos ⟨lv,hl'⟩,hc x (by simp)]
  cases hp:p x with
  | false =>
   dsimp only
   rw [zaI lv xs ys (fun y hy=>hc y (by simp [hy])) (fun y hy=>he y (by simp [hy])) (by simp at hl ⊢;lia)]
   simp [List.filter_cons,hp]
  | true =>
   dsimp only
   rw [he x (by simp) hp]
   dsimp only
   rw [zaI lv xs (ys++[f x]) (fun y hy=>hc y (by simp [hy])) (fun y hy=>he y (by simp [hy])) (by simp at hl ⊢;lia)]
   simp [List.filter_cons,hp]
theorem zer {α:Type} {js:List Nat} {en:En} {w:Option Nat} {all:List AV} {e:SE} {g f:α->AV} {h:AH} (lv:ybz w all h=true) (cs:List α) (ys:List AV) (he:∀ x∈cs,e (some (g x)::js.map fun j=>(en[j]?).join) h = .ok (f x) h) (hl:ys.length+cs.length<=sizeLine) :
  yaI js en w all sYes e (cs.map g) ys h = .ok (ys++cs.map f) h:=by
 rw [zaI (p:=fun _=>true) lv cs ys (fun _ _=>rfl) (fun x hx _=>he x hx) hl,List.filter_eq_self.mpr (fun _ _=>rfl)]
theorem zdO {c:SB} {b:SS} (P:Nat->En->AH->Prop) (Q:En->AH->Prop):∀ (fuel n:Nat) (en:En) (h:AH),P n en h->n<fuel ->
  (∀ n en h,P n en h->(∃ h1,c en h = .ok false h1/\Q en h1)\/(∃ n' h1 e2 h2,n'<n/\c en h = .ok true h1/\(b en h1 = .nx e2 h2\/b en h1 = .ct e2 h2)/\P n' e2 h2)) ->
  ∃ e' h',ybF c b fuel en h = .nx e' h'/\Q e' h'
 | 0,n,en,h,_,l,_=>absurd l (Nat.not_lt_zero _)
 | fuel+1,n,en,h,p,l,s=>by
  rcases s n en h p with ⟨h1,q1,q2⟩ | ⟨n',h1,e2,h2,q0,q1,q2,q3⟩
  ·refine ⟨en,h1,?_,q2⟩
   unfold ybF;rw [q1]
  ·obtain ⟨e',h',r1,r2⟩:=zdO P Q fuel n' e2 h2 q3 (by lia) s
   refine ⟨e',h',?_,r2⟩
   unfold ybF;rw [q1]
   rcases q2 with q2 | q2
   ·simp only [q2];exact r1
   ·simp only [q2];exact r1
@[simp] def thn (o:OutS) (Q:En->AH->Prop):Prop:=match o with
 | .nx e h=>Q e h
 | .ct e h=>Q e h
 | _=>False
theorem yfJ {o:OutS} {Q:En->AH->Prop} (t:thn o Q):∃ e h,(o = .nx e h\/o = .ct e h)/\Q e h:=by
 cases o with
 | nx e h=>exact ⟨e,h,.inl rfl,t⟩
 | ct e h=>exact ⟨e,h,.inr rfl,t⟩
 | _=>exact t.elim
@[simp] def yg3 (o:Option En) (Q:En->Prop):Prop:=match o with
 | some e=>Q e
 | none=>False
theorem ydz {w:Option Nat} {all:List AV} {t:Tg} {b:SS} {xs:List AV} {en:En} {h:AH} (P:Nat->En->AH->Prop) (p0:P 0 en h) (lv:∀ i en h,P i en h->ybz w all h=true)
  (st:∀ (j:Nat) (x:AV) (en:En) (h:AH),xs[j]? = some x->P j en h->yg3 (setT t x en) fun e1=>thn (b e1 h) (P (j+1))) :
  ∃ e' h',ybu w all t b xs en h = .nx e' h'/\P xs.length e' h' := by
 have:=zfC (w:=w) (all:=all) (t:=t) (b:=b) P xs 0 en h p0 lv fun j x en h hx hp=>by
  have q:=st j x en h hx (by simpa using hp)
  cases z:setT t x en with
  | none=>rw [z] at q;exact q.elim
  | some e1 =>
   rw [z] at q
   obtain ⟨e,h2,a,c⟩:=yfJ q
   exact ⟨e1,e,h2,rfl,a,by simpa using c⟩
 simpa using this
theorem zfD {c:SB} {b:SS} {fuel n:Nat} {en:En} {h:AH} (P:Nat->En->AH->Prop) (Q:En->AH->Prop) (p0:P n en h) (hn:n<fuel)
  (st:∀ n en h,P n en h->match c en h with
   | .ok true h1=>thn (b en h1) fun e2 h2=>∃ n',n'<n/\P n' e2 h2
   | .ok false h1=>Q en h1
   | _=>False) :
  ∃ e' h',ybF c b fuel en h = .nx e' h'/\Q e' h' := by
 refine zdO P Q fuel n en h p0 hn fun n en h p=>?_
 have q:=st n en h p
 cases z:c en h with
 | ok x h1 =>
  rw [z] at q
  cases x with
  | true =>
   obtain ⟨e,h2,a,n',l,c⟩:=yfJ q
   exact .inr ⟨n',h1,e,h2,l,rfl,a,c⟩
  | false=>exact .inl ⟨h1,rfl,q⟩
 | ex _ _=>rw [z] at q;exact q.elim
 | bad=>rw [z] at q;exact q.elim
@[simp] def yh7 (o:Out AV) (Q:AV->AH->Prop):Prop:=match o with
 | .ok v h=>Q v h
 | _=>False
theorem zfE {js:List Nat} {en:En} {all:List AV} {e:SE} (P:Nat->List AV->AH->Prop):∀ (xs ys:List AV) (i:Nat) (h:AH),P i ys h ->
  (∀ j x ys h,xs[j]? = some x->P (i+j) ys h->∃ v h2,e (some x::js.map fun j=>(en[j]?).join) h = .ok v h2/\P (i+j+1) (ys++[v]) h2)->ys.length+xs.length<=sizeLine ->
  ∃ zs h',yaI js en none all sYes e xs ys h = .ok zs h'/\P (i+xs.length) zs h'
 | [],ys,i,h,p,_,_=>⟨ys,h,by simp [yaI],p⟩
 | x::xs,ys,i,h,p,s,hl=>by
  obtain ⟨v,h2,q1,q2⟩:=s 0 x ys h rfl p
  obtain ⟨zs,h',r1,r2⟩:=zfE P xs (ys++[v]) (i+1) h2 q2 (fun j y ys h hy hp=>by
   have:=s (j+1) y ys h (by simpa using hy) (by rw [show i+(j+1)=i+1+j by lia];exact hp)
   rw [show i+(j+1)+1=i+1+j+1 by lia] at this
   exact this) (by simp at hl ⊢;lia)
  refine ⟨zs,h',?_,by rw [List.length_cons,show i+(xs.length+1)=i+1+xs.length by lia];exact r2⟩
  unfold yaI
  rw [if_pos ⟨rfl,by simp at hl;lia⟩]
  simp only [sYes]
  rw [q1]
  exact r1
theorem yfK {js:List Nat} {en:En} {all:List AV} {e:SE} {xs:List AV} {h:AH} (P:Nat->List AV->AH->Prop) (p0:P 0 [] h)
  (st:∀ j x ys h,xs[j]? = some x->P j ys h->yh7 (e (some x::js.map fun j=>(en[j]?).join) h) fun v h2=>P (j+1) (ys++[v]) h2) (hl:xs.length<=sizeLine) :
  ∃ zs h',yaI js en none all sYes e xs [] h = .ok zs h'/\P xs.length zs h' := by
 have:=zfE (js:=js) (en:=en) (all:=all) (e:=e) P xs [] 0 h p0 (fun j x ys h hx p=>by
  have q:=st j x ys h hx (by simpa using p)
  cases z:e (some x::js.map fun j=>(en[j]?).join) h with
  | ok v h2=>rw [z] at q;exact ⟨v,h2,rfl,by simpa using q⟩
  | ex _ _=>rw [z] at q;exact q.elim
  | bad=>rw [z] at q;exact q.elim) (by simpa using hl)
 simpa using this
theorem zb1:∀ (n:Nat) (lo:Int) (i:Nat),(ya2 lo n)[i]? = if i<n then some (.int (lo+i)) else none
 | 0,lo,i=>by simp [ya2]
 | n+1,lo,0=>by simp [ya2]
 | n+1,lo,i+1=>by
  unfold ya2
  rw [List.getElem?_cons_succ,zb1 n (lo+1) i]
  by_cases q:i<n
  ·rw [if_pos q,if_pos (by lia)];congr 2;lia
  ·rw [if_neg q,if_neg (by lia)]
theorem zbb:∀ (n:Nat) (lo:Int),(ya2 lo n).length=n
 | 0,_=>rfl
 | n+1,lo=>by unfold ya2;rw [List.length_cons,zbb n]
theorem zbo {a:SE} {en:En} {h h1:AH} {n:Nat} (e:a en h = .ok (.int n) h1) (hn:n<=10000000):ybU a en h = .ok (ya2 0 n,none) h1:=by
 have h1':(n:Int).natAbs<2 ^ 62:=by lia
 simp only [ybU,e,Out.bind]
 rw [if_pos h1'];rfl
theorem ycF {it:SI} {t:Tg} {b:SS} {en:En} {h h1:AH} {xs:List AV} {w:Option Nat} (e:it en h = .ok (xs,w) h1):sFor it t b en h=ybu w xs t b xs en h1:=by simp only [sFor,e]
theorem ye7 {i j:Int} {h:AH} (hi:i.natAbs<2 ^ 64):fMul (.int i) (.int j) h = .ok (.int (i*j)) h:=if_pos (.inl (.inl hi))
theorem ye8 {i j:Int} {h:AH} (hj:j.natAbs<2 ^ 64):fMul (.int i) (.int j) h = .ok (.int (i*j)) h:=if_pos (.inl (.inr hj))
theorem zcJ {α:Type} {f:α->AV} {l:List α} {j:Nat} {q:α} (e:l[j]? = some q):atI (l.map f) (j:Int)=some (f q):=zbu (by simp [e])
end Sk
set_option exponentiation.threshold 5000
namespace Sk
open PySem PySem.Spec L2 Sm
def ydQ (c:Nat):Bool:=decide (c=10) || (decide (32<=c) && decide (c<=126))
theorem lt1 (a b:Nat):([a]<[b]) ↔ a<b:=by
 simp [List.cons_lt_cons_iff]
theorem ye9:(Str.ofString "\n")=⟨#[10]⟩:=by decide +kernel
theorem yg4:(Str.ofString " ")=⟨#[32]⟩:=by decide +kernel
theorem yg5:(Str.ofString "~")=⟨#[126]⟩:=by decide +kernel
theorem yg6 (c:Nat) (h:AH):ybO [.str ⟨#[c]⟩] h = .ok (.bl (ydQ c)) h:=by
 simp [ybO,ye9,yg4,yg5,lt1,ydQ]
 by_cases h1:c=10
 ·simp [h1]
 ·by_cases h2:c<32
  ·have : ¬ 32<=c:=by lia
   simp [h1,h2,this]
  ·have h3:32<=c:=by lia
   by_cases h4:c<=126
   ·have : ¬ 126<c:=by lia
    simp [h1,h2,h3,h4,this]
   ·have:126<c:=by lia
    simp [h1,h2,h3,h4,this]
theorem zes {α:Type} {js:List Nat} {en:En} {all:List AV} {e:SE} {g f:α->AV} {h:AH}:∀ (cs:List α) (ys:List AV),(∀ c∈cs,e (some (g c)::js.map fun j=>(en[j]?).join) h = .ok (f c) h)->ys.length+cs.length<=sizeLine->yaI js en none all sYes e (cs.map g) ys h = .ok (ys++cs.map f) h
 | [],ys,_,_=>by simp [yaI]
 | x::xs,ys,he,hl=>by
  have hl':ys.length<sizeLine:=by simp at hl;lia
  rw [List.map_cons]
  unfold yaI
  rw [if_pos ⟨rfl,hl'⟩]
  simp only [sYes]
  rw [he x (by simp)]
  dsimp only
  rw [zes xs (ys++[f x]) (fun y hy=>he y (by simp [hy])) (by simp at hl ⊢;lia)]
  simp
theorem zdP (f:Nat->Bool):∀ cs:List Nat,ych (cs.map fun c=>.bl (f c))=some (cs.map f)
 | []=>rfl
 | c::cs=>by simp [zdP f cs]
def yaE (x:Str):Bool:=x.cps.toList.all ydQ
theorem zfF (x:Str) (h:AH) (hl:x.length<=sizeLine):ycD [.str x] h = .ok (.bl (yaE x)) h:=by
 have e:=zes (js:=[]) (en:=[some (.str x)]) (all:=x.cps.toList.map fun c=>AV.str ⟨#[c]⟩) (e:=yad ybO (sCons (sVar 0) sNil)) (g:=fun c=>AV.str ⟨#[c]⟩) (f:=fun c=>AV.bl (ydQ c)) (h:=h) x.cps.toList [] (by
  intro c hc
  simp [yg6]) (by simp;exact hl)
 simp only [List.nil_append] at e
 simp [ycD]
 rw [e]
 simp [zdP,yaE]
def ybx (x:Str):Bool:=yaE x && (decide (1<=x.length) && decide (x.length<=8))
theorem zfG (x:Str) (h:AH) (hl:x.length<=sizeLine):ydf [.str x] h = .ok (.bl (ybx x)) h:=by
 simp [ydf,zfF x h hl,ybx]
 by_cases h1:yaE x=true
 ·by_cases h2:1<=x.length
  ·have:(1:Int)<=x.length:=by lia
   by_cases h3:x.length<=8
   ·have:(x.length:Int)<=8:=by lia
    simp [*]
   ·have : ¬ (x.length:Int)<=8:=by lia
    simp [*]
  ·have : ¬ (1:Int)<=x.length:=by lia
   simp [*]
 ·simp [h1]
def yc1 (x:Str):Nat:=(Builtin.Str.occurrences x ⟨#[10]⟩ 0 x.length (x.length+1)).length
theorem yg7 (x:Str) (h:AH):ydx [.str x] h = .ok (.int (yc1 x)) h:=by
 simp [ydx,ye9,yc1]
theorem zi2 (i:Int) (h:AH):yde [.int i] h = .ok (.bl true) h:=by
 simp [yde]
inductive Pc where
 | leaf (x:Str)
 | fork (a b:Nat)
 deriving DecidableEq
def Pc.av:Pc->AV
 | .leaf x=>.tup [.str "leaf",.str x]
 | .fork a b=>.tup [.str "fork",.int a,.int b]
theorem Pc.av_inj:∀ {p q:Pc},p.av=q.av->p=q
 | .leaf x,.leaf y,e=>by simp [Pc.av] at e;rw [e]
 | .leaf x,.fork a b,e=>by simp [Pc.av] at e
 | .fork a b,.leaf x,e=>by simp [Pc.av] at e
 | .fork a b,.fork c d,e=>by simp [Pc.av] at e;rw [Int.ofNat.inj e.1,Int.ofNat.inj e.2]
structure Ms where
 sg:Nat
 en:Nat
 lv:Nat
 ht:Int
 fl:Nat
 ll:Nat
def ms0:Ms:=⟨0,0,0,-1,0,0⟩
def ycG (ms:List Ms):Pc->Ms
 | .leaf x=>⟨x.length,yc1 x,1,0,ms.length,ms.length⟩
 | .fork a b=>⟨(ms.getD a ms0).sg+(ms.getD b ms0).sg,(ms.getD a ms0).en+(ms.getD b ms0).en,(ms.getD a ms0).lv+(ms.getD b ms0).lv,max (ms.getD a ms0).ht (ms.getD b ms0).ht+1,(ms.getD a ms0).fl,(ms.getD b ms0).ll⟩
def meas (ps:List Pc):List Ms:=ps.foldl (fun ms q=>ms++[ycG ms q]) [ms0]
theorem zb2 (ps:List Pc) (q:Pc):meas (ps++[q])=meas ps++[ycG (meas ps) q]:=by simp [meas]
theorem zar:∀ ps:List Pc,(meas ps).length=ps.length+1:=by
 have all:∀ (ps:List Pc) (ms:List Ms),(ps.foldl (fun ms q=>ms++[ycG ms q]) ms).length=ms.length+ps.length:=by
  intro ps
  induction ps with
  | nil=>intro ms;rfl
  | cons q r ih=>intro ms;rw [List.foldl_cons,ih];simp;lia
 intro ps
 rw [meas,all];simp;lia
def ybl (k:Nat):List Pc->List (AV×AV)
 | []=>[]
 | q::r=>(q.av,.int k)::ybl (k+1) r
def tab (ps:List Pc):List (AV×AV):=ybl 1 ps
theorem zaW (q:Pc):∀ (ps:List Pc) (k:Nat),ybl k (ps++[q])=ybl k ps++[(q.av,.int ((k+ps.length:Nat):Int))]
 | [],k=>by simp [ybl]
 | p::r,k=>by
  simp only [List.cons_append,ybl,zaW q r (k+1)]
  rw [show k+1+r.length=k+(p::r).length by simp;lia]
theorem zfH:∀ (ps:List Pc) (k:Nat),(ybl k ps).length=ps.length
 | [],_=>rfl
 | p::r,k=>by simp [ybl,zfH r]
theorem zbG {q:Pc}:∀ {ps:List Pc} {k:Nat},q∉ps->valA (ybl k ps) q.av=none
 | [],k,_=>rfl
 | p::r,k,h=>by
  have h1 : ¬ p.av=q.av:=fun e=>h (by rw [Pc.av_inj e];simp)
  have h2:=zbG (q:=q) (ps:=r) (k:=k+1) fun z=>h (by simp [z])
  unfold valA at h2 ⊢
  simp only [ybl,List.find?_cons,decide_eq_false h1]
  exact h2
theorem zcK {q:Pc}:∀ {ps:List Pc} {k i:Nat},ps.Nodup->ps[i]? = some q->valA (ybl k ps) q.av=some (.int ((k+i:Nat):Int))
 | [],k,i,_,e=>by simp at e
 | p::r,k,0,n,e=>by simp at e;subst e;simp [valA,ybl]
 | p::r,k,i+1,n,e=>by
  simp at e
  have h1 : ¬ p.av=q.av:=fun z=>(List.nodup_cons.mp n).1 (by rw [Pc.av_inj z];exact List.mem_of_getElem? e)
  have h2:=zcK (q:=q) (k:=k+1) (List.nodup_cons.mp n).2 e
  unfold valA at h2 ⊢
  simp only [ybl,List.find?_cons,decide_eq_false h1]
  rw [h2]
  congr 3
  lia
theorem zi3 {q:Pc} {ps:List Pc} (h:q∉ps):putA (tab ps) q.av (.int ((ps.length+1:Nat):Int))=tab (ps++[q]):=by
 unfold putA
 rw [zdm,tab,zbG h,tab,zaW]
 simp [Nat.add_comm]
structure ShelfAt (h:AH) (p:Nat) (ps:List Pc):Prop where
 ob:h[p]? = some (.ins 0 [some (.ref (p+1)),some (.ref (p+2)),some (.ref (p+3)),some (.ref (p+4)),some (.ref (p+5)),some (.ref (p+6)),some (.ref (p+7)),some (.ref (p+8))])
 h1:h[p+1]? = some (.lst (ps.map Pc.av))
 h2:h[p+2]? = some (.dct true (tab ps))
 h3:h[p+3]? = some (.lst ((meas ps).map fun m=>.int m.sg))
 h4:h[p+4]? = some (.lst ((meas ps).map fun m=>.int m.en))
 h5:h[p+5]? = some (.lst ((meas ps).map fun m=>.int m.lv))
 h6:h[p+6]? = some (.lst ((meas ps).map fun m=>.int m.ht))
 h7:h[p+7]? = some (.lst ((meas ps).map fun m=>.int m.fl))
 h8:h[p+8]? = some (.lst ((meas ps).map fun m=>.int m.ll))
def yb8 (h:AH) (p:Nat) (ps:List Pc):AH :=
 (((((((h.set (p+1) (.lst (ps.map Pc.av))).set (p+2) (.dct true (tab ps))).set (p+3) (.lst ((meas ps).map fun m=>.int m.sg))).set (p+4) (.lst ((meas ps).map fun m=>.int m.en))).set (p+5) (.lst ((meas ps).map fun m=>.int m.lv))).set
  (p+6) (.lst ((meas ps).map fun m=>.int m.ht))).set (p+7) (.lst ((meas ps).map fun m=>.int m.fl))).set (p+8) (.lst ((meas ps).map fun m=>.int m.ll))
theorem yaR {h:AH} {i:Nat} {o:AO} (e:h[i]? = some o):i<h.length:=(List.getElem?_eq_some_iff.mp e).1
theorem zdQ (h:AH) (p:Nat) (ps:List Pc):(yb8 h p ps).length=h.length:=by simp [yb8]
theorem zet {h:AH} {p q:Nat} {ps:List Pc} (hq:q<=p\/p+8<q):(yb8 h p ps)[q]? = h[q]? := by
 unfold yb8
 repeat rw [List.getElem?_set_ne (by lia)]
theorem zbH {h:AH} {p:Nat} {ps ps':List Pc} (S:ShelfAt h p ps):ShelfAt (yb8 h p ps') p ps' := by
 have b:=yaR S.h8
 have l1:p+1<h.length:=Nat.lt_of_le_of_lt (Nat.add_le_add_left (by decide) p) b
 have l2:p+2<h.length:=Nat.lt_of_le_of_lt (Nat.add_le_add_left (by decide) p) b
 have l3:p+3<h.length:=Nat.lt_of_le_of_lt (Nat.add_le_add_left (by decide) p) b
 have l4:p+4<h.length:=Nat.lt_of_le_of_lt (Nat.add_le_add_left (by decide) p) b
 have l5:p+5<h.length:=Nat.lt_of_le_of_lt (Nat.add_le_add_left (by decide) p) b
 have l6:p+6<h.length:=Nat.lt_of_le_of_lt (Nat.add_le_add_left (by decide) p) b
 have l7:p+7<h.length:=Nat.lt_of_le_of_lt (Nat.add_le_add_left (by decide) p) b
 have ob:=S.ob
 constructor<;>simp [yb8,List.getElem?_set,l1,l2,l3,l4,l5,l6,l7,b,ob,-List.getElem?_eq_getElem]
theorem lenA {α:Type} (l:List α) (f:α->AV):(l.map f).length=l.length:=by simp
theorem yfL {h:AH} {p:Nat} {ps:List Pc} (S:ShelfAt h p ps):ybI [.ref p] h = .ok (.int ps.length) h:=by
 simp [ybI,S.ob,S.h1]
theorem yh8 {h:AH} {p:Nat} {ps:List Pc} {i:Int} (S:ShelfAt h p ps):ybT [.ref p,.int i] h = .ok (.bl (decide (1<=i/\i<=ps.length))) h:=by
 simp [ybT,zi2,S.ob,S.h1]
 by_cases h1:1<=i<;>simp [h1]
theorem zbI {h:AH} {p:Nat} {ps:List Pc} {i:Int} (S:ShelfAt h p ps) (hi:1<=i/\i<=ps.length):ya1 [.ref p,.int i] h = .ok .non h:=by
 simp [ya1,yh8 S,S.ob,hi.1,hi.2]
theorem zan {α:Type} {f:α->AV} {l:List α} {j:Nat} {q:α} (e:l[j]? = some q):atI (l.map f) (j:Int)=some (f q):=zbu (by simp [e])
theorem zi4 {h:AH} {p:Nat} {ps:List Pc} {j:Nat} {q:Pc} (S:ShelfAt h p ps) (e:ps[j]? = some q):yax [.ref p,.int ((j:Int)+1)] h = .ok q.av h:=by
 have hj:=(List.getElem?_eq_some_iff.mp e).1
 have h1:=zbI S (i:=(j:Int)+1) ⟨by lia,by lia⟩
 simp [yax,h1,S.ob,S.h1,zan e]
theorem yf6 {h:AH} {p:Nat} {ps:List Pc} {q:Pc} (S:ShelfAt h p ps) (hq:q∉ps) (hl:ps.length<16000000) :
  ycq [.ref p,q.av] h = .ok (.int ((ps.length+1:Nat):Int)) ((h.set (p+1) (.lst ((ps++[q]).map Pc.av))).set (p+2) (.dct true (tab (ps++[q])))):=by
 have b:=yaR S.h8
 have hs:ps.length<sizeLine:=Nat.lt_trans hl (by decide)
 have ht:(tab ps).length<sizeLine:=by rw [tab,zfH];exact hs
 have hk:ybY true q.av=true:=by cases q<;>simp [Pc.av]
 have e1:(h.set (p+1) (.lst (ps.map Pc.av++[q.av])))[p]? = h[p]? := List.getElem?_set_ne (by lia)
 have e2:(h.set (p+1) (.lst (ps.map Pc.av++[q.av])))[p+1]? = some (.lst (ps.map Pc.av++[q.av])):=List.getElem?_set_self (by lia)
 have e3:(h.set (p+1) (.lst (ps.map Pc.av++[q.av])))[p+2]? = h[p+2]? := List.getElem?_set_ne (by lia)
 have tp:=zi3 hq
 simp [ycq,S.ob,S.h1,hs,e1,e2,e3,S.h2,hk,ht,-ybY]
 rw [show ((ps.length:Int)+1)=((ps.length+1:Nat):Int) by simp,tp]
theorem zg5 {h:AH} {p:Nat} {ps:List Pc} {x:Str} (S:ShelfAt h p ps) (hq:Pc.leaf x∉ps) (hl:ps.length<16000000) :
  ybK [.ref p,(Pc.leaf x).av] h = .ok .non (yb8 h p (ps++[.leaf x])):=by
 have b:=yaR S.h8
 have hs:ps.length+1<sizeLine:=Nat.lt_of_lt_of_le (Nat.succ_lt_succ hl) (by decide)
 have hm:(meas ps).length<sizeLine:=by rw [zar];exact hs
 have e:=yf6 S hq hl
 have b2:((meas ps).length:Int)=(ps.length:Int)+1:=by rw [zar];simp
 have e2:fIx (Pc.leaf x).av (.int 1)=fun h=>Out.ok (.str x) h:=by funext h;rfl
 have l1:p+1<h.length:=by lia
 have l2:p+2<h.length:=by lia
 have l3:p+3<h.length:=by lia
 have l4:p+4<h.length:=by lia
 have l5:p+5<h.length:=by lia
 have l6:p+6<h.length:=by lia
 have l7:p+7<h.length:=by lia
 simp [ybK,e,S.ob,S.h3,S.h4,S.h5,S.h6,S.h7,S.h8,hm,yg7,List.getElem?_set,zb2,ycG,yb8,e2,zar,hs,-fIx,-List.getElem?_eq_getElem]
theorem zfI {α:Type} {l:List α} {i:Nat} {d x:α} (e:l[i]? = some x):l.getD i d=x:=by simp [List.getD,e]
theorem zg6 {h:AH} {p:Nat} {ps:List Pc} {a b:Nat} {ma mb:Ms} (S:ShelfAt h p ps) (hq:Pc.fork a b∉ps) (hl:ps.length<16000000) (ha:(meas ps)[a]? = some ma) (hb:(meas ps)[b]? = some mb) :
  ybJ [.ref p,(Pc.fork a b).av] h = .ok .non (yb8 h p (ps++[.fork a b])):=by
 have bb:=yaR S.h8
 have hs:ps.length+1<sizeLine:=Nat.lt_of_lt_of_le (Nat.succ_lt_succ hl) (by decide)
 have hm:(meas ps).length<sizeLine:=by rw [zar];exact hs
 have e:=yf6 S hq hl
 have e2:fIx (Pc.fork a b).av (.int 1)=fun h=>Out.ok (.int a) h:=by funext h;rfl
 have e3:fIx (Pc.fork a b).av (.int 2)=fun h=>Out.ok (.int b) h:=by funext h;rfl
 have l1:p+1<h.length:=by lia
 have l2:p+2<h.length:=by lia
 have l3:p+3<h.length:=by lia
 have l4:p+4<h.length:=by lia
 have l5:p+5<h.length:=by lia
 have l6:p+6<h.length:=by lia
 have l7:p+7<h.length:=by lia
 have fx:∀ (n:Nat) (g:Ms->AV) (h':AH),h'[n]? = some (.lst ((meas ps).map g))->fIx (.ref n) (.int a) h' = .ok (g ma) h'/\fIx (.ref n) (.int b) h' = .ok (g mb) h' := fun n g h' e=>by
  simp [fIx,e,zan ha,zan hb]
 have f3:=fun (h':AH) (e:h'[p+3]? = some (.lst ((meas ps).map fun m=>.int m.sg)))=>fx _ _ h' e
 have f4:=fun (h':AH) (e:h'[p+4]? = some (.lst ((meas ps).map fun m=>.int m.en)))=>fx _ _ h' e
 have f5:=fun (h':AH) (e:h'[p+5]? = some (.lst ((meas ps).map fun m=>.int m.lv)))=>fx _ _ h' e
 have f6:=fun (h':AH) (e:h'[p+6]? = some (.lst ((meas ps).map fun m=>.int m.ht)))=>fx _ _ h' e
 have f7:=fun (h':AH) (e:h'[p+7]? = some (.lst ((meas ps).map fun m=>.int m.fl)))=>fx _ _ h' e
 have f8:=fun (h':AH) (e:h'[p+8]? = some (.lst ((meas ps).map fun m=>.int m.ll)))=>fx _ _ h' e
 have hmax:∀ i j:Int,(if j > i then j else i)=max i j:=fun i j=>by split<;>lia
 simp [ybJ,e,S.ob,S.h3,S.h4,S.h5,S.h6,S.h7,S.h8,hm,List.getElem?_set,zb2,ycG,yb8,e2,e3,zar,hs,zan ha,zan hb,zfI ha,zfI hb,-fIx,-List.getElem?_eq_getElem,-List.getD_eq_getElem?_getD,f3,f4,f5,f6,f7,f8,hmax]
theorem zbJ {h:AH} {p:Nat} {ps:List Pc} {x:Str} {i:Nat} (S:ShelfAt h p ps) (nd:ps.Nodup) (hx:ybx x=true) (hl:x.length<=sizeLine) (e:ps[i]? = some (.leaf x)):yaD [.ref p,.str x] h = .ok (.int ((i+1:Nat):Int)) h:=by
 have t:=zcK (k:=1) nd e
 have t':valA (tab ps) (.tup [.str "leaf",.str x])=some (.int ((i+1:Nat):Int)):=by rw [Nat.add_comm];exact t
 simp [yaD,zfG x h hl,hx,S.ob,S.h2,t']
theorem zgf {h:AH} {p:Nat} {ps:List Pc} {x:Str} (S:ShelfAt h p ps) (hx:ybx x=true) (hl:x.length<=sizeLine) (hq:Pc.leaf x∉ps) (hz:ps.length<16000000):yaD [.ref p,.str x] h = .ok (.int ((ps.length+1:Nat):Int)) (yb8 h p (ps++[.leaf x])):=by
 have t:valA (tab ps) (.tup [.str "leaf",.str x])=none:=zbG (q:=.leaf x) (k:=1) hq
 have S2:=zbH (ps' := ps++[.leaf x]) S
 have e:=zg5 S hq hz
 have t2:valA (tab (ps++[.leaf x])) (.tup [.str "leaf",.str x])=some (.int ((ps.length+1:Nat):Int)):=by
  unfold tab
  rw [zaW]
  unfold valA at t ⊢
  rw [List.find?_append]
  have t3:(ybl 1 ps).find? (fun p=>decide (p.1 = .tup [.str "leaf",.str x]))=none:=by simpa [tab] using t
  rw [t3]
  simp [Pc.av,Nat.add_comm]
 have e':ybK [.ref p,.tup [.str "leaf",.str x]] h = .ok .non (yb8 h p (ps++[.leaf x])):=e
 simp [yaD,zfG x h hl,hx,S.ob,S.h2,t,e',S2.ob,S2.h2,t2]
theorem zhV {h:AH} {p:Nat} {ps:List Pc} {a b:Nat} {ma mb la fb:Ms} (S:ShelfAt h p ps) (ha:(meas ps)[a]? = some ma) (hb:(meas ps)[b]? = some mb) (pa:1<=a) (pb:1<=b) (hla:(meas ps)[ma.ll]? = some la) (hfb:(meas ps)[mb.fl]? = some fb) :
  yaW [.ref p,.int a,.int b] h=if la.sg+fb.sg<=8 then .ex yfW h else if 1<(ma.ht-mb.ht).natAbs then .ex yfi h else if 1000000000000000000<ma.sg+mb.sg then .ex yfj h else .ok .non h:=by
 have la_:=(List.getElem?_eq_some_iff.mp ha).1
 have lb_:=(List.getElem?_eq_some_iff.mp hb).1
 rw [zar] at la_ lb_
 have c1:=zbI S (i:=(a:Int)) ⟨by lia,by lia⟩
 have c2:=zbI S (i:=(b:Int)) ⟨by lia,by lia⟩
 by_cases d1:la.sg+fb.sg<=8
 ·have d1':((la.sg:Int)+fb.sg)<=8:=by lia
  simp [yaW,c1,c2,S.ob,S.h3,S.h5,S.h6,S.h7,S.h8,zan ha,zan hb,zan hla,zan hfb,d1,d1']
 ·have d1' : ¬ ((la.sg:Int)+fb.sg)<=8:=by lia
  by_cases d2:1<(ma.ht-mb.ht).natAbs
  ·have d2':(1:Int)<(if ma.ht-mb.ht<0 then -(ma.ht-mb.ht) else ma.ht-mb.ht):=by split<;>lia
   simp [yaW,c1,c2,S.ob,S.h3,S.h5,S.h6,S.h7,S.h8,zan ha,zan hb,zan hla,zan hfb,d1,d1',d2,d2',-Int.neg_sub]
  ·have d2' : ¬ (1:Int)<(if ma.ht-mb.ht<0 then -(ma.ht-mb.ht) else ma.ht-mb.ht):=by split<;>lia
   by_cases d3:1000000000000000000<ma.sg+mb.sg
   ·have d3':(1000000000000000000:Int)<(ma.sg:Int)+mb.sg:=by lia
    simp [yaW,c1,c2,S.ob,S.h3,S.h5,S.h6,S.h7,S.h8,zan ha,zan hb,zan hla,zan hfb,d1,d1',d2,d2',d3,d3',-Int.neg_sub]
   ·have d3' : ¬ (1000000000000000000:Int)<(ma.sg:Int)+mb.sg:=by lia
    simp [yaW,c1,c2,S.ob,S.h3,S.h5,S.h6,S.h7,S.h8,zan ha,zan hb,zan hla,zan hfb,d1,d1',d2,d2',d3,d3',-Int.neg_sub]
structure ForkOk (ps:List Pc) (a b:Nat):Prop where
 pa:1<=a
 pb:1<=b
 ex:∃ ma mb la fb,(meas ps)[a]? = some ma/\(meas ps)[b]? = some mb/\(meas ps)[ma.ll]? = some la/\(meas ps)[mb.fl]? = some fb/\8<la.sg+fb.sg/\(ma.ht-mb.ht).natAbs<=1/\ma.sg+mb.sg<=1000000000000000000
theorem zcv {h:AH} {p:Nat} {ps:List Pc} {a b:Nat} (S:ShelfAt h p ps) (F:ForkOk ps a b):yaW [.ref p,.int a,.int b] h = .ok .non h:=by
 obtain ⟨ma,mb,la,fb,h1,h2,h3,h4,h5,h6,h7⟩:=F.ex
 rw [zhV S h1 h2 F.pa F.pb h3 h4,if_neg (by lia),if_neg (by lia),if_neg (by lia)]
theorem zbK {h:AH} {p:Nat} {ps:List Pc} {a b i:Nat} (S:ShelfAt h p ps) (nd:ps.Nodup) (F:ForkOk ps a b) (e:ps[i]? = some (.fork a b)):yaf [.ref p,.int a,.int b] h = .ok (.int ((i+1:Nat):Int)) h:=by
 have t:=zcK (k:=1) nd e
 have t':valA (tab ps) (.tup [.str "fork",.int a,.int b])=some (.int ((i+1:Nat):Int)):=by rw [Nat.add_comm];exact t
 simp [yaf,zcv S F,S.ob,S.h2,t']
theorem zgg {h:AH} {p:Nat} {ps:List Pc} {a b:Nat} (S:ShelfAt h p ps) (F:ForkOk ps a b) (hq:Pc.fork a b∉ps) (hz:ps.length<16000000):yaf [.ref p,.int a,.int b] h = .ok (.int ((ps.length+1:Nat):Int)) (yb8 h p (ps++[.fork a b])):=by
 have t:valA (tab ps) (.tup [.str "fork",.int a,.int b])=none:=zbG (q:=.fork a b) (k:=1) hq
 have S2:=zbH (ps' := ps++[.fork a b]) S
 obtain ⟨ma,mb,la,fb,h1,h2,_⟩:=F.ex
 have e:=zg6 S hq hz h1 h2
 have t2:valA (tab (ps++[.fork a b])) (.tup [.str "fork",.int a,.int b])=some (.int ((ps.length+1:Nat):Int)):=by
  unfold tab
  rw [zaW]
  unfold valA at t ⊢
  rw [List.find?_append]
  have t3:(ybl 1 ps).find? (fun p=>decide (p.1 = .tup [.str "fork",.int a,.int b]))=none:=by simpa [tab] using t
  rw [t3]
  simp [Pc.av,Nat.add_comm]
 have e':ybJ [.ref p,.tup [.str "fork",.int a,.int b]] h = .ok .non (yb8 h p (ps++[.fork a b])):=e
 simp [yaf,zcv S F,S.ob,S.h2,t,e',S2.ob,S2.h2,t2]
def yc2 (n:Nat):List AO:=[.ins 0 [some (.ref (n+1)),some (.ref (n+2)),some (.ref (n+3)),some (.ref (n+4)),some (.ref (n+5)),some (.ref (n+6)),some (.ref (n+7)),some (.ref (n+8))],.lst [],.dct true [],.lst [.int 0],.lst [.int 0],.lst [.int 0],.lst [.int (-1)],.lst [.int 0],.lst [.int 0]]
theorem zi5 {h:AH} {o o':AO} {r:AH}:(h++o::r).set h.length o'=h++o'::r:=by
 induction h with
 | nil=>rfl
 | cons x t ih=>simp [ih]
theorem yg8 (en:En) (h:AH):yeU 0 8 yca sNil en h = .ok (.ref h.length) (h++yc2 h.length):=by
 simp [yca,yc2,List.getElem?_append,zi5]
theorem yfM {h r:AH} {k:Nat}:(h++r)[h.length+k]? = r[k]? := by
 rw [List.getElem?_append_right (by lia)];simp
theorem yg9 (h r:AH):ShelfAt (h++(yc2 h.length++r)) h.length []:=by
 refine ⟨?_,?_,?_,?_,?_,?_,?_,?_,?_⟩
 ·rw [show h.length=h.length+0 from rfl,yfM];rfl
 all_goals (rw [yfM];rfl)
theorem zfJ (x:Str) (c i:Nat) (hi:i<x.length):Builtin.Str.subAt x ⟨#[c]⟩ i=decide (x.cps.toList[i]? = some c):=by
 have hi':i<x.cps.size:=hi
 unfold Builtin.Str.subAt
 have e:x.cps.extract i (i+1) = #[x.cps[i]]:=by
  apply Array.ext
  ·simp;lia
  ·intro j h1 h2
   have:j=0:=by simp at h2;lia
   subst this
   simp
 show (x.cps.extract i (i+1) == #[c])=_
 rw [e]
 have:x.cps.toList[i]? = some x.cps[i]:=by simp [hi']
 rw [this]
 by_cases q:x.cps[i]=c
 ·simp [q]
 ·simp [q]
theorem yeJ (x:Str) (c:Nat):∀ (n i:Nat) (st:Array Nat×Nat),i+n=x.length+1->st.2<=i->st.1.size<=i->(forIn (List.range' i n) st (StrLaws.occBody x ⟨#[c]⟩ x.length (x.length+1))).run.fst.size=st.1.size+(x.cps.toList.drop i).count c
 | 0,i,st,hn,_,_=>by
  rw [List.drop_of_length_le (by simp;simp only [Str.length] at hn;lia)]
  simp
 | n+1,i,st,hn,h2,h3=>by
  rw [List.range'_succ,List.forIn_cons]
  unfold StrLaws.occBody
  by_cases hi:i<x.length
  ·have hi':i<x.cps.size:=hi
   have hd:x.cps.toList.drop i=x.cps[i]'hi'::x.cps.toList.drop (i+1):=by
    rw [List.drop_eq_getElem_cons (show i<x.cps.toList.length by simpa using hi')];simp
   have hg:x.cps.toList[i]? = some (x.cps[i]'hi'):=by
    simp [hi']
   by_cases q:x.cps[i]'hi'=c
   ·have hs:Builtin.Str.subAt x ⟨#[c]⟩ i=true:=by rw [zfJ x c i hi,hg,q];simp
    rw [if_pos ⟨⟨⟨by lia,h2⟩,hi⟩,hs⟩]
    show (forIn (List.range' (i+1) n) (st.1.push i,i+1) (StrLaws.occBody x ⟨#[c]⟩ x.length (x.length+1))).run.fst.size=_
    rw [yeJ x c n (i+1) _ (by lia) (Nat.le_refl _) (by simp;lia),hd,q]
    simp;lia
   ·have hs:Builtin.Str.subAt x ⟨#[c]⟩ i=false:=by rw [zfJ x c i hi,hg];simp [q]
    rw [if_neg (by simp [hs])]
    show (forIn (List.range' (i+1) n) (st.1,st.2) (StrLaws.occBody x ⟨#[c]⟩ x.length (x.length+1))).run.fst.size=_
    rw [yeJ x c n (i+1) _ (by lia) (by show st.2<=i+1;lia) (by show st.1.size<=i+1;lia),hd]
    simp [q]
  ·rw [if_neg (by rintro ⟨⟨_,z⟩,_⟩;exact hi z)]
   show (forIn (List.range' (i+1) n) (st.1,st.2) (StrLaws.occBody x ⟨#[c]⟩ x.length (x.length+1))).run.fst.size=_
   rw [yeJ x c n (i+1) _ (by lia) (by show st.2<=i+1;lia) (by show st.1.size<=i+1;lia)]
   rw [List.drop_of_length_le (by simp;simp only [Str.length] at hi;lia),List.drop_of_length_le (by simp;simp only [Str.length] at hi;lia)]
theorem zg7 (x:Str) (c:Nat):(Builtin.Str.occurrences x ⟨#[c]⟩ 0 x.length (x.length+1)).length=x.cps.toList.count c:=by
 rw [StrLaws.occ_eq,Array.length_toList]
 rw [show x.length+1-0=x.length+1 from rfl,yeJ x c (x.length+1) 0 _ (by lia) (Nat.le_refl _) (by simp)]
 simp
theorem zaX (x:Str):yc1 x=x.cps.toList.count 10:=zg7 x 10
theorem zae (x y:Str):(x++y).cps.toList=x.cps.toList++y.cps.toList:=by
 show (x.cps++y.cps).toList=_
 simp
theorem zhW (x y:Str):yc1 (x++y)=yc1 x+yc1 y:=by
 rw [zaX,zaX,zaX,zae,List.count_append]
theorem zad (x:Str):x.length=x.cps.toList.length:=by simp [Str.length]
theorem zak (x y:Str):(x++y).length=x.length+y.length:=by
 rw [zad,zad,zad,zae,List.length_append]
def ydU (rs:List Str):Pc->Str
 | .leaf x=>x
 | .fork a b=>rs.getD a "" ++ rs.getD b ""
def reads (ps:List Pc):List Str:=ps.foldl (fun rs q=>rs++[ydU rs q]) [""]
theorem zgh (ps:List Pc) (q:Pc):reads (ps++[q])=reads ps++[ydU (reads ps) q]:=by simp [reads]
theorem zbg {α β:Type} (g:List β->α->β):∀ (qs:List α) (ms:List β),∃ r,qs.foldl (fun ms q=>ms++[g ms q]) ms=ms++r/\r.length=qs.length
 | [],ms=>⟨[],by simp,rfl⟩
 | q::qs,ms=>by
  obtain ⟨r,e,l⟩:=zbg g qs (ms++[g ms q])
  exact ⟨g ms q::r,by rw [List.foldl_cons,e];simp,by simp [l]⟩
theorem zbp (ps:List Pc):(reads ps).length=ps.length+1:=by
 obtain ⟨r,e,l⟩:=zbg ydU ps [""]
 rw [reads,e];simp [l,Nat.add_comm]
theorem zhX (ps qs:List Pc):∃ r,meas (ps++qs)=meas ps++r:=by
 unfold meas
 rw [List.foldl_append]
 obtain ⟨r,e,_⟩:=zbg ycG qs (ps.foldl (fun ms q=>ms++[ycG ms q]) [ms0])
 exact ⟨r,e⟩
theorem zg8 (ps qs:List Pc):∃ r,reads (ps++qs)=reads ps++r:=by
 unfold reads
 rw [List.foldl_append]
 obtain ⟨r,e,_⟩:=zbg ydU qs (ps.foldl (fun ms q=>ms++[ydU ms q]) [""])
 exact ⟨r,e⟩
theorem zac {ps ps':List Pc} (h:ps <+: ps') {n:Nat} {m:Ms} (e:(meas ps)[n]? = some m):(meas ps')[n]? = some m:=by
 obtain ⟨qs,rfl⟩:=h
 obtain ⟨r,q⟩:=zhX ps qs
 rw [q,List.getElem?_append_left (List.getElem?_eq_some_iff.mp e).1];exact e
theorem zbq {ps ps':List Pc} (h:ps <+: ps') {n:Nat} {m:Str} (e:(reads ps)[n]? = some m):(reads ps')[n]? = some m:=by
 obtain ⟨qs,rfl⟩:=h
 obtain ⟨r,q⟩:=zg8 ps qs
 rw [q,List.getElem?_append_left (List.getElem?_eq_some_iff.mp e).1];exact e
theorem zbL (ps:List Pc) (i:Nat):ps.take i <+: ps:=List.take_prefix i ps
theorem zcL {ps:List Pc} {i:Nat} {q:Pc} (e:ps[i]? = some q):(ps.take i++[q]) <+: ps/\(ps.take i).length=i:=by
 have hi:=(List.getElem?_eq_some_iff.mp e).1
 have:ps.take (i+1)=ps.take i++[q]:=by
  rw [List.take_succ,e];rfl
 exact ⟨this▸List.take_prefix _ _,by simp;lia⟩
theorem zfK {ps:List Pc} {i:Nat} {q:Pc} (e:ps[i]? = some q):(meas ps)[i+1]? = some (ycG (meas (ps.take i)) q):=by
 obtain ⟨h,l⟩:=zcL e
 refine zac h ?_
 rw [zb2,List.getElem?_append_right (by rw [zar,l];lia),zar,l]
 simp
theorem zeu {ps:List Pc} {i:Nat} {q:Pc} (e:ps[i]? = some q):(reads ps)[i+1]? = some (ydU (reads (ps.take i)) q):=by
 obtain ⟨h,l⟩:=zcL e
 refine zbq h ?_
 rw [zgh,List.getElem?_append_right (by rw [zbp,l];lia),zbp,l]
 simp
def PcOk (ps:List Pc):Pc->Prop
 | .leaf x=>ybx x=true
 | .fork a b=>ForkOk ps a b
inductive Good:List Pc->Prop
 | nil:Good []
 | snoc {ps:List Pc} {q:Pc}:Good ps->q∉ps->PcOk ps q->Good (ps++[q])
theorem Good.nodup {ps:List Pc} (g:Good ps):ps.Nodup:=by
 induction g with
 | nil=>exact List.nodup_nil
 | snoc g n ok ih=>exact List.nodup_append.mpr ⟨ih,by simp,fun a ha b hb=>by simp at hb;subst hb;exact fun e=>n (e▸ha)⟩
theorem Good.get {ps:List Pc} (g:Good ps):∀ {i:Nat} {q:Pc},ps[i]? = some q->PcOk (ps.take i) q:=by
 induction g with
 | nil=>intro i q e;simp at e
 | @snoc ps q' g n ok ih =>
  intro i q e
  by_cases hi:i<ps.length
  ·rw [List.getElem?_append_left hi] at e
   rw [List.take_append_of_le_length (by lia)]
   exact ih e
  ·have hi2:i=ps.length:=by
    have:=(List.getElem?_eq_some_iff.mp e).1
    simp at this;lia
   subst hi2
   simp at e
   subst e
   simpa using ok
theorem ForkOk.pre {ps ps':List Pc} {a b:Nat} (F:ForkOk ps a b) (h:ps <+: ps'):ForkOk ps' a b:=by
 obtain ⟨ma,mb,la,fb,h1,h2,h3,h4,h5⟩:=F.ex
 exact ⟨F.pa,F.pb,ma,mb,la,fb,zac h h1,zac h h2,zac h h3,zac h h4,h5⟩
structure Ky (ps:List Pc) (m:Ms) (x:Str) (f l:Ms):Prop where
 fl:(meas ps)[m.fl]? = some f
 ll:(meas ps)[m.ll]? = some l
 sg:m.sg=x.length
 en:m.en=yc1 x
 f1:1<=f.sg
 f8:f.sg<=8
 l1:1<=l.sg
 l8:l.sg<=8
 lv:1<=m.lv
 ht:0<=m.ht
 most:m.sg<=1000000000000000000
 cnt:∃ k,(m.lv=2*k+1/\9*k+f.sg<=m.sg/\9*k+l.sg<=m.sg)\/(m.lv=2*k+2/\9*k+9<=m.sg/\9*k+f.sg+l.sg<=m.sg)
 pl:yaE x=true
structure Tx (ps:List Pc) (n:Nat) (m:Ms) (x:Str) (f l:Ms):Prop where
 n1:1<=n
 ms:(meas ps)[n]? = some m
 rd:(reads ps)[n]? = some x
 ky:Ky ps m x f l
theorem Ky.pre {ps ps':List Pc} {m:Ms} {x:Str} {f l:Ms} (k:Ky ps m x f l) (h:ps <+: ps'):Ky ps' m x f l :=
 { k with fl:=zac h k.fl,ll:=zac h k.ll }
theorem Tx.pre {ps ps':List Pc} {n:Nat} {m:Ms} {x:Str} {f l:Ms} (k:Tx ps n m x f l) (h:ps <+: ps'):Tx ps' n m x f l :=
 ⟨k.n1,zac h k.ms,zbq h k.rd,k.ky.pre h⟩
theorem Tx.le {ps:List Pc} {n:Nat} {m:Ms} {x:Str} {f l:Ms} (k:Tx ps n m x f l):n<=ps.length:=by
 have:=(List.getElem?_eq_some_iff.mp k.ms).1
 rw [zar] at this;lia
def ydn (ma mb:Ms):Ms:=⟨ma.sg+mb.sg,ma.en+mb.en,ma.lv+mb.lv,max ma.ht mb.ht+1,ma.fl,mb.ll⟩
theorem zaJ (x y:Str):yaE (x++y)=(yaE x && yaE y):=by unfold yaE;rw [zae,List.all_append]
theorem kf1 {n n' s s' f l f' l':Nat} (a:∃ k,(n=2*k+1/\9*k+f<=s/\9*k+l<=s)\/(n=2*k+2/\9*k+9<=s/\9*k+f+l<=s)) (b:∃ k,(n'=2*k+1/\9*k+f'<=s'/\9*k+l'<=s')\/(n'=2*k+2/\9*k+9<=s'/\9*k+f'+l'<=s')) (hs:8<l+f') :
  ∃ k,(n+n'=2*k+1/\9*k+f<=s+s'/\9*k+l'<=s+s')\/(n+n'=2*k+2/\9*k+9<=s+s'/\9*k+f+l'<=s+s'):=by
 obtain ⟨k,⟨rfl,a1,a2⟩ | ⟨rfl,a1,a2⟩⟩:=a<;>obtain ⟨k',⟨rfl,b1,b2⟩ | ⟨rfl,b1,b2⟩⟩:=b
 ·exact ⟨k+k',.inr ⟨by lia,by lia,by lia⟩⟩
 ·exact ⟨k+k'+1,.inl ⟨by lia,by lia,by lia⟩⟩
 ·exact ⟨k+k'+1,.inl ⟨by lia,by lia,by lia⟩⟩
 ·exact ⟨k+k'+1,.inr ⟨by lia,by lia,by lia⟩⟩
theorem Ky.sg1 {ps:List Pc} {m:Ms} {x:Str} {f l:Ms} (k:Ky ps m x f l):1<=m.sg:=by
 have f1:=k.f1
 obtain ⟨k,⟨_,a,_⟩ | ⟨_,a,_⟩⟩:=k.cnt
 ·exact Nat.le_trans f1 (Nat.le_trans (Nat.le_add_left _ _) a)
 ·exact Nat.le_trans (Nat.le_add_left 1 (9*k+8)) a
theorem Ky.fork {ps:List Pc} {ma mb fa la fb lb:Ms} {x y:Str} (A:Ky ps ma x fa la) (B:Ky ps mb y fb lb) (hs:8<la.sg+fb.sg) (hm:ma.sg+mb.sg<=1000000000000000000):Ky ps (ydn ma mb) (x++y) fa lb:=by
 have k:=kf1 A.cnt B.cnt hs
 refine ⟨A.fl,B.ll,?_,?_,A.f1,A.f8,B.l1,B.l8,Nat.le_trans A.lv (Nat.le_add_right _ _),?_,hm,k,?_⟩
 ·show ma.sg+mb.sg=_;rw [zak,A.sg,B.sg]
 ·show ma.en+mb.en=_;rw [zhW,A.en,B.en]
 ·have a4:=A.ht
  show 0<=max ma.ht mb.ht+1
  clear k hs hm;lia
 ·rw [zaJ,A.pl,B.pl];rfl
theorem zb3 {x:Str} (h:ybx x=true):1<=x.length/\x.length<=8/\yaE x=true:=by
 simp [ybx] at h;exact ⟨h.2.1,h.2.2,h.1⟩
theorem za8 {α:Type} {l:List α} {i:Nat} {d x:α} (e:l[i]? = some x):l.getD i d=x:=by simp [List.getD,e]
def lfMs (x:Str) (n:Nat):Ms:=⟨x.length,yc1 x,1,0,n,n⟩
theorem zbx {ps:List Pc} (g:Good ps) {i:Nat} {x:Str} (e:ps[i]? = some (.leaf x)):Tx ps (i+1) (lfMs x (i+1)) x (lfMs x (i+1)) (lfMs x (i+1)):=by
 have hi:=(List.getElem?_eq_some_iff.mp e).1
 have ok:ybx x=true:=g.get e
 obtain ⟨s1,s2,s3⟩:=zb3 ok
 have li:(ps.take i).length=i:=by simp;lia
 have ml:(meas (ps.take i)).length=i+1:=by rw [zar,li]
 have e1':(meas ps)[i+1]? = some (lfMs x (i+1)):=by rw [zfK e];simp only [ycG,lfMs];rw [ml]
 exact ⟨by lia,e1',zeu e,⟨e1',e1',rfl,rfl,s1,s2,s1,s2,Nat.le_refl 1,Int.le_refl 0,by show x.length<=_;lia,⟨0,.inl ⟨rfl,Nat.le_of_eq (Nat.zero_add _),Nat.le_of_eq (Nat.zero_add _)⟩⟩,s3⟩⟩
theorem zby {ps:List Pc} (g:Good ps) {i a b:Nat} {ma mb fa la fb lb:Ms} {x y:Str} (e:ps[i]? = some (.fork a b)) (A:Tx ps a ma x fa la) (B:Tx ps b mb y fb lb):Tx ps (i+1) (ydn ma mb) (x++y) fa lb:=by
 have hi:=(List.getElem?_eq_some_iff.mp e).1
 have ok':ForkOk (ps.take i) a b:=g.get e
 have li:(ps.take i).length=i:=by simp;lia
 have tp:=zbL ps i
 obtain ⟨ma',mb',la',fb',q1,q2,q3,q4,q5,q6,q7⟩:=ok'.ex
 have ba:=(List.getElem?_eq_some_iff.mp q1).1
 have bb:=(List.getElem?_eq_some_iff.mp q2).1
 rw [zar,li] at ba bb
 have z1:=A.ms.symm.trans (zac tp q1);cases z1
 have z2:=B.ms.symm.trans (zac tp q2);cases z2
 have z3:=A.ky.ll.symm.trans (zac tp q3);cases z3
 have z4:=B.ky.fl.symm.trans (zac tp q4);cases z4
 have r1:(reads (ps.take i))[a]? = some x:=by
  obtain ⟨w,ew⟩:∃ w,(reads (ps.take i))[a]? = some w:=⟨(reads (ps.take i))[a]'(by rw [zbp,li];lia),by simp⟩
  have:=(zbq tp ew).symm.trans A.rd;cases this;exact ew
 have r2:(reads (ps.take i))[b]? = some y:=by
  obtain ⟨w,ew⟩:∃ w,(reads (ps.take i))[b]? = some w:=⟨(reads (ps.take i))[b]'(by rw [zbp,li];lia),by simp⟩
  have:=(zbq tp ew).symm.trans B.rd;cases this;exact ew
 refine ⟨by lia,?_,?_,A.ky.fork B.ky q5 q7⟩
 ·rw [zfK e];simp only [ycG,za8 q1,za8 q2];rfl
 ·rw [zeu e];simp only [ydU,za8 r1,za8 r2]
theorem Good.tx {ps:List Pc} (g:Good ps):∀ n,1<=n->n<=ps.length->∃ m x f l,Tx ps n m x f l:=by
 intro n
 induction n using Nat.strongRecOn with
 | ind n ih =>
  intro h1 h2
  obtain ⟨i,rfl⟩:∃ i,n=i+1:=⟨n-1,(Nat.sub_add_cancel h1).symm⟩
  obtain ⟨q,eq⟩:∃ q,ps[i]? = some q:=⟨ps[i],by simp⟩
  have ok:=g.get eq
  have li:(ps.take i).length=i:=(zcL eq).2
  cases q with
  | leaf x=>exact ⟨_,_,_,_,zbx g eq⟩
  | fork a b =>
   have ok':ForkOk (ps.take i) a b:=ok
   obtain ⟨ma,mb,la,fb,q1,q2,_⟩:=ok'.ex
   have ba:=(List.getElem?_eq_some_iff.mp q1).1
   have bb:=(List.getElem?_eq_some_iff.mp q2).1
   rw [zar,li] at ba bb
   obtain ⟨_,_,_,_,A⟩:=ih a ba ok'.pa (Nat.le_trans (Nat.le_of_lt ba) h2)
   obtain ⟨_,_,_,_,B⟩:=ih b bb ok'.pb (Nat.le_trans (Nat.le_of_lt bb) h2)
   exact ⟨_,_,_,_,zby g eq A B⟩
structure Dd (p:Nat) (h h':AH) (ps ps':List Pc) (k:Nat):Prop where
 sh:ShelfAt h' p ps'
 gd:Good ps'
 pre:ps <+: ps'
 len:ps'.length<=ps.length+k
 fr:∀ i,i<=p\/p+8<i->h'[i]? = h[i]?
 hl:h'.length=h.length
theorem ShelfAt.keep {h h':AH} {p:Nat} {ps:List Pc} (S:ShelfAt h p ps) (e:∀ i,p<=i->i<=p+8->h'[i]? = h[i]?):ShelfAt h' p ps:=by
 have k:∀ j,j<=8->h'[p+j]? = h[p+j]? := fun j hj=>e _ (Nat.le_add_right p j) (Nat.add_le_add_left hj p)
 exact ⟨(k 0 (by decide)).trans S.ob,(k 1 (by decide)).trans S.h1,(k 2 (by decide)).trans S.h2,(k 3 (by decide)).trans S.h3,(k 4 (by decide)).trans S.h4,(k 5 (by decide)).trans S.h5,(k 6 (by decide)).trans S.h6,(k 7 (by decide)).trans S.h7,(k 8 (by decide)).trans S.h8⟩
theorem ShelfAt.app {h:AH} {p:Nat} {ps:List Pc} (S:ShelfAt h p ps) (r:AH):ShelfAt (h++r) p ps:=by
 have:=yaR S.h8
 exact S.keep fun i _ b=>List.getElem?_append_left (Nat.lt_of_le_of_lt b this)
structure Wk (p r:Nat) (h h':AH) (ps ps':List Pc) (k:Nat):Prop where
 sh:ShelfAt h' p ps'
 gd:Good ps'
 pre:ps <+: ps'
 len:ps'.length<=ps.length+k
 row:∃ N:Int,h'[r]? = some (.lst [.int N])
 fr:∀ i,i<=p\/p+8<i->i≠r->h'[i]? = h[i]?
 hl:h'.length=h.length
theorem Wk.refl {p r:Nat} {h:AH} {ps:List Pc} (S:ShelfAt h p ps) (g:Good ps) (e:∃ N:Int,h[r]? = some (.lst [.int N])):Wk p r h h ps ps 0 :=
 ⟨S,g,List.prefix_refl _,by lia,e,fun _ _ _=>rfl,rfl⟩
theorem zbh {h:AH} {p:Nat} {ps:List Pc} {i:Nat} (S:ShelfAt h p ps) (hi:i<=ps.length):yaP [.ref p,.int i] h = .ok .non h:=by
 by_cases z:i=0
 ·subst z;simp [yaP]
 ·have c:=zbI S (i:=(i:Int)) ⟨by lia,by lia⟩
  simp [yaP,z,S.ob,c]
theorem zao {h:AH} {p:Nat} {ps:List Pc} {i:Nat} {m:Ms} (S:ShelfAt h p ps) (e:(meas ps)[i]? = some m):yaz [.ref p,.int i] h = .ok (.int m.sg) h:=by
 have hi:=(List.getElem?_eq_some_iff.mp e).1
 rw [zar] at hi
 simp [yaz,zbh S (show i<=ps.length by lia),S.ob,S.h3,zan e]
theorem zi6 {h:AH} {p:Nat} {ps:List Pc} {i:Nat} {m:Ms} (S:ShelfAt h p ps) (e:(meas ps)[i]? = some m):ycE [.ref p,.int i] h = .ok (.int m.en) h:=by
 have hi:=(List.getElem?_eq_some_iff.mp e).1
 rw [zar] at hi
 simp [ycE,zbh S (show i<=ps.length by lia),S.ob,S.h4,zan e]
theorem zag {h:AH} {p:Nat} {ps:List Pc} {i:Nat} {m:Ms} (S:ShelfAt h p ps) (e:(meas ps)[i]? = some m):yaA [.ref p,.int i] h = .ok (.int m.ht) h:=by
 have hi:=(List.getElem?_eq_some_iff.mp e).1
 rw [zar] at hi
 simp [yaA,zbh S (show i<=ps.length by lia),S.ob,S.h6,zan e]
theorem zfL {h:AH} {p:Nat} {ps:List Pc} {i:Nat} {m:Ms} (S:ShelfAt h p ps) (e:(meas ps)[i]? = some m):ybo [.ref p,.int i] h = .ok (.int m.fl) h:=by
 have hi:=(List.getElem?_eq_some_iff.mp e).1
 rw [zar] at hi
 simp [ybo,zbh S (show i<=ps.length by lia),S.ob,S.h7,zan e]
theorem yfN {h:AH} {p:Nat} {ps:List Pc} {i:Nat} {m:Ms} (S:ShelfAt h p ps) (e:(meas ps)[i]? = some m):ybw [.ref p,.int i] h = .ok (.int m.ll) h:=by
 have hi:=(List.getElem?_eq_some_iff.mp e).1
 rw [zar] at hi
 simp [ybw,zbh S (show i<=ps.length by lia),S.ob,S.h8,zan e]
def lp:Nat->Nat×Nat
 | 0=>(1,2)
 | n+1=>((lp n).2,(lp n).1+(lp n).2)
def ll (n:Nat):Nat:=(lp n).1
def ls (n:Nat):Nat:=9*(ll n / 2)+ll n % 2
theorem ll_2 (n:Nat):ll (n+2)=ll n+ll (n+1):=rfl
theorem zev:∀ n,ll n<=ll (n+1)
 | 0=>by decide
 | n+1=>by rw [show n+1+1=n+2 from rfl,ll_2];lia
theorem zi7 {a b:Nat} (h:a<=b):ll a<=ll b:=by
 induction h with
 | refl=>exact Nat.le_refl _
 | step h ih=>exact Nat.le_trans ih (zev _)
theorem zfM {a b:Nat} (h:a<=b):ls a<=ls b:=by
 have:=zi7 h
 unfold ls;lia
theorem yha {i j a b:Nat} (h1:i<=j+1) (h2:j<=i+1) (u1:ll i<=a) (u2:ll j<=b):ll (max i j+1)<=a+b:=by
 rcases Nat.lt_trichotomy i j with c | c | c
 ·have e':j=i+1:=Nat.le_antisymm h2 c
  subst e'
  rw [Nat.max_eq_right (Nat.le_succ i),ll_2];exact Nat.add_le_add u1 u2
 ·subst c
  rw [Nat.max_self]
  refine Nat.le_trans ?_ (Nat.add_le_add u1 u2)
  cases i with
  | zero=>exact Nat.le_refl 2
  | succ k=>rw [show k+1+1=k+2 from rfl,ll_2];exact Nat.add_le_add_right (zev k) _
 ·have e':i=j+1:=Nat.le_antisymm h1 c
  subst e'
  rw [Nat.max_eq_left (Nat.le_succ j),ll_2,Nat.add_comm];exact Nat.add_le_add u1 u2
theorem yhb {x y:Int} {a b:Nat} (hx:0<=x) (hy:0<=y) (q:(x-y).natAbs<=1) (u1:ll x.toNat<=a) (u2:ll y.toNat<=b):ll (max x y+1).toNat<=a+b:=by
 obtain ⟨i,rfl⟩:=Int.eq_ofNat_of_zero_le hx
 obtain ⟨j,rfl⟩:=Int.eq_ofNat_of_zero_le hy
 have e:(max (i:Int) j+1).toNat=max i j+1:=by clear u1 u2 q;lia
 rw [e]
 exact yha (by clear u1 u2 e;lia) (by clear u1 u2 e;lia) u1 u2
theorem Good.lv {ps:List Pc} (g:Good ps):∀ n m x f l,Tx ps n m x f l->ll m.ht.toNat<=m.lv:=by
 intro n
 induction n using Nat.strongRecOn with
 | ind n ih =>
  intro m x f l T
  have hn:=T.n1
  have hle:=T.le
  obtain ⟨i,rfl⟩:∃ i,n=i+1:=⟨n-1,by lia⟩
  obtain ⟨q,eq⟩:∃ q,ps[i]? = some q:=⟨ps[i],by simp⟩
  cases q with
  | leaf y =>
   have z:=(zbx g eq).ms.symm.trans T.ms;cases z
   exact Nat.le_refl 1
  | fork a b =>
   have ok':ForkOk (ps.take i) a b:=g.get eq
   have li:(ps.take i).length=i:=by simp;lia
   obtain ⟨ma,mb,la,fb,q1,q2,q3,q4,q5,q6,q7⟩:=ok'.ex
   have ba:=(List.getElem?_eq_some_iff.mp q1).1
   have bb:=(List.getElem?_eq_some_iff.mp q2).1
   rw [zar,li] at ba bb
   obtain ⟨ma',x1,fa,la',A⟩:=g.tx a ok'.pa (by lia)
   obtain ⟨mb',y1,fb',lb,B⟩:=g.tx b ok'.pb (by lia)
   have tp:=zbL ps i
   have z1:=A.ms.symm.trans (zac tp q1);cases z1
   have z2:=B.ms.symm.trans (zac tp q2);cases z2
   have u1:=ih a (by lia) _ _ _ _ A
   have u2:=ih b (by lia) _ _ _ _ B
   have z:=(zby g eq A B).ms.symm.trans T.ms;cases z
   exact yhb A.ky.ht B.ky.ht q6 u1 u2
theorem Tx.ls {ps:List Pc} (g:Good ps) {n:Nat} {m:Ms} {x:Str} {f l:Ms} (T:Tx ps n m x f l):Sk.ls m.ht.toNat<=m.sg:=by
 have u:=g.lv _ _ _ _ _ T
 have f1:=T.ky.f1
 unfold Sk.ls
 obtain ⟨k,⟨e,a,_⟩ | ⟨e,a,_⟩⟩:=T.ky.cnt
 ·rw [e] at u;generalize ll m.ht.toNat=q at *;clear e;lia
 ·rw [e] at u;generalize ll m.ht.toNat=q at *;clear e;lia
theorem yh9:1000000000000000000<ls 101:=by decide +kernel
theorem zhY {ps:List Pc} (g:Good ps) {n:Nat} {m:Ms} {x:Str} {f l:Ms} (T:Tx ps n m x f l):m.ht.toNat<=200:=by
 refine Nat.le_of_not_lt fun z=>?_
 have a:=T.ls g
 have b:=zfM (show 101<=m.ht.toNat by lia)
 have c:=yh9
 have d:=T.ky.most
 lia
theorem Good.kind {ps:List Pc} (g:Good ps) {n:Nat} {m:Ms} {x:Str} {f l:Ms} (T:Tx ps n m x f l) :
  (ps[n-1]? = some (.leaf x)/\m.ht=0/\m=lfMs x n/\1<=x.length/\x.length<=8)\/∃ a b ma mb y z fa la fb lb,ps[n-1]? = some (.fork a b)/\a<n/\b<n/\Tx ps a ma y fa la/\Tx ps b mb z fb lb/\x=y++z/\m=ydn ma mb/\(ma.ht-mb.ht).natAbs<=1:=by
 have hn:=T.n1
 have hle:=T.le
 obtain ⟨i,rfl⟩:∃ i,n=i+1:=⟨n-1,by lia⟩
 obtain ⟨q,eq⟩:∃ q,ps[i]? = some q:=⟨ps[i],by simp⟩
 cases q with
 | leaf y =>
  have L:=zbx g eq
  have z:=L.ms.symm.trans T.ms;cases z
  have z2:=L.rd.symm.trans T.rd;cases z2
  have ok:ybx x=true:=g.get eq
  obtain ⟨s1,s2,s3⟩:=zb3 ok
  exact .inl ⟨eq,rfl,rfl,s1,s2⟩
 | fork a b =>
  have ok':ForkOk (ps.take i) a b:=g.get eq
  have li:(ps.take i).length=i:=by simp;lia
  obtain ⟨ma,mb,la,fb,q1,q2,q3,q4,q5,q6,q7⟩:=ok'.ex
  have ba:=(List.getElem?_eq_some_iff.mp q1).1
  have bb:=(List.getElem?_eq_some_iff.mp q2).1
  rw [zar,li] at ba bb
  obtain ⟨ma',y,fa,la',A⟩:=g.tx a ok'.pa (by lia)
  obtain ⟨mb',z,fb',lb,B⟩:=g.tx b ok'.pb (by lia)
  have tp:=zbL ps i
  have z1:=A.ms.symm.trans (zac tp q1);cases z1
  have z2:=B.ms.symm.trans (zac tp q2);cases z2
  have F:=zby g eq A B
  have z3:=F.ms.symm.trans T.ms;cases z3
  have z4:=F.rd.symm.trans T.rd;cases z4
  exact .inr ⟨a,b,ma,mb,y,z,fa,la',fb',lb,eq,by lia,by lia,A,B,rfl,rfl,q6⟩
theorem zbi {h:AH} {p:Nat} {ps:List Pc} {n:Nat} {q:Pc} (S:ShelfAt h p ps) (n1:1<=n) (e:ps[n-1]? = some q):yax [.ref p,.int n] h = .ok q.av h:=by
 have:=zi4 S e
 rw [show ((n-1:Nat):Int)+1=(n:Int) by lia] at this
 exact this
theorem hs1 {m a b:Int} (e:m=max a b+1) (ha:0<=a) (hb:0<=b):∃ j:Nat,m.toNat=j+1/\a.toNat<=j/\b.toNat<=j/\0<m:=by
 obtain ⟨x,rfl⟩:=Int.eq_ofNat_of_zero_le ha
 obtain ⟨y,rfl⟩:=Int.eq_ofNat_of_zero_le hb
 subst e
 exact ⟨max x y,by lia,Nat.le_max_left _ _,Nat.le_max_right _ _,by lia⟩
end Sk
namespace Sk
open PySem PySem.Spec L2 Sm
theorem zaf {x y:Str} (e:x.cps.toList=y.cps.toList):x=y:=by
 cases x;cases y
 simpa using e
theorem zah (x y z:Str):(x++y)++z=x++(y++z):=zaf (by simp only [zae,List.append_assoc])
theorem ls83:1000000000000000000<ls 83:=by decide +kernel
theorem ht82 {ps:List Pc} (g:Good ps) {n:Nat} {m:Ms} {x:Str} {f l:Ms} (T:Tx ps n m x f l):m.ht<=82:=by
 have h1:=T.ls g
 have h2:=T.ky.most
 have h3:=T.ky.ht
 apply Classical.byContradiction
 intro h4
 have:=zfM (show 83<=m.ht.toNat by lia)
 have:=ls83
 lia
theorem Good.cut {ps:List Pc} (g:Good ps) {n:Nat} {m:Ms} {x:Str} {f l:Ms} (T:Tx ps n m x f l) (hh:0<m.ht) :
  ∃ a b ma mb y z la fb,ps[n-1]? = some (.fork a b)/\Tx ps a ma y f la/\Tx ps b mb z fb l/\x=y++z/\m=ydn ma mb /\ -1<=ma.ht-mb.ht/\ma.ht-mb.ht<=1/\8<la.sg+fb.sg:=by
 rcases g.kind T with ⟨_,e,_⟩ | ⟨a,b,ma,mb,y,z,fa,la,fb,lb,e1,e2,e3,A,B,e4,e5,e6⟩
 ·lia
 ·have ok:ForkOk (ps.take (n-1)) a b:=g.get e1
  obtain ⟨ma',mb',la',fb',q1,q2,q3,q4,q5,_⟩:=(ok.pre (zbL ps _)).ex
  have z1:=A.ms.symm.trans q1;cases z1
  have z2:=B.ms.symm.trans q2;cases z2
  have z3:=A.ky.ll.symm.trans q3;cases z3
  have z4:=B.ky.fl.symm.trans q4;cases z4
  have f1:=T.ky.fl
  have l1:=T.ky.ll
  rw [e5] at f1 l1
  have z5:=f1.symm.trans A.ky.fl;cases z5
  have z6:=l1.symm.trans B.ky.ll;cases z6
  exact ⟨a,b,ma,mb,y,z,la,fb,e1,A,B,e4,e5,by lia,by lia,q5⟩
structure Dn (F:AH->Out AV) (p:Nat) (h h':AH) (ps ps':List Pc) (k n:Nat):Prop where
 ev:F h = .ok (.int n) h'
 dd:Dd p h h' ps ps' k
 re:∀ h2 ps2,ShelfAt h2 p ps2->Good ps2->ps' <+: ps2->F h2 = .ok (.int n) h2
theorem Dd.trans {p:Nat} {h h' h'':AH} {ps ps' ps'':List Pc} {k k' k2:Nat} (a:Dd p h h' ps ps' k) (b:Dd p h' h'' ps' ps'' k') (hk:k+k'<=k2):Dd p h h'' ps ps'' k2 :=
 ⟨b.sh,b.gd,a.pre.trans b.pre,by have:=a.len;have:=b.len;lia,fun i hi=>(b.fr i hi).trans (a.fr i hi),b.hl.trans a.hl⟩
theorem Dd.refl {p:Nat} {h:AH} {ps:List Pc} (S:ShelfAt h p ps) (g:Good ps):Dd p h h ps ps 0:=⟨S,g,List.prefix_refl _,by lia,fun _ _=>rfl,rfl⟩
theorem Dn.seq {F F1:AH->Out AV} {F2:AV->AH->Out AV} {p:Nat} {h h1 h2:AH} {ps ps1 ps2:List Pc} {k1 k2 k n1 n2:Nat} (S:ShelfAt h p ps) (g:Good ps) (d1:Dn F1 p h h1 ps ps1 k1 n1) (d2:Dn (F2 (.int n1)) p h1 h2 ps1 ps2 k2 n2)
  (eq:∀ hh pp,ShelfAt hh p pp->Good pp->ps <+: pp->F hh=(F1 hh).bind F2) (hk:k1+k2<=k):Dn F p h h2 ps ps2 k n2:=by
 refine ⟨?_,d1.dd.trans d2.dd hk,fun h3 ps3 S3 g3 p3=>?_⟩
 ·rw [eq h ps S g (List.prefix_refl _),d1.ev];exact d2.ev
 ·rw [eq h3 ps3 S3 g3 (d1.dd.pre.trans (d2.dd.pre.trans p3)),d1.re h3 ps3 S3 g3 (d2.dd.pre.trans p3)]
  exact d2.re h3 ps3 S3 g3 p3
theorem Dn.as {F F1:AH->Out AV} {p:Nat} {h h1:AH} {ps ps1:List Pc} {k1 k n1:Nat} (S:ShelfAt h p ps) (g:Good ps) (d1:Dn F1 p h h1 ps ps1 k1 n1) (eq:∀ hh pp,ShelfAt hh p pp->Good pp->ps <+: pp->F hh=F1 hh) (hk:k1<=k):Dn F p h h1 ps ps1 k n1:=by
 refine ⟨?_,{ d1.dd with len:=Nat.le_trans d1.dd.len (Nat.add_le_add_left hk _) },fun h3 ps3 S3 g3 p3=>?_⟩
 ·rw [eq h ps S g (List.prefix_refl _)];exact d1.ev
 ·rw [eq h3 ps3 S3 g3 (d1.dd.pre.trans p3)];exact d1.re h3 ps3 S3 g3 p3
theorem Dn.val {F:AH->Out AV} {p n:Nat} {h:AH} {ps:List Pc} (S:ShelfAt h p ps) (g:Good ps) (eq:∀ hh pp,ShelfAt hh p pp->Good pp->ps <+: pp->F hh = .ok (.int n) hh):Dn F p h h ps ps 0 n :=
 ⟨eq h ps S g (List.prefix_refl _),Dd.refl S g,fun h3 ps3 S3 g3 p3=>eq h3 ps3 S3 g3 p3⟩
theorem yaL {ps ps':List Pc} (h:ps <+: ps') {i:Nat} {q:Pc} (e:ps[i]? = some q):ps'[i]? = some q:=by
 obtain ⟨r,rfl⟩:=h
 rw [List.getElem?_append_left (List.getElem?_eq_some_iff.mp e).1];exact e
theorem zbz {h:AH} {p:Nat} {ps:List Pc} {x:Str} (S:ShelfAt h p ps) (g:Good ps) (hx:ybx x=true) (hz:ps.length<16000000) :
  ∃ (n:Nat) (ps':List Pc) (h':AH),Dn (yaD [.ref p,.str x]) p h h' ps ps' 1 n/\Tx ps' n (lfMs x n) x (lfMs x n) (lfMs x n):=by
 obtain ⟨s1,s2,s3⟩:=zb3 hx
 have hs:x.length<=sizeLine:=Nat.le_trans s2 (by decide)
 by_cases hq:Pc.leaf x∈ps
 ·obtain ⟨i,hi,e⟩:=List.getElem_of_mem hq
  have e':ps[i]? = some (.leaf x):=by rw [List.getElem?_eq_getElem hi,e]
  exact ⟨i+1,ps,h,⟨zbJ S g.nodup hx hs e',⟨S,g,List.prefix_refl _,by lia,fun _ _=>rfl,rfl⟩,fun h2 ps2 S2 g2 p2=>zbJ S2 g2.nodup hx hs (yaL p2 e')⟩,zbx g e'⟩
 ·have g':Good (ps++[.leaf x]):=.snoc g hq hx
  have e':(ps++[Pc.leaf x])[ps.length]? = some (.leaf x):=by simp
  exact ⟨ps.length+1,_,_,⟨zgf S hx hs hq hz,⟨zbH S,g',List.prefix_append _ _,by simp,fun i hi=>zet hi,zdQ _ _ _⟩,fun h2 ps2 S2 g2 p2=>zbJ S2 g2.nodup hx hs (yaL p2 e')⟩,zbx g' e'⟩
theorem zaA {h:AH} {p:Nat} {ps:List Pc} {a b:Nat} {ma mb fa la fb lb:Ms} {x y:Str} (S:ShelfAt h p ps) (g:Good ps) (A:Tx ps a ma x fa la) (B:Tx ps b mb y fb lb) (hc:8<la.sg+fb.sg) (v1 : -1<=ma.ht-mb.ht) (v2:ma.ht-mb.ht<=1) (hm:ma.sg+mb.sg<=1000000000000000000) (hz:ps.length<16000000) :
  ∃ (n:Nat) (ps':List Pc) (h':AH),Dn (yaf [.ref p,.int a,.int b]) p h h' ps ps' 1 n/\Tx ps' n (ydn ma mb) (x++y) fa lb:=by
 have F:ForkOk ps a b:=⟨A.n1,B.n1,ma,mb,la,fb,A.ms,B.ms,A.ky.ll,B.ky.fl,hc,by lia,hm⟩
 by_cases hq:Pc.fork a b∈ps
 ·obtain ⟨i,hi,e⟩:=List.getElem_of_mem hq
  have e':ps[i]? = some (.fork a b):=by rw [List.getElem?_eq_getElem hi,e]
  exact ⟨i+1,ps,h,⟨zbK S g.nodup F e',⟨S,g,List.prefix_refl _,by lia,fun _ _=>rfl,rfl⟩,fun h2 ps2 S2 g2 p2=>zbK S2 g2.nodup (F.pre p2) (yaL p2 e')⟩,zby g e' A B⟩
 ·have g':Good (ps++[.fork a b]):=.snoc g hq F
  have e':(ps++[Pc.fork a b])[ps.length]? = some (.fork a b):=by simp
  have pr:ps <+: ps++[Pc.fork a b]:=List.prefix_append _ _
  exact ⟨ps.length+1,_,_,⟨zgg S F hq hz,⟨zbH S,g',pr,by simp,fun i hi=>zet hi,zdQ _ _ _⟩,fun h2 ps2 S2 g2 p2=>zbK S2 g2.nodup (F.pre (pr.trans p2)) (yaL p2 e')⟩,zby g' e' (A.pre pr) (B.pre pr)⟩
theorem fmS (ma mb:Ms):(ydn ma mb).sg=ma.sg+mb.sg:=rfl
theorem fmH (ma mb:Ms):(ydn ma mb).ht=max ma.ht mb.ht+1:=rfl
theorem i1 (s:Str) (a b:Int) (h:AH):fIx (.tup [.str s,.int a,.int b]) (.int 1) h = .ok (.int a) h:=rfl
theorem i2 (s:Str) (a b:Int) (h:AH):fIx (.tup [.str s,.int a,.int b]) (.int 2) h = .ok (.int b) h:=rfl
theorem zax {h:AH} {p:Nat} {ps:List Pc} {n a b:Nat} (S:ShelfAt h p ps) (n1:1<=n) (e:ps[n-1]? = some (.fork a b)):yax [.ref p,.int n] h = .ok (.tup [.str "fork",.int a,.int b]) h:=zbi S n1 e
theorem tl_1 {h:AH} {p:Nat} {ps:List Pc} {a b:Nat} {ma mb:Ms} (S:ShelfAt h p ps) (ea:(meas ps)[a]? = some ma) (eb:(meas ps)[b]? = some mb) (hd:mb.ht-ma.ht<2) :
  yaO [.ref p,.int a,.int b] h=yaf [.ref p,.int a,.int b] h:=by
 have f1:=zag S ea
 have f2:=zag S eb
 generalize hF:yaf [.ref p,.int a,.int b] h=R
 simp [yaO,S.ob,f1,f2,hd,hF]
 cases R<;>rfl
theorem tl_2 {h:AH} {p:Nat} {ps:List Pc} {a b c d:Nat} {ma mb mc md:Ms} (S:ShelfAt h p ps) (b1:1<=b) (ea:(meas ps)[a]? = some ma) (eb:(meas ps)[b]? = some mb) (e:ps[b-1]? = some (.fork c d)) (ec:(meas ps)[c]? = some mc) (ed:(meas ps)[d]? = some md) (hd : ¬ mb.ht-ma.ht<2) (hh:mc.ht<=md.ht) :
  yaO [.ref p,.int a,.int b] h=(yaf [.ref p,.int a,.int c] h).bind fun v h1=>yaf [.ref p,v,.int d] h1:=by
 have f1:=zag S ea
 have f2:=zag S eb
 have f3:=zax S b1 e
 have f4:=zag S ec
 have f5:=zag S ed
 generalize hF:yaf [.ref p,.int a,.int c] h=R
 simp [yaO,S.ob,f1,f2,hd,f3,i1,i2,f4,f5,hh,hF,-fIx]
 cases R with
 | ok v h1=>dsimp only;cases yaf [.ref p,v,.int d] h1<;>rfl
 | ex c h1=>rfl
 | bad=>rfl
def onSh (p:Nat) (F:AH->Out AV) (h:AH):Out AV:=match h[p]? with
 | some (.ins c' _)=>if c'=0 then F h else .bad
 | _=>.bad
theorem zfN {h:AH} {p:Nat} {ps:List Pc} (S:ShelfAt h p ps) (F:AH->Out AV):onSh p F h=F h:=by simp [onSh,S.ob]
theorem tl_3 {h:AH} {p:Nat} {ps:List Pc} {a b c d i j:Nat} {ma mb mc md:Ms} (S:ShelfAt h p ps) (b1:1<=b) (c1:1<=c) (ea:(meas ps)[a]? = some ma) (eb:(meas ps)[b]? = some mb) (e:ps[b-1]? = some (.fork c d)) (ec:(meas ps)[c]? = some mc) (ed:(meas ps)[d]? = some md) (e2:ps[c-1]? = some (.fork i j)) (hd : ¬ mb.ht-ma.ht<2) (hh : ¬ mc.ht<=md.ht) :
  yaO [.ref p,.int a,.int b] h=(yaf [.ref p,.int a,.int i] h).bind fun v h1=>(onSh p (yaf [.ref p,.int j,.int d]) h1).bind fun w h2=>yaf [.ref p,v,w] h2:=by
 have f1:=zag S ea
 have f2:=zag S eb
 have f3:=zax S b1 e
 have f4:=zag S ec
 have f5:=zag S ed
 have f6:=zax S c1 e2
 generalize hF:yaf [.ref p,.int a,.int i] h=R
 simp [yaO,S.ob,f1,f2,hd,f3,i1,i2,f4,f5,hh,f6,hF,-fIx]
 cases R with
 | ok v h1 =>
  unfold onSh
  dsimp only
  cases hx:h1[p]? with
  | none=>rfl
  | some o =>
   cases o with
   | lst l=>rfl
   | dct q l=>rfl
   | ins c' l =>
    dsimp only
    by_cases z:c'=0
    ·rw [if_pos z]
     cases yaf [.ref p,.int j,.int d] h1 with
     | ok w h2=>dsimp only;cases yaf [.ref p,v,w] h2<;>rfl
     | ex c h2=>rfl
     | bad=>rfl
    ·rw [if_neg z]
 | ex c h1=>rfl
 | bad=>rfl
theorem tlh1 {a b m:Int} (h1 : -1<=b-a) (h2:b-a<2) (e:m=max a b+1):max a b<=m/\m<=max a b+1/\(b-a<=1->m=max a b+1):=by lia
theorem zfO {h:AH} {p:Nat} {ps:List Pc} {a b:Nat} {ma mb fa la fb lb:Ms} {x y:Str} (S:ShelfAt h p ps) (g:Good ps) (A:Tx ps a ma x fa la) (B:Tx ps b mb y fb lb) (hc:8<la.sg+fb.sg) (v1 : -1<=mb.ht-ma.ht) (v2:mb.ht-ma.ht<=2) (hm:ma.sg+mb.sg<=1000000000000000000) (hz:ps.length+3<16000000) :
  ∃ (n:Nat) (ps':List Pc) (h':AH) (m:Ms),Dn (yaO [.ref p,.int a,.int b]) p h h' ps ps' 3 n/\Tx ps' n m (x++y) fa lb/\max ma.ht mb.ht<=m.ht/\m.ht<=max ma.ht mb.ht+1/\(mb.ht-ma.ht<=1->m.ht=max ma.ht mb.ht+1):=by
 by_cases q:mb.ht-ma.ht<2
 ·obtain ⟨n,ps',h',d,T⟩:=zaA S g A B hc (by lia) (by lia) hm (by lia)
  exact ⟨n,ps',h',_,d.as S g (fun hh pp S' _ pr=>tl_1 S' (zac pr A.ms) (zac pr B.ms) q) (by lia),T,tlh1 v1 q (fmH ma mb)⟩
 ·obtain ⟨c,d,mc,md,y1,y2,lc,fd,e,C,D,rfl,em,w1,w2,w3⟩:=g.cut B (by have:=A.ky.ht;lia)
  have sg:=congrArg Ms.sg em
  have ht:=congrArg Ms.ht em
  rw [fmS] at sg
  rw [fmH] at ht
  by_cases r:mc.ht<=md.ht
  ·obtain ⟨n1,ps1,h1,d1,T1⟩:=zaA S g A C hc (by lia) (by lia) (by lia) (by lia)
   obtain ⟨n2,ps2,h2,d2,T2⟩:=zaA d1.dd.sh d1.dd.gd T1 (D.pre d1.dd.pre) w3 (by rw [fmH];lia) (by rw [fmH];lia) (by rw [fmS];lia) (by have:=d1.dd.len;lia)
   rw [zah] at T2
   refine ⟨n2,ps2,h2,_,Dn.seq S g d1 d2 (fun hh pp S' _ pr=>tl_2 S' B.n1 (zac pr A.ms) (zac pr B.ms) (yaL pr e) (zac pr C.ms) (zac pr D.ms) q r) (by lia),T2,?_⟩
   rw [fmH,fmH];lia
  ·obtain ⟨i,j,mi,mj,z1,z2,li,fj,e2,I,J,rfl,em2,u1,u2,u3⟩:=g.cut C (by have:=D.ky.ht;lia)
   have sg2:=congrArg Ms.sg em2
   have ht2:=congrArg Ms.ht em2
   rw [fmS] at sg2
   rw [fmH] at ht2
   obtain ⟨n1,ps1,h1,d1,T1⟩:=zaA S g A I hc (by lia) (by lia) (by lia) (by lia)
   obtain ⟨n2,ps2,h2,d2,T2⟩:=zaA d1.dd.sh d1.dd.gd (J.pre d1.dd.pre) (D.pre d1.dd.pre) w3 (by lia) (by lia) (by lia) (by have:=d1.dd.len;lia)
   obtain ⟨n3,ps3,h3,d3,T3⟩:=zaA d2.dd.sh d2.dd.gd (T1.pre d2.dd.pre) T2 u3 (by rw [fmH,fmH];lia) (by rw [fmH,fmH];lia) (by rw [fmS,fmS];lia) (by have:=d1.dd.len;have:=d2.dd.len;lia)
   have d2':Dn (onSh p (yaf [.ref p,.int j,.int d])) p h1 h2 ps1 ps2 1 n2:=d2.as d1.dd.sh d1.dd.gd (fun hh pp S' _ _=>zfN S' _) (Nat.le_refl _)
   have d23:=Dn.seq (F:=fun h1=>(onSh p (yaf [.ref p,.int j,.int d]) h1).bind fun w h2=>yaf [.ref p,.int n1,w] h2) (F2:=fun w h2=>yaf [.ref p,.int n1,w] h2) d1.dd.sh d1.dd.gd d2' d3 (fun _ _ _ _ _=>rfl) (k:=2) (by lia)
   have ea:(x++z1)++(z2++y2)=x++(z1++z2++y2):=by rw [zah,zah]
   rw [ea] at T3
   refine ⟨n3,ps3,h3,_,Dn.seq (F2:=fun v h1=>(onSh p (yaf [.ref p,.int j,.int d]) h1).bind fun w h2=>yaf [.ref p,v,w] h2) S g d1 d23 (fun hh pp S' _ pr=>tl_3 S' B.n1 C.n1 (zac pr A.ms) (zac pr B.ms) (yaL pr e) (zac pr C.ms) (zac pr D.ms) (yaL pr e2) q r) (by lia),T3,?_⟩
   rw [fmH,fmH,fmH];lia
theorem tr_1 {h:AH} {p:Nat} {ps:List Pc} {a b:Nat} {ma mb:Ms} (S:ShelfAt h p ps) (ea:(meas ps)[a]? = some ma) (eb:(meas ps)[b]? = some mb) (hd:ma.ht-mb.ht<2) :
  yaT [.ref p,.int a,.int b] h=yaf [.ref p,.int a,.int b] h:=by
 have f1:=zag S ea
 have f2:=zag S eb
 generalize hF:yaf [.ref p,.int a,.int b] h=R
 simp [yaT,S.ob,f1,f2,hd,hF]
 cases R<;>rfl
theorem tr_2 {h:AH} {p:Nat} {ps:List Pc} {a b c d:Nat} {ma mb mc md:Ms} (S:ShelfAt h p ps) (a1:1<=a) (ea:(meas ps)[a]? = some ma) (eb:(meas ps)[b]? = some mb) (e:ps[a-1]? = some (.fork c d)) (ec:(meas ps)[c]? = some mc) (ed:(meas ps)[d]? = some md) (hd : ¬ ma.ht-mb.ht<2) (hh:md.ht<=mc.ht) :
  yaT [.ref p,.int a,.int b] h=(yaf [.ref p,.int d,.int b] h).bind fun v h1=>yaf [.ref p,.int c,v] h1:=by
 have f1:=zag S ea
 have f2:=zag S eb
 have f3:=zax S a1 e
 have f4:=zag S ec
 have f5:=zag S ed
 generalize hF:yaf [.ref p,.int d,.int b] h=R
 simp [yaT,S.ob,f1,f2,hd,f3,i1,i2,f4,f5,hh,hF,-fIx]
 cases R with
 | ok v h1=>dsimp only;cases yaf [.ref p,.int c,v] h1<;>rfl
 | ex c h1=>rfl
 | bad=>rfl
theorem tr_3 {h:AH} {p:Nat} {ps:List Pc} {a b c d i j:Nat} {ma mb mc md:Ms} (S:ShelfAt h p ps) (a1:1<=a) (d1:1<=d) (ea:(meas ps)[a]? = some ma) (eb:(meas ps)[b]? = some mb) (e:ps[a-1]? = some (.fork c d)) (ec:(meas ps)[c]? = some mc) (ed:(meas ps)[d]? = some md) (e2:ps[d-1]? = some (.fork i j)) (hd : ¬ ma.ht-mb.ht<2) (hh : ¬ md.ht<=mc.ht) :
  yaT [.ref p,.int a,.int b] h=(yaf [.ref p,.int c,.int i] h).bind fun v h1=>(onSh p (yaf [.ref p,.int j,.int b]) h1).bind fun w h2=>yaf [.ref p,v,w] h2:=by
 have f1:=zag S ea
 have f2:=zag S eb
 have f3:=zax S a1 e
 have f4:=zag S ec
 have f5:=zag S ed
 have f6:=zax S d1 e2
 generalize hF:yaf [.ref p,.int c,.int i] h=R
 simp [yaT,S.ob,f1,f2,hd,f3,i1,i2,f4,f5,hh,f6,hF,-fIx]
 cases R with
 | ok v h1 =>
  unfold onSh
  dsimp only
  cases hx:h1[p]? with
  | none=>rfl
  | some o =>
   cases o with
   | lst l=>rfl
   | dct q l=>rfl
   | ins c' l =>
    dsimp only
    by_cases z:c'=0
    ·rw [if_pos z]
     cases yaf [.ref p,.int j,.int b] h1 with
     | ok w h2=>dsimp only;cases yaf [.ref p,v,w] h2<;>rfl
     | ex c h2=>rfl
     | bad=>rfl
    ·rw [if_neg z]
 | ex c h1=>rfl
 | bad=>rfl
theorem zhZ {h:AH} {p:Nat} {ps:List Pc} {a b:Nat} {ma mb fa la fb lb:Ms} {x y:Str} (S:ShelfAt h p ps) (g:Good ps) (A:Tx ps a ma x fa la) (B:Tx ps b mb y fb lb) (hc:8<la.sg+fb.sg) (v1 : -1<=ma.ht-mb.ht) (v2:ma.ht-mb.ht<=2) (hm:ma.sg+mb.sg<=1000000000000000000) (hz:ps.length+3<16000000) :
  ∃ (n:Nat) (ps':List Pc) (h':AH) (m:Ms),Dn (yaT [.ref p,.int a,.int b]) p h h' ps ps' 3 n/\Tx ps' n m (x++y) fa lb/\max ma.ht mb.ht<=m.ht/\m.ht<=max ma.ht mb.ht+1/\(ma.ht-mb.ht<=1->m.ht=max ma.ht mb.ht+1):=by
 by_cases q:ma.ht-mb.ht<2
 ·obtain ⟨n,ps',h',d,T⟩:=zaA S g A B hc (by lia) (by lia) hm (by lia)
  refine ⟨n,ps',h',_,d.as S g (fun hh pp S' _ pr=>tr_1 S' (zac pr A.ms) (zac pr B.ms) q) (by lia),T,?_⟩
  rw [fmH];lia
 ·obtain ⟨c,d,mc,md,y1,y2,lc,fd,e,C,D,rfl,em,w1,w2,w3⟩:=g.cut A (by have:=B.ky.ht;lia)
  have sg:=congrArg Ms.sg em
  have ht:=congrArg Ms.ht em
  rw [fmS] at sg
  rw [fmH] at ht
  by_cases r:md.ht<=mc.ht
  ·obtain ⟨n1,ps1,h1,d1,T1⟩:=zaA S g D B hc (by lia) (by lia) (by lia) (by lia)
   obtain ⟨n2,ps2,h2,d2,T2⟩:=zaA d1.dd.sh d1.dd.gd (C.pre d1.dd.pre) T1 w3 (by rw [fmH];lia) (by rw [fmH];lia) (by rw [fmS];lia) (by have:=d1.dd.len;lia)
   rw [<- zah] at T2
   refine ⟨n2,ps2,h2,_,Dn.seq (F2:=fun v h1=>yaf [.ref p,.int c,v] h1) S g d1 d2 (fun hh pp S' _ pr=>tr_2 S' A.n1 (zac pr A.ms) (zac pr B.ms) (yaL pr e) (zac pr C.ms) (zac pr D.ms) q r) (by lia),T2,?_⟩
   rw [fmH,fmH];lia
  ·obtain ⟨i,j,mi,mj,z1,z2,li,fj,e2,I,J,rfl,em2,u1,u2,u3⟩:=g.cut D (by have:=C.ky.ht;lia)
   have sg2:=congrArg Ms.sg em2
   have ht2:=congrArg Ms.ht em2
   rw [fmS] at sg2
   rw [fmH] at ht2
   obtain ⟨n1,ps1,h1,d1,T1⟩:=zaA S g C I w3 (by lia) (by lia) (by lia) (by lia)
   obtain ⟨n2,ps2,h2,d2,T2⟩:=zaA d1.dd.sh d1.dd.gd (J.pre d1.dd.pre) (B.pre d1.dd.pre) hc (by lia) (by lia) (by lia) (by have:=d1.dd.len;lia)
   obtain ⟨n3,ps3,h3,d3,T3⟩:=zaA d2.dd.sh d2.dd.gd (T1.pre d2.dd.pre) T2 u3 (by rw [fmH,fmH];lia) (by rw [fmH,fmH];lia) (by rw [fmS,fmS];lia) (by have:=d1.dd.len;have:=d2.dd.len;lia)
   have d2':Dn (onSh p (yaf [.ref p,.int j,.int b])) p h1 h2 ps1 ps2 1 n2:=d2.as d1.dd.sh d1.dd.gd (fun hh pp S' _ _=>zfN S' _) (Nat.le_refl _)
   have d23:=Dn.seq (F:=fun h1=>(onSh p (yaf [.ref p,.int j,.int b]) h1).bind fun w h2=>yaf [.ref p,.int n1,w] h2) (F2:=fun w h2=>yaf [.ref p,.int n1,w] h2) d1.dd.sh d1.dd.gd d2' d3 (fun _ _ _ _ _=>rfl) (k:=2) (by lia)
   have ea:(y1++z1)++(z2++y)=y1++(z1++z2)++y:=by rw [zah,zah,zah]
   rw [ea] at T3
   refine ⟨n3,ps3,h3,_,Dn.seq (F2:=fun v h1=>(onSh p (yaf [.ref p,.int j,.int b]) h1).bind fun w h2=>yaf [.ref p,v,w] h2) S g d1 d23 (fun hh pp S' _ pr=>tr_3 S' A.n1 D.n1 (zac pr A.ms) (zac pr B.ms) (yaL pr e) (zac pr C.ms) (zac pr D.ms) (yaL pr e2) q r) (by lia),T3,?_⟩
   rw [fmH,fmH,fmH];lia
end Sk
namespace Sk
open PySem PySem.Spec L2 Sm
theorem Dn.seq' {F F1 F2:AH->Out AV} {p:Nat} {h h1 h2:AH} {ps ps1 ps2:List Pc} {k1 k2 k n1 n2:Nat} (S:ShelfAt h p ps) (g:Good ps) (d1:Dn F1 p h h1 ps ps1 k1 n1) (d2:Dn F2 p h1 h2 ps1 ps2 k2 n2)
  (eq:∀ hh hh1 pp,ShelfAt hh p pp->Good pp->ps <+: pp->F1 hh = .ok (.int n1) hh1->F hh=F2 hh1) (hk:k1+k2<=k):Dn F p h h2 ps ps2 k n2:=by
 refine ⟨?_,d1.dd.trans d2.dd hk,fun h3 ps3 S3 g3 p3=>?_⟩
 ·rw [eq h h1 ps S g (List.prefix_refl _) d1.ev];exact d2.ev
 ·rw [eq h3 h3 ps3 S3 g3 (d1.dd.pre.trans (d2.dd.pre.trans p3)) (d1.re h3 ps3 S3 g3 (d2.dd.pre.trans p3))]
  exact d2.re h3 ps3 S3 g3 p3
theorem lk_1 {h:AH} {p:Nat} {ps:List Pc} {a b d:Nat} {ma mb:Ms} (S:ShelfAt h p ps) (ea:(meas ps)[a]? = some ma) (eb:(meas ps)[b]? = some mb) (h1:ma.ht-mb.ht<=1) (h2 : -1<=ma.ht-mb.ht) :
  ya7 (d+1) [.ref p,.int a,.int b] h=yaf [.ref p,.int a,.int b] h:=by
 have f1:=zag S ea
 have f2:=zag S eb
 have c1 : ¬ 1<ma.ht-mb.ht:=by lia
 have c2 : ¬ ma.ht-mb.ht < -1:=by lia
 generalize hF:yaf [.ref p,.int a,.int b] h=R
 simp [ya7,ydT,S.ob,f1,f2,c1,c2,hF]
 cases R<;>rfl
theorem lk_2 {h h1:AH} {p:Nat} {ps:List Pc} {a b c e d:Nat} {v:Int} {ma mb:Ms} (S:ShelfAt h p ps) (a1:1<=a) (ea:(meas ps)[a]? = some ma) (eb:(meas ps)[b]? = some mb) (ep:ps[a-1]? = some (.fork c e)) (hd:1<ma.ht-mb.ht) (ev:ya7 d [.ref p,.int e,.int b] h = .ok (.int v) h1) :
  ya7 (d+1) [.ref p,.int a,.int b] h=yaO [.ref p,.int c,.int v] h1:=by
 have f1:=zag S ea
 have f2:=zag S eb
 have f3:=zax S a1 ep
 generalize hF:yaO [.ref p,.int c,.int v] h1=R
 simp [ya7,ydT,S.ob,f1,f2,hd,f3,i1,i2,ev,hF,-fIx]
 cases R<;>rfl
theorem lk_3 {h h1:AH} {p:Nat} {ps:List Pc} {a b c e d:Nat} {v:Int} {ma mb:Ms} (S:ShelfAt h p ps) (b1:1<=b) (ea:(meas ps)[a]? = some ma) (eb:(meas ps)[b]? = some mb) (ep:ps[b-1]? = some (.fork c e)) (hd:ma.ht-mb.ht < -1) (ev:ya7 d [.ref p,.int a,.int c] h = .ok (.int v) h1) :
  ya7 (d+1) [.ref p,.int a,.int b] h=yaT [.ref p,.int v,.int e] h1:=by
 have f1:=zag S ea
 have f2:=zag S eb
 have f3:=zax S b1 ep
 have c1 : ¬ 1<ma.ht-mb.ht:=by lia
 generalize hF:yaT [.ref p,.int v,.int e] h1=R
 simp [ya7,ydT,S.ob,f1,f2,c1,hd,f3,i1,i2,ev,hF,-fIx]
 cases R<;>rfl
theorem zaR {p:Nat}:∀ (d t:Nat) {h:AH} {ps:List Pc} {a b:Nat} {ma mb fa la fb lb:Ms} {x y:Str} (S:ShelfAt h p ps) (g:Good ps) (A:Tx ps a ma x fa la) (B:Tx ps b mb y fb lb) (hc:8<la.sg+fb.sg) (hm:ma.sg+mb.sg<=1000000000000000000)
  (ht:(ma.ht-mb.ht).natAbs<=t) (hd:t<d) (hz:ps.length+3*t+4<16000000),
  ∃ (n:Nat) (ps':List Pc) (h':AH) (m:Ms),Dn (ya7 d [.ref p,.int a,.int b]) p h h' ps ps' (3*t+1) n/\Tx ps' n m (x++y) fa lb/\max ma.ht mb.ht<=m.ht/\m.ht<=max ma.ht mb.ht+1
 | 0,t,h,ps,a,b,ma,mb,fa,la,fb,lb,x,y,S,g,A,B,hc,hm,ht,hd,hz=>absurd hd (Nat.not_lt_zero t)
 | d+1,t,h,ps,a,b,ma,mb,fa,la,fb,lb,x,y,S,g,A,B,hc,hm,ht,hd,hz=>by
  by_cases q1:1<ma.ht-mb.ht
  ·obtain ⟨c,e,mc,me,y1,y2,lc,fe,ep,C,E,rfl,em,w1,w2,w3⟩:=g.cut A (by have:=B.ky.ht;lia)
   have sg:=congrArg Ms.sg em
   have hh:=congrArg Ms.ht em
   rw [fmS] at sg
   rw [fmH] at hh
   obtain ⟨n1,ps1,h1,m1,d1,T1,u1,u2⟩:=zaR d (t-1) S g E B hc (by lia) (by lia) (by lia) (by lia)
   have s1:m1.sg=me.sg+mb.sg:=by rw [T1.ky.sg,zak,<- E.ky.sg,<- B.ky.sg]
   obtain ⟨n2,ps2,h2,m2,d2,T2,u3,u4,u5⟩:=zfO d1.dd.sh d1.dd.gd (C.pre d1.dd.pre) T1 w3 (by lia) (by lia) (by lia) (by have:=d1.dd.len;lia)
   rw [<- zah] at T2
   exact ⟨n2,ps2,h2,m2,Dn.seq' S g d1 d2 (fun hh hh1 pp S' _ pr ev=>lk_2 S' A.n1 (zac pr A.ms) (zac pr B.ms) (yaL pr ep) q1 ev) (by lia),T2,by lia,by lia⟩
  ·by_cases q2:ma.ht-mb.ht < -1
   ·obtain ⟨c,e,mc,me,y1,y2,lc,fe,ep,C,E,rfl,em,w1,w2,w3⟩:=g.cut B (by have:=A.ky.ht;lia)
    have sg:=congrArg Ms.sg em
    have hh:=congrArg Ms.ht em
    rw [fmS] at sg
    rw [fmH] at hh
    obtain ⟨n1,ps1,h1,m1,d1,T1,u1,u2⟩:=zaR d (t-1) S g A C hc (by lia) (by lia) (by lia) (by lia)
    have s1:m1.sg=ma.sg+mc.sg:=by rw [T1.ky.sg,zak,<- A.ky.sg,<- C.ky.sg]
    obtain ⟨n2,ps2,h2,m2,d2,T2,u3,u4,u5⟩:=zhZ d1.dd.sh d1.dd.gd T1 (E.pre d1.dd.pre) w3 (by lia) (by lia) (by lia) (by have:=d1.dd.len;lia)
    rw [zah] at T2
    exact ⟨n2,ps2,h2,m2,Dn.seq' S g d1 d2 (fun hh hh1 pp S' _ pr ev=>lk_3 S' B.n1 (zac pr A.ms) (zac pr B.ms) (yaL pr ep) q2 ev) (by lia),T2,by lia,by lia⟩
   ·obtain ⟨n,ps',h',dn,T⟩:=zaA S g A B hc (by lia) (by lia) hm (by lia)
    exact ⟨n,ps',h',_,dn.as S g (fun hh pp S' _ pr=>lk_1 S' (zac pr A.ms) (zac pr B.ms) (by lia) (by lia)) (by lia),T,by rw [fmH];lia,by rw [fmH];lia⟩
theorem za2 {h:AH} {p:Nat} {ps:List Pc} {n:Nat} {x:Str} (S:ShelfAt h p ps) (n1:1<=n) (e:ps[n-1]? = some (.leaf x)):yax [.ref p,.int n] h = .ok (.tup [.str "leaf",.str x]) h:=zbi S n1 e
theorem i0L (x:Str) (h:AH):fIx (.tup [.str "leaf",.str x]) (.int 0) h = .ok (.str "leaf") h:=rfl
theorem i0F (a b:Int) (h:AH):fIx (.tup [.str "fork",.int a,.int b]) (.int 0) h = .ok (.str "fork") h:=rfl
theorem i1L (x:Str) (h:AH):fIx (.tup [.str "leaf",.str x]) (.int 1) h = .ok (.str x) h:=rfl
theorem eqL (h:AH):fEq (.str "leaf") (.str "leaf") h = .ok (.bl true) h:=by simp
theorem eqF (h:AH):fEq (.str "fork") (.str "leaf") h = .ok (.bl false) h:=by
 have : ¬ (Str.ofString "fork" = Str.ofString "leaf"):=by decide +kernel
 simp [this]
theorem wl_1 {h:AH} {p:Nat} {ps:List Pc} {a d:Nat} {L:Int} {x:Str} (S:ShelfAt h p ps) (a1:1<=a) (ep:ps[a-1]? = some (.leaf x)):ya8 (d+1) [.ref p,.int a,.int L] h = .ok (.int L) h:=by
 simp [ya8,ydA,S.ob,za2 S a1 ep,i0L,eqL,-fIx,-fEq]
theorem wl_2 {h h1:AH} {p:Nat} {ps:List Pc} {a d c e:Nat} {L v:Int} (S:ShelfAt h p ps) (a1:1<=a) (ep:ps[a-1]? = some (.fork c e)) (ev:ya8 d [.ref p,.int e,.int L] h = .ok (.int v) h1) :
  ya8 (d+1) [.ref p,.int a,.int L] h=yaf [.ref p,.int c,.int v] h1:=by
 generalize hF:yaf [.ref p,.int c,.int v] h1=R
 simp [ya8,ydA,S.ob,zax S a1 ep,i0F,i1,i2,eqF,ev,hF,-fIx,-fEq]
 cases R<;>rfl
theorem zbA {ps:List Pc} {n:Nat} {m:Ms} {x:Str} {f l:Ms} (T:Tx ps n m x f l) (e:m=lfMs x n):f=m/\l=m:=by
 have h1:=T.ky.fl
 have h2:=T.ky.ll
 have h3:=T.ms
 rw [e] at h1 h2
 exact ⟨Option.some.inj (h1.symm.trans h3),Option.some.inj (h2.symm.trans h3)⟩
theorem zdq {p:Nat}:∀ (d:Nat) {h:AH} {ps:List Pc} {a L:Nat} {m f l:Ms} {x w:Str} (S:ShelfAt h p ps) (g:Good ps) (T:Tx ps a m x f l) (N:Tx ps L (lfMs w L) w (lfMs w L) (lfMs w L)) (hw:l.sg<=w.length) (hm:m.sg+w.length<=1000000000000000000+l.sg) (hd:m.ht.toNat<d) (hz:ps.length+m.ht.toNat<16000000),
  ∃ (n:Nat) (ps':List Pc) (h':AH) (m' f':Ms) (u v:Str),Dn (ya8 d [.ref p,.int a,.int L]) p h h' ps ps' m.ht.toNat n/\x=u++v/\v.length=l.sg/\Tx ps' n m' (u++w) f' (lfMs w L)/\m'.ht=m.ht/\f.sg<=f'.sg
 | 0,h,ps,a,L,m,f,l,x,w,S,g,T,N,hw,hm,hd,hz=>absurd hd (Nat.not_lt_zero _)
 | d+1,h,ps,a,L,m,f,l,x,w,S,g,T,N,hw,hm,hd,hz=>by
  by_cases q:0<m.ht
  ·obtain ⟨c,e,mc,me,y1,y2,lc,fe,ep,C,E,rfl,em,w1,w2,w3⟩:=g.cut T q
   have sg:=congrArg Ms.sg em
   have hh:=congrArg Ms.ht em
   rw [fmS] at sg
   rw [fmH] at hh
   have c0:=C.ky.ht
   have e0:=E.ky.ht
   obtain ⟨n1,ps1,h1,m1,f1,u,v,d1,rfl,lv,T1,k1,k2⟩:=zdq d S g E N hw (by lia) (by lia) (by lia)
   have s1:m1.sg+l.sg=me.sg+w.length:=by rw [T1.ky.sg,E.ky.sg,zak,zak];lia
   obtain ⟨n2,ps2,h2,d2,T2⟩:=zaA d1.dd.sh d1.dd.gd (C.pre d1.dd.pre) T1 (by lia) (by lia) (by lia) (by lia) (by have:=d1.dd.len;lia)
   rw [<- zah] at T2
   exact ⟨n2,ps2,h2,_,f,y1++u,v,Dn.seq' S g d1 d2 (fun hh hh1 pp S' _ pr ev=>wl_2 S' T.n1 (yaL pr ep) ev) (by lia),by rw [zah],lv,T2,by rw [fmH,k1,hh],Nat.le_refl _⟩
  ·rcases g.kind T with ⟨e1,e2,e3,e4,e5⟩ | ⟨c,e,mc,me,y1,y2,fc,lc,fe,le,e1,e2,e3,C,E,e4,e5,e6⟩
   ·obtain ⟨z1,z2⟩:=zbA T e3
    subst z1 z2
    have em:("" : Str)++x=x:=zaf (by rw [zae];rfl)
    have em2:("" : Str)++w=w:=zaf (by rw [zae];rfl)
    have dv:Dn (ya8 (d+1) [.ref p,.int a,.int L]) p h h ps ps 0 L:=Dn.val S g fun hh pp S' _ pr=>wl_1 S' T.n1 (yaL pr e1)
    refine ⟨L,ps,h,_,_, "",x,dv.as S g (fun _ _ _ _ _=>rfl) (Nat.zero_le _),em.symm,T.ky.sg.symm,by rw [em2];exact N,e2.symm,hw⟩
   ·have:=congrArg Ms.ht e5
    rw [fmH] at this
    have c0:=C.ky.ht
    lia
theorem wf_1 {h:AH} {p:Nat} {ps:List Pc} {a d:Nat} {x:Str} (S:ShelfAt h p ps) (a1:1<=a) (ep:ps[a-1]? = some (.leaf x)):yaB (d+1) [.ref p,.int a] h = .ok (.int (0:Nat)) h:=by
 simp [yaB,yb7,S.ob,za2 S a1 ep,i0L,eqL,-fIx,-fEq]
theorem wf_2 {h h1:AH} {p:Nat} {ps:List Pc} {a d c e:Nat} (S:ShelfAt h p ps) (a1:1<=a) (ep:ps[a-1]? = some (.fork c e)) (ev:yaB d [.ref p,.int c] h = .ok (.int (0:Nat)) h1) :
  yaB (d+1) [.ref p,.int a] h = .ok (.int e) h1:=by
 have z:fEq (.int 0) (.int 0) h1 = .ok (.bl true) h1:=by simp
 simp [yaB,yb7,S.ob,zax S a1 ep,i0F,i1,i2,eqF,ev,z,-fIx,-fEq]
theorem wf_3 {h h1:AH} {p:Nat} {ps:List Pc} {a d c e v:Nat} (S:ShelfAt h p ps) (a1:1<=a) (ep:ps[a-1]? = some (.fork c e)) (v1:1<=v) (ev:yaB d [.ref p,.int c] h = .ok (.int v) h1) :
  yaB (d+1) [.ref p,.int a] h=yaO [.ref p,.int v,.int e] h1:=by
 have z:fEq (.int (v:Int)) (.int 0) h1 = .ok (.bl false) h1:=by
  have : ¬ (v=0):=by lia
  simp [this]
 generalize hF:yaO [.ref p,.int v,.int e] h1=R
 simp [yaB,yb7,S.ob,zax S a1 ep,i0F,i1,i2,eqF,ev,z,hF,-fIx,-fEq]
 cases R<;>rfl
end Sk
namespace Sk
open PySem PySem.Spec L2 Sm
theorem zcM {p:Nat}:∀ (d:Nat) {h:AH} {ps:List Pc} {a:Nat} {m f l:Ms} {x:Str} (S:ShelfAt h p ps) (g:Good ps) (T:Tx ps a m x f l) (hd:m.ht.toNat<d) (hz:ps.length+3*m.ht.toNat<16000000),
  (m.ht=0/\f.sg=x.length/\Dn (yaB d [.ref p,.int a]) p h h ps ps 0 0) \/
  (0<m.ht/\∃ (n:Nat) (ps':List Pc) (h':AH) (m' f2:Ms) (u v:Str),Dn (yaB d [.ref p,.int a]) p h h' ps ps' (3*m.ht.toNat) n/\x=u++v/\u.length=f.sg/\Tx ps' n m' v f2 l/\m.ht-1<=m'.ht/\m'.ht<=m.ht/\8<f.sg+f2.sg)
 | 0,h,ps,a,m,f,l,x,S,g,T,hd,hz=>absurd hd (Nat.not_lt_zero _)
 | d+1,h,ps,a,m,f,l,x,S,g,T,hd,hz=>by
  by_cases q:0<m.ht
  ·obtain ⟨c,e,mc,me,y1,y2,lc,fe,ep,C,E,rfl,em,w1,w2,w3⟩:=g.cut T q
   have sg:=congrArg Ms.sg em
   have hh:=congrArg Ms.ht em
   rw [fmS] at sg
   rw [fmH] at hh
   have c0:=C.ky.ht
   have e0:=E.ky.ht
   have most:=T.ky.most
   refine .inr ⟨q,?_⟩
   rcases zcM d S g C (by lia) (by lia) with ⟨k1,k2,d1⟩ | ⟨k1,n1,ps1,h1,m1,f2,u,v,d1,rfl,lu,T1,r1,r2,r3⟩
   ·rcases g.kind C with ⟨e1,e2,e3,e4,e5⟩ | ⟨_,_,mx,my,_,_,_,_,_,_,_,_,_,X,Y,_,e5,_⟩
    ·obtain ⟨z1,z2⟩:=zbA C e3
     have dv:Dn (yaB (d+1) [.ref p,.int a]) p h h ps ps 0 e:=by
      refine ⟨wf_2 S T.n1 ep d1.ev,Dd.refl S g,fun h3 ps3 S3 g3 p3=>wf_2 S3 T.n1 (yaL p3 ep) (d1.re h3 ps3 S3 g3 p3)⟩
     exact ⟨e,ps,h,me,fe,y1,y2,dv.as S g (fun _ _ _ _ _=>rfl) (Nat.zero_le _),rfl,k2.symm,E,by lia,by lia,by rw [z1];rw [z2] at w3;exact w3⟩
    ·have:=congrArg Ms.ht e5
     rw [fmH] at this
     have:=X.ky.ht
     lia
   ·have s1:m1.sg+f.sg=mc.sg:=by rw [T1.ky.sg,C.ky.sg,zak];lia
    obtain ⟨n2,ps2,h2,m2,d2,T2,u3,u4,u5⟩:=zfO d1.dd.sh d1.dd.gd T1 (E.pre d1.dd.pre) w3 (by lia) (by lia) (by lia) (by have:=d1.dd.len;lia)
    refine ⟨n2,ps2,h2,m2,f2,u,v++y2,Dn.seq' S g d1 d2 (fun hh hh1 pp S' _ pr ev=>wf_3 S' T.n1 (yaL pr ep) T1.n1 ev) (by lia),by rw [zah],lu,T2,?_,?_,r3⟩
    ·lia
    ·lia
  ·rcases g.kind T with ⟨e1,e2,e3,e4,e5⟩ | ⟨_,_,mx,my,_,_,_,_,_,_,_,_,_,X,Y,_,e5,_⟩
   ·obtain ⟨z1,z2⟩:=zbA T e3
    exact .inl ⟨e2,by rw [z1];exact T.ky.sg,Dn.val S g fun hh pp S' _ pr=>wf_1 S' T.n1 (yaL pr e1)⟩
   ·have:=congrArg Ms.ht e5
    rw [fmH] at this
    have:=X.ky.ht
    lia
theorem Good.ends {ps:List Pc} (g:Good ps):∀ (k n:Nat) {m f l:Ms} {x:Str},n<=k->Tx ps n m x f l ->
  (∃ w u:Str,1<=m.fl/\ps[m.fl-1]? = some (.leaf w)/\x=w++u/\w.length=f.sg)/\(∃ w u:Str,1<=m.ll/\ps[m.ll-1]? = some (.leaf w)/\x=u++w/\w.length=l.sg)
 | 0,n,m,f,l,x,hn,T=>absurd T.n1 (by lia)
 | k+1,n,m,f,l,x,hn,T=>by
  rcases g.kind T with ⟨e1,e2,e3,e4,e5⟩ | ⟨a,b,ma,mb,y,z,fa,la,fb,lb,e1,e2,e3,A,B,rfl,e5,e6⟩
  ·obtain ⟨z1,z2⟩:=zbA T e3
   have em:("" : Str)++x=x:=zaf (by rw [zae];rfl)
   have em2:x++("" : Str)=x:=zaf (by rw [zae];simp;rfl)
   have hf:m.fl=n:=by rw [e3];rfl
   have hl:m.ll=n:=by rw [e3];rfl
   have hx:=T.ky.sg
   refine ⟨⟨x, "",by rw [hf];exact T.n1,by rw [hf];exact e1,em2.symm,by rw [z1];exact hx.symm⟩,⟨x, "",by rw [hl];exact T.n1,by rw [hl];exact e1,em.symm,by rw [z2];exact hx.symm⟩⟩
  ·have q1:=g.ends k a (by lia) A
   have q2:=g.ends k b (by lia) B
   obtain ⟨⟨w,u,a1,a2,rfl,a4⟩,_⟩:=q1
   obtain ⟨_,⟨w2,u2,b1,b2,rfl,b4⟩⟩:=q2
   have f1:=T.ky.fl
   have l1:=T.ky.ll
   have hf:m.fl=ma.fl:=by rw [e5];rfl
   have hl:m.ll=mb.ll:=by rw [e5];rfl
   rw [hf] at f1
   rw [hl] at l1
   have z5:=f1.symm.trans A.ky.fl;cases z5
   have z6:=l1.symm.trans B.ky.ll;cases z6
   rw [hf,hl]
   exact ⟨⟨w,u++(u2++w2),a1,a2,by rw [zah],a4⟩,⟨w2,w++u++u2,b1,b2,by rw [zah (w++u)],b4⟩⟩
theorem zdr {a b c d:Str} (e:a++b=c++d) (h:a.length=c.length):a=c/\b=d:=by
 have:=congrArg (fun z:Str=>z.cps.toList) e
 simp only [zae] at this
 obtain ⟨h1,h2⟩:=List.append_inj this (by rw [<- zad,<- zad];exact h)
 exact ⟨zaf h1,zaf h2⟩
theorem zew {a b c d:Str} (e:a++b=c++d) (h:b.length=d.length):a=c/\b=d:=by
 refine zdr e ?_
 have:=congrArg Str.length e
 rw [zak,zak] at this
 lia
theorem zi8 {h:AH} {p:Nat} {ps:List Pc} {a b:Nat} {ma mb la fb:Ms} (S:ShelfAt h p ps) (ea:(meas ps)[a]? = some ma) (eb:(meas ps)[b]? = some mb) (el:(meas ps)[ma.ll]? = some la) (ef:(meas ps)[mb.fl]? = some fb) :
  ycY [.ref p,.int a,.int b] h = .ok (.bl (decide (8<la.sg+fb.sg))) h:=by
 have e1:=yfN S ea
 have e2:=zfL S eb
 have e3:=zao S el
 have e4:=zao S ef
 have:decide ((8:Int)<(la.sg:Int)+fb.sg)=decide (8<la.sg+fb.sg):=by apply decide_eq_decide.mpr;lia
 simp [ycY,S.ob,e1,e2,e3,e4,this]
theorem zh0 {w v:Str} (hw:w.length+v.length<=100) (h:AH):fAdd (.str w) (.str v) h = .ok (.str (w++v)) h:=by
 have:w.length+v.length<=sizeLine:=Nat.le_trans hw (by decide)
 simp [fAdd,this]
theorem wd_1 {h h1 h2 h3:AH} {p:Nat} {ps:List Pc} {a b:Nat} {L n k:Int} {ma mb:Ms} {w v:Str} (S:ShelfAt h p ps) (ea:(meas ps)[a]? = some ma) (eb:(meas ps)[b]? = some mb) (l1:1<=ma.ll) (f1:1<=mb.fl) (el:ps[ma.ll-1]? = some (.leaf w)) (ef:ps[mb.fl-1]? = some (.leaf v)) (hw:w.length+v.length<=100)
  (e1:yaD [.ref p,.str (w++v)] h = .ok (.int L) h1) (e2:ya8 90 [.ref p,.int a,.int L] h1 = .ok (.int n) h2) (e3:yaB 90 [.ref p,.int b] h2 = .ok (.int k) h3) :
  ycb [.ref p,.int a,.int b] h=if k=0 then .ok (.int n) h3 else ya7 90 [.ref p,.int n,.int k] h3:=by
 have q1:=yfN S ea
 have q2:=zfL S eb
 have q3:=za2 S l1 el
 have q4:=za2 S f1 ef
 have ad:=zh0 hw h
 unfold ycb
 generalize ya8 90=WL at *
 generalize yaB 90=WF at *
 generalize hF:ya7 90=LK at *
 by_cases z:k=0
 ·subst z
  have zz:fEq (.int 0) (.int 0) h3 = .ok (.bl true) h3:=by simp
  simp [S.ob,q1,q2,q3,q4,i1L,ad,e1,e2,e3,zz,-fIx,-fEq,-fAdd]
 ·have zz:fEq (.int k) (.int 0) h3 = .ok (.bl false) h3:=by simp [z]
  rw [if_neg z]
  generalize hR:LK [.ref p,.int n,.int k] h3=R
  simp [S.ob,q1,q2,q3,q4,i1L,ad,e1,e2,e3,zz,hR,-fIx,-fEq,-fAdd]
  cases R<;>rfl
end Sk
namespace Sk
open PySem PySem.Spec L2 Sm
theorem zdR {w v:Str} (h1:1<=w.length) (h2:w.length+v.length<=8) (pw:yaE w=true) (pv:yaE v=true):ybx (w++v)=true:=by
 unfold ybx
 rw [zaJ,zak,pw,pv]
 simp;lia
theorem zex {h:AH} {p:Nat} {ps:List Pc} {a b:Nat} {ma mb fa la fb lb:Ms} {x y:Str} (S:ShelfAt h p ps) (g:Good ps) (A:Tx ps a ma x fa la) (B:Tx ps b mb y fb lb) (hc : ¬ 8<la.sg+fb.sg) (hm:ma.sg+mb.sg<=1000000000000000000) (hz:ps.length<15000000) :
  ∃ (n:Nat) (ps':List Pc) (h':AH) (m f l:Ms),Dn (ycb [.ref p,.int a,.int b]) p h h' ps ps' (7*(max ma.ht mb.ht).toNat+2) n/\Tx ps' n m (x++y) f l/\m.ht<=max ma.ht mb.ht+1:=by
 obtain ⟨_,w,u,l1,el,ex,lw⟩:=g.ends a a (Nat.le_refl _) A
 obtain ⟨⟨v,t,f1,ef,ey,lv⟩,_⟩:=g.ends b b (Nat.le_refl _) B
 have a0:=A.ky.ht
 have b0:=B.ky.ht
 have ha:=ht82 g A
 have hb:=ht82 g B
 have px:yaE x=true:=A.ky.pl
 have py:yaE y=true:=B.ky.pl
 have pw:yaE w=true:=by rw [ex,zaJ,Bool.and_eq_true] at px;exact px.2
 have pv:yaE v=true:=by rw [ey,zaJ,Bool.and_eq_true] at py;exact py.1
 have la1:=A.ky.l1
 have fb1:=B.ky.f1
 have sx:=A.ky.sg
 have sy:=B.ky.sg
 have lx:x.length=u.length+w.length:=by rw [ex,zak]
 have ly:y.length=v.length+t.length:=by rw [ey,zak]
 have lwv:(w++v).length=w.length+v.length:=zak w v
 obtain ⟨L,ps1,h1,d1,N⟩:=zbz S g (zdR (w:=w) (v:=v) (by lia) (by lia) pw pv) (by lia)
 have z1:=d1.dd.len
 obtain ⟨n2,ps2,h2,m2,f2,u2,v2,d2,ex2,lv2,T2,k1,k2⟩:=zdq 90 d1.dd.sh d1.dd.gd (A.pre d1.dd.pre) N (by lia) (by lia) (by lia) (by lia)
 have z2:=d2.dd.len
 obtain ⟨rfl,rfl⟩:u=u2/\w=v2:=zew (ex.symm.trans ex2) (by lia)
 have s2:m2.sg=u.length+(w.length+v.length):=by rw [T2.ky.sg,zak,zak]
 have p12:=d1.dd.pre.trans d2.dd.pre
 have lm:(lfMs (w++v) L).sg=w.length+v.length:=zak w v
 have tb:∀ q:Int,0<=q->q<=max ma.ht mb.ht->q.toNat<=(max ma.ht mb.ht).toNat:=fun q _ _=>by lia
 rcases zcM 90 d2.dd.sh d2.dd.gd (B.pre p12) (by lia) (by lia) with ⟨r1,r2,d3⟩ | ⟨r1,n3,ps3,h3,m3,f3,u3,v3,d3,ey3,lu3,T3,r2,r3,r4⟩
 ·have t0:t.length=0:=by lia
  have te:t = "" := zaf (by rw [zad] at t0;rw [List.length_eq_zero_iff.mp t0];rfl)
  have rd:u++(w++v)=x++y:=by
   rw [ex,ey,te,zah]
   congr 2
  rw [rd] at T2
  refine ⟨n2,ps2,h2,m2,f2,_,⟨?_,d1.dd.trans d2.dd (by lia),fun h4 ps4 S4 g4 p4=>?_⟩,T2,by lia⟩
  ·rw [wd_1 S A.ms B.ms l1 f1 el ef (by lia) d1.ev d2.ev d3.ev];rfl
  ·have q1:=d1.re h4 ps4 S4 g4 (d2.dd.pre.trans p4)
   have q2:=d2.re h4 ps4 S4 g4 p4
   have q3:=d3.re h4 ps4 S4 g4 p4
   rw [wd_1 S4 (zac (p12.trans p4) A.ms) (zac (p12.trans p4) B.ms) l1 f1 (yaL (p12.trans p4) el) (yaL (p12.trans p4) ef) (by lia) q1 q2 q3];rfl
 ·obtain ⟨rfl,rfl⟩:v=u3/\t=v3:=zdr (ey.symm.trans ey3) (by lia)
  have z3:=d3.dd.len
  have s3:m3.sg=t.length:=T3.ky.sg
  have m30:=T3.ky.ht
  obtain ⟨n4,ps4,h4,m4,d4,T4,r5,r6⟩:=zaR 90 (max ma.ht mb.ht).toNat d3.dd.sh d3.dd.gd (T2.pre d3.dd.pre) T3 (by lia) (by lia) (by lia) (by lia) (by lia)
  have rd:(u++(w++v))++t=x++y:=by rw [ex,ey,zah,zah,zah]
  rw [rd] at T4
  have n3z : ¬ (n3:Int)=0:=by have:=T3.n1;lia
  have p123:=p12.trans d3.dd.pre
  refine ⟨n4,ps4,h4,m4,f2,lb,⟨?_,((d1.dd.trans d2.dd (Nat.le_refl _)).trans d3.dd (Nat.le_refl _)).trans d4.dd (by lia),fun h5 ps5 S5 g5 p5=>?_⟩,T4,by lia⟩
  ·rw [wd_1 S A.ms B.ms l1 f1 el ef (by lia) d1.ev d2.ev d3.ev,if_neg n3z];exact d4.ev
  ·have p45:=d4.dd.pre.trans p5
   have q1:=d1.re h5 ps5 S5 g5 (d2.dd.pre.trans (d3.dd.pre.trans p45))
   have q2:=d2.re h5 ps5 S5 g5 (d3.dd.pre.trans p45)
   have q3:=d3.re h5 ps5 S5 g5 p45
   have q4:=d4.re h5 ps5 S5 g5 p5
   have pa:=p123.trans p45
   rw [wd_1 S5 (zac pa A.ms) (zac pa B.ms) l1 f1 (yaL pa el) (yaL pa ef) (by lia) q1 q2 q3,if_neg n3z];exact q4
def TxZ (ps:List Pc) (n:Nat) (y:Str):Prop:=(n=0/\y = "")\/∃ m f l,Tx ps n m y f l
theorem TxZ.pre {ps ps':List Pc} {n:Nat} {y:Str} (t:TxZ ps n y) (h:ps <+: ps'):TxZ ps' n y:=by
 rcases t with t | ⟨m,f,l,t⟩
 ·exact .inl t
 ·exact .inr ⟨m,f,l,t.pre h⟩
theorem zbr (ps:List Pc):(meas ps)[0]? = some ms0:=by
 obtain ⟨r,e,_⟩:=zbg ycG ps [ms0]
 rw [meas,e];rfl
def htOf (ps:List Pc) (n:Nat):Int:=((meas ps).getD n ms0).ht
theorem ybA {ps:List Pc} {n:Nat} {m:Ms} (e:(meas ps)[n]? = some m):htOf ps n=m.ht:=by unfold htOf;rw [za8 e]
theorem za3 (ps:List Pc):htOf ps 0 = -1:=ybA (zbr ps)
theorem zaY {i:Int} (hi:i<=1000000000000000000) (h:AH):ybD [.int i] h = .ok .non h:=by
 have : ¬ (1000000000000000000:Int)<i:=by lia
 simp [ybD,this]
theorem jn_0 {h:AH} {p:Nat} {ps:List Pc} {b:Nat} {mb:Ms} (S:ShelfAt h p ps) (eb:(meas ps)[b]? = some mb) (hm:mb.sg<=1000000000000000000):yav [.ref p,.int (0:Nat),.int b] h = .ok (.int b) h:=by
 have e1:=zao S (zbr ps)
 have e2:=zao S eb
 have z:ms0.sg=0:=rfl
 rw [z] at e1
 have e1':yaz [.ref p,.int 0] h = .ok (.int 0) h:=e1
 have ck:=zaY (i:=(0:Int)+mb.sg) (by lia) h
 have zz:fEq (.int 0) (.int 0) h = .ok (.bl true) h:=by simp
 have ad:fAdd (.int 0) (.int mb.sg) h = .ok (.int (0+mb.sg)) h:=rfl
 simp [yav,S.ob,e1',e2,ad,ck,zz,-fEq,-fAdd,-Int.zero_add]
theorem jn_1 {h:AH} {p:Nat} {ps:List Pc} {a:Nat} {ma:Ms} (S:ShelfAt h p ps) (a1:1<=a) (ea:(meas ps)[a]? = some ma) (hm:ma.sg<=1000000000000000000):yav [.ref p,.int a,.int (0:Nat)] h = .ok (.int a) h:=by
 have e1:=zao S (zbr ps)
 have e2:=zao S ea
 have z:ms0.sg=0:=rfl
 rw [z] at e1
 have e1':yaz [.ref p,.int 0] h = .ok (.int 0) h:=e1
 have ck:=zaY (i:=(ma.sg:Int)+0) (by lia) h
 have zz:fEq (.int 0) (.int 0) h = .ok (.bl true) h:=by simp
 have z2:fEq (.int a) (.int 0) h = .ok (.bl false) h:=by
  have : ¬ a=0:=by lia
  simp [this]
 have ad:fAdd (.int ma.sg) (.int 0) h = .ok (.int (ma.sg+0)) h:=rfl
 simp [yav,S.ob,e1',e2,ad,ck,zz,z2,-fEq,-fAdd,-Int.add_zero]
theorem jn_2 {h:AH} {p:Nat} {ps:List Pc} {a b:Nat} {ma mb la fb:Ms} (S:ShelfAt h p ps) (a1:1<=a) (b1:1<=b) (ea:(meas ps)[a]? = some ma) (eb:(meas ps)[b]? = some mb) (el:(meas ps)[ma.ll]? = some la) (ef:(meas ps)[mb.fl]? = some fb) (hm:ma.sg+mb.sg<=1000000000000000000) :
  yav [.ref p,.int a,.int b] h=if 8<la.sg+fb.sg then ya7 90 [.ref p,.int a,.int b] h else ycb [.ref p,.int a,.int b] h:=by
 have e1:=zao S ea
 have e2:=zao S eb
 have cl:=zi8 S ea eb el ef
 have ck:=zaY (i:=(ma.sg:Int)+mb.sg) (by lia) h
 have z1:fEq (.int a) (.int 0) h = .ok (.bl false) h:=by
  have : ¬ a=0:=by lia
  simp [this]
 have z2:fEq (.int b) (.int 0) h = .ok (.bl false) h:=by
  have : ¬ b=0:=by lia
  simp [this]
 have ad:fAdd (.int ma.sg) (.int mb.sg) h = .ok (.int (ma.sg+mb.sg)) h:=rfl
 unfold yav
 generalize ya7 90=LK at *
 by_cases q:8<la.sg+fb.sg
 ·rw [if_pos q]
  generalize hR:LK [.ref p,.int a,.int b] h=R
  simp [S.ob,e1,e2,ad,ck,z1,z2,cl,q,hR,-fEq,-fAdd]
  cases R<;>rfl
 ·rw [if_neg q]
  generalize hR:ycb [.ref p,.int a,.int b] h=R
  simp [S.ob,e1,e2,ad,ck,z1,z2,cl,q,hR,-fEq,-fAdd]
  cases R<;>rfl
theorem TxZ.meas {ps:List Pc} {n:Nat} {y:Str} (t:TxZ ps n y):∃ m,(meas ps)[n]? = some m/\m.sg=y.length:=by
 rcases t with ⟨rfl,rfl⟩ | ⟨m,f,l,T⟩
 ·exact ⟨ms0,zbr ps,rfl⟩
 ·exact ⟨m,T.ms,T.ky.sg⟩
theorem zcN {h:AH} {p:Nat} {ps:List Pc} {a b:Nat} {x y:Str} (S:ShelfAt h p ps) (g:Good ps) (A:TxZ ps a x) (B:TxZ ps b y) (hm:x.length+y.length<=1000000000000000000) (hz:ps.length<15000000) :
  ∃ (n:Nat) (ps':List Pc) (h':AH),Dn (yav [.ref p,.int a,.int b]) p h h' ps ps' (16*(max (htOf ps a) (htOf ps b)+1).toNat) n/\TxZ ps' n (x++y):=by
 rcases A with ⟨rfl,rfl⟩ | ⟨ma,fa,la,A⟩
 ·obtain ⟨mb,eb,sb⟩:=B.meas
  have em:("" : Str)++y=y:=zaf (by rw [zae];rfl)
  have dv:Dn (yav [.ref p,.int (0:Nat),.int b]) p h h ps ps 0 b:=Dn.val S g fun hh pp S' _ pr=>jn_0 S' (zac pr eb) (by rw [sb];lia)
  exact ⟨b,ps,h,dv.as S g (fun _ _ _ _ _=>rfl) (Nat.zero_le _),by rw [em];exact B⟩
 ·rcases B with ⟨rfl,rfl⟩ | ⟨mb,fb,lb,B⟩
  ·have em:x++("" : Str)=x:=zaf (by rw [zae];simp;rfl)
   have dv:Dn (yav [.ref p,.int a,.int (0:Nat)]) p h h ps ps 0 a:=Dn.val S g fun hh pp S' _ pr=>jn_1 S' A.n1 (zac pr A.ms) A.ky.most
   exact ⟨a,ps,h,dv.as S g (fun _ _ _ _ _=>rfl) (Nat.zero_le _),by rw [em];exact .inr ⟨_,_,_,A⟩⟩
  ·have sa:=A.ky.sg
   have sb:=B.ky.sg
   have a0:=A.ky.ht
   have b0:=B.ky.ht
   have ha:=ht82 g A
   have hb:=ht82 g B
   rw [ybA A.ms,ybA B.ms]
   by_cases q:8<la.sg+fb.sg
   ·obtain ⟨n,ps',h',m,d,T,_⟩:=zaR 90 (max ma.ht mb.ht).toNat S g A B q (by lia) (by lia) (by lia) (by lia)
    exact ⟨n,ps',h',d.as S g (fun hh pp S' _ pr=>by rw [jn_2 S' A.n1 B.n1 (zac pr A.ms) (zac pr B.ms) (zac pr A.ky.ll) (zac pr B.ky.fl) (by lia),if_pos q]) (by lia),.inr ⟨_,_,_,T⟩⟩
   ·obtain ⟨n,ps',h',m,f,l,d,T,_⟩:=zex S g A B q (by lia) hz
    exact ⟨n,ps',h',d.as S g (fun hh pp S' _ pr=>by rw [jn_2 S' A.n1 B.n1 (zac pr A.ms) (zac pr B.ms) (zac pr A.ky.ll) (zac pr B.ky.fl) (by lia),if_neg q]) (by lia),.inr ⟨_,_,_,T⟩⟩
end Sk
namespace Sk
open PySem PySem.Spec L2 Sm
theorem zi9 {b e:Nat} {y:Str} (be:b<=e):(cutS y (some (b:Int)) (some (e:Int))).cps.toList=(y.cps.toList.drop b).take (e-b):=by
 unfold cutS
 rw [HT.sIx_nat,HT.sIx_nat]
 generalize y.cps.toList=l
 show (l.drop (min b l.length)).take (min e l.length-min b l.length)=_
 apply List.ext_getElem?
 intro i
 rw [List.getElem?_take,List.getElem?_take,List.getElem?_drop,List.getElem?_drop]
 by_cases q:b<=l.length
 ·rw [Nat.min_eq_left q]
  by_cases c1:i<e-b
  ·rw [if_pos c1]
   by_cases c2:i<min e l.length-b
   ·rw [if_pos c2]
   ·rw [if_neg c2,List.getElem?_eq_none (by lia)]
  ·rw [if_neg c1,if_neg (by lia)]
 ·rw [if_neg (by lia),List.getElem?_eq_none (l:=l) (i:=b+i) (by lia)]
  split<;>rfl
def cat:List Str->Str
 | [] => ""
 | w::ws=>w++cat ws
theorem zds:∀ as bs:List Str,cat (as++bs)=cat as++cat bs
 | [],bs=>(zaf (by rw [zae];rfl):cat bs=("" : Str)++cat bs)
 | w::as,bs=>by
  show w++cat (as++bs)=(w++cat as)++cat bs
  rw [zds as bs,zah]
theorem zfP (w:Str):cat [w]=w:=zaf (by show (w++("" : Str)).cps.toList=_;rw [zae];simp;rfl)
def LS (ps:List Pc) (ns:List Nat) (ws:List Str):Prop:=ns.length=ws.length/\∀ (i n:Nat) (w:Str),ns[i]? = some n->ws[i]? = some w->Tx ps n (lfMs w n) w (lfMs w n) (lfMs w n)
theorem LS.pre {ps ps':List Pc} {ns:List Nat} {ws:List Str} (s:LS ps ns ws) (h:ps <+: ps'):LS ps' ns ws:=⟨s.1,fun i n w a b=>(s.2 i n w a b).pre h⟩
theorem LS.take {ps:List Pc} {ns:List Nat} {ws:List Str} (s:LS ps ns ws) (k:Nat):LS ps (ns.take k) (ws.take k):=by
 refine ⟨by simp [s.1],fun i n w a b=>?_⟩
 rw [List.getElem?_take] at a b
 by_cases q:i<k
 ·rw [if_pos q] at a b;exact s.2 i n w a b
 ·rw [if_neg q] at a;cases a
theorem LS.drop {ps:List Pc} {ns:List Nat} {ws:List Str} (s:LS ps ns ws) (k:Nat):LS ps (ns.drop k) (ws.drop k):=by
 refine ⟨by simp [s.1],fun i n w a b=>?_⟩
 rw [List.getElem?_drop] at a b
 exact s.2 _ n w a b
abbrev ivs (ns:List Nat):List AV:=ns.map fun n:Nat=>AV.int (n:Int)
theorem hv_1 {h:AH} {p d n:Nat}:ybL (d+1) [.ref p,.fl (ivs [n])] h = .ok (.int n) h:=by
 have ix:fIx (.fl [.int (n:Int)]) (.int 0) h = .ok (.int n) h:=rfl
 simp [ybL,yeq,ix,-fIx]
theorem zg9 {α:Type} (l:List α) {k:Nat} (hk:k<=l.length):cutA l none (some (k:Int))=l.take k:=by
 unfold cutA
 rw [HT.sIx_nat,HT.sIx_none,Nat.min_eq_left hk];simp
theorem zha {α:Type} (l:List α) {k:Nat} (hk:k<=l.length):cutA l (some (k:Int)) none=l.drop k:=by
 unfold cutA
 rw [HT.sIx_nat,HT.sIx_none,Nat.min_eq_left hk,List.take_of_length_le (by simp)]
theorem hv_2 {h h1 h2:AH} {p d:Nat} {ps:List Pc} {ns:List Nat} {v1 v2:Int} (S:ShelfAt h p ps) (hl:2<=ns.length) (e1:ybL d [.ref p,.fl (ivs (ns.take (ns.length / 2)))] h = .ok (.int v1) h1) (e2:ybL d [.ref p,.fl (ivs (ns.drop (ns.length / 2)))] h1 = .ok (.int v2) h2) :
  ybL (d+1) [.ref p,.fl (ivs ns)] h=yaf [.ref p,.int v1,.int v2] h2:=by
 have hh:ns.length / 2<=ns.length:=Nat.div_le_self _ _
 have ln:fLen [.fl (ivs ns)] h = .ok (.int ns.length) h:=by simp [fLen]
 have q:fEq (.int ns.length) (.int 1) h = .ok (.bl false) h:=by
  have : ¬ (ns.length:Int)=1:=by lia
  simp [this]
 have dv:fDiv (.int ns.length) (.int 2) h = .ok (.int (ns.length / 2:Nat)) h:=rfl
 have c1:ya9 (.fl (ivs ns)) none (some (ns.length / 2:Nat)) h = .ok (.fl (ivs (ns.take (ns.length / 2)))) h:=by
  have:=zg9 (ivs ns) (k:=ns.length / 2) (by simpa using hh)
  simp only [ya9,this,ivs,List.map_take]
 have c2:∀ h,ya9 (.fl (ivs ns)) (some (ns.length / 2:Nat)) none h = .ok (.fl (ivs (ns.drop (ns.length / 2)))) h:=fun h=>by
  have:=zha (ivs ns) (k:=ns.length / 2) (by simpa using hh)
  simp only [ya9,this,ivs,List.map_drop]
 generalize hF:yaf [.ref p,.int v1,.int v2] h2=R
 unfold ybL yeq
 generalize ivs ns=Z at *
 generalize ivs (ns.take (ns.length / 2))=Z1 at *
 generalize ivs (ns.drop (ns.length / 2))=Z2 at *
 generalize ((ns.length / 2:Nat):Int)=M at *
 generalize (ns.length:Int)=K at *
 simp [S.ob,ln,q,dv,c1,c2,e1,e2,hF,-fLen,-fEq,-fDiv,-ya9]
 cases R<;>rfl
theorem pw1 {a b ha hb:Nat} (ab:b<=a+1) (h1:a<=2 ^ ha) (h2:hb=0\/2 ^ (hb-1)<b):hb<=ha+1:=by
 rcases h2 with h2 | h2
 ·lia
 ·have:2 ^ (hb-1)<=2 ^ ha:=by lia
  have:=(Nat.pow_le_pow_iff_right (a:=2) (by decide)).mp this
  lia
theorem pw2 {a b ha hb:Nat} (ab:a<=b) (h1:b<=2 ^ hb) (h2:ha=0\/2 ^ (ha-1)<a):ha<=hb:=by
 rcases h2 with h2 | h2
 ·lia
 ·have:2 ^ (ha-1)<2 ^ hb:=by lia
  have:=(Nat.pow_lt_pow_iff_right (a:=2) (by decide)).mp this
  lia
theorem pw3 {k b hb:Nat} (h1:k<=2*b) (h2:2*b<=k+1) (h3:2<=k) (h4:b<=2 ^ hb) (h5:hb=0\/2 ^ (hb-1)<b):k<=2 ^ (hb+1)/\2 ^ (hb+1-1)<k:=by
 rw [Nat.pow_succ,Nat.add_sub_cancel]
 refine ⟨by lia,?_⟩
 rcases h5 with h5 | h5
 ·subst h5;simp;lia
 ·cases hb with
  | zero=>simp;lia
  | succ n =>
   rw [Nat.add_sub_cancel] at h5
   rw [Nat.pow_succ];lia
theorem pw4 {k e:Nat} (h:k<=2 ^ (e+1)):k / 2<=2 ^ e/\k-k / 2<=2 ^ e:=by rw [Nat.pow_succ] at h;lia
theorem zcO {p:Nat}:∀ (d e:Nat) {h:AH} {ps:List Pc} {ns:List Nat} {ws:List Str},ShelfAt h p ps->Good ps->LS ps ns ws->1<=ns.length->ns.length<=2 ^ e->e<d->(∀ (i:Nat) (w:Str),ws[i]? = some w->i+1<ws.length->w.length=8)->ps.length+ns.length<16000000->ns.length<=10000 ->
  ∃ (n:Nat) (ps':List Pc) (h':AH) (m f l:Ms) (H:Nat),ybL d [.ref p,.fl (ivs ns)] h = .ok (.int n) h'/\Dd p h h' ps ps' (ns.length-1)/\Tx ps' n m (cat ws) f l/\m.ht=H/\ns.length<=2 ^ H/\(H=0\/2 ^ (H-1)<ns.length)/\((∀ w∈ws,w.length=8)->l.sg=8)/\m.sg<=8*ns.length
 | 0,e,h,ps,ns,ws,S,g,LL,h1,h2,h3,h4,h5,h6=>absurd h3 (Nat.not_lt_zero _)
 | d+1,e,h,ps,ns,ws,S,g,LL,h1,h2,h3,h4,h5,h6=>by
  by_cases q:ns.length=1
  ·obtain ⟨n,rfl⟩:∃ n,ns=[n]:=List.length_eq_one_iff.mp q
   obtain ⟨w,rfl⟩:∃ w,ws=[w]:=List.length_eq_one_iff.mp (LL.1.symm.trans q)
   have T:=LL.2 0 n w rfl rfl
   refine ⟨n,ps,h,_,_,_,0,hv_1,{ Dd.refl S g with len:=by lia },by rw [zfP];exact T,rfl,by simp,.inl rfl,fun hw=>hw w (by simp),?_⟩
   have:=T.ky.f8
   simpa using this
  ·have hh:2<=ns.length:=by lia
   obtain ⟨e',rfl⟩:∃ e',e=e'+1:=by
    cases e with
    | zero=>simp at h2;lia
    | succ e' => exact ⟨e',rfl⟩
   obtain ⟨w1,w2⟩:=pw4 h2
   have lt:(ns.take (ns.length / 2)).length=ns.length / 2:=by rw [List.length_take];lia
   have ld:(ns.drop (ns.length / 2)).length=ns.length-ns.length / 2:=List.length_drop ..
   have lw:=LL.1
   obtain ⟨n1,ps1,hh1,m1,f1,l1,H1,a1,a2,a3,a4,a5,a6,a7,a8⟩:=zcO d e' S g (LL.take (ns.length / 2)) (by lia) (by lia) (by lia) (fun i w ew hi=>by
    rw [List.getElem?_take] at ew
    split at ew
    ·rw [List.length_take] at hi;exact h4 i w ew (by lia)
    ·cases ew) (by lia) (by lia)
   have z1:=a2.len
   obtain ⟨n2,ps2,hh2,m2,f2,l2,H2,b1,b2,b3,b4,b5,b6,b7,b8⟩:=zcO d e' a2.sh a2.gd ((LL.drop (ns.length / 2)).pre a2.pre) (by lia) (by lia) (by lia) (fun i w ew hi=>by
    rw [List.getElem?_drop] at ew
    rw [List.length_drop] at hi
    exact h4 _ w ew (by lia)) (by lia) (by lia)
   have z2:=b2.len
   rw [lt] at a5 a6 a8
   rw [ld] at b5 b6 b8
   have g1:=pw1 (a:=ns.length / 2) (b:=ns.length-ns.length / 2) (by lia) a5 b6
   have g2:=pw2 (a:=ns.length / 2) (b:=ns.length-ns.length / 2) (by lia) b5 a6
   have l8:l1.sg=8:=a7 fun w hw=>by
    obtain ⟨i,hi,ei⟩:=List.getElem_of_mem hw
    have hi' := hi
    rw [List.length_take] at hi'
    have:(ws.take (ns.length / 2))[i]? = some w:=by rw [List.getElem?_eq_getElem hi,ei]
    rw [List.getElem?_take] at this
    split at this
    ·exact h4 i w this (by lia)
    ·cases this
   have f1' := b3.ky.f1
   obtain ⟨n3,ps3,hh3,d3,T3⟩:=zaA b2.sh b2.gd (a3.pre b2.pre) b3 (by lia) (by lia) (by lia) (by lia) (by lia)
   have rd:cat (ws.take (ns.length / 2))++cat (ws.drop (ns.length / 2))=cat ws:=by rw [<- zds,List.take_append_drop]
   rw [rd] at T3
   have hv:=hv_2 S hh a1 b1
   obtain ⟨y1,y2⟩:=pw3 (k:=ns.length) (b:=ns.length-ns.length / 2) (by lia) (by lia) hh b5 b6
   refine ⟨n3,ps3,hh3,_,f1,l2,H2+1,hv.trans d3.ev,(a2.trans b2 (Nat.le_refl _)).trans d3.dd (by lia),T3,by rw [fmH,a4,b4];lia,y1,.inr y2,fun hw=>b7 fun w hm=>hw w (List.mem_of_mem_drop hm),by rw [fmS];lia⟩
end Sk
namespace Sk
open PySem PySem.Spec L2 Sm
def ycH (x:Str) (k:Nat):Str:=cutS x (some ((8*k:Nat):Int)) (some ((8*k+8:Nat):Int))
theorem zb4 (x:Str) (k:Nat):(ycH x k).cps.toList=(x.cps.toList.drop (8*k)).take 8:=by
 unfold ycH
 rw [zi9 (by lia),show 8*k+8-8*k=8 by lia]
theorem zdS (x:Str) (k:Nat):(ycH x k).length=min 8 (x.length-8*k):=by
 rw [zad,zb4,List.length_take,List.length_drop,<- zad]
theorem zeV {x:Str} (px:yaE x=true) (k:Nat):yaE (ycH x k)=true:=by
 unfold yaE at *
 rw [zb4,List.all_eq_true]
 rw [List.all_eq_true] at px
 exact fun c hc=>px c (List.mem_of_mem_drop (List.mem_of_mem_take hc))
theorem zc5 (x:Str):∀ j,(cat ((List.range j).map (ycH x))).cps.toList=x.cps.toList.take (8*j)
 | 0=>rfl
 | j+1=>by
  rw [List.range_succ,List.map_append,zds,zae,zc5 x j]
  show _++(cat [ycH x j]).cps.toList=_
  rw [zfP,zb4,show 8*(j+1)=8*j+8 by lia,List.take_add]
theorem zdT {α:Type} {f:Nat->α} {N i:Nat} {w:α} (e:((List.range N).map f)[i]? = some w):i<N/\w=f i:=by
 rw [List.getElem?_map] at e
 obtain ⟨j,ej,ew⟩:=Option.map_eq_some_iff.mp e
 have h1:=(List.getElem?_eq_some_iff.mp ej).1
 rw [List.length_range] at h1
 rw [List.getElem?_range h1] at ej
 cases ej
 exact ⟨h1,ew.symm⟩
theorem LS.snoc {ps ps':List Pc} {ns:List Nat} {ws:List Str} {n:Nat} {w:Str} (s:LS ps ns ws) (h:ps <+: ps') (T:Tx ps' n (lfMs w n) w (lfMs w n) (lfMs w n)):LS ps' (ns++[n]) (ws++[w]):=by
 have l:=s.1
 refine ⟨by simp [s.1],fun i a b ea eb=>?_⟩
 by_cases q:i<ns.length
 ·rw [List.getElem?_append_left q] at ea
  rw [List.getElem?_append_left (by lia)] at eb
  exact (s.2 i a b ea eb).pre h
 ·have h1:=(List.getElem?_eq_some_iff.mp ea).1
  have hi:i=ns.length:=by simp at h1;lia
  subst hi
  rw [List.getElem?_append_right (by lia)] at ea eb
  simp at ea
  rw [show ns.length-ws.length=0 by lia] at eb
  simp at eb
  subst ea eb
  exact T
theorem zeW {h:AH} {p:Nat} {ps:List Pc} {x:Str} (S:ShelfAt h p ps) (g:Good ps) (px:yaE x=true) (N:Nat) (hN:8*N<x.length+8) (hx:x.length<=10000) (hz:ps.length+N<16000000) (all:List AV) (js:List Nat) (en:En) (hj:js.map (fun j=>(en[j]?).join)=[some (.ref p),some (.str x)]) :
  ∃ (ns:List Nat) (ps':List Pc) (h':AH),yaI js en none all sYes (yam 0 yaD (sVar 1) (sCons (sCut (sVar 2) (some (sVar 0)) (some (sOp2 fAdd (sVar 0) (sLit (.int 8))))) sNil)) ((List.range N).map fun m:Nat=>AV.int (0+(m:Int)*8)) [] h = .ok (ivs ns) h'/\Dd p h h' ps ps' N/\LS ps' ns ((List.range N).map (ycH x)):=by
 obtain ⟨zs,h',c1,ns,ps',e1,D,LL⟩:=yfK (js:=js) (en:=en) (all:=all) (e:=yam 0 yaD (sVar 1) (sCons (sCut (sVar 2) (some (sVar 0)) (some (sOp2 fAdd (sVar 0) (sLit (.int 8))))) sNil)) (xs:=(List.range N).map fun m:Nat=>AV.int (0+(m:Int)*8)) (h:=h)
  (fun j ys h' => ∃ (ns:List Nat) (ps':List Pc),ys=ivs ns/\Dd p h h' ps ps' j/\LS ps' ns ((List.range j).map (ycH x))) ⟨[],ps,rfl,Dd.refl S g,rfl,fun i n w a _=>by simp at a⟩ (by
   rintro j v ys h' hv ⟨ns,ps',rfl,D,LL⟩
   obtain ⟨jN,rfl⟩:=zdT hv
   have z:=D.len
   have lc:=zdS x j
   have sc:ybx (ycH x j)=true:=by
    unfold ybx
    rw [zeV px j,lc]
    simp;lia
   obtain ⟨n,ps2,h2,d2,T⟩:=zbz D.sh D.gd sc (by lia)
   have i1:(0:Int)+(j:Int)*8=((8*j:Nat):Int):=by lia
   have i2:((8*j:Nat):Int)+8=((8*j+8:Nat):Int):=by lia
   have ct:ya9 (.str x) (some ((8*j:Nat):Int)) (some ((8*j+8:Nat):Int)) h' = .ok (.str (ycH x j)) h' := rfl
   have ev:=d2.ev
   rw [hj]
   have e:yam 0 yaD (sVar 1) (sCons (sCut (sVar 2) (some (sVar 0)) (some (sOp2 fAdd (sVar 0) (sLit (.int 8))))) sNil) [some (.int (0+(j:Int)*8)),some (.ref p),some (.str x)] h' = .ok (.int n) h2:=by
    rw [i1]
    have ad:fAdd (.int ((8*j:Nat):Int)) (.int 8) h' = .ok (.int ((8*j+8:Nat):Int)) h' := by rw [<- i2];rfl
    generalize ((8*j:Nat):Int)=B1 at *
    generalize ((8*j+8:Nat):Int)=B2 at *
    simp [D.sh.ob,ad,ct,ev,-fAdd,-ya9]
   rw [e]
   refine ⟨ns++[n],ps2,by simp [ivs],D.trans d2.dd (by lia),?_⟩
   rw [List.range_succ,List.map_append]
   exact LL.snoc d2.dd.pre T) (by simp;exact Nat.le_trans (show N<=10000 by lia) (by decide))
 rw [List.length_map,List.length_range] at D LL
 exact ⟨ns,ps',h',by rw [c1,e1],D,LL⟩
theorem zja {h:AH} {p:Nat} {ps:List Pc} {x:Str} (S:ShelfAt h p ps) (g:Good ps) (px:yaE x=true) (hx:x.length<=10000) (hz:ps.length+2*x.length<16000000) :
  ∃ (n:Nat) (ps':List Pc) (h':AH),ydP [.ref p,.str x] h = .ok (.int n) h'/\Dd p h h' ps ps' (2*x.length)/\TxZ ps' n x:=by
 have sl:x.length<=sizeLine:=Nat.le_trans hx (by decide)
 have fp:=zfF x h sl
 rw [px] at fp
 have c1 : ¬ (10000:Int)<x.length:=by lia
 by_cases q:x.length=0
 ·have xe:x = "" := zaf (by rw [zad] at q;rw [List.length_eq_zero_iff.mp q];rfl)
  subst xe
  refine ⟨0,ps,h,?_,{ Dd.refl S g with len:=by lia },.inl ⟨rfl,rfl⟩⟩
  simp [ydP,fp,c1]
 ·obtain ⟨N,eN⟩:∃ N,N=(x.length-1) / 8+1:=⟨_,rfl⟩
  obtain ⟨ns,ps1,h1,e1,D1,LL⟩:=zeW S g px N (by lia) hx (by lia) ((List.range N).map fun m:Nat=>AV.int (0+(m:Int)*8)) [0,1] [some (.ref p),some (.str x),none] rfl
  have z1:=D1.len
  have ln:ns.length=N:=by rw [LL.1];simp
  obtain ⟨n,ps2,h2,m,f,l,H,b1,b2,b3,_⟩:=zcO (p:=p) 20 11 D1.sh D1.gd LL (by lia) (by rw [ln];have:(2:Nat) ^ 11=2048:=rfl;lia) (by decide) (fun i w ew hi=>by
   obtain ⟨iN,rfl⟩:=zdT ew
   rw [List.length_map,List.length_range] at hi
   rw [zdS];lia) (by lia) (by lia)
  have rd:cat ((List.range N).map (ycH x))=x:=zaf (by rw [zc5,List.take_of_length_le (by rw [<- zad];lia)])
  rw [rd] at b3
  have ir:yck (sLit (.int 0)) (yad fLen (sCons (sVar 1) sNil)) (sLit (.int 8)) [some (.ref p),some (.str x),none] h = .ok ((List.range N).map (fun m:Nat=>AV.int (0+(m:Int)*8)),none) h:=by
   have r1:((if (0:Int)<x.length then ((x.length:Int)-0-1) / 8+1 else 0:Int)).toNat=N:=by
    rw [if_pos (by lia)];lia
   have r2:(0:Int).natAbs<2 ^ 40/\(x.length:Int).natAbs<2 ^ 40/\(0:Int)<8/\(8:Int)<2 ^ 20:=⟨by decide,by lia,by decide,by decide⟩
   show (if _ then _ else _)=_
   rw [if_pos r2,r1]
  have cp:yaU [0,1] (yck (sLit (.int 0)) (yad fLen (sCons (sVar 1) sNil)) (sLit (.int 8))) sYes (yam 0 yaD (sVar 1) (sCons (sCut (sVar 2) (some (sVar 0)) (some (sOp2 fAdd (sVar 0) (sLit (.int 8))))) sNil)) [some (.ref p),some (.str x),none] h = .ok (.fl (ivs ns)) h1:=by
   simp only [yaU,ir,e1]
  have ne:fEq (.str x) (.str "") h = .ok (.bl false) h:=by
   have : ¬ x=Str.ofString "" := fun z=>q (by rw [z];rfl)
   simp [this]
  refine ⟨n,ps2,h2,?_,D1.trans b2 (by lia),.inr ⟨_,_,_,b3⟩⟩
  unfold ydP
  generalize yaU [0,1] (yck (sLit (.int 0)) (yad fLen (sCons (sVar 1) sNil)) (sLit (.int 8))) sYes (yam 0 yaD (sVar 1) (sCons (sCut (sVar 2) (some (sVar 0)) (some (sOp2 fAdd (sVar 0) (sLit (.int 8))))) sNil))=CP at *
  generalize ybL 20=HV at *
  simp [fp,c1,ne,cp,b1,-fEq]
end Sk
namespace Sk
open PySem PySem.Spec L2 Sm
theorem zb5 {h:AH} {p:Nat} {ps:List Pc} {a b:Nat} {x y:Str} (S:ShelfAt h p ps) (g:Good ps) (A:TxZ ps a x) (B:TxZ ps b y) (hm:x.length+y.length<=1000000000000000000) (hz:ps.length<15000000) :
  ∃ (n:Nat) (ps':List Pc) (h':AH),Dn (yav [.ref p,.int a,.int b]) p h h' ps ps' (16*(max (htOf ps a) (htOf ps b)+1).toNat) n/\TxZ ps' n (x++y)/\htOf ps' n<=max (htOf ps a) (htOf ps b)+1:=by
 rcases A with ⟨rfl,rfl⟩ | ⟨ma,fa,la,A⟩
 ·obtain ⟨mb,eb,sb⟩:=B.meas
  have em:("" : Str)++y=y:=zaf (by rw [zae];rfl)
  have dv:Dn (yav [.ref p,.int (0:Nat),.int b]) p h h ps ps 0 b:=Dn.val S g fun hh pp S' _ pr=>jn_0 S' (zac pr eb) (by rw [sb];lia)
  exact ⟨b,ps,h,dv.as S g (fun _ _ _ _ _=>rfl) (Nat.zero_le _),by rw [em];exact B,by lia⟩
 ·rcases B with ⟨rfl,rfl⟩ | ⟨mb,fb,lb,B⟩
  ·have em:x++("" : Str)=x:=zaf (by rw [zae];simp;rfl)
   have dv:Dn (yav [.ref p,.int a,.int (0:Nat)]) p h h ps ps 0 a:=Dn.val S g fun hh pp S' _ pr=>jn_1 S' A.n1 (zac pr A.ms) A.ky.most
   exact ⟨a,ps,h,dv.as S g (fun _ _ _ _ _=>rfl) (Nat.zero_le _),by rw [em];exact .inr ⟨_,_,_,A⟩,by lia⟩
  ·have sa:=A.ky.sg
   have sb:=B.ky.sg
   have a0:=A.ky.ht
   have b0:=B.ky.ht
   have ha:=ht82 g A
   have hb:=ht82 g B
   rw [ybA A.ms,ybA B.ms]
   by_cases q:8<la.sg+fb.sg
   ·obtain ⟨n,ps',h',m,d,T,_,hu⟩:=zaR 90 (max ma.ht mb.ht).toNat S g A B q (by lia) (by lia) (by lia) (by lia)
    exact ⟨n,ps',h',d.as S g (fun hh pp S' _ pr=>by rw [jn_2 S' A.n1 B.n1 (zac pr A.ms) (zac pr B.ms) (zac pr A.ky.ll) (zac pr B.ky.fl) (by lia),if_pos q]) (by lia),.inr ⟨_,_,_,T⟩,by rw [ybA T.ms];exact hu⟩
   ·obtain ⟨n,ps',h',m,f,l,d,T,hu⟩:=zex S g A B q (by lia) hz
    exact ⟨n,ps',h',d.as S g (fun hh pp S' _ pr=>by rw [jn_2 S' A.n1 B.n1 (zac pr A.ms) (zac pr B.ms) (zac pr A.ky.ll) (zac pr B.ky.fl) (by lia),if_neg q]) (by lia),.inr ⟨_,_,_,T⟩,by rw [ybA T.ms];exact hu⟩
def tkS (x:Str) (a:Nat):Str:=⟨(x.cps.toList.take a).toArray⟩
def dpS (x:Str) (a:Nat):Str:=⟨(x.cps.toList.drop a).toArray⟩
theorem ybM (x:Str) (a:Nat):(tkS x a).cps.toList=x.cps.toList.take a:=rfl
theorem ybW (x:Str) (a:Nat):(dpS x a).cps.toList=x.cps.toList.drop a:=rfl
theorem ydo {x:Str} {a:Nat} (h:a<=x.length):(tkS x a).length=a:=by
 rw [zad] at *
 rw [ybM,List.length_take];lia
theorem yc7 (x:Str) (a:Nat):(dpS x a).length=x.length-a:=by
 rw [zad,zad x,ybW,List.length_drop]
theorem tk_0 (x:Str):tkS x 0 = "" := zaf rfl
theorem dp_0 (x:Str):dpS x 0=x:=zaf rfl
theorem yhc {x:Str} {a:Nat} (h:x.length<=a):tkS x a=x:=zaf (by rw [ybM,List.take_of_length_le (by rw [<- zad];exact h)])
theorem yhd {x:Str} {a:Nat} (h:x.length<=a):dpS x a = "" := zaf (by rw [ybW,List.drop_of_length_le (by rw [<- zad];exact h)];rfl)
theorem tk_l {x y:Str} {a:Nat} (h:a<=x.length):tkS (x++y) a=tkS x a:=zaf (by rw [ybM,zae,ybM,List.take_append_of_le_length (by rw [<- zad];exact h)])
theorem tk_r {x y:Str} {a:Nat} (h:x.length<=a):tkS (x++y) a=x++tkS y (a-x.length):=zaf (by
 rw [ybM,zae,zae,ybM,List.take_append,List.take_of_length_le (by rw [<- zad];exact h),<- zad])
theorem dp_l {x y:Str} {a:Nat} (h:a<=x.length):dpS (x++y) a=dpS x a++y:=zaf (by rw [ybW,zae,zae,ybW,List.drop_append_of_le_length (by rw [<- zad];exact h)])
theorem dp_r {x y:Str} {a:Nat} (h:x.length<=a):dpS (x++y) a=dpS y (a-x.length):=zaf (by
 rw [ybW,zae,ybW,List.drop_append,List.drop_of_length_le (by rw [<- zad];exact h),<- zad];rfl)
theorem zh1 {x:Str} (h:yaE x=true) (a:Nat):yaE (tkS x a)=true:=by
 unfold yaE at *
 rw [ybM,List.all_eq_true]
 rw [List.all_eq_true] at h
 exact fun c hc=>h c (List.mem_of_mem_take hc)
theorem zey {x:Str} (h:yaE x=true) (a:Nat):yaE (dpS x a)=true:=by
 unfold yaE at *
 rw [ybW,List.all_eq_true]
 rw [List.all_eq_true] at h
 exact fun c hc=>h c (List.mem_of_mem_drop hc)
theorem yfO {x:Str} {a:Nat} (h:AH):ya9 (.str x) none (some (a:Int)) h = .ok (.str (tkS x a)) h:=by
 have:cutS x none (some (a:Int))=tkS x a:=zaf (by
  unfold cutS
  rw [HT.sIx_nat,HT.sIx_none,ybM]
  show (x.cps.toList.drop 0).take (min a x.cps.toList.length-0)=_
  rw [List.drop_zero,Nat.sub_zero]
  by_cases q:a<=x.cps.toList.length
  ·rw [Nat.min_eq_left q]
  ·rw [Nat.min_eq_right (by lia),List.take_length,List.take_of_length_le (by lia)])
 simp only [ya9,this]
theorem yfa {x:Str} {a:Nat} (ha:a<=x.length) (h:AH):ya9 (.str x) (some (a:Int)) none h = .ok (.str (dpS x a)) h:=by
 have:cutS x (some (a:Int)) none=dpS x a:=zaf (by
  unfold cutS
  rw [HT.sIx_nat,HT.sIx_none,ybW]
  rw [zad] at ha
  rw [Nat.min_eq_left ha]
  show (x.cps.toList.drop a).take (x.cps.toList.length-a)=_
  rw [List.take_of_length_le (by rw [List.length_drop];exact Nat.le_refl _)])
 simp only [ya9,this]
def cst (z:Int):Nat:=8*((z+1).toNat*(z+2).toNat)
end Sk
namespace Sk
open PySem PySem.Spec L2 Sm
theorem zdU {h:AH} {p:Nat} {ps:List Pc} {n:Nat} {y:Str} (S:ShelfAt h p ps) (t:TxZ ps n y):yaA [.ref p,.int n] h = .ok (.int (htOf ps n)) h:=by
 obtain ⟨m,em,_⟩:=t.meas
 rw [zag S em,ybA em]
theorem zaH {ps:List Pc} {n:Nat} {y:Str} (t:TxZ ps n y) : -1<=htOf ps n:=by
 rcases t with ⟨rfl,rfl⟩ | ⟨m,f,l,T⟩
 ·rw [za3];lia
 ·rw [ybA T.ms];have:=T.ky.ht;lia
theorem TxZ.pos {ps:List Pc} {n:Nat} {y:Str} (t:TxZ ps n y) (hy:1<=y.length):∃ m f l,Tx ps n m y f l:=by
 rcases t with ⟨rfl,rfl⟩ | t
 ·exact absurd hy (by decide)
 ·exact t
theorem fr_0 {h:AH} {p d n:Nat}:yas (d+1) [.ref p,.int n,.int (0:Nat)] h = .ok (.int (0:Nat)) h:=by
 have z:fEq (.int 0) (.int 0) h = .ok (.bl true) h:=by simp
 simp [yas,ybZ,z,-fEq]
theorem yhe {h:AH} {p d n a:Nat} {ps:List Pc} {m:Ms} (S:ShelfAt h p ps) (em:(meas ps)[n]? = some m) (a0 : ¬ a=0) (ea:a=m.sg):yas (d+1) [.ref p,.int n,.int a] h = .ok (.int n) h:=by
 have z:fEq (.int a) (.int 0) h = .ok (.bl false) h:=by simp [a0]
 have fs:=zao S em
 rw [<- ea] at fs
 have z2:fEq (.int a) (.int a) h = .ok (.bl true) h:=by simp
 simp [yas,ybZ,z,S.ob,fs,z2,-fEq]
theorem zjb {h:AH} {p d n a:Nat} {ps:List Pc} {m:Ms} {x:Str} (S:ShelfAt h p ps) (n1:1<=n) (em:(meas ps)[n]? = some m) (ep:ps[n-1]? = some (.leaf x)) (a0 : ¬ a=0) (ea : ¬ a=m.sg):yas (d+1) [.ref p,.int n,.int a] h=yaD [.ref p,.str (tkS x a)] h:=by
 have z:fEq (.int a) (.int 0) h = .ok (.bl false) h:=by simp [a0]
 have fs:=zao S em
 have z2:fEq (.int a) (.int m.sg) h = .ok (.bl false) h:=by
  have : ¬ (a:Int)=m.sg:=by lia
  simp [this]
 have ct:=yfO (x:=x) (a:=a) h
 generalize hF:yaD [.ref p,.str (tkS x a)] h=R
 simp [yas,ybZ,z,S.ob,fs,z2,za2 S n1 ep,i0L,eqL,i1L,ct,hF,-fEq,-fIx,-ya9]
 cases R<;>first | rfl | simp
theorem fr_l {h:AH} {p d n a c e:Nat} {ps:List Pc} {m mc:Ms} (S:ShelfAt h p ps) (n1:1<=n) (em:(meas ps)[n]? = some m) (ec:(meas ps)[c]? = some mc) (ep:ps[n-1]? = some (.fork c e)) (a0 : ¬ a=0) (ea : ¬ a=m.sg) (hl:a<=mc.sg):yas (d+1) [.ref p,.int n,.int a] h=yas d [.ref p,.int c,.int a] h:=by
 have z:fEq (.int a) (.int 0) h = .ok (.bl false) h:=by simp [a0]
 have fs:=zao S em
 have fc:=zao S ec
 have z2:fEq (.int a) (.int m.sg) h = .ok (.bl false) h:=by
  have : ¬ (a:Int)=m.sg:=by lia
  simp [this]
 have le:fLe (.int a) (.int mc.sg) h = .ok (.bl true) h:=by simp [hl]
 show ybZ (yas d) [.ref p,.int n,.int a] h=yas d [.ref p,.int c,.int a] h
 generalize yas d=G at *
 unfold ybZ
 generalize hF:G [.ref p,.int c,.int a] h=R
 simp [z,S.ob,fs,fc,z2,zax S n1 ep,i0F,eqF,i1,le,hF,-fEq,-fIx,-fLe]
 cases R<;>first | rfl | simp
theorem fr_r {h h1:AH} {p d n a c e:Nat} {v:Int} {ps:List Pc} {m mc:Ms} (S:ShelfAt h p ps) (n1:1<=n) (em:(meas ps)[n]? = some m) (ec:(meas ps)[c]? = some mc) (ep:ps[n-1]? = some (.fork c e)) (a0 : ¬ a=0) (ea : ¬ a=m.sg) (hl : ¬ a<=mc.sg) (ev:yas d [.ref p,.int e,.int (a-mc.sg:Nat)] h = .ok (.int v) h1) :
  yas (d+1) [.ref p,.int n,.int a] h=yav [.ref p,.int c,.int v] h1:=by
 have z:fEq (.int a) (.int 0) h = .ok (.bl false) h:=by simp [a0]
 have fs:=zao S em
 have fc:=zao S ec
 have z2:fEq (.int a) (.int m.sg) h = .ok (.bl false) h:=by
  have : ¬ (a:Int)=m.sg:=by lia
  simp [this]
 have le:fLe (.int a) (.int mc.sg) h = .ok (.bl false) h:=by
  simp;lia
 have sb:fSub (.int a) (.int mc.sg) h = .ok (.int (a-mc.sg:Nat)) h:=by
  have:(a:Int)-mc.sg=((a-mc.sg:Nat):Int):=by lia
  rw [<- this];rfl
 unfold yas ybZ
 generalize yas d=G at *
 generalize ((a-mc.sg:Nat):Int)=AM at *
 generalize hF:yav [.ref p,.int c,.int v] h1=R
 simp [z,S.ob,fs,fc,z2,zax S n1 ep,i0F,eqF,i1,i2,le,sb,ev,hF,-fEq,-fIx,-fLe,-fSub]
 cases R<;>first | rfl | simp
theorem bk_0 {h:AH} {p d n:Nat}:yaw (d+1) [.ref p,.int n,.int (0:Nat)] h = .ok (.int n) h:=by
 have z:fEq (.int 0) (.int 0) h = .ok (.bl true) h:=by simp
 simp [yaw,ycc,z,-fEq]
theorem yhf {h:AH} {p d n a:Nat} {ps:List Pc} {m:Ms} (S:ShelfAt h p ps) (em:(meas ps)[n]? = some m) (a0 : ¬ a=0) (ea:a=m.sg):yaw (d+1) [.ref p,.int n,.int a] h = .ok (.int (0:Nat)) h:=by
 have z:fEq (.int a) (.int 0) h = .ok (.bl false) h:=by simp [a0]
 have fs:=zao S em
 rw [<- ea] at fs
 have z2:fEq (.int a) (.int a) h = .ok (.bl true) h:=by simp
 simp [yaw,ycc,z,S.ob,fs,z2,-fEq]
theorem zjc {h:AH} {p d n a:Nat} {ps:List Pc} {m:Ms} {x:Str} (S:ShelfAt h p ps) (n1:1<=n) (em:(meas ps)[n]? = some m) (ep:ps[n-1]? = some (.leaf x)) (ax:a<=x.length) (a0 : ¬ a=0) (ea : ¬ a=m.sg):yaw (d+1) [.ref p,.int n,.int a] h=yaD [.ref p,.str (dpS x a)] h:=by
 have z:fEq (.int a) (.int 0) h = .ok (.bl false) h:=by simp [a0]
 have fs:=zao S em
 have z2:fEq (.int a) (.int m.sg) h = .ok (.bl false) h:=by
  have : ¬ (a:Int)=m.sg:=by lia
  simp [this]
 have ct:=yfa (x:=x) ax h
 generalize hF:yaD [.ref p,.str (dpS x a)] h=R
 simp [yaw,ycc,z,S.ob,fs,z2,za2 S n1 ep,i0L,eqL,i1L,ct,hF,-fEq,-fIx,-ya9]
 cases R<;>first | rfl | simp
theorem bk_r {h:AH} {p d n a c e:Nat} {ps:List Pc} {m mc:Ms} (S:ShelfAt h p ps) (n1:1<=n) (em:(meas ps)[n]? = some m) (ec:(meas ps)[c]? = some mc) (ep:ps[n-1]? = some (.fork c e)) (a0 : ¬ a=0) (ea : ¬ a=m.sg) (hl:mc.sg<=a):yaw (d+1) [.ref p,.int n,.int a] h=yaw d [.ref p,.int e,.int (a-mc.sg:Nat)] h:=by
 have z:fEq (.int a) (.int 0) h = .ok (.bl false) h:=by simp [a0]
 have fs:=zao S em
 have fc:=zao S ec
 have z2:fEq (.int a) (.int m.sg) h = .ok (.bl false) h:=by
  have : ¬ (a:Int)=m.sg:=by lia
  simp [this]
 have le:fGe (.int a) (.int mc.sg) h = .ok (.bl true) h:=by simp [hl]
 have sb:fSub (.int a) (.int mc.sg) h = .ok (.int (a-mc.sg:Nat)) h:=by
  have:(a:Int)-mc.sg=((a-mc.sg:Nat):Int):=by lia
  rw [<- this];rfl
 show ycc (yaw d) [.ref p,.int n,.int a] h=yaw d [.ref p,.int e,.int (a-mc.sg:Nat)] h
 generalize yaw d=G at *
 unfold ycc
 generalize ((a-mc.sg:Nat):Int)=AM at *
 generalize hF:G [.ref p,.int e,.int AM] h=R
 simp [z,S.ob,fs,fc,z2,zax S n1 ep,i0F,eqF,i1,i2,le,sb,hF,-fEq,-fIx,-fGe,-fSub]
 cases R<;>first | rfl | simp
theorem bk_l {h h1:AH} {p d n a c e:Nat} {v:Int} {ps:List Pc} {m mc:Ms} (S:ShelfAt h p ps) (n1:1<=n) (em:(meas ps)[n]? = some m) (ec:(meas ps)[c]? = some mc) (ep:ps[n-1]? = some (.fork c e)) (a0 : ¬ a=0) (ea : ¬ a=m.sg) (hl : ¬ mc.sg<=a) (ev:yaw d [.ref p,.int c,.int a] h = .ok (.int v) h1) :
  yaw (d+1) [.ref p,.int n,.int a] h=yav [.ref p,.int v,.int e] h1:=by
 have z:fEq (.int a) (.int 0) h = .ok (.bl false) h:=by simp [a0]
 have fs:=zao S em
 have fc:=zao S ec
 have z2:fEq (.int a) (.int m.sg) h = .ok (.bl false) h:=by
  have : ¬ (a:Int)=m.sg:=by lia
  simp [this]
 have le:fGe (.int a) (.int mc.sg) h = .ok (.bl false) h:=by
  simp;lia
 unfold yaw ycc
 generalize yaw d=G at *
 generalize hF:yav [.ref p,.int v,.int e] h1=R
 simp [z,S.ob,fs,fc,z2,zax S n1 ep,i0F,eqF,i1,i2,le,ev,hF,-fEq,-fIx,-fGe]
 cases R<;>first | rfl | simp
end Sk
namespace Sk
open PySem PySem.Spec L2 Sm
theorem zfQ {h:AH} {st:Nat} {n:Int} (m:Nat) (e:h[st]? = some (.lst [.int n])) (hm:0<m) (hm2:m<=10 ^ 50):∃ v:Nat,v<m/\yar [.ref st,.int m] h = .ok (.int v) (h.set st (.lst [.int (n / m)])):=by
 have a0:atI [AV.int n] 0=some (.int n):=rfl
 have i0:ixN 1 0=some 0:=rfl
 have hm0:(0:Int)<m:=Int.ofNat_lt.mpr hm
 have hm3:m<1606938044258990275541962092341162602522202993782792835301376:=Nat.lt_of_le_of_lt hm2 (by decide)
 refine ⟨(n % m).toNat,?_,?_⟩
 ·have:=Int.emod_lt_of_pos n hm0;have:=Int.emod_nonneg n (show (m:Int)≠0 by lia);lia
 ·rw [Int.toNat_of_nonneg (Int.emod_nonneg n (show (m:Int)≠0 by lia))]
  simp [yar,e,a0,hm0,hm,hm3,i0]
theorem zh2 (c k:Int) (h:AH):∃ m,ybR [.int c,.int k] h = .ok (.int m) h:=by
 have b1:0<=(c % 1000000007+7919*k+101)*48271 % 2147483647:=Int.emod_nonneg _ (by decide)
 have b2:(c % 1000000007+7919*k+101)*48271 % 2147483647<2147483647:=Int.emod_lt_of_pos _ (by decide)
 refine ⟨(c % 1000000007+7919*k+101)*48271 % 2147483647*((c % 1000000007+7919*k+101)*48271 % 2147483647) % 2147483629*69621 % 2147483647,?_⟩
 generalize he:(c % 1000000007+7919*k+101)*48271 % 2147483647=v at *
 have c1:v.natAbs<18446744073709551616:=by lia
 simp [ybR,he,c1]
theorem yia (c k:Int) (h:AH):∃ n,yc6 [.int c,.int k] h = .ok (.ref h.length) (h++[.lst [.int n]]):=by
 obtain ⟨d,ed⟩:∃ d,d=c % 1000000000000000000000000000000000000000000000000000000000000000000000000000000000000000000000000000000000000000000000000:=⟨_,rfl⟩
 by_cases hc:(1000000000000000000:Int)<=d
 ·exact ⟨d,by rw [ed] at hc ⊢;simp [yc6,hc]⟩
 ·obtain ⟨e',h',r1,r2⟩:=ydz (w:=none) (all:=ya2 0 12) (t:=.nm 3) (b:=yb4) (xs:=ya2 0 12) (en:=[some (.int d),some (.int k),some (.int 0),none]) (h:=h)
   (fun _ en h' => h'=h/\∃ f o,en=[some (.int d),some (.int k),some (.int f),o]) ⟨rfl,0,none,rfl⟩ (fun _ _ _ _=>rfl) (by
    rintro j x en h' hx ⟨rfl,f,o,rfl⟩
    rw [zb1] at hx
    split at hx
    ·cases hx
     obtain ⟨m,hm⟩:=zh2 (d+1009*k) (0+(j:Int)) h'
     have e:yb4 [some (.int d),some (.int k),some (.int f),some (.int (0+(j:Int)))] h' = .nx [some (.int d),some (.int k),some (.int (f*2147483647+m)),some (.int (0+(j:Int)))] h' := by
      generalize (0+(j:Int))=jj at hm ⊢
      simp [yb4,hm]
     show thn (yb4 [some (.int d),some (.int k),some (.int f),some (.int (0+(j:Int)))] h') _
     rw [e]
     exact ⟨rfl,_,_,rfl⟩
    ·cases hx)
  obtain ⟨rfl,f,o,rfl⟩:=r2
  have f1:=(ycF (t:=.nm 3) (b:=yb4) (zbo (a:=sLit (.int 12)) (en:=[some (.int d),some (.int k),some (.int 0),none]) (h:=h') (n:=12) rfl (by decide))).trans r1
  refine ⟨f,?_⟩
  subst ed
  simp [yc6,hc,f1,-sFor]
def yem:Str := "abcdefghijklmnopqrstuvwxyzABCDEFGHIJKLMNOPQRSTUVWXYZ0123456789 !#$&'()*+,-./:;<=>?\x40[]^_{|}~"
def sg6:List Str:=["ab", "ab" ++ "\n",(((yem ++ "\n") ++ "\\") ++ "\"") ++ "`", "a"]
theorem yhg:∀ x∈sg6,yaE x=true/\1<=x.length/\x.length<=200:=by decide +kernel
theorem zh3 (v:Nat) (hv:v<4) (h:AH):∃ x:Str,(yaE x=true/\1<=x.length/\x.length<=200)/\ycZ [.int v] h = .ok (.str x) h:=by
 have l1:(Str.length "ab")+(Str.length "\n")<=sizeLine:=by decide +kernel
 have l2:(Str.length yem)+(Str.length "\n")<=sizeLine:=by decide +kernel
 have l3:(yem++(Str.ofString "\n")).length+(Str.length "\\")<=sizeLine:=by decide +kernel
 have l4:((yem++(Str.ofString "\n"))++(Str.ofString "\\")).length+(Str.length "\"")<=sizeLine:=by decide +kernel
 have l5:(((yem++(Str.ofString "\n"))++(Str.ofString "\\"))++(Str.ofString "\"")).length+(Str.length "`")<=sizeLine:=by decide +kernel
 have em:Str.ofString "abcdefghijklmnopqrstuvwxyzABCDEFGHIJKLMNOPQRSTUVWXYZ0123456789 !#$&'()*+,-./:;<=>?\x40[]^_{|}~" = yem:=rfl
 have:v=0\/v=1\/v=2\/v=3:=by lia
 refine ⟨sg6.getD v "",yhg _ ?_,?_⟩
 ·rcases this with rfl | rfl | rfl | rfl<;>simp [sg6]
 ·rcases this with rfl | rfl | rfl | rfl<;>simp [ycZ,em,l1,l2,l3,l4,l5]<;>rfl
theorem zh4 {x:Str} {v:Nat} (hv:v<x.length) (hx:yaE x=true) (h:AH):∃ c,ydQ c=true/\fIx (.str x) (.int v) h = .ok (.str ⟨#[c]⟩) h:=by
 have hv':v<x.cps.toList.length:=by rw [<- zad];exact hv
 refine ⟨x.cps.toList[v],List.all_eq_true.mp hx _ (List.getElem_mem hv'),?_⟩
 have e:x.cps.toList[v]? = some x.cps.toList[v]:=List.getElem?_eq_getElem hv'
 simp only [fIx,zbu e]
theorem zch (z:Str) (n:Nat):(repS z n).cps.toList=(List.replicate n z.cps.toList).flatten:=rfl
theorem zci (z:Str) (a b:Nat):repS z a++repS z b=repS z (a+b):=zaf (by rw [zae,zch,zch,zch,<- List.flatten_append,List.replicate_append_replicate])
theorem zdt (z:Str):repS z 1=z:=zaf (by rw [zch];simp)
theorem zcP (z:Str):repS z 0 = "" := zaf rfl
theorem zdu (z:Str):∀ n,(repS z n).length=z.length*n
 | 0=>by rw [zcP];rfl
 | n+1=>by rw [<- zci,zak,zdu z n,zdt,Nat.mul_succ]
theorem zfR:∀ n,repS "" n = ""
 | 0=>zcP _
 | n+1=>by
  rw [<- zci,zfR n,zdt]
  exact zaf (by rw [zae];rfl)
theorem db_0 {h:AH} {p n d:Nat}:yaX (d+1) [.ref p,.int n,.int (0:Nat)] h = .ok (.int (0:Nat)) h:=by
 have z:fEq (.int 0) (.int 0) h = .ok (.bl true) h:=by simp
 simp [yaX,ydy,z,-fEq]
theorem db_1 {h h1:AH} {p n d k:Nat} {a:Int} (hk : ¬ k=0) (hp:k % 2=0) (e1:yaX d [.ref p,.int n,.int (k / 2:Nat)] h = .ok (.int a) h1):yaX (d+1) [.ref p,.int n,.int k] h=yav [.ref p,.int a,.int a] h1:=by
 have z:fEq (.int k) (.int 0) h = .ok (.bl false) h:=by simp [hk]
 have dv:fDiv (.int k) (.int 2) h = .ok (.int (k / 2:Nat)) h:=rfl
 have md:∀ h,fMod (.int k) (.int 2) h = .ok (.int 0) h:=fun h=>by
  have:(k:Int) % 2=0:=by lia
  show Out.ok (AV.int ((k:Int) % 2)) h=_
  rw [this]
 have z2:∀ h,fEq (.int 0) (.int 0) h = .ok (.bl true) h:=fun h=>by simp
 unfold yaX ydy
 generalize hF:yav [.ref p,.int a,.int a] h1=R
 generalize ((k / 2:Nat):Int)=K2 at *
 generalize yaX d=G at *
 simp [z,dv,e1,hF,-fEq,-fDiv,-fMod]
 cases R with
 | ok v h2=>simp [md,z2,-fEq,-fMod]
 | ex c h2=>rfl
 | bad=>rfl
theorem db_2 {h h1:AH} {p n d k:Nat} {a:Int} (hk : ¬ k=0) (hp : ¬ k % 2=0) (e1:yaX d [.ref p,.int n,.int (k / 2:Nat)] h = .ok (.int a) h1):yaX (d+1) [.ref p,.int n,.int k] h=(yav [.ref p,.int a,.int a] h1).bind fun v h2=>yav [.ref p,v,.int n] h2:=by
 have z:fEq (.int k) (.int 0) h = .ok (.bl false) h:=by simp [hk]
 have dv:fDiv (.int k) (.int 2) h = .ok (.int (k / 2:Nat)) h:=rfl
 have md:∀ h,fMod (.int k) (.int 2) h = .ok (.int 1) h:=fun h=>by
  have:(k:Int) % 2=1:=by lia
  show Out.ok (AV.int ((k:Int) % 2)) h=_
  rw [this]
 have z2:∀ h,fEq (.int 1) (.int 0) h = .ok (.bl false) h:=fun h=>by simp
 unfold yaX ydy
 generalize hF:yav [.ref p,.int a,.int a] h1=R
 generalize ((k / 2:Nat):Int)=K2 at *
 generalize yaX d=G at *
 simp [z,dv,e1,hF,-fEq,-fDiv,-fMod]
 cases R with
 | ok v h2 =>
  simp [md,z2,-fEq,-fMod]
  cases yav [.ref p,v,.int n] h2<;>rfl
 | ex c h2=>rfl
 | bad=>rfl
theorem zez {ps:List Pc} (g:Good ps) {a b:Nat} {x y:Str} (A:TxZ ps a x) (B:TxZ ps b y):16*(max (htOf ps a) (htOf ps b)+1).toNat<=1400:=by
 have key:∀ {n:Nat} {y:Str},TxZ ps n y->htOf ps n<=82:=fun {n y} t=>by
  rcases t with ⟨rfl,rfl⟩ | ⟨m,f,l,T⟩
  ·rw [za3];lia
  ·rw [ybA T.ms];exact ht82 g T
 have:=key A
 have:=key B
 lia
theorem zdV {p:Nat}:∀ (d e:Nat) {h:AH} {ps:List Pc} {n k:Nat} {x:Str},ShelfAt h p ps->Good ps->TxZ ps n x->k<2 ^ e->e<d->x.length*k<=1000000000000000000->ps.length+2800*e<15000000 ->
  ∃ (m:Nat) (ps':List Pc) (h':AH),Dn (yaX d [.ref p,.int n,.int k]) p h h' ps ps' (2800*e) m/\TxZ ps' m (repS x k)
 | 0,e,h,ps,n,k,x,S,g,T,hk,hd,hm,hz=>absurd hd (Nat.not_lt_zero _)
 | d+1,e,h,ps,n,k,x,S,g,T,hk,hd,hm,hz=>by
  by_cases k0:k=0
  ·subst k0
   have dv:Dn (yaX (d+1) [.ref p,.int n,.int (0:Nat)]) p h h ps ps 0 0:=Dn.val S g fun hh pp S' _ pr=>db_0
   exact ⟨0,ps,h,dv.as S g (fun _ _ _ _ _=>rfl) (Nat.zero_le _),.inl ⟨rfl,zcP x⟩⟩
  ·obtain ⟨e',rfl⟩:∃ e',e=e'+1:=by
    cases e with
    | zero=>simp at hk;lia
    | succ e' => exact ⟨e',rfl⟩
   rw [Nat.pow_succ] at hk
   have kk:x.length*(k / 2)+x.length*(k / 2)+x.length*(k % 2)=x.length*k:=by
    rw [<- Nat.mul_add,<- Nat.mul_add]
    congr 1
    lia
   obtain ⟨a,ps1,h1,d1,T1⟩:=zdV d e' (k:=k / 2) S g T (by lia) (by lia) (by lia) (by lia)
   have z1:=d1.dd.len
   have l1:=zdu x (k / 2)
   obtain ⟨b,ps2,h2,d2,T2⟩:=zcN d1.dd.sh d1.dd.gd T1 T1 (by lia) (by lia)
   have w2:=zez d1.dd.gd T1 T1
   have z2:=d2.dd.len
   rw [zci] at T2
   by_cases hp:k % 2=0
   ·have ek:k / 2+k / 2=k:=by lia
    rw [ek] at T2
    exact ⟨b,ps2,h2,Dn.seq' S g d1 d2 (fun hh hh1 pp S' _ pr ev=>db_1 k0 hp ev) (by lia),T2⟩
   ·have l2:=zdu x (k / 2+k / 2)
    rw [Nat.mul_add] at l2
    have km:x.length*(k % 2)=x.length:=by rw [show k % 2=1 by lia,Nat.mul_one]
    have p12:=d1.dd.pre.trans d2.dd.pre
    obtain ⟨c,ps3,h3,d3,T3⟩:=zcN d2.dd.sh d2.dd.gd T2 (T.pre p12) (by lia) (by lia)
    have w3:=zez d2.dd.gd T2 (T.pre p12)
    have ek:repS x (k / 2+k / 2)++x=repS x k:=by
     conv=>lhs;rhs;rw [<- zdt x]
     rw [zci]
     congr 1
     lia
    rw [ek] at T3
    have d23:=Dn.seq (F:=fun hh=>(yav [.ref p,.int a,.int a] hh).bind fun v h2=>yav [.ref p,v,.int n] h2) (F2:=fun v h2=>yav [.ref p,v,.int n] h2) d1.dd.sh d1.dd.gd d2 d3 (fun _ _ _ _ _=>rfl) (k:=2800) (by lia)
    exact ⟨c,ps3,h3,Dn.seq' S g d1 d23 (fun hh hh1 pp S' _ pr ev=>db_2 k0 hp ev) (by lia),T3⟩
theorem yf7 {h:AH} {p n k:Nat} {ps:List Pc} {m:Ms} (S:ShelfAt h p ps) (em:(meas ps)[n]? = some m) (hk:k<2 ^ 63) (hm:m.sg*k<=1000000000000000000):ycl [.ref p,.int n,.int k] h=if n=0 then .ok (.int (0:Nat)) h else yaX 64 [.ref p,.int n,.int k] h:=by
 have fs:=zao S em
 have lt:fLt (.int k) (.int 0) h = .ok (.bl false) h:=by
  have : ¬ (k:Int)<0:=by lia
  simp only [fLt,this,decide_false]
 have ml:fMul (.int m.sg) (.int k) h = .ok (.int ((m.sg*k:Nat):Int)) h:=by
  have h2:(k:Int).natAbs<2 ^ 64:=by
   have:(2:Nat) ^ 63<2 ^ 64:=by decide
   lia
  rw [ye8 h2];congr 2
 have ck:=zaY (i:=((m.sg*k:Nat):Int)) (by lia) h
 unfold ycl
 generalize yaX 64=G at *
 generalize ((m.sg*k:Nat):Int)=MK at *
 by_cases z:n=0
 ·subst z
  have z0:fEq (.int 0) (.int 0) h = .ok (.bl true) h:=by simp
  have fs':yaz [.ref p,.int 0] h = .ok (.int m.sg) h:=fs
  simp [S.ob,fs',lt,ml,ck,z0,-fLt,-fMul,-fEq]
 ·have z0:fEq (.int n) (.int 0) h = .ok (.bl false) h:=by simp [z]
  rw [if_neg z]
  generalize hR:G [.ref p,.int n,.int k] h=R
  simp [S.ob,fs,lt,ml,ck,z0,hR,-fLt,-fMul,-fEq]
  cases R<;>rfl
theorem zgi {h:AH} {p:Nat} {ps:List Pc} {n k e:Nat} {x:Str} (S:ShelfAt h p ps) (g:Good ps) (T:TxZ ps n x) (hk:k<2 ^ e) (he:e<62) (hm:x.length*k<=1000000000000000000) (hz:ps.length+2800*e<15000000) :
  ∃ (m:Nat) (ps':List Pc) (h':AH),Dn (ycl [.ref p,.int n,.int k]) p h h' ps ps' (2800*e) m/\TxZ ps' m (repS x k):=by
 obtain ⟨m,em,sm⟩:=T.meas
 have k63:k<2 ^ 63:=Nat.lt_of_lt_of_le hk (Nat.pow_le_pow_right (by decide) (by lia))
 by_cases z:n=0
 ·rcases T with ⟨_,rfl⟩ | ⟨_,_,_,T⟩
  ·have dv:Dn (ycl [.ref p,.int n,.int k]) p h h ps ps 0 0:=Dn.val S g fun hh pp S' _ pr=>by rw [yf7 S' (zac pr em) k63 (by rw [sm];exact hm),if_pos z]
   exact ⟨0,ps,h,dv.as S g (fun _ _ _ _ _=>rfl) (Nat.zero_le _),.inl ⟨rfl,zfR k⟩⟩
  ·exact absurd T.n1 (by lia)
 ·obtain ⟨c,ps',h',d,T'⟩:=zdV 64 e S g T hk (by lia) hm hz
  exact ⟨c,ps',h',d.as S g (fun hh pp S' _ pr=>by rw [yf7 S' (zac pr em) k63 (by rw [sm];exact hm),if_neg z]) (Nat.le_refl _),T'⟩
theorem htZ {ps:List Pc} (g:Good ps) {n:Nat} {x:Str} (t:TxZ ps n x) : -1<=htOf ps n/\htOf ps n<=82:=by
 refine ⟨zaH t,?_⟩
 rcases t with ⟨rfl,rfl⟩ | ⟨m,f,l,T⟩
 ·rw [za3];lia
 ·rw [ybA T.ms];exact ht82 g T
theorem zdW {h:AH} {p n b e:Nat} {ps:List Pc} {m:Ms} (S:ShelfAt h p ps) (em:(meas ps)[n]? = some m) (be:b<=e) (hm:e<=m.sg):ybP [.ref p,.int n,.int b,.int e] h = .ok .non h:=by
 have fs:=zao S em
 have l1:fLe (.int 0) (.int b) h = .ok (.bl true) h:=by
  have:(0:Int)<=b:=by lia
  simp only [fLe,this,decide_true]
 have l2:fLe (.int b) (.int e) h = .ok (.bl true) h:=by
  have:(b:Int)<=e:=by lia
  simp only [fLe,this,decide_true]
 have l3:fLe (.int e) (.int m.sg) h = .ok (.bl true) h:=by
  have:(e:Int)<=m.sg:=by lia
  simp only [fLe,this,decide_true]
 simp [ybP,S.ob,fs,l1,l2,l3,-fLe]
theorem zfS {h:AH} {p n t:Nat} {ps:List Pc} {m:Ms} (S:ShelfAt h p ps) (em:(meas ps)[n]? = some m) (hm:t<=m.sg):ycp [.ref p,.int n,.int t] h = .ok .non h:=by
 have fs:=zao S em
 have l1:fLe (.int 0) (.int t) h = .ok (.bl true) h:=by
  have:(0:Int)<=t:=by lia
  simp only [fLe,this,decide_true]
 have l2:fLe (.int t) (.int m.sg) h = .ok (.bl true) h:=by
  have:(t:Int)<=m.sg:=by lia
  simp only [fLe,this,decide_true]
 simp [ycp,S.ob,fs,l1,l2,-fLe]
end Sk
namespace Sk
open PySem PySem.Spec L2 Sm
theorem zhb {h:AH} {p:Nat} {ps:List Pc} {a b:Nat} {ma mb fa la fb lb:Ms} {x y:Str} (S:ShelfAt h p ps) (g:Good ps) (A:Tx ps a ma x fa la) (B:Tx ps b mb y fb lb) (hc : ¬ 8<la.sg+fb.sg) (hm:ma.sg+mb.sg<=1000000000000000000) (hz:ps.length<15000000) :
  ∃ (n:Nat) (ps':List Pc) (h':AH) (m f l:Ms),Dn (ycb [.ref p,.int a,.int b]) p h h' ps ps' (7*(max ma.ht mb.ht).toNat+2) n/\Tx ps' n m (x++y) f l/\m.ht<=max ma.ht mb.ht+1/\max ma.ht mb.ht-1<=m.ht/\fa.sg<=f.sg/\lb.sg<=l.sg:=by
 obtain ⟨_,w,u,l1,el,ex,lw⟩:=g.ends a a (Nat.le_refl _) A
 obtain ⟨⟨v,t,f1,ef,ey,lv⟩,_⟩:=g.ends b b (Nat.le_refl _) B
 have a0:=A.ky.ht
 have b0:=B.ky.ht
 have ha:=ht82 g A
 have hb:=ht82 g B
 have px:yaE x=true:=A.ky.pl
 have py:yaE y=true:=B.ky.pl
 have pw:yaE w=true:=by rw [ex,zaJ,Bool.and_eq_true] at px;exact px.2
 have pv:yaE v=true:=by rw [ey,zaJ,Bool.and_eq_true] at py;exact py.1
 have la1:=A.ky.l1
 have fb1:=B.ky.f1
 have sx:=A.ky.sg
 have sy:=B.ky.sg
 have lx:x.length=u.length+w.length:=by rw [ex,zak]
 have ly:y.length=v.length+t.length:=by rw [ey,zak]
 have lwv:(w++v).length=w.length+v.length:=zak w v
 obtain ⟨L,ps1,h1,d1,N⟩:=zbz S g (zdR (w:=w) (v:=v) (by lia) (by lia) pw pv) (by lia)
 have z1:=d1.dd.len
 obtain ⟨n2,ps2,h2,m2,f2,u2,v2,d2,ex2,lv2,T2,k1,k2⟩:=zdq 90 d1.dd.sh d1.dd.gd (A.pre d1.dd.pre) N (by lia) (by lia) (by lia) (by lia)
 have z2:=d2.dd.len
 obtain ⟨rfl,rfl⟩:u=u2/\w=v2:=zew (ex.symm.trans ex2) (by lia)
 have s2:m2.sg=u.length+(w.length+v.length):=by rw [T2.ky.sg,zak,zak]
 have p12:=d1.dd.pre.trans d2.dd.pre
 have lm:(lfMs (w++v) L).sg=w.length+v.length:=zak w v
 have tb:∀ q:Int,0<=q->q<=max ma.ht mb.ht->q.toNat<=(max ma.ht mb.ht).toNat:=fun q _ _=>by lia
 rcases zcM 90 d2.dd.sh d2.dd.gd (B.pre p12) (by lia) (by lia) with ⟨r1,r2,d3⟩ | ⟨r1,n3,ps3,h3,m3,f3,u3,v3,d3,ey3,lu3,T3,r2,r3,r4⟩
 ·have t0:t.length=0:=by lia
  have te:t = "" := zaf (by rw [zad] at t0;rw [List.length_eq_zero_iff.mp t0];rfl)
  have rd:u++(w++v)=x++y:=by
   rw [ex,ey,te,zah]
   congr 2
  rw [rd] at T2
  refine ⟨n2,ps2,h2,m2,f2,_,⟨?_,d1.dd.trans d2.dd (by lia),fun h4 ps4 S4 g4 p4=>?_⟩,T2,by lia,by lia,k2,?_⟩
  rotate_left 2
  ·obtain ⟨kk,cc⟩:=B.ky.cnt
   have:lb.sg<=mb.sg:=by rcases cc with cc | cc<;>lia
   lia
  ·rw [wd_1 S A.ms B.ms l1 f1 el ef (by lia) d1.ev d2.ev d3.ev];rfl
  ·have q1:=d1.re h4 ps4 S4 g4 (d2.dd.pre.trans p4)
   have q2:=d2.re h4 ps4 S4 g4 p4
   have q3:=d3.re h4 ps4 S4 g4 p4
   rw [wd_1 S4 (zac (p12.trans p4) A.ms) (zac (p12.trans p4) B.ms) l1 f1 (yaL (p12.trans p4) el) (yaL (p12.trans p4) ef) (by lia) q1 q2 q3];rfl
 ·obtain ⟨rfl,rfl⟩:v=u3/\t=v3:=zdr (ey.symm.trans ey3) (by lia)
  have z3:=d3.dd.len
  have s3:m3.sg=t.length:=T3.ky.sg
  have m30:=T3.ky.ht
  obtain ⟨n4,ps4,h4,m4,d4,T4,r5,r6⟩:=zaR 90 (max ma.ht mb.ht).toNat d3.dd.sh d3.dd.gd (T2.pre d3.dd.pre) T3 (by lia) (by lia) (by lia) (by lia) (by lia)
  have rd:(u++(w++v))++t=x++y:=by rw [ex,ey,zah,zah,zah]
  rw [rd] at T4
  have n3z : ¬ (n3:Int)=0:=by have:=T3.n1;lia
  have p123:=p12.trans d3.dd.pre
  refine ⟨n4,ps4,h4,m4,f2,lb,⟨?_,((d1.dd.trans d2.dd (Nat.le_refl _)).trans d3.dd (Nat.le_refl _)).trans d4.dd (by lia),fun h5 ps5 S5 g5 p5=>?_⟩,T4,by lia,by lia,k2,Nat.le_refl _⟩
  ·rw [wd_1 S A.ms B.ms l1 f1 el ef (by lia) d1.ev d2.ev d3.ev,if_neg n3z];exact d4.ev
  ·have p45:=d4.dd.pre.trans p5
   have q1:=d1.re h5 ps5 S5 g5 (d2.dd.pre.trans (d3.dd.pre.trans p45))
   have q2:=d2.re h5 ps5 S5 g5 (d3.dd.pre.trans p45)
   have q3:=d3.re h5 ps5 S5 g5 p45
   have q4:=d4.re h5 ps5 S5 g5 p5
   have pa:=p123.trans p45
   rw [wd_1 S5 (zac pa A.ms) (zac pa B.ms) l1 f1 (yaL pa el) (yaL pa ef) (by lia) q1 q2 q3,if_neg n3z];exact q4
theorem zfT {h:AH} {p:Nat} {ps:List Pc} {a b:Nat} {ma mb fa la fb lb:Ms} {x y:Str} (S:ShelfAt h p ps) (g:Good ps) (A:Tx ps a ma x fa la) (B:Tx ps b mb y fb lb) (q:8<la.sg+fb.sg) (hm:ma.sg+mb.sg<=1000000000000000000) (hz:ps.length<15000000) :
  ∃ (n:Nat) (ps':List Pc) (h':AH) (m:Ms),Dn (yav [.ref p,.int a,.int b]) p h h' ps ps' (3*(ma.ht-mb.ht).natAbs+1) n/\Tx ps' n m (x++y) fa lb/\max ma.ht mb.ht<=m.ht/\m.ht<=max ma.ht mb.ht+1:=by
 have a0:=A.ky.ht
 have b0:=B.ky.ht
 have ha:=ht82 g A
 have hb:=ht82 g B
 obtain ⟨n,ps',h',m,d,T,h1,h2⟩:=zaR 90 (ma.ht-mb.ht).natAbs S g A B q hm (Nat.le_refl _) (by lia) (by lia)
 exact ⟨n,ps',h',m,d.as S g (fun hh pp S' _ pr=>by rw [jn_2 S' A.n1 B.n1 (zac pr A.ms) (zac pr B.ms) (zac pr A.ky.ll) (zac pr B.ky.fl) hm,if_pos q]) (Nat.le_refl _),T,h1,h2⟩
theorem zfU {h:AH} {p:Nat} {ps:List Pc} {a b:Nat} {ma mb fa la fb lb:Ms} {x y:Str} (S:ShelfAt h p ps) (g:Good ps) (A:Tx ps a ma x fa la) (B:Tx ps b mb y fb lb) (q : ¬ 8<la.sg+fb.sg) (hm:ma.sg+mb.sg<=1000000000000000000) (hz:ps.length<15000000) :
  ∃ (n:Nat) (ps':List Pc) (h':AH) (m f l:Ms),Dn (yav [.ref p,.int a,.int b]) p h h' ps ps' (7*(max ma.ht mb.ht).toNat+2) n/\Tx ps' n m (x++y) f l/\m.ht<=max ma.ht mb.ht+1/\max ma.ht mb.ht-1<=m.ht/\fa.sg<=f.sg/\lb.sg<=l.sg:=by
 obtain ⟨n,ps',h',m,f,l,d,T,h1,h2,h3,h4⟩:=zhb S g A B q hm hz
 exact ⟨n,ps',h',m,f,l,d.as S g (fun hh pp S' _ pr=>by rw [jn_2 S' A.n1 B.n1 (zac pr A.ms) (zac pr B.ms) (zac pr A.ky.ll) (zac pr B.ky.fl) hm,if_neg q]) (Nat.le_refl _),T,h1,h2,h3,h4⟩
theorem ln_a {h1 h2 hc he H:Int} (c0:0<=hc) (e0:0<=he) (r0:0<=h1) (w1 : -1<=hc-he) (w2:hc-he<=1) (hH:H=max hc he+1) (r1:h1<=he) (g1:max hc h1<=h2):(7*h1.toNat+9*he.toNat+1)+(3*(hc-h1).natAbs+1)<=7*h2.toNat+9*H.toNat+1:=by lia
theorem ln_b {h2 hc he H:Int} (c0:0<=hc) (e0:0<=he) (hH:H=max hc he+1) (g1:max hc 0-1<=h2):(7*(0:Int).toNat+9*he.toNat+1)+(7*(max hc 0).toNat+2)<=7*h2.toNat+9*H.toNat+1:=by lia
theorem zcQ {p:Nat}:∀ (d:Nat) {h:AH} {ps:List Pc} {n a:Nat} {m f l:Ms} {x:Str},ShelfAt h p ps->Good ps->Tx ps n m x f l->1<=a->a<=x.length->m.ht.toNat<d->ps.length+16*m.ht.toNat+1<14900000 ->
  ∃ (r:Nat) (ps':List Pc) (h':AH) (m' f' l':Ms),Dn (yas d [.ref p,.int n,.int a]) p h h' ps ps' (7*m'.ht.toNat+9*m.ht.toNat+1) r/\Tx ps' r m' (tkS x a) f' l'/\m'.ht<=m.ht/\(m'.ht=0\/f.sg<=f'.sg)
 | 0,h,ps,n,a,m,f,l,x,S,g,T1,a1,ha,hd,hz=>absurd hd (Nat.not_lt_zero _)
 | d+1,h,ps,n,a,m,f,l,x,S,g,T1,a1,ha,hd,hz=>by
  have a0 : ¬ a=0:=by lia
  have sg:=T1.ky.sg
  have m0:=T1.ky.ht
  by_cases ea:a=m.sg
  ·have dv:Dn (yas (d+1) [.ref p,.int n,.int a]) p h h ps ps 0 n:=Dn.val S g fun hh pp S' _ pr=>yhe S' (zac pr T1.ms) a0 ea
   exact ⟨n,ps,h,m,f,l,dv.as S g (fun _ _ _ _ _=>rfl) (Nat.zero_le _),by rw [yhc (by lia)];exact T1,Int.le_refl _,.inr (Nat.le_refl _)⟩
  ·rcases g.kind T1 with ⟨e1,e2,e3,e4,e5⟩ | ⟨_,_,mx,my,_,_,_,_,_,_,_,_,_,X,Y,_,e5,_⟩
   ·have lt:=ydo ha
    obtain ⟨r,ps',h',d1,L⟩:=zbz S g (x:=tkS x a) (by
     unfold ybx
     rw [zh1 T1.ky.pl,lt]
     simp;lia) (by lia)
    exact ⟨r,ps',h',_,_,_,d1.as S g (fun hh pp S' _ pr=>zjb S' T1.n1 (zac pr T1.ms) (yaL pr e1) a0 ea) (by lia),L,by show (0:Int)<=_;lia,.inl rfl⟩
   ·have hpos:0<m.ht:=by
     have:=congrArg Ms.ht e5
     rw [fmH] at this
     have:=X.ky.ht
     lia
    obtain ⟨c,e,mc,me,y1,y2,lc,fe,ep,C,E,rfl,em,w1,w2,w3⟩:=g.cut T1 hpos
    have hh:m.ht=max mc.ht me.ht+1:=by rw [em];rfl
    have c0:=C.ky.ht
    have e0:=E.ky.ht
    have sc:=C.ky.sg
    have se:=E.ky.sg
    have la:=zak y1 y2
    by_cases hl:a<=mc.sg
    ·obtain ⟨r,ps',h',m',f',l',d1,T',q1,q2⟩:=zcQ d (n:=c) (a:=a) (x:=y1) S g C a1 (by lia) (by lia) (by lia)
     exact ⟨r,ps',h',m',f',l',d1.as S g (fun hh pp S' _ pr=>fr_l S' T1.n1 (zac pr T1.ms) (zac pr C.ms) (yaL pr ep) a0 ea hl) (by lia),by rw [tk_l (by lia)];exact T',by lia,q2⟩
    ·obtain ⟨r,ps1,h1,m1,f1,l1,d1,T',q1,q2⟩:=zcQ d (n:=e) (a:=a-mc.sg) (x:=y2) S g E (by lia) (by lia) (by lia) (by lia)
     have z1:=d1.dd.len
     have r0:=T'.ky.ht
     have lt:=ydo (x:=y2) (a:=a-mc.sg) (by lia)
     have s1:=T'.ky.sg
     have most:=T1.ky.most
     have C' := C.pre d1.dd.pre
     have tr:tkS (y1++y2) a=y1++tkS y2 (a-mc.sg):=by rw [tk_r (by lia),<- sc]
     rw [tr]
     by_cases q:8<lc.sg+f1.sg
     ·obtain ⟨s,ps2,h2,m2,d2,T2,g1,g2⟩:=zfT d1.dd.sh d1.dd.gd C' T' q (by lia) (by lia)
      exact ⟨s,ps2,h2,m2,f,l1,Dn.seq' S g d1 d2 (fun hh hh1 pp S' _ pr ev=>fr_r S' T1.n1 (zac pr T1.ms) (zac pr C.ms) (yaL pr ep) a0 ea hl ev) (ln_a c0 e0 r0 w1 w2 hh q1 g1),T2,by lia,.inr (Nat.le_refl _)⟩
     ·have z:m1.ht=0:=by
       rcases q2 with q2 | q2
       ·exact q2
       ·lia
      obtain ⟨s,ps2,h2,m2,f2,l2,d2,T2,g2,g1,g3,g4⟩:=zfU d1.dd.sh d1.dd.gd C' T' q (by lia) (by lia)
      rw [z] at d1 d2 g1 g2
      exact ⟨s,ps2,h2,m2,f2,l2,Dn.seq' S g d1 d2 (fun hh hh1 pp S' _ pr ev=>fr_r S' T1.n1 (zac pr T1.ms) (zac pr C.ms) (yaL pr ep) a0 ea hl ev) (ln_b c0 e0 hh g1),T2,by lia,.inr g3⟩
theorem ln_c {h1 h2 hc he H:Int} (c0:0<=hc) (e0:0<=he) (r0:0<=h1) (w1 : -1<=hc-he) (w2:hc-he<=1) (hH:H=max hc he+1) (r1:h1<=hc) (g1:max h1 he<=h2):(7*h1.toNat+9*hc.toNat+1)+(3*(h1-he).natAbs+1)<=7*h2.toNat+9*H.toNat+1:=by lia
theorem ln_d {h2 hc he H:Int} (c0:0<=hc) (e0:0<=he) (hH:H=max hc he+1) (g1:max 0 he-1<=h2):(7*(0:Int).toNat+9*hc.toNat+1)+(7*(max 0 he).toNat+2)<=7*h2.toNat+9*H.toNat+1:=by lia
theorem zdv {p:Nat}:∀ (d:Nat) {h:AH} {ps:List Pc} {n a:Nat} {m f l:Ms} {x:Str},ShelfAt h p ps->Good ps->Tx ps n m x f l->a<x.length->m.ht.toNat<d->ps.length+16*m.ht.toNat+1<14900000 ->
  ∃ (r:Nat) (ps':List Pc) (h':AH) (m' f' l':Ms),Dn (yaw d [.ref p,.int n,.int a]) p h h' ps ps' (7*m'.ht.toNat+9*m.ht.toNat+1) r/\Tx ps' r m' (dpS x a) f' l'/\m'.ht<=m.ht/\(m'.ht=0\/l.sg<=l'.sg)
 | 0,h,ps,n,a,m,f,l,x,S,g,T1,ha,hd,hz=>absurd hd (Nat.not_lt_zero _)
 | d+1,h,ps,n,a,m,f,l,x,S,g,T1,ha,hd,hz=>by
  have sg:=T1.ky.sg
  have m0:=T1.ky.ht
  by_cases a0:a=0
  ·subst a0
   have dv:Dn (yaw (d+1) [.ref p,.int n,.int (0:Nat)]) p h h ps ps 0 n:=Dn.val S g fun hh pp S' _ pr=>bk_0
   exact ⟨n,ps,h,m,f,l,dv.as S g (fun _ _ _ _ _=>rfl) (Nat.zero_le _),by rw [dp_0];exact T1,Int.le_refl _,.inr (Nat.le_refl _)⟩
  ·have ea : ¬ a=m.sg:=by lia
   rcases g.kind T1 with ⟨e1,e2,e3,e4,e5⟩ | ⟨_,_,mx,my,_,_,_,_,_,_,_,_,_,X,Y,_,e5,_⟩
   ·have lt:=yc7 x a
    obtain ⟨r,ps',h',d1,L⟩:=zbz S g (x:=dpS x a) (by
     unfold ybx
     rw [zey T1.ky.pl,lt]
     simp;lia) (by lia)
    exact ⟨r,ps',h',_,_,_,d1.as S g (fun hh pp S' _ pr=>zjc S' T1.n1 (zac pr T1.ms) (yaL pr e1) (by lia) a0 ea) (by lia),L,by show (0:Int)<=_;lia,.inl rfl⟩
   ·have hpos:0<m.ht:=by
     have:=congrArg Ms.ht e5
     rw [fmH] at this
     have:=X.ky.ht
     lia
    obtain ⟨c,e,mc,me,y1,y2,lc,fe,ep,C,E,rfl,em,w1,w2,w3⟩:=g.cut T1 hpos
    have hh:m.ht=max mc.ht me.ht+1:=by rw [em];rfl
    have c0:=C.ky.ht
    have e0:=E.ky.ht
    have sc:=C.ky.sg
    have se:=E.ky.sg
    have la:=zak y1 y2
    by_cases hl:mc.sg<=a
    ·obtain ⟨r,ps',h',m',f',l',d1,T',q1,q2⟩:=zdv d (n:=e) (a:=a-mc.sg) (x:=y2) S g E (by lia) (by lia) (by lia)
     refine ⟨r,ps',h',m',f',l',d1.as S g (fun hh pp S' _ pr=>bk_r S' T1.n1 (zac pr T1.ms) (zac pr C.ms) (yaL pr ep) a0 ea hl) (by lia),?_,by lia,q2⟩
     rw [dp_r (by lia),<- sc]
     exact T'
    ·obtain ⟨r,ps1,h1,m1,f1,l1,d1,T',q1,q2⟩:=zdv d (n:=c) (a:=a) (x:=y1) S g C (by lia) (by lia) (by lia)
     have z1:=d1.dd.len
     have r0:=T'.ky.ht
     have lt:=yc7 y1 a
     have s1:=T'.ky.sg
     have most:=T1.ky.most
     have E' := E.pre d1.dd.pre
     have tr:dpS (y1++y2) a=dpS y1 a++y2:=dp_l (by lia)
     rw [tr]
     by_cases q:8<l1.sg+fe.sg
     ·obtain ⟨s,ps2,h2,m2,d2,T2,g1,g2⟩:=zfT d1.dd.sh d1.dd.gd T' E' q (by lia) (by lia)
      exact ⟨s,ps2,h2,m2,f1,l,Dn.seq' S g d1 d2 (fun hh hh1 pp S' _ pr ev=>bk_l S' T1.n1 (zac pr T1.ms) (zac pr C.ms) (yaL pr ep) a0 ea hl ev) (ln_c c0 e0 r0 w1 w2 hh q1 g1),T2,by lia,.inr (Nat.le_refl _)⟩
     ·have z:m1.ht=0:=by
       rcases q2 with q2 | q2
       ·exact q2
       ·lia
      obtain ⟨s,ps2,h2,m2,f2,l2,d2,T2,g2,g1,g3,g4⟩:=zfU d1.dd.sh d1.dd.gd T' E' q (by lia) (by lia)
      rw [z] at d1 d2 g1 g2
      exact ⟨s,ps2,h2,m2,f2,l2,Dn.seq' S g d1 d2 (fun hh hh1 pp S' _ pr ev=>bk_l S' T1.n1 (zac pr T1.ms) (zac pr C.ms) (yaL pr ep) a0 ea hl ev) (ln_d c0 e0 hh g1),T2,by lia,.inr g4⟩
end Sk
namespace Sk
open PySem PySem.Spec L2 Sm
def ya4 (m f l:Ms):AV:=.tup [.int m.ht,.int m.sg,.int f.sg,.int l.sg,.int m.lv]
structure KOl (ps:List Pc) (kvs:List (AV×AV)):Prop where
 ok:∀ (k:Int) (v:AV),valA kvs (.int k)=some v->∃ (n:Nat) (m:Ms) (x:Str) (f l:Ms),k=n/\Tx ps n m x f l/\v=ya4 m f l
 nd:(kvs.map (·.1)).Nodup
 ks:∀ q∈kvs,∃ n:Nat,q.1 = .int n/\n<=ps.length
 cl:∀ n a b:Nat,(valA kvs (.int n)).isSome=true->ps[n-1]? = some (.fork a b)->(valA kvs (.int a)).isSome=true/\(valA kvs (.int b)).isSome=true
theorem zjd {kvs:List (AV×AV)} {k v:AV} (e:valA kvs k=none):putA kvs k v=kvs++[(k,v)]:=by
 unfold putA
 rw [zdm,e];rfl
theorem zbB {kvs:List (AV×AV)} {k v j:AV}:valA (kvs++[(k,v)]) j=(valA kvs j).or (if k=j then some v else none):=by
 unfold valA
 rw [List.find?_append]
 cases q:kvs.find? fun p=>decide (p.1=j) with
 | some z=>rfl
 | none =>
  by_cases c:k=j
  ·simp [c]
  ·simp [c]
theorem yhh {kvs:List (AV×AV)} {k:AV} (e:valA kvs k=none):∀ q∈kvs,q.1≠k:=fun q hq z=>by
 unfold valA at e
 rw [Option.map_eq_none_iff,List.find?_eq_none] at e
 exact e q hq (by simp [z])
theorem zfV:∀ (N:Nat) (l:List Nat),l.Nodup->(∀ a∈l,a<N)->l.length<=N
 | 0,l,_,h=>by
  cases l with
  | nil=>exact Nat.le_refl _
  | cons a l=>exact absurd (h a (List.mem_cons_self ..)) (Nat.not_lt_zero _)
 | N+1,l,n,h=>by
  have z:=zfV N (l.erase N) (n.erase N) fun a ha=>by
   have h1:=h a (List.mem_of_mem_erase ha)
   have h2:=(n.mem_erase_iff.mp ha).1
   lia
  by_cases q:N∈l
  ·rw [List.length_erase_of_mem q] at z;lia
  ·rw [List.erase_of_not_mem q] at z;lia
def iN:AV->Nat
 | .int i=>i.toNat
 | _=>0
theorem KOl.few {ps:List Pc} {kvs:List (AV×AV)} (K:KOl ps kvs):kvs.length<=ps.length+1:=by
 have z:=zfV (ps.length+1) (kvs.map fun q=>iN q.1) (by
  rw [show (kvs.map fun q=>iN q.1)=(kvs.map (·.1)).map iN by rw [List.map_map];rfl]
  refine List.Pairwise.map _ ?_ (List.Pairwise.and_mem.mp K.nd)
  rintro a b ⟨ha,hb,ne⟩ e
  obtain ⟨q,hq,rfl⟩:=List.mem_map.mp ha
  obtain ⟨r,hr,rfl⟩:=List.mem_map.mp hb
  obtain ⟨i,e1,_⟩:=K.ks q hq
  obtain ⟨j,e2,_⟩:=K.ks r hr
  rw [e1,e2] at e ne
  have:i=j:=by simpa [iN] using e
  exact ne (by rw [this])) fun a ha=>by
  obtain ⟨q,hq,rfl⟩:=List.mem_map.mp ha
  obtain ⟨i,e1,h1⟩:=K.ks q hq
  rw [e1]
  show (i:Int).toNat<_
  lia
 simpa using z
theorem KOl.nil (ps:List Pc):KOl ps []:=⟨fun _ _ z=>by simp [valA] at z,List.nodup_nil,fun _ h=>(nomatch h),fun _ _ _ z=>by simp [valA] at z⟩
theorem KOl.put {ps:List Pc} {kvs:List (AV×AV)} (K:KOl ps kvs) {n:Nat} {m:Ms} {x:Str} {f l:Ms} (T:Tx ps n m x f l) (e:valA kvs (.int n)=none)
  (c:∀ a b:Nat,ps[n-1]? = some (.fork a b)->(valA kvs (.int a)).isSome=true/\(valA kvs (.int b)).isSome=true):KOl ps (putA kvs (.int n) (ya4 m f l))/\(valA (putA kvs (.int n) (ya4 m f l)) (.int n)).isSome=true/\(∀ k,(valA kvs k).isSome=true->(valA (putA kvs (.int n) (ya4 m f l)) k).isSome=true)/\∀ k,(valA (putA kvs (.int n) (ya4 m f l)) k).isSome=true->(valA kvs k).isSome=true\/k = .int n:=by
 rw [zjd e]
 have up:∀ k,(valA kvs k).isSome=true->(valA (kvs++[(.int n,ya4 m f l)]) k).isSome=true:=fun k h=>by
  rw [zbB]
  obtain ⟨v,e⟩:=Option.isSome_iff_exists.mp h
  rw [e];rfl
 refine ⟨⟨fun k v hv=>?_,?_,fun q hq=>?_,fun j a b hj hp=>?_⟩,?_,up,fun k hk=>?_⟩
 ·rw [zbB] at hv
  cases w:valA kvs (.int k) with
  | some u=>rw [w] at hv;cases hv;exact K.ok k _ w
  | none =>
   rw [w] at hv
   by_cases z:AV.int n=AV.int k
   ·rw [if_pos z] at hv
    injection z with z
    cases hv
    exact ⟨n,m,x,f,l,z.symm,T,rfl⟩
   ·rw [if_neg z] at hv;cases hv
 ·rw [List.map_append]
  refine List.nodup_append.mpr ⟨K.nd,by simp,fun a ha b hb=>?_⟩
  obtain ⟨q,hq,rfl⟩:=List.mem_map.mp ha
  simp at hb
  subst hb
  exact yhh e q hq
 ·rcases List.mem_append.mp hq with h | h
  ·exact K.ks q h
  ·simp at h;subst h;exact ⟨n,rfl,T.le⟩
 ·rw [zbB] at hj
  by_cases z:(valA kvs (.int j)).isSome=true
  ·exact ⟨up _ (K.cl j a b z hp).1,up _ (K.cl j a b z hp).2⟩
  ·cases w:valA kvs (.int j) with
   | some u=>rw [w] at z;exact absurd rfl z
   | none =>
    rw [w] at hj
    by_cases y:AV.int n=AV.int j
    ·injection y with y
     have:n=j:=by lia
     subst this
     exact ⟨up _ (c a b hp).1,up _ (c a b hp).2⟩
    ·rw [if_neg y] at hj;cases hj
 ·rw [zbB,e,if_pos rfl];rfl
 ·rw [zbB] at hk
  cases w:valA kvs k with
  | some u=>exact .inl rfl
  | none =>
   rw [w] at hk
   by_cases y:AV.int n=k
   ·exact .inr y.symm
   ·rw [if_neg y] at hk;cases hk
theorem zh5 {h:AH} {D:Nat} {o:AO} (e:h[D]? = some o):h.set D o=h:=by
 apply List.ext_getElem?
 intro i
 by_cases q:D=i
 ·subst q;rw [List.getElem?_set_self (yaR e),e]
 ·rw [List.getElem?_set_ne q]
theorem zje (a b c d e:Int) (h:AH):fNe (.tup [.int a,.int b,.int c,.int d,.int e]) (.tup []) h = .ok (.bl true) h:=by
 have q:eqA (.tup [.int a,.int b,.int c,.int d,.int e]) (.tup []) h=some false:=by
  show some (PyData.eqv (.tuple [.int a,.int b,.int c,.int d,.int e]) (.tuple []))=some false
  simp [PyData.eqv,PyData.eqvAll]
 show (match eqA (.tup [.int a,.int b,.int c,.int d,.int e]) (.tup []) h with | some b=>Out.ok (AV.bl (!b)) h | none=>Out.bad)=_
 rw [q];rfl
theorem zjf (m f l:Ms) (h:AH):fEq (ya4 m f l) (.tup []) h = .ok (.bl false) h:=by
 have q:eqA (ya4 m f l) (.tup []) h=some false:=by
  show some (PyData.eqv (.tuple [.int _,.int _,.int _,.int _,.int _]) (.tuple []))=some false
  simp [PyData.eqv,PyData.eqvAll]
 show (match eqA (ya4 m f l) (.tup []) h with | some b=>Out.ok (AV.bl b) h | none=>Out.bad)=_
 rw [q]
theorem yib {h:AH} {p D d n:Nat} {kvs:List (AV×AV)} {v:AV} (eD:h[D]? = some (.dct false kvs)) (e:valA kvs (.int n)=some v):yaY (d+1) [.ref p,.int n,.ref D] h = .ok v h:=by
 simp [yaY,ydg,eD,e,ybY]
theorem eqFL (h:AH):fEq (.str "leaf") (.str "fork") h = .ok (.bl false) h:=by
 have : ¬ (Str.ofString "leaf" = Str.ofString "fork"):=by decide +kernel
 simp [this]
theorem eqFF (h:AH):fEq (.str "fork") (.str "fork") h = .ok (.bl true) h:=by simp
theorem zjg {h:AH} {p D d n:Nat} {ps:List Pc} {kvs:List (AV×AV)} {x:Str} (S:ShelfAt h p ps) (n1:1<=n) (ep:ps[n-1]? = some (.leaf x)) (x1:1<=x.length) (x8:x.length<=8) (eD:h[D]? = some (.dct false kvs)) (e:valA kvs (.int n)=none) (sz:kvs.length<sizeLine) :
  yaY (d+1) [.ref p,.int n,.ref D] h = .ok (.tup [.int 0,.int x.length,.int x.length,.int x.length,.int 1]) (h.set D (.dct false (putA kvs (.int n) (.tup [.int 0,.int x.length,.int x.length,.int x.length,.int 1])))):=by
 have fp:=za2 S n1 ep
 have c1:0<x.length:=by lia
 have c2:(x.length:Int)<9:=by lia
 have ni:fIn (.int n) (.ref D) h = .ok (.bl false) h:=by simp [eD,e,ybY]
 have ii:∀ t:String,(AV.str x |> fun v=>tyN v h)=some "str" := fun _=>rfl
 unfold yaY ydg
 generalize yaY d=G
 simp [ni,S.ob,fp,i0L,eqL,i1L,eqFL,c1,c2,eD,sz,ybY,-fIn,-fEq,-fIx]
theorem zjh {h h1 h2:AH} {p D d n a b:Nat} {ps:List Pc} {kvs kvs2:List (AV×AV)} {ma mb fa la fb lb:Ms} (S:ShelfAt h p ps) (n1:1<=n) (ep:ps[n-1]? = some (.fork a b)) (a1:1<=a) (b1:1<=b) (an:a<n) (bn:b<n) (eD:h[D]? = some (.dct false kvs)) (e:valA kvs (.int n)=none)
  (e1:yaY d [.ref p,.int a,.ref D] h = .ok (ya4 ma fa la) h1) (e2:yaY d [.ref p,.int b,.ref D] h1 = .ok (ya4 mb fb lb) h2) (v1 : -1<=ma.ht-mb.ht) (v2:ma.ht-mb.ht<=1) (hc:8<la.sg+fb.sg) (eD2:h2[D]? = some (.dct false kvs2)) (sz:kvs2.length<sizeLine) :
  yaY (d+1) [.ref p,.int n,.ref D] h = .ok (.tup [.int (1+max ma.ht mb.ht),.int (ma.sg+mb.sg),.int fa.sg,.int lb.sg,.int (ma.lv+mb.lv)]) (h2.set D (.dct false (putA kvs2 (.int n) (.tup [.int (1+max ma.ht mb.ht),.int (ma.sg+mb.sg),.int fa.sg,.int lb.sg,.int (ma.lv+mb.lv)])))):=by
 have fp:=zax S n1 ep
 have c1:(0:Int)<a/\(a:Int)<n:=by lia
 have c2:(0:Int)<b/\(b:Int)<n:=by lia
 have c3:(8:Int)<(la.sg:Int)+fb.sg:=by lia
 have ni:fIn (.int n) (.ref D) h = .ok (.bl false) h:=by simp [eD,e,ybY]
 have la1:fLt (.int a) (.int n) h = .ok (.bl true) h:=by simp [an]
 have lb1:fLt (.int b) (.int n) h = .ok (.bl true) h:=by simp [bn]
 have la0:fLt (.int 0) (.int a) h = .ok (.bl true) h:=by simp [show 0<a by lia]
 have lb0:fLt (.int 0) (.int b) h = .ok (.bl true) h:=by simp [show 0<b by lia]
 have x0:∀ (i j k l o:Int) h,fIx (.tup [.int i,.int j,.int k,.int l,.int o]) (.int 0) h = .ok (.int i) h:=fun _ _ _ _ _ _=>rfl
 have x1:∀ (i j k l o:Int) h,fIx (.tup [.int i,.int j,.int k,.int l,.int o]) (.int 1) h = .ok (.int j) h:=fun _ _ _ _ _ _=>rfl
 have x2:∀ (i j k l o:Int) h,fIx (.tup [.int i,.int j,.int k,.int l,.int o]) (.int 2) h = .ok (.int k) h:=fun _ _ _ _ _ _=>rfl
 have x3:∀ (i j k l o:Int) h,fIx (.tup [.int i,.int j,.int k,.int l,.int o]) (.int 3) h = .ok (.int l) h:=fun _ _ _ _ _ _=>rfl
 have x4:∀ (i j k l o:Int) h,fIx (.tup [.int i,.int j,.int k,.int l,.int o]) (.int 4) h = .ok (.int o) h:=fun _ _ _ _ _ _=>rfl
 have ab:fAbs [.int (ma.ht-mb.ht)] h2 = .ok (.int (if ma.ht-mb.ht<0 then -(ma.ht-mb.ht) else ma.ht-mb.ht)) h2:=rfl
 have abl:fLt (.int (if ma.ht-mb.ht<0 then -(ma.ht-mb.ht) else ma.ht-mb.ht)) (.int 2) h2 = .ok (.bl true) h2:=by
  have:(if ma.ht-mb.ht<0 then -(ma.ht-mb.ht) else ma.ht-mb.ht)<2:=by split<;>lia
  simp only [fLt,this,decide_true]
 have gt:fGt (.int ((la.sg:Int)+fb.sg)) (.int 8) h2 = .ok (.bl true) h2:=by simp [c3]
 have mx:ybm [.int ma.ht,.int mb.ht] h2 = .ok (.int (max ma.ht mb.ht)) h2:=by
  have:(if ma.ht<mb.ht then mb.ht else ma.ht)=max ma.ht mb.ht:=by split<;>lia
  simp [ybm,this]
 unfold ya4 at e1 e2
 unfold yaY ydg
 generalize yaY d=G at *
 simp [ni,S.ob,fp,i0F,eqF,eqFF,i1,i2,la0,la1,lb0,lb1,e1,e2,zje,x0,x1,x2,x3,x4,ab,abl,gt,mx,eD2,sz,ybY,-fIn,-fEq,-fIx,-fLt,-fNe,-fAbs,-fGt,-ybm]
theorem zdw {p:Nat}:∀ (d:Nat) {h:AH} {ps:List Pc} {n D:Nat} {m f l:Ms} {x:Str} {kvs:List (AV×AV)},ShelfAt h p ps->Good ps->Tx ps n m x f l->m.ht.toNat<d->D<p\/p+8<D->h[D]? = some (.dct false kvs)->KOl ps kvs->ps.length<16000000 ->
  ∃ kvs',yaY d [.ref p,.int n,.ref D] h = .ok (ya4 m f l) (h.set D (.dct false kvs'))/\KOl ps kvs'/\(valA kvs' (.int n)).isSome=true/\(∀ k,(valA kvs k).isSome=true->(valA kvs' k).isSome=true)/\∀ k:Int,(valA kvs' (.int k)).isSome=true->(valA kvs (.int k)).isSome=true\/k<=n
 | 0,h,ps,n,D,m,f,l,x,kvs,S,g,T,hd,hD,eD,K,hl=>absurd hd (Nat.not_lt_zero _)
 | d+1,h,ps,n,D,m,f,l,x,kvs,S,g,T,hd,hD,eD,K,hl=>by
  have sz:∀ {q:List (AV×AV)},KOl ps q->q.length<sizeLine:=fun K=>by
   have:=K.few
   exact Nat.lt_of_le_of_lt (m:=16000000) (by lia) (by decide)
  cases e:valA kvs (.int n) with
  | some v =>
   obtain ⟨n',m',x',f',l',q1,T',rfl⟩:=K.ok n v e
   have:n=n' := Int.ofNat.inj q1
   subst this
   have z1:=T.ms.symm.trans T'.ms;cases z1
   have z2:=T.ky.fl.symm.trans T'.ky.fl;cases z2
   have z3:=T.ky.ll.symm.trans T'.ky.ll;cases z3
   exact ⟨kvs,by rw [zh5 eD];exact yib eD e,K,by rw [e];rfl,fun _ h=>h,fun _ h=>.inl h⟩
  | none =>
   have Dl:=yaR eD
   rcases g.kind T with ⟨e1,e2,e3,e4,e5⟩ | ⟨a,b,ma,mb,y,z,fa,la,fb,lb,ep,an,bn,A,B,e4,em,_⟩
   ·obtain ⟨z1,z2⟩:=zbA T e3
    have r:=zjg S T.n1 e1 e4 e5 eD e (sz K) (d:=d)
    have lk:AV.tup [.int 0,.int x.length,.int x.length,.int x.length,.int 1]=ya4 m f l:=by
     unfold ya4
     rw [z1,z2,e3];rfl
    rw [lk] at r
    obtain ⟨K3,i1,i2,i3⟩:=K.put T e (fun a b z=>by rw [e1] at z;cases z)
    exact ⟨_,r,K3,i1,i2,fun k hk=>(i3 _ hk).imp id fun z=>by injection z with z;lia⟩
   ·have q:0<m.ht:=by
     have:=A.ky.ht
     have:m.ht=max ma.ht mb.ht+1:=by rw [em];rfl
     lia
    obtain ⟨a',b',ma',mb',y',z',la',fb',ep',A',B',rfl,em',w1,w2,w3⟩:=g.cut T q
    have zz:=ep.symm.trans ep'
    injection zz with zz
    injection zz with t1 t2
    subst t1 t2
    have lm:m.lv=ma'.lv+mb'.lv:=by rw [em'];rfl
    have hm:m.ht=max ma'.ht mb'.ht+1:=by rw [em'];rfl
    have sm:m.sg=ma'.sg+mb'.sg:=by rw [em'];rfl
    have a0:=A'.ky.ht
    have b0:=B'.ky.ht
    obtain ⟨k1,r1,K1,c1,c2,c3⟩:=zdw d S g A' (by lia) hD eD K hl
    have S1:ShelfAt (h.set D (.dct false k1)) p ps:=S.keep fun i i1 i2=>List.getElem?_set_ne (by lia)
    have eD1:(h.set D (.dct false k1))[D]? = some (.dct false k1):=List.getElem?_set_self Dl
    obtain ⟨k2,r2,K2,d1,d2,d3⟩:=zdw d S1 g B' (by lia) hD eD1 K1 hl
    rw [List.set_set] at r2
    have eD2:(h.set D (.dct false k2))[D]? = some (.dct false k2):=List.getElem?_set_self Dl
    have r3:=zjh S T.n1 ep A'.n1 B'.n1 an bn eD e r1 r2 w1 w2 w3 eD2 (sz K2)
    have lk:AV.tup [.int (1+max ma'.ht mb'.ht),.int (ma'.sg+mb'.sg),.int f.sg,.int l.sg,.int (ma'.lv+mb'.lv)]=ya4 m f l:=by
     unfold ya4
     rw [hm,sm,lm,Int.add_comm 1];simp
    rw [lk,List.set_set] at r3
    have e2:valA k2 (.int n)=none:=by
     cases w:valA k2 (.int n) with
     | none=>rfl
     | some u =>
      rcases d3 n (by rw [w];rfl) with h1 | h1
      ·rcases c3 n h1 with h2 | h2
       ·rw [e] at h2;cases h2
       ·lia
      ·lia
    obtain ⟨K3,i1,i2,i3⟩:=K2.put T e2 (fun a2 b2 z=>by
     have zz:=ep.symm.trans z
     injection zz with zz
     injection zz with t1 t2
     subst t1 t2
     exact ⟨d2 _ c1,d1⟩)
    refine ⟨_,r3,K3,i1,fun k hk=>i2 k (d2 k (c2 k hk)),fun k hk=>?_⟩
    rcases i3 _ hk with h1 | h1
    ·rcases d3 k h1 with h2 | h2
     ·rcases c3 k h2 with h3 | h3
      ·exact .inl h3
      ·exact .inr (by lia)
     ·exact .inr (by lia)
    ·injection h1 with h1
     exact .inr (by lia)
end Sk
namespace Sk
open PySem PySem.Spec L2 Sm
theorem zbM (ns:List Int):yd9 (ns.map AV.int)=some ns:=by
 induction ns with
 | nil=>rfl
 | cons n r ih=>simp [ih]
theorem yfl {a b c:Nat} (e:a=b+c) (h:AH):fSub (.int a) (.int b) h = .ok (.int c) h:=by
 have:(a:Int)-b=c:=by lia
 simp only [fSub,this]
theorem yeK {a b c:Nat} (e:a+b=c) (h:AH):fAdd (.int a) (.int b) h = .ok (.int c) h:=by
 have:(a:Int)+b=c:=by lia
 simp only [fAdd,this]
theorem yen {a b c:Nat} (ha:a<=1000000) (e:a*b=c) (h:AH):fMul (.int a) (.int b) h = .ok (.int c) h:=by
 rw [ye7 (Nat.lt_of_le_of_lt (m:=1000000) (by lia) (by decide)),<- e];rfl
theorem yhi {a b c:Nat} (hb:b<=1000000) (e:a*b=c) (h:AH):fMul (.int a) (.int b) h = .ok (.int c) h:=by
 rw [ye8 (Nat.lt_of_le_of_lt (m:=1000000) (by lia) (by decide)),<- e];rfl
def rp (B:List Nat) (t:Nat):List Nat:=(List.replicate t B).flatten
theorem rp_s (B:List Nat) (t:Nat):rp B (t+1)=B++rp B t:=by
 unfold rp;rw [List.replicate_succ,List.flatten_cons]
theorem yeL (B:List Nat):∀ t:Nat,(rp B t).length=B.length*t
 | 0=>rfl
 | t+1=>by rw [rp_s,List.length_append,yeL B t,Nat.mul_succ,Nat.add_comm]
theorem yfP (B:List Nat):∀ t:Nat,(rp B t).count 10=B.count 10*t
 | 0=>rfl
 | t+1=>by rw [rp_s,List.count_append,yfP B t,Nat.mul_succ,Nat.add_comm]
abbrev Bk:=Str×Nat
abbrev bv (x:Bk):AV:=.tup [.str x.1,.int x.2]
def fB:List Bk->List Nat
 | []=>[]
 | x::r=>rp x.1.cps.toList x.2++fB r
theorem ycI:∀ a b:List Bk,fB (a++b)=fB a++fB b
 | [],b=>rfl
 | x::a,b=>by rw [List.cons_append,fB,fB,ycI a b,List.append_assoc]
theorem yfb (x:Bk):fB [x]=rp x.1.cps.toList x.2:=by rw [fB,fB,List.append_nil]
theorem za4 (x:Bk):(rp x.1.cps.toList x.2).length=x.1.length*x.2:=by rw [yeL,<- zad]
def BOk (bs:List Bk):Prop:=∀ q∈bs,q.1.length<=100
theorem sumB:∀ bs:List Bk,(bs.map fun x:Bk=>((x.1.length*x.2:Nat):Int)).sum=((fB bs).length:Int)
 | []=>rfl
 | x::r=>by rw [List.map_cons,List.sum_cons,sumB r,fB,List.length_append,za4];lia
theorem sumC:∀ bs:List Bk,(bs.map fun x:Bk=>((x.1.cps.toList.count 10*x.2:Nat):Int)).sum=((fB bs).count 10:Int)
 | []=>rfl
 | x::r=>by rw [List.map_cons,List.sum_cons,sumC r,fB,List.count_append,yfP];lia
theorem zh6 (x:Str) (h:AH):ybp (.str x) [.str "\n"] h = .ok (.int ((x.cps.toList.count 10:Nat):Int)) h:=by
 rw [<- zaX]
 simp [ybp,ye9,yc1]
theorem zbN {h:AH} {bs:List Bk} (ok:BOk bs) (hl:bs.length<=1000):ya5 [.fl (bs.map bv)] h = .ok (.int (fB bs).length) h:=by
 have c1:=zaI (js:=[]) (en:=[some (.fl (bs.map bv))]) (w:=none) (all:=bs.map bv) (c:=un2 sYes) (e:=un2 (sOp2 fMul (yad fLen (sCons (sVar 0) sNil)) (sVar 1))) (g:=bv) (f:=fun x:Bk=>AV.int ((x.1.length*x.2:Nat):Int)) (p:=fun _=>true) (h:=h) rfl bs [] (fun _ _=>rfl) (by
  intro x hx _
  have b:=ok x hx
  exact yen (a:=x.1.length) (b:=x.2) (by lia) rfl h) (by exact Nat.le_trans (m:=1000) (by simpa using hl) (by decide))
 rw [List.filter_eq_self.mpr (fun _ _=>rfl),List.nil_append] at c1
 have it:ya3 (sVar 0) [some (.fl (bs.map bv))] h = .ok (bs.map bv,none) h:=by
  generalize bs.map bv=Z
  simp
 have e:(bs.map fun x:Bk=>AV.int ((x.1.length*x.2:Nat):Int))=(bs.map fun x:Bk=>((x.1.length*x.2:Nat):Int)).map AV.int:=by rw [List.map_map];rfl
 rw [e] at c1
 have cp:ybG [] (ya3 (sVar 0)) sYes (sOp2 fMul (yad fLen (sCons (sVar 0) sNil)) (sVar 1)) [some (.fl (bs.map bv))] h = .ok (.fl ((bs.map fun x:Bk=>((x.1.length*x.2:Nat):Int)).map AV.int)) h:=by
  simp only [ybG,yaU,it,c1]
 have sm:fSum [.fl ((bs.map fun x:Bk=>((x.1.length*x.2:Nat):Int)).map AV.int)] h = .ok (.int (fB bs).length) h:=by
  simp only [fSum,zbM,sumB]
 unfold ya5
 generalize ybG [] (ya3 (sVar 0)) sYes (sOp2 fMul (yad fLen (sCons (sVar 0) sNil)) (sVar 1))=CP at *
 generalize (bs.map fun x:Bk=>((x.1.length*x.2:Nat):Int)).map AV.int=Z at *
 generalize bs.map bv=Z2 at *
 simp [cp,sm,-fSum]
theorem yhj {h:AH} {bs:List Bk} (ok:BOk bs) (hl:bs.length<=1000) (o0 o1 o3 o4 o5 o6 o7:Option AV) :
  yad fSum (sCons (ybG [] (ya3 (sVar 2)) sYes (sOp2 fMul (sBM yci ybp (sVar 0) (sCons (sLit (.str "\n")) sNil)) (sVar 1))) sNil) [o0,o1,some (.fl (bs.map bv)),o3,o4,o5,o6,o7] h = .ok (.int ((fB bs).count 10:Nat)) h:=by
 have c1:=zaI (js:=[]) (en:=[o0,o1,some (.fl (bs.map bv)),o3,o4,o5,o6,o7]) (w:=none) (all:=bs.map bv) (c:=un2 sYes) (e:=un2 (sOp2 fMul (sBM yci ybp (sVar 0) (sCons (sLit (.str "\n")) sNil)) (sVar 1))) (g:=bv) (f:=fun x:Bk=>AV.int ((x.1.cps.toList.count 10*x.2:Nat):Int)) (p:=fun _=>true) (h:=h) rfl bs [] (fun _ _=>rfl) (by
  intro x hx _
  have b:=ok x hx
  have c:=List.count_le_length (a:=10) (l:=x.1.cps.toList)
  rw [<- zad] at c
  have e1:=zh6 x.1 h
  have e2:=yen (a:=x.1.cps.toList.count 10) (b:=x.2) (by lia) rfl h
  have is:yci (.str x.1) h=true:=rfl
  have u:un2 (sOp2 fMul (sBM yci ybp (sVar 0) (sCons (sLit (.str "\n")) sNil)) (sVar 1)) (some (bv x)::([]:List Nat).map fun j=>(([o0,o1,some (.fl (bs.map bv)),o3,o4,o5,o6,o7]:En)[j]?).join) h=sOp2 fMul (sBM yci ybp (sVar 0) (sCons (sLit (.str "\n")) sNil)) (sVar 1) [some (.str x.1),some (.int x.2)] h:=rfl
  rw [u]
  generalize ((x.1.cps.toList.count 10*x.2:Nat):Int)=A at *
  generalize ((x.1.cps.toList.count 10:Nat):Int)=B at *
  simp [is,e1,e2,-fMul,-ybp,-yci]) (by exact Nat.le_trans (m:=1000) (by simpa using hl) (by decide))
 rw [List.filter_eq_self.mpr (fun _ _=>rfl),List.nil_append] at c1
 have it:ya3 (sVar 2) [o0,o1,some (.fl (bs.map bv)),o3,o4,o5,o6,o7] h = .ok (bs.map bv,none) h:=by
  generalize bs.map bv=Z
  simp
 have e:(bs.map fun x:Bk=>AV.int ((x.1.cps.toList.count 10*x.2:Nat):Int))=(bs.map fun x:Bk=>((x.1.cps.toList.count 10*x.2:Nat):Int)).map AV.int:=by rw [List.map_map];rfl
 rw [e] at c1
 have cp:ybG [] (ya3 (sVar 2)) sYes (sOp2 fMul (sBM yci ybp (sVar 0) (sCons (sLit (.str "\n")) sNil)) (sVar 1)) [o0,o1,some (.fl (bs.map bv)),o3,o4,o5,o6,o7] h = .ok (.fl ((bs.map fun x:Bk=>((x.1.cps.toList.count 10*x.2:Nat):Int)).map AV.int)) h:=by
  simp only [ybG,yaU,it,c1]
 have sm:fSum [.fl ((bs.map fun x:Bk=>((x.1.cps.toList.count 10*x.2:Nat):Int)).map AV.int)] h = .ok (.int ((fB bs).count 10:Nat)) h:=by
  simp only [fSum,zbM,sumC]
 generalize ybG [] (ya3 (sVar 2)) sYes (sOp2 fMul (sBM yci ybp (sVar 0) (sCons (sLit (.str "\n")) sNil)) (sVar 1))=CP at *
 generalize (bs.map fun x:Bk=>((x.1.cps.toList.count 10*x.2:Nat):Int)).map AV.int=Z at *
 generalize bs.map bv=Z2 at *
 simp [cp,sm,-fSum]
structure Fr (L:Nat) (h h':AH):Prop where
 fr:∀ i,i<h.length->i≠L->h'[i]? = h[i]?
 hl:h.length<=h'.length
 ro:∃ N:Int,h'[L]? = some (.lst [.int N])
theorem Fr.trans {L:Nat} {h h' h'':AH} (a:Fr L h h') (b:Fr L h' h''):Fr L h h'' :=
 ⟨fun i hi n=>(b.fr i (Nat.lt_of_lt_of_le hi a.hl) n).trans (a.fr i hi n),Nat.le_trans a.hl b.hl,b.ro⟩
theorem Fr.app {L:Nat} {h h':AH} (a:Fr L h h') (r:AH):Fr L h (h' ++ r):=by
 obtain ⟨N,e⟩:=a.ro
 exact ⟨fun i hi n=>by rw [List.getElem?_append_left (Nat.lt_of_lt_of_le hi a.hl)];exact a.fr i hi n,by rw [List.length_append];have:=a.hl;lia,N,by rw [List.getElem?_append_left (yaR e)];exact e⟩
theorem Fr.set {L:Nat} {h h':AH} (a:Fr L h h') (N':Int):Fr L h (h'.set L (.lst [.int N'])):=by
 obtain ⟨N,e⟩:=a.ro
 exact ⟨fun i hi n=>by rw [List.getElem?_set_ne (Ne.symm n)];exact a.fr i hi n,by rw [List.length_set];exact a.hl,N',List.getElem?_set_self (yaR e)⟩
theorem Fr.new {L R:Nat} {h h':AH} (a:Fr L h h') (hR:h.length<=R) (hL:L<h.length) (o:AO):Fr L h (h'.set R o):=by
 obtain ⟨N,e⟩:=a.ro
 exact ⟨fun i hi n=>by rw [List.getElem?_set_ne (by lia)];exact a.fr i hi n,by rw [List.length_set];exact a.hl,N,by rw [List.getElem?_set_ne (by lia)];exact e⟩
theorem Fr.take {L:Nat} {h h':AH} (a:Fr L h h') (m:Nat) (hm:0<m) (hm2:m<=10 ^ 50):∃ (v:Nat) (N:Int),v<m/\yar [.ref L,.int m] h' = .ok (.int v) (h'.set L (.lst [.int N]))/\Fr L h (h'.set L (.lst [.int N])):=by
 obtain ⟨N,e⟩:=a.ro
 obtain ⟨v,hv,t⟩:=zfQ m e hm hm2
 exact ⟨v,_,hv,t,a.set _⟩
theorem yf8 (l:List Nat):∀ (n j:Nat),j<l.length*n->(rp l n)[j]? = l[j % l.length]?
 | 0,j,hj=>by rw [Nat.mul_zero] at hj;exact absurd hj (Nat.not_lt_zero _)
 | n+1,j,hj=>by
  rw [rp_s,List.getElem?_append]
  split
  ·rename_i q;rw [Nat.mod_eq_of_lt q]
  ·rename_i q
   rw [yf8 l n (j-l.length) (by rw [Nat.mul_succ] at hj;lia),<- Nat.mod_eq_sub_mod (Nat.le_of_not_lt q)]
theorem zeA {h:AH} (all:List AV) (rw':Option AV):∀ (rs:List Bk) (q:Nat) (o2 o3:Option AV),BOk rs->q<(fB rs).length->∃ c,(fB rs)[q]? = some c/\ybu none all (.tup [2,3]) yaM (rs.map bv) [rw',some (.int q),o2,o3] h = .rt (.str ⟨#[c]⟩) h
 | [],q,_,_,_,hq=>absurd hq (Nat.not_lt_zero _)
 | (y,k)::rs,q,o2,o3,ok,hq=>by
  have y2':y.length<=100:=ok (y,k) (by simp)
  have mu:=yen (a:=y.length) (b:=k) (by lia) rfl h
  have ex:fB ((y,k)::rs)=rp y.cps.toList k++fB rs:=rfl
  have lr:(rp y.cps.toList k).length=y.length*k:=za4 (y,k)
  have ln:fLen [.str y] h = .ok (.int y.length) h:=by simp
  by_cases c:q<y.length*k
  ·have y1':1<=y.length:=by
    apply Classical.byContradiction
    intro z
    rw [show y.length=0 by lia,Nat.zero_mul] at c
    lia
   have yl:q % y.length<y.cps.toList.length:=by rw [<- zad];exact Nat.mod_lt _ y1'
   refine ⟨y.cps.toList[q % y.length],?_,?_⟩
   ·rw [ex,List.getElem?_append_left (by rw [lr];exact c),yf8 _ _ _ (by rw [<- zad];exact c),<- zad,List.getElem?_eq_getElem yl]
   ·have c':fLt (.int q) (.int ((y.length*k:Nat):Int)) h = .ok (.bl true) h:=by
     have:(q:Int)<((y.length*k:Nat):Int):=Int.ofNat_lt.mpr c
     simp only [fLt,this,decide_true]
    have md:fMod (.int q) (.int y.length) h = .ok (.int (q % y.length:Nat)) h:=by
     have y0:(0:Int)<y.length:=by lia
     simp [y0]
     lia
    have ix:fIx (.str y) (.int (q % y.length:Nat)) h = .ok (.str ⟨#[y.cps.toList[q % y.length]]⟩) h:=by simp only [fIx,zbu (List.getElem?_eq_getElem yl)]
    have eB:yaM [rw',some (.int q),some (.str y),some (.int k)] h = .rt (.str ⟨#[y.cps.toList[q % y.length]]⟩) h:=by
     generalize (⟨#[y.cps.toList[q % y.length]]⟩:Str)=Z at *
     generalize ((q % y.length:Nat):Int)=Q at *
     generalize ((y.length*k:Nat):Int)=YK at *
     generalize (y.length:Int)=YL at *
     simp [yaM,ln,mu,c',md,ix,-fLen,-fMul,-fLt,-fMod,-fIx]
    generalize yaM=BB at *
    simp [ybu,bv,setT,eB]
  ·obtain ⟨c0,e0,g0⟩:=zeA (h:=h) all rw' rs (q-y.length*k) (some (.str y)) (some (.int k)) (fun z hz=>ok z (by simp [hz])) (by rw [ex,List.length_append,lr] at hq;lia)
   refine ⟨c0,?_,?_⟩
   ·rw [ex,List.getElem?_append_right (by rw [lr];lia),lr];exact e0
   ·have c':fLt (.int q) (.int ((y.length*k:Nat):Int)) h = .ok (.bl false) h:=by
     have : ¬ (q:Int)<((y.length*k:Nat):Int):=fun z=>c (Int.ofNat_lt.mp z)
     simp only [fLt,this,decide_false]
    have sb:fSub (.int q) (.int ((y.length*k:Nat):Int)) h = .ok (.int ((q-y.length*k:Nat):Int)) h:=by
     have:(q:Int)-((y.length*k:Nat):Int)=((q-y.length*k:Nat):Int):=by lia
     simp only [fSub,this]
    have eB:yaM [rw',some (.int q),some (.str y),some (.int k)] h = .nx [rw',some (.int ((q-y.length*k:Nat):Int)),some (.str y),some (.int k)] h:=by
     generalize ((q-y.length*k:Nat):Int)=Q at *
     generalize ((y.length*k:Nat):Int)=YK at *
     generalize (y.length:Int)=YL at *
     simp [yaM,ln,mu,c',sb,-fLen,-fMul,-fLt,-fSub]
    generalize yaM=BB at *
    rw [List.map_cons]
    unfold ybu
    simp [bv,setT,eB]
    exact g0
theorem zji {h:AH} {rs:List Bk} {q:Nat} (ok:BOk rs) (hq:q<(fB rs).length):∃ c,(fB rs)[q]? = some c/\ybb [.fl (rs.map bv),.int q] h = .ok (.str ⟨#[c]⟩) h:=by
 obtain ⟨c,e,g⟩:=zeA (h:=h) (rs.map bv) (some (.fl (rs.map bv))) rs q none none ok hq
 refine ⟨c,e,?_⟩
 have it:ya3 (sVar 0) [some (.fl (rs.map bv)),some (.int q),none,none] h = .ok (rs.map bv,none) h:=by
  generalize rs.map bv=Z
  simp
 have f1:=(ycF (t:=.tup [2,3]) (b:=yaM) it).trans g
 unfold ybb
 generalize sFor (ya3 (sVar 0)) (.tup [2,3]) yaM=FO at *
 generalize rs.map bv=Z at *
 generalize (⟨#[c]⟩:Str)=CC at *
 simp [f1]
end Sk
namespace Sk
open PySem PySem.Spec L2 Sm
theorem cutB (l:List Bk) (k:Nat) (h:AH):ya9 (.fl (l.map bv)) none (some (k:Int)) h = .ok (.fl ((l.take k).map bv)) h:=by
 simp only [ya9]
 congr 2
 unfold cutA
 rw [HT.sIx_nat,HT.sIx_none,List.length_map,List.map_take]
 show ((l.map bv).drop 0).take (min k l.length-0)=_
 rw [List.drop_zero,Nat.sub_zero]
 by_cases q:k<=l.length
 ·rw [Nat.min_eq_left q]
 ·rw [Nat.min_eq_right (by lia),List.take_of_length_le (by simp),List.take_of_length_le (by simp;lia)]
abbrev eSp (Z:AV) (L T R:Nat) (s:Int) (o5 o6:Option AV):En:=[some Z,some (.ref L),some (.int T),some (.ref R),some (.int s),o5,o6]
structure Sq (L:Nat) (h hh:AH) (qs:List Int):Prop where
 f:Fr L h hh
 p:hh[h.length]? = some (.lst (qs.map AV.int))
theorem yfQ {L R k:Nat} {hh:AH} {qs ws:List Int} (p:hh[R]? = some (.lst (qs.map AV.int))) (w:hh[k]? = some (.lst (ws.map AV.int))) (lq:qs.length+ws.length<=1000):yb6 (.ref R) [.ref k] hh = .ok .non (hh.set R (.lst ((qs++ws).map AV.int))):=by
 have:(qs.map AV.int).length+(ws.map AV.int).length<=sizeLine:=Nat.le_trans (m:=1000) (by simpa using lq) (by decide)
 simp only [yb6,p,w,this,if_true,List.map_append]
theorem zjj {L T:Nat} {Z:AV} {h hh:AH} {qs:List Int} {s:Int} {x:Bk} (q:Sq L h hh qs) (hL:L<h.length) (lq:qs.length<=900) (hx:x.1.length<=100) :
  ∃ (h':AH) (ws:List Int) (s':Int),ws.length=3/\ybs (eSp Z L T h.length s (some (.str x.1)) (some (.int x.2))) hh = .nx (eSp Z L T h.length s' (some (.str x.1)) (some (.int x.2))) h'/\Sq L h h' (qs++ws):=by
 obtain ⟨s',es⟩:∃ s':Int,s'=s+((x.1.length*x.2:Nat):Int):=⟨_,rfl⟩
 obtain ⟨ws,ews⟩:∃ ws:List Int,ws=[s'-1,s',s'-x.1.length]:=⟨_,rfl⟩
 obtain ⟨h3,eh3⟩:∃ h3,h3=hh++[AO.lst (ws.map AV.int)]:=⟨_,rfl⟩
 have P3:h3[h.length]? = some (.lst (qs.map AV.int)):=by rw [eh3,List.getElem?_append_left (yaR q.p)];exact q.p
 have W3:h3[hh.length]? = some (.lst (ws.map AV.int)):=by rw [eh3];simp
 have lw:ws.length=3:=by rw [ews];rfl
 have xt:=yfQ (L:=L) P3 W3 (by lia)
 have isl:yaV (.ref h.length) hh=true:=by simp [q.p]
 refine ⟨h3.set h.length (.lst ((qs++ws).map AV.int)),ws,s',lw,?_,⟨(eh3▸q.f.app _).new (by lia) hL _,List.getElem?_set_self (yaR P3)⟩⟩
 have mu:=yen (a:=x.1.length) (b:=x.2) (by lia) rfl hh
 have ln:fLen [.str x.1] hh = .ok (.int x.1.length) hh:=by simp
 have ad:fAdd (.int s) (.int ((x.1.length*x.2:Nat):Int)) hh = .ok (.int s') hh:=by rw [es];rfl
 have s1:fSub (.int s') (.int 1) hh = .ok (.int (s'-1)) hh:=rfl
 have s2:fSub (.int s') (.int x.1.length) hh = .ok (.int (s'-x.1.length)) hh:=rfl
 have hw:ws.map AV.int=[.int (s'-1),.int s',.int (s'-x.1.length)]:=by rw [ews];rfl
 rw [hw] at eh3
 generalize h3.set h.length (.lst ((qs++ws).map AV.int))=HF at *
 clear q P3 W3 hw ews es
 simp only [eSp]
 generalize ((x.1.length*x.2:Nat):Int)=XL at *
 generalize (x.1.length:Int)=X1 at *
 generalize s'-1=K1 at *
 generalize s'-X1=K2 at *
 simp [ybs,isl,ln,mu,ad,s1,s2,<- eh3,xt,-yaV,-fSub,-fAdd,-fMul,-fLen,-yb6]
theorem zjk {h:AH} {L:Nat} {bs:List Bk} (eL:∃ N:Int,h[L]? = some (.lst [.int N])) (ok:BOk bs) (hl:bs.length<=1000) (h0:0<(fB bs).length) (hT:(fB bs).length<=1000000000000000000) :
  ∃ (h':AH) (qs:List Int),yc0 [.fl (bs.map bv),.ref L] h = .ok (.fl (qs.map AV.int)) h'/\Fr L h h'/\(∀ q∈qs,0<=q/\q<(fB bs).length)/\qs.length<=1000:=by
 obtain ⟨N0,eN⟩:=eL
 have hL:=yaR eN
 have ln:=zbN (h:=h) ok hl
 have ct:=cutB bs 12
 have okc:BOk (bs.take 12):=fun q hq=>ok q (List.mem_of_mem_take hq)
 obtain ⟨T,eT_⟩:∃ T,T=(fB bs).length:=⟨_,rfl⟩
 rw [<- eT_] at h0 hT ln ⊢
 obtain ⟨cs,ecs⟩:∃ cs,cs=bs.take 12:=⟨_,rfl⟩
 rw [<- ecs] at ct okc
 have lc:cs.length<=12:=by rw [ecs,List.length_take];lia
 have F0:Fr L h h:=⟨fun _ _ _=>rfl,Nat.le_refl _,N0,eN⟩
 obtain ⟨Z,eZ⟩:∃ Z,Z=AV.fl (bs.map bv):=⟨_,rfl⟩
 rw [<- eZ] at ln ct ⊢
 obtain ⟨q0,eq0⟩:∃ q0:List Int,q0=[0,(T:Int)-1]:=⟨_,rfl⟩
 have Q0:Sq L h (h++[.lst (q0.map AV.int)]) q0:=⟨F0.app _,by simp⟩
 obtain ⟨e',H1,r1,r2⟩:=ydz (w:=none) (all:=cs.map bv) (t:=.tup [5,6]) (b:=ybs) (xs:=cs.map bv) (en:=eSp Z L T h.length 0 none none) (h:=h++[.lst (q0.map AV.int)])
  (fun j en hh=>j<=cs.length->∃ (qs:List Int) (s:Int) (o5 o6:Option AV),qs.length<=2+3*j/\en=eSp Z L T h.length s o5 o6/\Sq L h hh qs)
  (fun _=>⟨q0,0,none,none,by rw [eq0];exact Nat.le_refl _,rfl,Q0⟩) (fun _ _ _ _=>rfl) (by
   intro j u en hh hu p2
   rw [List.getElem?_map] at hu
   obtain ⟨x,ex,rfl⟩:=Option.map_eq_some_iff.mp hu
   have hj:=(List.getElem?_eq_some_iff.mp ex).1
   obtain ⟨qs,s,o5,o6,lq,rfl,Q⟩:=p2 (by lia)
   obtain ⟨h',ws,s',lw,ev,Q'⟩:=zjj (T:=T) (Z:=Z) (s:=s) (x:=x) Q hL (by lia) (okc x (List.mem_of_getElem? ex))
   show thn (ybs (eSp Z L T h.length s (some (.str x.1)) (some (.int x.2))) hh) _
   rw [ev]
   exact fun _=>⟨qs++ws,s',_,_,by rw [List.length_append];lia,rfl,Q'⟩)
 have lnk:(cs.map bv).length=cs.length:=List.length_map ..
 rw [lnk] at r2
 obtain ⟨qs,s,o5,o6,lq,rfl,Q1⟩:=r2 (Nat.le_refl _)
 have it1:ya3 (sCut (sVar 0) none (some (sLit (.int 12)))) (eSp Z L T h.length 0 none none) (h++[.lst (q0.map AV.int)]) = .ok (cs.map bv,none) (h++[.lst (q0.map AV.int)]):=by
  have:=ct (h++[.lst (q0.map AV.int)])
  have c2:ya9 Z none (some 12) (h++[.lst (q0.map AV.int)]) = .ok (.fl (cs.map bv)) (h++[.lst (q0.map AV.int)]):=this
  generalize cs.map bv=CS at *
  simp [eSp,c2,-ya9]
 have l1:=(ycF (t:=.tup [5,6]) (b:=ybs) it1).trans r1
 obtain ⟨zs,H2,c1,c2⟩:=yfK (js:=[1,2]) (en:=eSp Z L T h.length s o5 o6) (all:=ya2 0 3) (e:=yad yar (sCons (sVar 1) (sCons (sVar 2) sNil))) (xs:=ya2 0 3) (h:=H1)
  (fun j ys hh=>∃ ws:List Int,ys=ws.map AV.int/\ws.length=j/\Sq L h hh qs) ⟨[],rfl,rfl,Q1⟩ (by
   rintro j x ys hh _ ⟨ws,rfl,lw,Q⟩
   obtain ⟨v,N,hv,t,f⟩:=Q.f.take T h0 (Nat.le_trans hT (by decide))
   have e:yad yar (sCons (sVar 1) (sCons (sVar 2) sNil)) (some x::[1,2].map fun j=>((eSp Z L T h.length s o5 o6)[j]?).join) hh = .ok (.int v) (hh.set L (.lst [.int N])):=by
    simp [eSp,t]
   rw [e]
   exact ⟨ws++[(v:Int)],by simp,by simp [lw],f,by rw [List.getElem?_set_ne (by lia)];exact Q.p⟩) (by decide)
 rw [zbb] at c2
 obtain ⟨ws,rfl,lw,Q2⟩:=c2
 have cm:ydj [1,2] (ybU (sLit (.int 3))) sYes (yad yar (sCons (sVar 1) (sCons (sVar 2) sNil))) (eSp Z L T h.length s o5 o6) H1 = .ok (.ref H2.length) (H2++[.lst (ws.map AV.int)]):=by
  have r:=zbo (a:=sLit (.int 3)) (en:=eSp Z L T h.length s o5 o6) (h:=H1) (n:=3) rfl (by decide)
  simp only [ydj,r,c1]
 obtain ⟨H3,eH3⟩:∃ H3,H3=H2++[AO.lst (ws.map AV.int)]:=⟨_,rfl⟩
 have P3:H3[h.length]? = some (.lst (qs.map AV.int)):=by rw [eH3,List.getElem?_append_left (yaR Q2.p)];exact Q2.p
 have W3:H3[H2.length]? = some (.lst (ws.map AV.int)):=by rw [eH3];simp
 have xt:=yfQ (L:=L) P3 W3 (by lia)
 obtain ⟨us,eus⟩:∃ us,us=qs++ws:=⟨_,rfl⟩
 have lu:us.length<=100:=by rw [eus,List.length_append];lia
 rw [<- eus] at xt
 obtain ⟨H4,eH4⟩:∃ H4,H4=H3.set h.length (.lst (us.map AV.int)):=⟨_,rfl⟩
 have P4:H4[h.length]? = some (.lst (us.map AV.int)):=by rw [eH4];exact List.getElem?_set_self (yaR P3)
 have F4:Fr L h H4:=by rw [eH4,eH3];exact (Q2.f.app _).new (Nat.le_refl _) hL _
 rw [<- eH4] at xt
 have lv:ybz (some h.length) (us.map AV.int) H4=true:=by simp [P4]
 have cp:=zaI (js:=[2]) (en:=eSp Z L T h.length s o5 o6) (w:=some h.length) (all:=us.map AV.int) (c:=yaj (ybN fLe fLt (sLit (.int 0)) (sVar 0) (sVar 1))) (e:=sVar 0) (g:=AV.int) (f:=AV.int) (p:=fun x=>decide (0<=x/\x<(T:Int))) (h:=H4) lv us [] (by
  intro x hx
  have l1:fLe (.int 0) (.int x) H4 = .ok (.bl (decide (0<=x))) H4:=by simp
  have l2:fLt (.int x) (.int T) H4 = .ok (.bl (decide (x<T))) H4:=by simp
  by_cases a:0<=x
  ·rw [decide_eq_true a] at l1
   have:decide (0<=x/\x<(T:Int))=decide (x<(T:Int)):=by simp [a]
   rw [this]
   simp [eSp,l1,l2,-fLe,-fLt]
  ·rw [decide_eq_false a] at l1
   have:decide (0<=x/\x<(T:Int))=false:=by simp [a]
   rw [this]
   simp [eSp,l1,-fLe]) (fun x _ _=>rfl) (Nat.le_trans (m:=100) (by simpa using lu) (by decide))
 rw [List.nil_append] at cp
 have it4:iVal (sVar 3) (eSp Z L T h.length s o5 o6) H4 = .ok (us.map AV.int,some h.length) H4:=by
  simp [eSp,P4]
 have sc:yaU [2] (iVal (sVar 3)) (yaj (ybN fLe fLt (sLit (.int 0)) (sVar 0) (sVar 1))) (sVar 0) (eSp Z L T h.length s o5 o6) H4 = .ok (.fl ((us.filter fun x=>decide (0<=x/\x<(T:Int))).map AV.int)) H4:=by
  simp only [yaU,it4,cp]
 refine ⟨H4,us.filter fun x=>decide (0<=x/\x<(T:Int)),?_,F4,?_,?_⟩
 ·generalize (us.filter fun x=>decide (0<=x/\x<(T:Int))).map AV.int=OUT at *
  have isl:yaV (.ref h.length) H1=true:=by simp [Q1.p]
  have s1:fSub (.int T) (.int 1) h = .ok (.int ((T:Int)-1)) h:=rfl
  have q0':q0.map AV.int=[.int 0,.int ((T:Int)-1)]:=by rw [eq0];rfl
  rw [q0'] at l1
  rw [<- eH3] at cm
  clear Q0 Q1 Q2 r1 c1 cp it1 it4 lv F0 F4 P3 W3 P4 eH3 eH4 lnk r2 q0' eq0 ct
  unfold yc0
  generalize yaU [2] (iVal (sVar 3)) (yaj (ybN fLe fLt (sLit (.int 0)) (sVar 0) (sVar 1))) (sVar 0)=SC at *
  generalize ydj [1,2] (ybU (sLit (.int 3))) sYes (yad yar (sCons (sVar 1) (sCons (sVar 2) sNil)))=SM at *
  generalize sFor (ya3 (sCut (sVar 0) none (some (sLit (.int 12))))) (.tup [5,6]) ybs=L1 at *
  simp only [eSp] at l1 sc cm
  generalize (T:Int)-1=T1 at *
  simp [ln,s1,l1,isl,cm,xt,sc,-yaV,-fSub,-yb6]
 ·intro q hq
  rw [List.mem_filter,decide_eq_true_eq] at hq
  exact hq.2
 ·exact Nat.le_trans (List.length_filter_le _ _) (by lia)
end Sk
namespace Sk
open PySem PySem.Spec L2 Sm
theorem zjl {h:AH} {p:Nat} {ps:List Pc} (S:ShelfAt h p ps) (g:Good ps) {n q D:Nat} {m:Ms} {x:Str} {f l:Ms} {kvs:List (AV×AV)} (T:Tx ps n m x f l) (eD:h[D]? = some (.dct false kvs)) (K:KOl ps kvs) (hn:(valA kvs (.int n)).isSome=true) (hq:q<x.length) :
  ∃ c,x.cps.toList[q]? = some c/\yb0 [.ref p,.int n,.int q,.ref D] h = .ok (.str ⟨#[c]⟩) h:=by
 have ln:=zad x
 have hq':q<x.cps.toList.length:=by rw [<- ln];exact hq
 obtain ⟨c,ec⟩:∃ c,x.cps.toList[q]? = some c:=⟨_,List.getElem?_eq_getElem hq'⟩
 refine ⟨c,ec,?_⟩
 obtain ⟨pc,epc⟩:∃ pc,ps[n-1]? = some pc:=by
  have:=T.le
  have:=T.n1
  exact ⟨_,List.getElem?_eq_getElem (by lia)⟩
 have fp0:=zbi S T.n1 epc
 obtain ⟨e',h',r1,rfl,o1,q',y,o5,r2,r3⟩:=zfD (c:=yaj (sOp2 fEq (sOp2 fIx (sVar 4) (sLit (.int 0))) (sLit (.str "fork")))) (b:=ybf) (fuel:=ydd) (n:=m.ht.toNat) (en:=[some (.ref p),some (.int n),some (.int q),some (.ref D),some pc.av,none]) (h:=h)
  (fun i en hh=>hh=h/\∃ (n' q':Nat) (m':Ms) (x':Str) (f' l':Ms) (pc':Pc) (o5:Option AV),Tx ps n' m' x' f' l'/\m'.ht.toNat=i/\(valA kvs (.int n')).isSome=true/\x'.cps.toList[q']? = some c/\ps[n'-1]? = some pc'/\en=[some (.ref p),some (.int n'),some (.int q'),some (.ref D),some pc'.av,o5])
  (fun en hh=>hh=h/\∃ (o1:Option AV) (q':Nat) (y:Str) (o5:Option AV),y.cps.toList[q']? = some c/\en=[some (.ref p),o1,some (.int q'),some (.ref D),some (Pc.leaf y).av,o5])
  ⟨rfl,n,q,m,x,f,l,pc,none,T,rfl,hn,ec,epc,rfl⟩ (Nat.lt_of_le_of_lt (zhY g T) (by decide)) (by
   rintro i en hh ⟨rfl,n',q',m',x',f',l',pc',o5,T',hi,hn',ec',ep',rfl⟩
   rcases g.kind T' with ⟨e1,e2,e3,_⟩ | ⟨a,b,ma,mb,y,z,fa,la,fb,lb,e1,e2,e3,A,B,e4,e5,e6⟩
   ·have:=ep'.symm.trans e1
    injection this with this
    subst this
    have c1:(yaj (sOp2 fEq (sOp2 fIx (sVar 4) (sLit (.int 0))) (sLit (.str "fork")))) [some (.ref p),some (.int n'),some (.int q'),some (.ref D),some (Pc.leaf x').av,o5] hh = .ok false hh:=by
     have i0:fIx (Pc.leaf x').av (.int 0) hh = .ok (.str "leaf") hh:=rfl
     have q1:=eqFL hh
     generalize (Pc.leaf x').av=W at *
     simp [i0,q1,-fIx,-fEq]
    rw [c1]
    exact ⟨rfl,_,q',x',o5,ec',rfl⟩
   ·have:=ep'.symm.trans e1
    injection this with this
    subst this
    obtain ⟨j,ej,ja,jb,z0⟩:=hs1 (show m'.ht=max ma.ht mb.ht+1 by rw [e5];rfl) A.ky.ht B.ky.ht
    have c1:(yaj (sOp2 fEq (sOp2 fIx (sVar 4) (sLit (.int 0))) (sLit (.str "fork")))) [some (.ref p),some (.int n'),some (.int q'),some (.ref D),some (Pc.fork a b).av,o5] hh = .ok true hh:=by
     have i0:fIx (Pc.fork a b).av (.int 0) hh = .ok (.str "fork") hh:=rfl
     have q1:=eqFF hh
     generalize (Pc.fork a b).av=W at *
     simp [i0,q1,-fIx,-fEq]
    rw [c1]
    obtain ⟨ka,kb⟩:=K.cl n' a b hn' e1
    obtain ⟨v,ev⟩:=Option.isSome_iff_exists.mp ka
    obtain ⟨a',m2,x2,f2,l2,z1,T2,rfl⟩:=K.ok a v ev
    have:a=a' := Int.ofNat.inj z1
    subst this
    have z2:=A.ms.symm.trans T2.ms;cases z2
    have xa:fIx (.ref D) (.int a) hh = .ok (ya4 ma f2 l2) hh:=by simp [eD,ybY,ev]
    have xb:fIx (ya4 ma f2 l2) (.int 1) hh = .ok (.int ma.sg) hh:=rfl
    have i1:fIx (Pc.fork a b).av (.int 1) hh = .ok (.int a) hh:=rfl
    have i2:fIx (Pc.fork a b).av (.int 2) hh = .ok (.int b) hh:=rfl
    have sa:=A.ky.sg
    have la:y.cps.toList.length=ma.sg:=by rw [sa,<- zad]
    rw [e4,zae] at ec'
    have lt:fLt (.int q') (.int ma.sg) hh = .ok (.bl (decide (q'<ma.sg))) hh:=by
     have:decide ((q':Int)<ma.sg)=decide (q'<ma.sg):=by apply decide_eq_decide.mpr;lia
     simp only [fLt,this]
    by_cases cq:q'<ma.sg
    ·obtain ⟨pa,epa⟩:∃ pc,ps[a-1]? = some pc:=by
      have:=A.le
      have:=A.n1
      exact ⟨_,List.getElem?_eq_getElem (by lia)⟩
     have fp:=zbi S A.n1 epa
     rw [decide_eq_true cq] at lt
     have eB:ybf [some (.ref p),some (.int n'),some (.int q'),some (.ref D),some (Pc.fork a b).av,o5] hh = .nx [some (.ref p),some (.int a),some (.int q'),some (.ref D),some pa.av,some (.int ma.sg)] hh:=by
      have ob:=S.ob
      clear K S T
      generalize (Pc.fork a b).av=W at *
      generalize pa.av=PA at *
      generalize ya4 ma f2 l2=LV at *
      simp [ybf,i1,xa,xb,lt,ob,fp,-fIx,-fLt]
     show thn (ybf _ hh) _
     rw [eB]
     rw [List.getElem?_append_left (by lia)] at ec'
     exact ⟨ma.ht.toNat,by lia,rfl,a,q',ma,y,fa,_,pa,_,A,rfl,ka,ec',epa,rfl⟩
    ·obtain ⟨pb,epb⟩:∃ pc,ps[b-1]? = some pc:=by
      have:=B.le
      have:=B.n1
      exact ⟨_,List.getElem?_eq_getElem (by lia)⟩
     have fp:=zbi S B.n1 epb
     rw [decide_eq_false cq] at lt
     have sb:=yfl (a:=q') (b:=ma.sg) (c:=q'-ma.sg) (by lia) hh
     have eB:ybf [some (.ref p),some (.int n'),some (.int q'),some (.ref D),some (Pc.fork a b).av,o5] hh = .nx [some (.ref p),some (.int b),some (.int (q'-ma.sg:Nat)),some (.ref D),some pb.av,some (.int ma.sg)] hh:=by
      have ob:=S.ob
      clear K S T
      generalize (Pc.fork a b).av=W at *
      generalize pb.av=PA at *
      generalize ya4 ma f2 l2=LV at *
      generalize ((q'-ma.sg:Nat):Int)=QQ at *
      simp [ybf,i1,i2,xa,xb,lt,sb,ob,fp,-fIx,-fLt,-fSub]
     show thn (ybf _ hh) _
     rw [eB]
     rw [List.getElem?_append_right (by lia),la] at ec'
     exact ⟨mb.ht.toNat,by lia,rfl,b,q'-ma.sg,mb,z,fb,lb,pb,_,B,rfl,kb,ec',epb,rfl⟩)
 subst r3
 have i1:fIx (Pc.leaf y).av (.int 1) h' = .ok (.str y) h' := rfl
 have k1:fIx (.str y) (.int q') h' = .ok (.str ⟨#[c]⟩) h' := by simp only [fIx,zbu r2]
 have ob:=S.ob
 clear K S T
 unfold yb0
 generalize ybF (yaj (sOp2 fEq (sOp2 fIx (sVar 4) (sLit (.int 0))) (sLit (.str "fork")))) ybf ydd=WH at *
 generalize pc.av=PA at *
 generalize (Pc.leaf y).av=PB at *
 generalize (⟨#[c]⟩:Str)=CC at *
 simp [ob,fp0,r1,i1,k1,-fIx]
structure Rr (L:Nat) (h:AH) (ps:List Pc):Prop where
 sh:ShelfAt h 0 ps
 gd:Good ps
 far:8<L
 ro:∃ N:Int,h[L]? = some (.lst [.int N])
theorem Rr.fr {L:Nat} {h h':AH} {ps:List Pc} (s:Rr L h ps) (f:Fr L h h'):Rr L h' ps:=by
 have l8:=yaR s.sh.h8
 have fa:=s.far
 exact ⟨s.sh.keep fun i i1 i8=>f.fr i (by lia) (by lia),s.gd,s.far,f.ro⟩
theorem Rr.app {L:Nat} {h:AH} {ps:List Pc} (s:Rr L h ps) (r:AH):Rr L (h++r) ps:=by
 obtain ⟨N,e⟩:=s.ro
 exact ⟨s.sh.app r,s.gd,s.far,N,by rw [List.getElem?_append_left (yaR e)];exact e⟩
theorem Rr.dd {L:Nat} {h h':AH} {ps ps':List Pc} {k:Nat} (s:Rr L h ps) (d:Dd 0 h h' ps ps' k):Rr L h' ps' := by
 obtain ⟨N,e⟩:=s.ro
 have:=s.far
 exact ⟨d.sh,d.gd,s.far,N,(d.fr L (.inr (by lia))).trans e⟩
theorem Rr.self {L:Nat} {h:AH} {ps:List Pc} (s:Rr L h ps):Fr L h h:=⟨fun _ _ _=>rfl,Nat.le_refl _,s.ro⟩
theorem zfW {L n:Nat} {h:AH} {ps:List Pc} {X:Str} {bs:List Bk} (s:Rr L h ps) (T:TxZ ps n X) (eX:X.cps.toList=fB bs) (hX:X.length<=1000000000000000000) (ok:BOk bs) (hl:bs.length<=1000) (hz:ps.length<16000000) :
  ∃ h',yaQ [.ref 0,.int n,.fl (bs.map bv),.ref L] h = .ok (.bl true) h'/\Fr L h h' := by
 have xl:(fB bs).length=X.length:=by rw [<- eX,<- zad]
 have lh:=zbN (h:=h) ok hl
 rw [xl] at lh
 rcases T with ⟨rfl,rfl⟩ | ⟨m,f,l,T⟩
 ·refine ⟨h,?_,s.self⟩
  have z0:fEq (.int 0) (.int 0) h = .ok (.bl true) h:=by simp
  have lh':ya5 [.fl (bs.map bv)] h = .ok (.int 0) h:=lh
  unfold yaQ
  generalize bs.map bv=Z at *
  simp [lh',z0,-fEq]
 ·have n1:=T.n1
  have sg:=T.ky.sg
  have sg1:=T.ky.sg1
  have e0:fEq (.int n) (.int 0) h = .ok (.bl false) h:=by
   have : ¬ n=0:=by lia
   simp [this]
  have e1:fEq (.int X.length) (.int 0) h = .ok (.bl false) h:=by
   have : ¬ X.length=0:=by lia
   simp [this]
  obtain ⟨N0,eN⟩:=s.ro
  have Ll:=yaR eN
  have h8:=yaR s.sh.h8
  have hh:=ht82 s.gd T
  have h0:=T.ky.ht
  obtain ⟨kvs,e2,K,kn,_,_⟩:=zdw (p:=0) 90 (D:=h.length) (kvs:=[]) (s.sh.app [.dct false []]) s.gd T (by lia) (by lia) (by simp) (KOl.nil ps) hz
  have st:(h++[AO.dct false []]).set h.length (.dct false kvs)=h++[.dct false kvs]:=by simp
  rw [st] at e2
  have s1:=s.app [.dct false kvs]
  have eD:(h++[AO.dct false kvs])[h.length]? = some (.dct false kvs):=by simp
  have F0:=s.self.app [.dct false kvs]
  obtain ⟨h1,eh1⟩:∃ h1,h1=h++[AO.dct false kvs]:=⟨_,rfl⟩
  have n1':h1.length=h.length+1:=by rw [eh1];simp
  rw [<- eh1] at e2 s1 eD F0
  have q0:=zjf m f l h1
  have ix1:fIx (ya4 m f l) (.int 1) h1 = .ok (.int X.length) h1:=by rw [<- sg];rfl
  have ne:fNe (.int X.length) (.int X.length) h1 = .ok (.bl false) h1:=by simp
  have fs:=zao s1.sh T.ms
  rw [sg] at fs
  have fe:=zi6 s1.sh T.ms
  have en:=T.ky.en
  rw [zaX,eX] at en
  rw [en] at fe
  obtain ⟨h2,qs,f2,F2,hq,lq⟩:=zjk (h:=h1) s1.ro ok hl (by lia) (by lia)
  have s2:=s1.fr F2
  have D2:h2[h.length]? = some (.dct false kvs):=(F2.fr h.length (by lia) (by lia)).trans eD
  rw [xl] at hq
  have ca:=zer (js:=[0,1,5,2]) (en:=[some (.ref 0),some (.int n),some (.fl (bs.map bv)),some (.ref L),some (.int X.length),some (.ref h.length),some (ya4 m f l),some (.fl (qs.map AV.int))]) (w:=none) (all:=qs.map AV.int) (e:=sOp2 fEq (yad yb0 (sCons (sVar 1) (sCons (sVar 2) (sCons (sVar 0) (sCons (sVar 3) sNil))))) (yad ybb (sCons (sVar 4) (sCons (sVar 0) sNil)))) (g:=AV.int) (f:=fun _=>AV.bl true) (h:=h2) rfl qs [] (by
   intro q hqq
   obtain ⟨q0,q1⟩:=hq q hqq
   obtain ⟨a,rfl⟩:∃ a:Nat,q=a:=⟨q.toNat,by lia⟩
   obtain ⟨c,c1,c2⟩:=zjl (q:=a) s2.sh s2.gd T D2 K kn (by lia)
   obtain ⟨c',c3,c4⟩:=zji (h:=h2) (q:=a) ok (by lia)
   rw [<- eX,c1] at c3
   cases c3
   have eq:fEq (.str ⟨#[c]⟩) (.str ⟨#[c]⟩) h2 = .ok (.bl true) h2:=by simp
   generalize bs.map bv=Z at *
   generalize (⟨#[c]⟩:Str)=CC at *
   generalize ya4 m f l=LV at *
   generalize qs.map AV.int=QS at *
   generalize (X.length:Int)=XL at *
   simp [c2,c4,eq,-fEq]) (Nat.le_trans (m:=1000) (by simpa using lq) (by decide))
  have it:iVal (sVar 7) [some (.ref 0),some (.int n),some (.fl (bs.map bv)),some (.ref L),some (.int X.length),some (.ref h.length),some (ya4 m f l),some (.fl (qs.map AV.int))] h2 = .ok (qs.map AV.int,none) h2:=by
   generalize qs.map AV.int=QS at *
   simp
  have sc:yaU [0,1,5,2] (iVal (sVar 7)) sYes (sOp2 fEq (yad yb0 (sCons (sVar 1) (sCons (sVar 2) (sCons (sVar 0) (sCons (sVar 3) sNil))))) (yad ybb (sCons (sVar 4) (sCons (sVar 0) sNil)))) [some (.ref 0),some (.int n),some (.fl (bs.map bv)),some (.ref L),some (.int X.length),some (.ref h.length),some (ya4 m f l),some (.fl (qs.map AV.int))] h2 = .ok (.fl (qs.map fun _=>AV.bl true)) h2:=by
   rw [List.nil_append] at ca
   simp only [yaU,it,ca]
  have al:fAll [.fl (qs.map fun _=>AV.bl true)] h2 = .ok (.bl true) h2:=by
   have:∀ l:List Int,ych (l.map fun _=>AV.bl true)=some (l.map fun _=>true):=by
    intro l
    induction l with
    | nil=>rfl
    | cons a l ih=>simp [ych,ih]
   simp [fAll,this]
  refine ⟨h2,?_,F0.trans F2⟩
  have sc' := yhj (h:=h1) ok hl (some (.ref 0)) (some (.int n)) (some (.ref L)) (some (.int X.length)) (some (.ref h.length)) (some (ya4 m f l)) none
  have ne2:fNe (.int ((fB bs).count 10:Nat)) (.int ((fB bs).count 10:Nat)) h1 = .ok (.bl false) h1:=by simp
  have ob:=s1.sh.ob
  clear s s1 s2 T K ca it F0 F2 D2 eD hq eX eh1
  unfold yaQ
  generalize yaU [0,1,5,2] (iVal (sVar 7)) sYes (sOp2 fEq (yad yb0 (sCons (sVar 1) (sCons (sVar 2) (sCons (sVar 0) (sCons (sVar 3) sNil))))) (yad ybb (sCons (sVar 4) (sCons (sVar 0) sNil))))=SC at *
  generalize yad fSum (sCons (ybG [] (ya3 (sVar 2)) sYes (sOp2 fMul (sBM yci ybp (sVar 0) (sCons (sLit (.str "\n")) sNil)) (sVar 1))) sNil)=SU at *
  generalize yaY 90=FL at *
  generalize (((fB bs).count 10:Nat):Int)=CN at *
  generalize bs.map bv=Z at *
  generalize ya4 m f l=LV at *
  generalize (qs.map fun _=>AV.bl true)=QB at *
  generalize qs.map AV.int=QS at *
  generalize (X.length:Int)=XL at *
  simp [lh,e0,e1,e2,q0,ix1,ne,ob,fs,fe,sc',ne2,f2,sc,al,-fEq,-fNe,-fIx,-fAll]
end Sk
namespace Sk
open PySem PySem.Spec L2 Sm
theorem zdx {hh:AH} {L:Nat} {N:Int} (m:Nat) (e:hh[L]? = some (.lst [.int N])) (hm:0<m) (hm2:m<=10 ^ 50):∃ (v:Nat) (N':Int),v<m/\yar [.ref L,.int m] hh = .ok (.int v) (hh.set L (.lst [.int N'])):=by
 obtain ⟨v,hv,e1⟩:=zfQ m e hm hm2
 exact ⟨v,N / m,hv,e1⟩
theorem zgj {y:Str} {c:Nat} (hy:yaE y=true) (hc:ydQ c=true):yaE (y++⟨#[c]⟩)=true/\(y++(⟨#[c]⟩:Str)).length=y.length+1:=by
 refine ⟨?_,by rw [zak];rfl⟩
 rw [zaJ,hy]
 simp [yaE,hc]
theorem zgk {hh:AH} {L:Nat} {N:Int} (most:Nat) (hm:most<=1000) (e:hh[L]? = some (.lst [.int N])):∃ (y:Str) (N':Int),yct [.ref L,.int most] hh = .ok (.str y) (hh.set L (.lst [.int N']))/\yaE y=true/\y.length<=most:=by
 have Ll:=yaR e
 obtain ⟨v,N1,hv,t1⟩:=zdx 4 e (by decide) (by decide)
 have t1':yar [.ref L,.int 4] hh = .ok (.int v) (hh.set L (.lst [.int N1])):=t1
 obtain ⟨z,⟨pz,z1,z2⟩,ez⟩:=zh3 v hv (hh.set L (.lst [.int N1]))
 have e1:(hh.set L (.lst [.int N1]))[L]? = some (.lst [.int N1]):=List.getElem?_set_self Ll
 obtain ⟨k,N2,hk,t2⟩:=zdx (most+1) e1 (Nat.succ_pos _) (Nat.le_trans (Nat.succ_le_succ hm) (by decide))
 rw [List.set_set] at t2
 have t2':yar [.ref L,.int ((most:Int)+1)] (hh.set L (.lst [.int N1])) = .ok (.int k) (hh.set L (.lst [.int N2])):=by
  have:=t2;rw [Int.natCast_succ] at this;exact this
 obtain ⟨e',h',r1,y,N3,o4,r2,r3,r4,r5⟩:=ydz (w:=none) (all:=ya2 0 k) (t:=.nm 4) (b:=ybr) (xs:=ya2 0 k) (en:=[some (.ref L),some (.int most),some (.str z),some (.str ""),none]) (h:=hh.set L (.lst [.int N2]))
  (fun j en h' => ∃ (y:Str) (N':Int) (o4:Option AV),en=[some (.ref L),some (.int most),some (.str z),some (.str y),o4]/\h'=hh.set L (.lst [.int N'])/\yaE y=true/\y.length=j) ⟨"",N2,none,rfl,rfl,rfl,rfl⟩ (fun _ _ _ _=>rfl) (by
   rintro j u en h' hu ⟨y,N',o4,rfl,rfl,py,ly⟩
   have jk:j<k:=by have:=(List.getElem?_eq_some_iff.mp hu).1;rwa [zbb] at this
   have e3:(hh.set L (.lst [.int N']))[L]? = some (.lst [.int N']):=List.getElem?_set_self Ll
   obtain ⟨t,N4,ht,et⟩:=zdx z.length e3 (by lia) (Nat.le_trans z2 (by decide))
   rw [List.set_set] at et
   obtain ⟨c,pc,ec⟩:=zh4 ht pz (hh.set L (.lst [.int N4]))
   have ad:fAdd (.str y) (.str ⟨#[c]⟩) (hh.set L (.lst [.int N4])) = .ok (.str (y++⟨#[c]⟩)) (hh.set L (.lst [.int N4])):=by
    have:y.length+(⟨#[c]⟩:Str).length<=sizeLine:=Nat.le_trans (m:=1001) (by show y.length+1<=_;lia) (by decide)
    simp only [fAdd,this,if_true]
   have es:ybr [some (.ref L),some (.int most),some (.str z),some (.str y),some u] (hh.set L (.lst [.int N'])) = .nx [some (.ref L),some (.int most),some (.str z),some (.str (y++⟨#[c]⟩)),some u] (hh.set L (.lst [.int N4])):=by
    generalize hh.set L (.lst [.int N4])=h2 at *
    generalize hh.set L (.lst [.int N'])=h1 at *
    simp [ybr,et,ec,ad,-fIx,-fAdd]
   show thn (ybr [some (.ref L),some (.int most),some (.str z),some (.str y),some u] (hh.set L (.lst [.int N']))) _
   rw [es]
   obtain ⟨q1,q2⟩:=zgj py pc
   exact ⟨_,N4,_,rfl,rfl,q1,by rw [q2,ly]⟩)
 rw [zbb] at r5
 have f1:=(ycF (t:=.nm 4) (b:=ybr) (zbo (a:=yad yar (sCons (sVar 0) (sCons (sOp2 fAdd (sVar 1) (sLit (.int 1))) sNil))) (en:=[some (.ref L),some (.int most),some (.str z),some (.str ""),none]) (h:=hh.set L (.lst [.int N1])) (n:=k) (by simp [t2']) (by lia))).trans r1
 refine ⟨y,N3,?_,r4,by lia⟩
 rw [<- r3]
 subst r2
 unfold yct
 generalize sFor (ybU (yad yar (sCons (sVar 0) (sCons (sOp2 fAdd (sVar 1) (sLit (.int 1))) sNil)))) (.nm 4) ybr=F1 at *
 generalize hh.set L (.lst [.int N1])=h1 at *
 simp [t1',ez,f1]
theorem zjm (c k:Int) (h:AH):∃ m,ybR [.int c,.int k] h = .ok (.int m) h:=by
 have b1:0<=(c % 1000000007+7919*k+101)*48271 % 2147483647:=Int.emod_nonneg _ (by decide)
 have b2:(c % 1000000007+7919*k+101)*48271 % 2147483647<2147483647:=Int.emod_lt_of_pos _ (by decide)
 refine ⟨(c % 1000000007+7919*k+101)*48271 % 2147483647*((c % 1000000007+7919*k+101)*48271 % 2147483647) % 2147483629*69621 % 2147483647,?_⟩
 generalize he:(c % 1000000007+7919*k+101)*48271 % 2147483647=v at *
 have c1:v.natAbs<18446744073709551616:=by lia
 simp [ybR,he,c1]
theorem yhk {i j:Int} {h:AH} (hi:i.natAbs<2 ^ 4000) (hj:j.natAbs<2 ^ 4000):fMul (.int i) (.int j) h = .ok (.int (i*j)) h:=if_pos (.inr ⟨hi,hj⟩)
abbrev T60:Int:=1000000000000000000000000000000000000000000000000000000000000000000000000000000000000000000000000000000000000000000000000
theorem yhl:(10:Nat) ^ 720<2 ^ 4000:=by decide +kernel
theorem yic:T60.natAbs<2 ^ 4000:=by decide +kernel
theorem zeX (ns:List Int) (k:Nat) (i:Nat) (c:Nat) (o:Option AV) (h:AH) (hi:i<6) (hc:c<10 ^ (120*i)) (hj:k+i*12<ns.length) :
  ∃ c':Nat,c'<10 ^ (120*(i+1))/\ybB [some (.fl (ns.map AV.int)),some (.int k),some (.int c),some (.int ((k:Int)+i*12)),o] h = .nx [some (.fl (ns.map AV.int)),some (.int k),some (.int c'),some (.int ((k:Int)+i*12)),o] h:=by
 obtain ⟨s,es⟩:∃ s,ns[k+i*12]? = some s:=⟨ns[k+i*12],by simp [hj]⟩
 have ix:fIx (.fl (ns.map AV.int)) (.int ((k:Int)+i*12)) h = .ok (.int s) h:=by
  rw [show ((k:Int)+i*12)=((k+i*12:Nat):Int) by simp]
  simp only [fIx,zcJ es]
 have p1:(10:Nat) ^ (120*i)<=10 ^ 720:=Nat.pow_le_pow_right (by decide) (by lia)
 have m1:((c:Int)).natAbs<2 ^ 4000:=by
  have:=yhl
  exact Nat.lt_trans (show c<10 ^ 720 by lia) this
 have mu:fMul (.int c) (.int T60) h = .ok (.int (c*T60)) h:=yhk m1 yic
 have r0:0<=s % T60:=Int.emod_nonneg _ (by decide)
 have r1:s % T60<T60:=Int.emod_lt_of_pos _ (by decide)
 obtain ⟨r,er⟩:∃ r:Nat,s % T60=(r:Int):=⟨(s % T60).toNat,(Int.toNat_of_nonneg r0).symm⟩
 have rl:r<10 ^ 120:=by
  have:(r:Int)<T60:=er▸r1
  have e:T60=((10 ^ 120:Nat):Int):=by decide +kernel
  rw [e] at this;exact Int.ofNat_lt.mp this
 obtain ⟨c',ec,lc⟩:∃ c':Nat,(c:Int)*T60+r=(c':Int)/\c'<10 ^ (120*(i+1)):=by
  refine ⟨c*10 ^ 120+r,?_,?_⟩
  ·have e:T60=((10 ^ 120:Nat):Int):=by decide +kernel
   rw [e,Int.natCast_add,Int.natCast_mul]
  ·rw [show 120*(i+1)=120*i+120 by lia,Nat.pow_add]
   have:(c+1)*10 ^ 120<=10 ^ (120*i)*10 ^ 120:=Nat.mul_le_mul_right _ hc
   have e2:(c+1)*10 ^ 120=c*10 ^ 120+10 ^ 120:=Nat.succ_mul _ _
   lia
 refine ⟨c',lc,?_⟩
 have pw:(sOp2 fMul (sOp2 fPow (sLit (.int 10)) (sLit (.int 60))) (sOp2 fPow (sLit (.int 10)) (sLit (.int 60)))) [some (.fl (ns.map AV.int)),some (.int k),some (.int c),some (.int ((k:Int)+i*12)),o] h = .ok (.int T60) h:=by simp
 have md:fMod (.int s) (.int T60) h = .ok (.int r) h:=by simp only [fMod];rw [if_pos (by decide),er]
 clear p1 m1 r0 r1 er rl hc lc hi
 unfold ybB
 generalize sOp2 fMul (sOp2 fPow (sLit (.int 10)) (sLit (.int 60))) (sOp2 fPow (sLit (.int 10)) (sLit (.int 60)))=PW at *
 generalize T60=t60 at *
 simp [pw,mu,ix,md,ec,-fMul,-fIx,-fMod]
theorem zeB (en0:Option AV) (ns:List Int) (k c f j:Int) (h:AH):∃ f',ybC [some (.fl (ns.map AV.int)),some (.int k),some (.int c),some (.int j),some (.int f)] h = .nx [some (.fl (ns.map AV.int)),some (.int k),some (.int c),some (.int j),some (.int f')] h:=by
 obtain ⟨m,hm⟩:=zjm (c+1009*k+ns.length) j h
 refine ⟨f*2147483647+m,?_⟩
 have m1:fMul (.int f) (.int 2147483647) h = .ok (.int (f*2147483647)) h:=ye8 (by decide)
 have m2:fMul (.int 1009) (.int k) h = .ok (.int (1009*k)) h:=ye7 (by decide)
 simp [ybC,hm,m1,m2,-fMul]
theorem zh7 (ns:List Int) (hl:ns.length<=63) (k:Nat) (hk:k<=10) (h:AH):∃ N:Int,ybH [.fl (ns.map AV.int),.int k] h = .ok (.ref h.length) (h++[.lst [.int N]]):=by
 obtain ⟨M,eM⟩:∃ M:Nat,M=(if (k:Int)<(ns.length:Int) then ((ns.length:Int)-k-1) / 12+1 else 0).toNat:=⟨_,rfl⟩
 have hM:M<=6/\∀ i,i<M->k+i*12<ns.length:=by
  rw [eM]
  split
  ·refine ⟨by lia,fun i hi=>by lia⟩
  ·refine ⟨by lia,fun i hi=>by simp at hi⟩
 obtain ⟨e1,h1,r1,r2⟩:=ydz (w:=none) (all:=(List.range M).map (fun m:Nat=>AV.int ((k:Int)+m*12))) (t:=.nm 3) (b:=ybB) (xs:=(List.range M).map (fun m:Nat=>AV.int ((k:Int)+m*12))) (en:=[some (.fl (ns.map AV.int)),some (.int k),some (.int 0),none,none]) (h:=h)
  (fun i en h' => h'=h/\∃ (c:Nat) (o:Option AV),c<10 ^ (120*i)/\en=[some (.fl (ns.map AV.int)),some (.int k),some (.int c),o,none]) ⟨rfl,0,none,by decide,rfl⟩ (fun _ _ _ _=>rfl) (by
   rintro j x en h' hx ⟨rfl,c,o,hc,rfl⟩
   rw [List.getElem?_map] at hx
   obtain ⟨m,em,rfl⟩:=Option.map_eq_some_iff.mp hx
   have hj:j<M:=by
    have:=(List.getElem?_eq_some_iff.mp em).1;simpa using this
   rw [List.getElem?_range hj] at em
   cases em
   obtain ⟨c',l',e⟩:=zeX ns k j c none h' (by have:=hM.1;lia) hc (hM.2 j hj)
   show thn (ybB [some (.fl (ns.map AV.int)),some (.int k),some (.int c),some (.int ((k:Int)+j*12)),none] h') _
   rw [e]
   exact ⟨rfl,c',_,l',rfl⟩)
 obtain ⟨rfl,c,o,hc,rfl⟩:=r2
 have z1:(k:Int).natAbs<1099511627776:=by lia
 have z2:((ns.length:Nat):Int).natAbs<1099511627776:=by lia
 have it3:yck (sVar 1) (yad fLen (sCons (sVar 0) sNil)) (sLit (.int 12)) [some (.fl (ns.map AV.int)),some (.int k),some (.int 0),none,none] h1 = .ok ((List.range M).map (fun m:Nat=>AV.int ((k:Int)+m*12)),none) h1:=by
  simp only [yck,sVar,yad,sCons,sNil,sLit,Out.bind,fLen,List.getElem?_cons_zero,List.getElem?_cons_succ,lenA]
  rw [if_pos ⟨z1,z2,by decide,by decide⟩,<- eM]
 have f1:=(ycF (t:=.nm 3) (b:=ybB) it3).trans r1
 clear r1 it3
 by_cases hb:(1000000000000000000:Int)<=c
 ·exact ⟨c,by simp [ybH,f1,hb,-sFor]⟩
 ·have cm:=zer (js:=[]) (en:=[some (.fl (ns.map AV.int)),some (.int k),some (.int c),o,none]) (w:=none) (all:=ns.map AV.int) (e:=sOp2 fMod (sVar 0) (sOp2 fPow (sLit (.int 10)) (sLit (.int 18)))) (g:=AV.int) (f:=fun i=>AV.int (i % 1000000000000000000)) (h:=h1) rfl ns [] (by intro i _;simp) (by
    simp only [List.length_nil];exact Nat.le_trans (show 0+ns.length<=63 by lia) (by decide))
  have im:(ns.map fun i=>AV.int (i % 1000000000000000000))=(ns.map fun i=>i % 1000000000000000000).map AV.int:=by simp
  obtain ⟨S,eS⟩:∃ S:Int,S=(ns.map fun i=>i % 1000000000000000000).sum:=⟨_,rfl⟩
  have sm:fSum [.fl (ns.map fun i=>AV.int (i % 1000000000000000000))] h1 = .ok (.int S) h1:=by
   rw [im,eS];simp only [fSum,zbM]
  obtain ⟨e2,h2,s1,s2⟩:=ydz (w:=none) (all:=ya2 0 24) (t:=.nm 3) (b:=ybC) (xs:=ya2 0 24) (en:=[some (.fl (ns.map AV.int)),some (.int k),some (.int (c+S)),o,some (.int 0)]) (h:=h1)
   (fun i en h' => h'=h1/\∃ (f:Int) (o:Option AV),en=[some (.fl (ns.map AV.int)),some (.int k),some (.int (c+S)),o,some (.int f)]) ⟨rfl,0,o,rfl⟩ (fun _ _ _ _=>rfl) (by
    rintro j x en h' hx ⟨rfl,f,o,rfl⟩
    rw [zb1] at hx
    by_cases q:j<24
    ·rw [if_pos q] at hx
     cases hx
     obtain ⟨f',e⟩:=zeB none ns k (c+S) f (0+(j:Int)) h'
     show thn (ybC [some (.fl (ns.map AV.int)),some (.int k),some (.int (c+S)),some (.int (0+(j:Int))),some (.int f)] h') _
     rw [e]
     exact ⟨rfl,f',_,rfl⟩
    ·rw [if_neg q] at hx;cases hx)
  obtain ⟨rfl,f,o',rfl⟩:=s2
  have f2:=(ycF (t:=.nm 3) (b:=ybC) (zbo (a:=sLit (.int 24)) (en:=[some (.fl (ns.map AV.int)),some (.int k),some (.int (c+S)),o,some (.int 0)]) (h:=h2) (n:=24) rfl (by decide))).trans s1
  refine ⟨f,?_⟩
  simp at cm
  simp [ybH,f1,hb,cm,sm,f2,-sFor,-fSum]
theorem zdX {w:Option Nat} {js:List Nat} {en:En} {all:List AV} {c:SB} {e:SE} (P:Nat->List AV->AH->Prop) (lv:∀ i ys h,P i ys h->ybz w all h=true):∀ (xs ys:List AV) (i:Nat) (h:AH),P i ys h ->
  (∀ j x ys h,xs[j]? = some x->P (i+j) ys h->c (some x::js.map fun j=>(en[j]?).join) h = .ok true h/\∃ v h2,e (some x::js.map fun j=>(en[j]?).join) h = .ok v h2/\P (i+j+1) (ys++[v]) h2)->ys.length+xs.length<=sizeLine ->
  ∃ zs h',yaI js en w all c e xs ys h = .ok zs h'/\P (i+xs.length) zs h'
 | [],ys,i,h,p,_,_=>⟨ys,h,by unfold yaI;rw [if_pos (lv _ _ _ p)],p⟩
 | x::xs,ys,i,h,p,s,hl=>by
  obtain ⟨q0,v,h2,q1,q2⟩:=s 0 x ys h rfl p
  obtain ⟨zs,h',r1,r2⟩:=zdX P lv xs (ys++[v]) (i+1) h2 q2 (fun j y ys h hy hp=>by
   have:=s (j+1) y ys h (by simpa using hy) (by rw [show i+(j+1)=i+1+j by lia];exact hp)
   rw [show i+(j+1)+1=i+1+j+1 by lia] at this
   exact this) (by simp at hl ⊢;lia)
  refine ⟨zs,h',?_,by rw [List.length_cons,show i+(xs.length+1)=i+1+xs.length by lia];exact r2⟩
  unfold yaI
  rw [if_pos ⟨lv _ _ _ p,by simp at hl;lia⟩,q0]
  dsimp only
  rw [q1]
  exact r1
structure Kd (L:Nat) (h h':AH) (ps ps':List Pc) (k:Nat):Prop where
 rr:Rr L h' ps'
 pre:ps <+: ps'
 len:ps'.length<=ps.length+k
 fr:∀ i,8<i->i<h.length->i≠L->h'[i]? = h[i]?
 hl:h.length<=h'.length
theorem Kd.refl {L:Nat} {h:AH} {ps:List Pc} (s:Rr L h ps):Kd L h h ps ps 0:=⟨s,List.prefix_refl _,by lia,fun _ _ _ _=>rfl,Nat.le_refl _⟩
theorem Kd.fr' {L:Nat} {h h' h'':AH} {ps ps':List Pc} {k:Nat} (a:Kd L h h' ps ps' k) (f:Fr L h' h''):Kd L h h'' ps ps' k :=
 ⟨a.rr.fr f,a.pre,a.len,fun i i8 hi n=>(f.fr i (Nat.lt_of_lt_of_le hi a.hl) n).trans (a.fr i i8 hi n),Nat.le_trans a.hl f.hl⟩
theorem Kd.dd {L:Nat} {h h' h'':AH} {ps ps' ps'':List Pc} {k k' k2:Nat} (a:Kd L h h' ps ps' k) (d:Dd 0 h' h'' ps' ps'' k') (hk:k+k'<=k2):Kd L h h'' ps ps'' k2 :=
 ⟨a.rr.dd d,a.pre.trans d.pre,by have:=a.len;have:=d.len;lia,fun i i8 hi n=>(d.fr i (.inr (by lia))).trans (a.fr i i8 hi n),by rw [d.hl];exact a.hl⟩
theorem Kd.take {L:Nat} {h h':AH} {ps ps':List Pc} {k:Nat} (a:Kd L h h' ps ps' k) (m:Nat) (hm:0<m) (hm2:m<=10 ^ 50):∃ (v:Nat) (h'':AH),v<m/\yar [.ref L,.int m] h' = .ok (.int v) h''/\Kd L h h'' ps ps' k:=by
 obtain ⟨v,N,hv,t,F⟩:=a.rr.self.take m hm hm2
 exact ⟨v,_,hv,t,a.fr' F⟩
end Sk
namespace Sk
open PySem PySem.Spec L2 Sm
theorem zbO {h:AH} {p n a:Nat} {ps:List Pc} {x:Str} (S:ShelfAt h p ps) (g:Good ps) (T:TxZ ps n x) (ha:a<=x.length) (hz:ps.length<14000000) :
  ∃ (r:Nat) (ps':List Pc) (h':AH),Dn (yas 90 [.ref p,.int n,.int a]) p h h' ps ps' (32*(htOf ps n+1).toNat) r/\TxZ ps' r (tkS x a)/\htOf ps' r<=htOf ps n:=by
 by_cases a0:a=0
 ·subst a0
  have dv:Dn (yas 90 [.ref p,.int n,.int (0:Nat)]) p h h ps ps 0 0:=Dn.val S g fun hh pp S' _ pr=>fr_0
  exact ⟨0,ps,h,dv.as S g (fun _ _ _ _ _=>rfl) (Nat.zero_le _),.inl ⟨rfl,tk_0 x⟩,by rw [za3];exact zaH T⟩
 ·obtain ⟨m,f,l,T1⟩:=T.pos (by lia)
  have h82:=ht82 g T1
  have m0:=T1.ky.ht
  obtain ⟨r,ps',h',m',f',l',d,T',q1,_⟩:=zcQ 90 (p:=p) (a:=a) S g T1 (by lia) ha (by lia) (by lia)
  have r0:=T'.ky.ht
  rw [ybA T1.ms]
  exact ⟨r,ps',h',d.as S g (fun _ _ _ _ _=>rfl) (by lia),.inr ⟨_,_,_,T'⟩,by rw [ybA T'.ms];exact q1⟩
theorem zcj {h:AH} {p n a:Nat} {ps:List Pc} {x:Str} (S:ShelfAt h p ps) (g:Good ps) (T:TxZ ps n x) (ha:a<=x.length) (hz:ps.length<14000000) :
  ∃ (r:Nat) (ps':List Pc) (h':AH),Dn (yaw 90 [.ref p,.int n,.int a]) p h h' ps ps' (32*(htOf ps n+1).toNat) r/\TxZ ps' r (dpS x a)/\htOf ps' r<=htOf ps n:=by
 by_cases a0:a=0
 ·subst a0
  have dv:Dn (yaw 90 [.ref p,.int n,.int (0:Nat)]) p h h ps ps 0 n:=Dn.val S g fun hh pp S' _ pr=>bk_0
  exact ⟨n,ps,h,dv.as S g (fun _ _ _ _ _=>rfl) (Nat.zero_le _),by rw [dp_0];exact T,Int.le_refl _⟩
 ·obtain ⟨m,f,l,T1⟩:=T.pos (by lia)
  have sg:=T1.ky.sg
  by_cases ea:a=m.sg
  ·have dv:Dn (yaw 90 [.ref p,.int n,.int a]) p h h ps ps 0 0:=Dn.val S g fun hh pp S' _ pr=>yhf S' (zac pr T1.ms) a0 ea
   exact ⟨0,ps,h,dv.as S g (fun _ _ _ _ _=>rfl) (Nat.zero_le _),.inl ⟨rfl,yhd (by lia)⟩,by rw [za3];exact zaH T⟩
  ·have h82:=ht82 g T1
   have m0:=T1.ky.ht
   obtain ⟨r,ps',h',m',f',l',d,T',q1,_⟩:=zdv 90 (p:=p) (a:=a) S g T1 (by lia) (by lia) (by lia)
   have r0:=T'.ky.ht
   rw [ybA T1.ms]
   exact ⟨r,ps',h',d.as S g (fun _ _ _ _ _=>rfl) (by lia),.inr ⟨_,_,_,T'⟩,by rw [ybA T'.ms];exact q1⟩
theorem zaU {ps ps':List Pc} {n:Nat} {x:Str} (T:TxZ ps n x) (pr:ps <+: ps'):htOf ps' n=htOf ps n:=by
 obtain ⟨m,em,_⟩:=T.meas
 rw [ybA em,ybA (zac pr em)]
theorem yhm {ps:List Pc} {n:Nat} (T:TxZ ps n ""):htOf ps n = -1:=by
 rcases T with ⟨rfl,_⟩ | ⟨m,f,l,T⟩
 ·exact za3 ps
 ·have a:=T.ky.sg
  obtain ⟨k,c⟩:=T.ky.cnt
  have f1:=T.ky.f1
  have:("" : Str).length=0:=rfl
  rcases c with c | c<;>lia
theorem yfR {ps:List Pc} {n:Nat} {x:Str} (T:TxZ ps n x) (h:htOf ps n = -1):x = "" := by
 rcases T with ⟨_,rfl⟩ | ⟨m,f,l,T⟩
 ·rfl
 ·have:=T.ky.ht
  rw [ybA T.ms] at h
  lia
theorem yhn {h h1 h2 h3 h4:AH} {p a b t r1 r2 r3 r:Nat} {ps:List Pc} {ma mb:Ms} (S:ShelfAt h p ps) (ema:(meas ps)[a]? = some ma) (emb:(meas ps)[b]? = some mb) (tx:t<=ma.sg) (hx:ma.sg+mb.sg<=1000000000000000000)
  (e1:yas 90 [.ref p,.int a,.int t] h = .ok (.int r1) h1) (e2:yav [.ref p,.int r1,.int b] h1 = .ok (.int r2) h2) (e3:yaw 90 [.ref p,.int a,.int t] h2 = .ok (.int r3) h3) (e4:yav [.ref p,.int r2,.int r3] h3 = .ok (.int r) h4):ydm [.ref p,.int a,.int t,.int b] h = .ok (.int r) h4:=by
 have ck:=zfS S ema tx
 have f1:=zao S ema
 have f2:=zao S emb
 have lk:=zaY (i:=(ma.sg:Int)+mb.sg) (by lia) h
 have ob:=S.ob
 unfold ydm
 generalize yas 90=FF at *
 generalize yaw 90=FB at *
 simp [ob,f1,f2,ck,lk,e1,e2,e3,e4]
theorem yho {h:AH} {p a b t:Nat} {ps:List Pc} {x y:Str} (S:ShelfAt h p ps) (g:Good ps) (A:TxZ ps a x) (B:TxZ ps b y) (tx:t<=x.length) (hx:x.length+y.length<=1000000000000000000) (hz:ps.length<13000000) :
  ∃ (r:Nat) (ps':List Pc) (h':AH),ydm [.ref p,.int a,.int t,.int b] h = .ok (.int r) h'/\Dd p h h' ps ps' (200*(1+max (htOf ps a) (htOf ps b)).toNat)/\TxZ ps' r ((tkS x t++y)++dpS x t):=by
 obtain ⟨ma,ema,sma⟩:=A.meas
 obtain ⟨mb,emb,smb⟩:=B.meas
 have ha:=htZ g A
 have hb:=htZ g B
 obtain ⟨r1,ps1,h1,d1,T1,q1⟩:=zbO (a:=t) S g A tx (by lia)
 have z1:=d1.dd.len
 have l1:=ydo tx
 have g1:=zaH T1
 obtain ⟨r2,ps2,h2,d2,T2,q2⟩:=zb5 d1.dd.sh d1.dd.gd T1 (B.pre d1.dd.pre) (by lia) (by lia)
 rw [zaU B d1.dd.pre] at d2 q2
 have z2:=d2.dd.len
 have g2:=zaH T2
 have l2:=zak (tkS x t) y
 have p12:=d1.dd.pre.trans d2.dd.pre
 obtain ⟨r3,ps3,h3,d3,T3,q3⟩:=zcj (a:=t) d2.dd.sh d2.dd.gd (A.pre p12) tx (by lia)
 rw [zaU A p12] at d3 q3
 have z3:=d3.dd.len
 have l3:=yc7 x t
 have g3:=zaH T3
 obtain ⟨r,ps4,h4,d4,T4,_⟩:=zb5 d3.dd.sh d3.dd.gd (T2.pre d3.dd.pre) T3 (by lia) (by lia)
 rw [zaU T2 d3.dd.pre] at d4
 refine ⟨r,ps4,h4,yhn S ema emb (by lia) (by lia) d1.ev d2.ev d3.ev d4.ev,((d1.dd.trans d2.dd (Nat.le_refl _)).trans d3.dd (Nat.le_refl _)).trans d4.dd ?_,T4⟩
 by_cases m:max (htOf ps a) (htOf ps b) = -1
 ·have xa:x = "" := yfR A (by lia)
  have yb:y = "" := yfR B (by lia)
  have e2:htOf ps2 r2 = -1:=by
   have t0:t=0:=by
    rw [xa] at tx
    have:("" : Str).length=0:=rfl
    lia
   have:tkS x t++y = "" := by
    rw [yb,t0,tk_0]
    exact zaf (by rw [zae];rfl)
   rw [this] at T2
   exact yhm T2
  lia
 ·lia
theorem zh8 {h h1 h2 h3:AH} {p n b e r1 r2 r:Nat} {ps:List Pc} {m:Ms} (S:ShelfAt h p ps) (em:(meas ps)[n]? = some m) (be:b<=e) (hm:e<=m.sg) (e1:yas 90 [.ref p,.int n,.int b] h = .ok (.int r1) h1) (e2:yaw 90 [.ref p,.int n,.int e] h1 = .ok (.int r2) h2) (e3:yav [.ref p,.int r1,.int r2] h2 = .ok (.int r) h3):ycs [.ref p,.int n,.int b,.int e] h = .ok (.int r) h3:=by
 have ck:=zdW S em be hm
 unfold ycs
 generalize yas 90=FF at *
 generalize yaw 90=FB at *
 simp [ck,e1,e2,e3]
theorem zh9 {h:AH} {p n b e:Nat} {ps:List Pc} {x:Str} (S:ShelfAt h p ps) (g:Good ps) (T:TxZ ps n x) (be:b<=e) (ex:e<=x.length) (hx:x.length<=1000000000000000000) (hz:ps.length<13000000) :
  ∃ (r:Nat) (ps':List Pc) (h':AH),ycs [.ref p,.int n,.int b,.int e] h = .ok (.int r) h'/\Dd p h h' ps ps' (200*(1+htOf ps n).toNat)/\TxZ ps' r (tkS x b++dpS x e):=by
 obtain ⟨m,em,sm⟩:=T.meas
 have ht:=htZ g T
 obtain ⟨r1,ps1,h1,d1,T1,q1⟩:=zbO (a:=b) S g T (by lia) (by lia)
 have z1:=d1.dd.len
 obtain ⟨r2,ps2,h2,d2,T2,q2⟩:=zcj (a:=e) d1.dd.sh d1.dd.gd (T.pre d1.dd.pre) ex (by lia)
 rw [zaU T d1.dd.pre] at d2 q2
 have z2:=d2.dd.len
 have l1:=ydo (x:=x) (a:=b) (by lia)
 have l2:=yc7 x e
 obtain ⟨r,ps3,h3,d3,T3,_⟩:=zb5 d2.dd.sh d2.dd.gd (T1.pre d2.dd.pre) T2 (by lia) (by lia)
 rw [zaU T1 d2.dd.pre] at d3
 have g1:=zaH T1
 have g2:=zaH T2
 exact ⟨r,ps3,h3,zh8 S em be (by lia) d1.ev d2.ev d3.ev,(d1.dd.trans d2.dd (Nat.le_refl _)).trans d3.dd (by lia),T3⟩
theorem zjn {h h1 h2:AH} {p n b e r1 r2:Nat} {ps:List Pc} {m:Ms} (S:ShelfAt h p ps) (em:(meas ps)[n]? = some m) (be:b<=e) (hm:e<=m.sg) (e1:yas 90 [.ref p,.int n,.int e] h = .ok (.int r1) h1) (e2:yaw 90 [.ref p,.int r1,.int b] h1 = .ok (.int r2) h2):ycr [.ref p,.int n,.int b,.int e] h = .ok (.int r2) h2:=by
 have ck:=zdW S em be hm
 unfold ycr
 generalize yas 90=FF at *
 generalize yaw 90=FB at *
 simp [ck,e1,e2]
theorem zjo {h:AH} {p n b e:Nat} {ps:List Pc} {x:Str} (S:ShelfAt h p ps) (g:Good ps) (T:TxZ ps n x) (be:b<=e) (ex:e<=x.length) (hz:ps.length<13000000) :
  ∃ (r:Nat) (ps':List Pc) (h':AH),ycr [.ref p,.int n,.int b,.int e] h = .ok (.int r) h'/\Dd p h h' ps ps' (200*(1+htOf ps n).toNat)/\TxZ ps' r (dpS (tkS x e) b):=by
 obtain ⟨m,em,sm⟩:=T.meas
 have ht:=htZ g T
 obtain ⟨r1,ps1,h1,d1,T1,q1⟩:=zbO (a:=e) S g T ex (by lia)
 have z1:=d1.dd.len
 have l1:=ydo ex
 have g1:=zaH T1
 obtain ⟨r2,ps2,h2,d2,T2,q2⟩:=zcj (a:=b) d1.dd.sh d1.dd.gd T1 (by lia) (by lia)
 exact ⟨r2,ps2,h2,zjn S em be (by lia) d1.ev d2.ev,d1.dd.trans d2.dd (by lia),T2⟩
end Sk
namespace Sk
open PySem PySem.Spec L2 Sm
theorem yfS {h h1 h2:AH} {p n t r1 r2:Nat} {ps:List Pc} {m:Ms} (S:ShelfAt h p ps) (em:(meas ps)[n]? = some m) (tm:t<=m.sg) (e1:yas 90 [.ref p,.int n,.int t] h = .ok (.int r1) h1) (e2:yaw 90 [.ref p,.int n,.int t] h1 = .ok (.int r2) h2):ycQ [.ref p,.int n,.int t] h = .ok (.tup [.int r1,.int r2]) h2:=by
 have ck:=zfS S em tm
 unfold ycQ
 generalize yas 90=FF at *
 generalize yaw 90=FB at *
 simp [ck,e1,e2]
theorem yhp {h:AH} {p n t:Nat} {ps:List Pc} {x:Str} (S:ShelfAt h p ps) (g:Good ps) (T:TxZ ps n x) (tx:t<=x.length) (hz:ps.length<13000000) :
  ∃ (r1 r2:Nat) (ps':List Pc) (h':AH),ycQ [.ref p,.int n,.int t] h = .ok (.tup [.int r1,.int r2]) h'/\Dd p h h' ps ps' (64*(htOf ps n+1).toNat)/\TxZ ps' r1 (tkS x t)/\TxZ ps' r2 (dpS x t)/\(∀ h2 ps2,ShelfAt h2 p ps2->Good ps2->ps' <+: ps2->ycQ [.ref p,.int n,.int t] h2 = .ok (.tup [.int r1,.int r2]) h2):=by
 obtain ⟨m,em,sm⟩:=T.meas
 have hb:=htZ g T
 obtain ⟨r1,ps1,h1,d1,T1,_⟩:=zbO (a:=t) S g T tx (by lia)
 have z1:=d1.dd.len
 obtain ⟨r2,ps2,h2,d2,T2,_⟩:=zcj (a:=t) d1.dd.sh d1.dd.gd (T.pre d1.dd.pre) tx (by lia)
 rw [zaU T d1.dd.pre] at d2
 refine ⟨r1,r2,ps2,h2,yfS S em (by lia) d1.ev d2.ev,d1.dd.trans d2.dd (by lia),T1.pre d2.dd.pre,T2,fun h3 ps3 S3 g3 p3=>?_⟩
 exact yfS S3 (zac ((d1.dd.pre.trans d2.dd.pre).trans p3) em) (by lia) (d1.re h3 ps3 S3 g3 (d2.dd.pre.trans p3)) (d2.re h3 ps3 S3 g3 p3)
abbrev eCr (n:Nat) (Q:List AV) (T:Nat) (M:Int) (o5 o6 o7 o8 o9:Option AV):En:=[some (.ref 0),some (.int n),some (.fl Q),some (.int T),some (.int M),o5,o6,o7,o8,o9]
theorem zia (P:List Nat) {q m:Nat} (h:q<m):rp P m=rp P q++(P++rp P (m-q-1)):=by
 have ad:∀ a b:Nat,rp P a++rp P b=rp P (a+b):=by
  intro a b
  induction a with
  | zero=>rw [Nat.zero_add];rfl
  | succ a ih=>rw [rp_s,List.append_assoc,ih,Nat.add_right_comm,rp_s]
 rw [<- rp_s,ad];congr 1;lia
structure Ok (x:Bk):Prop where
 a:1<=x.1.length
 b:x.1.length<=20
def fuN (n m a:Nat):Nat:=min m (a / n)
def reN (n m a:Nat):Nat:=if fuN n m a=m then 0 else a-fuN n m a*n
def pA (x:Bk) (a:Nat):List Bk:=[(x.1,fuN x.1.length x.2 a),(tkS x.1 (reN x.1.length x.2 a),1)]
def pB (x:Bk) (a:Nat):List Bk:=if fuN x.1.length x.2 a<x.2 then [(dpS x.1 (reN x.1.length x.2 a),1),(x.1,x.2-fuN x.1.length x.2 a-1)] else []
theorem rp_1 (B:List Nat):rp B 1=B:=by rw [rp_s];exact List.append_nil _
theorem pAB {x:Bk} (o:1<=x.1.length) (a:Nat):fB (pA x a)=(rp x.1.cps.toList x.2).take a/\fB (pB x a)=(rp x.1.cps.toList x.2).drop a/\reN x.1.length x.2 a<=x.1.length:=by
 obtain ⟨P,m⟩:=x
 have ln:=zad P
 have o':1<=P.length:=o
 have d:=Nat.div_add_mod a P.length
 have md:=Nat.mod_lt a (show P.length > 0 by lia)
 have lr:=yeL P.cps.toList m
 rw [<- ln] at lr
 unfold pA pB reN fuN
 dsimp only
 by_cases q:m<=a / P.length
 ·rw [Nat.min_eq_left q,if_pos rfl,if_neg (Nat.lt_irrefl _)]
  have le:P.length*m<=a:=Nat.le_trans (Nat.mul_le_mul_left _ q) (by lia)
  refine ⟨?_,?_,by lia⟩
  ·rw [List.take_of_length_le (by lia),fB,fB,fB,rp_1]
   show _++((tkS P 0).cps.toList++[])=_
   rw [ybM];simp
  ·rw [List.drop_of_length_le (by lia)];rfl
 ·have q':a / P.length<m:=by lia
  rw [Nat.min_eq_right (by lia),if_neg (by lia),if_pos q']
  have ra:a-a / P.length*P.length=a % P.length:=by rw [Nat.mul_comm];lia
  rw [ra]
  have ea:a=P.length*(a / P.length)+a % P.length:=d.symm
  have lq:=yeL P.cps.toList (a / P.length)
  rw [<- ln] at lq
  have sp:=zia P.cps.toList q'
  refine ⟨?_,?_,by lia⟩
  ·rw [fB,fB,fB,rp_1]
   show rp P.cps.toList (a / P.length)++((tkS P (a % P.length)).cps.toList++[])=_
   rw [List.append_nil,ybM,sp]
   conv=>rhs;arg 1;rw [ea]
   rw [<- lq,List.take_length_add_append,List.take_append_of_le_length (by lia)]
  ·rw [fB,fB,fB,rp_1]
   show (dpS P (a % P.length)).cps.toList++(rp P.cps.toList (m-a / P.length-1)++[])=_
   rw [List.append_nil,ybW,sp]
   conv=>rhs;arg 1;rw [ea]
   rw [<- lq,List.drop_length_add_append,List.drop_append_of_le_length (by lia)]
theorem yid {x:Bk} (o:x.1.length<=20) (a:Nat):∀ q∈pA x a,q.1.length<=20:=by
 intro q hq
 unfold pA at hq
 simp at hq
 rcases hq with rfl | rfl
 ·exact o
 ·show (tkS x.1 _).length<=20
  rw [zad,ybM,List.length_take]
  have:=zad x.1
  lia
theorem yie {x:Bk} (o:x.1.length<=20) (a:Nat):∀ q∈pB x a,q.1.length<=20:=by
 intro q hq
 unfold pB at hq
 split at hq
 ·simp at hq
  rcases hq with rfl | rfl
  ·show (dpS x.1 _).length<=20
   rw [yc7];lia
  ·exact o
 ·cases hq
def prA (a:Nat):Nat->List Bk->List Bk
 | _,[]=>[]
 | s,x::r=>pA x (a-s)++prA a (s+x.1.length*x.2) r
def prB (a:Nat):Nat->List Bk->List Bk
 | _,[]=>[]
 | s,x::r=>pB x (a-s)++prB a (s+x.1.length*x.2) r
theorem yf9 (a:Nat):∀ (bs:List Bk) (s:Nat),(∀ x∈bs,Ok x)->fB (prA a s bs)=(fB bs).take (a-s)/\fB (prB a s bs)=(fB bs).drop (a-s)
 | [],s,_=>by simp [prA,prB,fB]
 | x::r,s,h=>by
  obtain ⟨e1,e2,_⟩:=pAB (h x (List.mem_cons_self ..)).a (a-s)
  obtain ⟨i1,i2⟩:=yf9 a r (s+x.1.length*x.2) fun y hy=>h y (List.mem_cons_of_mem _ hy)
  have l1:=za4 x
  rw [prA,prB,ycI,ycI,e1,e2,i1,i2,fB,List.take_append,List.drop_append,l1,Nat.sub_add_eq]
  exact ⟨rfl,rfl⟩
theorem yfc (a:Nat):∀ (bs:List Bk) (s:Nat),(prA a s bs).length<=2*bs.length/\(prB a s bs).length<=2*bs.length
 | [],s=>by simp [prA,prB]
 | x::r,s=>by
  obtain ⟨i1,i2⟩:=yfc a r (s+x.1.length*x.2)
  have b:(pB x (a-s)).length<=2:=by unfold pB;split<;>simp
  rw [prA,prB,List.length_append,List.length_append,List.length_cons]
  have:(pA x (a-s)).length=2:=rfl
  lia
theorem yga (a:Nat):∀ (bs:List Bk) (s:Nat),(∀ x∈bs,Ok x)->(∀ q∈prA a s bs,q.1.length<=20)/\∀ q∈prB a s bs,q.1.length<=20
 | [],s,_=>⟨fun _ h=>(nomatch h),fun _ h=>(nomatch h)⟩
 | x::r,s,h=>by
  obtain ⟨i1,i2⟩:=yga a r (s+x.1.length*x.2) fun y hy=>h y (List.mem_cons_of_mem _ hy)
  have b:=(h x (List.mem_cons_self ..)).b
  exact ⟨fun q hq=>(List.mem_append.mp hq).elim (yid b _ q) (i1 q),fun q hq=>(List.mem_append.mp hq).elim (yie b _ q) (i2 q)⟩
theorem zfX (a:Nat):∀ (bs:List Bk) (s:Nat) (x:Bk),prA a s (bs++[x])=prA a s bs++pA x (a-(s+(fB bs).length))/\prB a s (bs++[x])=prB a s bs++pB x (a-(s+(fB bs).length))
 | [],s,x=>by simp [prA,prB,fB]
 | y::r,s,x=>by
  obtain ⟨i1,i2⟩:=zfX a r (s+y.1.length*y.2) x
  rw [List.cons_append,prA,prB,i1,i2,prA,prB,fB,List.length_append,za4,Nat.add_assoc,List.append_assoc,List.append_assoc]
  exact ⟨rfl,rfl⟩
def flB (bs:List Bk):List Bk:=bs.filter fun q=>decide (0<q.1.length*q.2)
theorem yeM:∀ bs:List Bk,fB (flB bs)=fB bs
 | []=>rfl
 | x::r=>by
  unfold flB
  rw [List.filter_cons]
  by_cases q:0<x.1.length*x.2
  ·rw [if_pos (by simpa using q),fB,fB]
   rw [show fB (r.filter fun q=>decide (0<q.1.length*q.2))=fB r from yeM r]
  ·rw [if_neg (by simpa using q),fB]
   have l0:(rp x.1.cps.toList x.2).length=0:=by rw [za4];lia
   rw [List.eq_nil_of_length_eq_zero l0,List.nil_append]
   exact yeM r
theorem yfT {bs:List Bk} (h:∀ q∈bs,q.1.length<=20):∀ q∈flB bs,Ok q:=by
 intro q hq
 unfold flB at hq
 rw [List.mem_filter,decide_eq_true_eq] at hq
 refine ⟨?_,h q hq.1⟩
 apply Classical.byContradiction
 intro z
 rw [show q.1.length=0 by lia,Nat.zero_mul] at hq
 lia
theorem zeC {h:AH} {R:Nat} {bs:List Bk} (e:h[R]? = some (.lst (bs.map bv))) (ok:∀ q∈bs,q.1.length<=20) (hl:bs.length<=1000):ybV [.ref R] h = .ok (.fl ((flB bs).map bv)) h:=by
 have lv:ybz (some R) (bs.map bv) h=true:=by simp [e]
 have c1:=zaI (js:=[]) (en:=[some (.ref R)]) (w:=some R) (all:=bs.map bv) (c:=yaj (sOp2 fGt (sOp2 fMul (yad fLen (sCons (sOp2 fIx (sVar 0) (sLit (.int 0))) sNil)) (sOp2 fIx (sVar 0) (sLit (.int 1)))) (sLit (.int 0)))) (e:=sVar 0) (g:=bv) (f:=bv) (p:=fun q=>decide (0<q.1.length*q.2)) (h:=h) lv bs [] (by
  intro q hq
  have b:=ok q hq
  have x0:fIx (bv q) (.int 0) h = .ok (.str q.1) h:=rfl
  have x1:fIx (bv q) (.int 1) h = .ok (.int q.2) h:=rfl
  have ln:fLen [.str q.1] h = .ok (.int q.1.length) h:=by simp
  have mu:=yen (a:=q.1.length) (b:=q.2) (by lia) rfl h
  have gt:fGt (.int ((q.1.length*q.2:Nat):Int)) (.int 0) h = .ok (.bl (decide (0<q.1.length*q.2))) h:=by
   have:decide (((q.1.length*q.2:Nat):Int) > 0)=decide (0<q.1.length*q.2):=by apply decide_eq_decide.mpr;lia
   simp only [fGt,this]
  generalize ((q.1.length*q.2:Nat):Int)=A at *
  generalize (q.1.length:Int)=B at *
  generalize bv q=Q at *
  simp [x0,x1,ln,mu,gt,-fIx,-fLen,-fMul,-fGt]) (fun _ _ _=>rfl) (by exact Nat.le_trans (m:=1000) (by simpa using hl) (by decide))
 rw [List.nil_append] at c1
 have it:iVal (sVar 0) [some (.ref R)] h = .ok (bs.map bv,some R) h:=by simp [e]
 have cp:yaU [] (iVal (sVar 0)) (yaj (sOp2 fGt (sOp2 fMul (yad fLen (sCons (sOp2 fIx (sVar 0) (sLit (.int 0))) sNil)) (sOp2 fIx (sVar 0) (sLit (.int 1)))) (sLit (.int 0)))) (sVar 0) [some (.ref R)] h = .ok (.fl ((flB bs).map bv)) h:=by
  simp only [yaU,it,c1];rfl
 unfold ybV
 generalize yaU [] (iVal (sVar 0)) (yaj (sOp2 fGt (sOp2 fMul (yad fLen (sCons (sOp2 fIx (sVar 0) (sLit (.int 0))) sNil)) (sOp2 fIx (sVar 0) (sLit (.int 1)))) (sLit (.int 0)))) (sVar 0)=SC at *
 generalize (flB bs).map bv=Z at *
 simp [cp]
end Sk
namespace Sk
open PySem PySem.Spec L2 Sm
theorem ygb (a b:Nat) (h:AH):ycW [.int a,.int b] h = .ok (.int ((min a b:Nat):Int)) h:=by
 have:ycW [.int a,.int b] h = .ok (.int (if (b:Int)<a then (b:Int) else a)) h:=rfl
 rw [this]
 by_cases q:b<a
 ·rw [if_pos (by lia)];congr 2;lia
 ·rw [if_neg (by lia)];congr 2;lia
structure Kf (h h':AH):Prop where
 fr:∀ i,i<h.length->h'[i]? = h[i]?
 hl:h.length<=h'.length
theorem Kf.sh {h h':AH} {p:Nat} {ps:List Pc} (a:Kf h h') (S:ShelfAt h p ps):ShelfAt h' p ps:=S.keep fun i _ i8=>a.fr i (by have:=yaR S.h8;lia)
structure Pt (h hh:AH) (X Y:List Bk):Prop where
 k:Kf h hh
 a:hh[h.length]? = some (.lst (X.map bv))
 b:hh[h.length+1]? = some (.lst (Y.map bv))
theorem extB {R k:Nat} {hh:AH} {X W:List Bk} (p:hh[R]? = some (.lst (X.map bv))) (w:hh[k]? = some (.lst (W.map bv))) (lq:X.length+W.length<=1000):yb6 (.ref R) [.ref k] hh = .ok .non (hh.set R (.lst ((X++W).map bv))):=by
 have:(X.map bv).length+(W.map bv).length<=sizeLine:=Nat.le_trans (m:=1000) (by simpa using lq) (by decide)
 simp only [yb6,p,w,this,if_true,List.map_append]
theorem zjp {n m b:Nat} (n1:1<=n) (n2:n<=20) (t:Int) (hb:(b:Int)=max 0 t) (h:AH) :
  ybm [.int 0,.int t] h = .ok (.int b) h/\fDiv (.int b) (.int n) h = .ok (.int (b / n:Nat)) h/\ycW [.int m,.int (b / n:Nat)] h = .ok (.int (fuN n m b)) h/\fMul (.int (fuN n m b)) (.int n) h = .ok (.int (fuN n m b*n:Nat)) h /\
  ybm [.int 0,.int (t-(fuN n m b*n:Nat))] h = .ok (.int (b-fuN n m b*n:Nat)) h/\ycW [.int n,.int (b-fuN n m b*n:Nat)] h = .ok (.int (min n (b-fuN n m b*n):Nat)) h/\(¬ fuN n m b=m->min n (b-fuN n m b*n)=reN n m b)/\fuN n m b<=m:=by
 have md:=Nat.mod_lt b (show n > 0 by lia)
 have d:=Nat.div_add_mod b n
 have fl:fuN n m b*n<=b:=by
  unfold fuN
  exact Nat.le_trans (Nat.mul_le_mul_right n (Nat.min_le_right _ _)) (Nat.div_mul_le_self _ _)
 refine ⟨?_,?_,ygb _ _ h,yhi (by lia) rfl h,?_,ygb _ _ h,fun q=>?_,Nat.min_le_left _ _⟩
 ·have:(if t > 0 then t else 0)=(b:Int):=by split<;>lia
  simp only [ybm,this]
 ·have q:0<(n:Int)/\(n:Int).natAbs<2 ^ 200:=⟨by lia,Nat.lt_of_le_of_lt (m:=20) (by lia) (by decide)⟩
  simp only [fDiv]
  rw [if_pos q];rfl
 ·have:(if t-(fuN n m b*n:Nat) > 0 then t-(fuN n m b*n:Nat) else 0)=((b-fuN n m b*n:Nat):Int):=by split<;>lia
  simp only [ybm,this]
 ·unfold reN
  rw [if_neg q]
  have e:fuN n m b=b / n:=by unfold fuN at *;lia
  rw [e,Nat.mul_comm]
  lia
abbrev ePt (Z:AV) (A:Nat) (t:Int) (o4 o5 o6 o7 o8:Option AV):En:=[some Z,some (.int t),some (.ref A),some (.ref (A+1)),o4,o5,o6,o7,o8]
theorem zjq {Z:AV} {h hh:AH} {X Y:List Bk} {x:Bk} {t:Int} {b:Nat} {o6 o7 o8:Option AV} (q:Pt h hh X Y) (o:Ok x) (hb:(b:Int)=max 0 t) (lX:X.length<=900) (lY:Y.length<=900) :
  ∃ (h':AH) (a6 a7 a8:Option AV),ybe (ePt Z h.length t (some (.str x.1)) (some (.int x.2)) o6 o7 o8) hh = .nx (ePt Z h.length (t-(x.1.length*x.2:Nat)) (some (.str x.1)) (some (.int x.2)) a6 a7 a8) h'/\Pt h h' (X++pA x b) (Y++pB x b):=by
 obtain ⟨P,m⟩:=x
 have n1:1<=P.length:=o.a
 have n2:P.length<=20:=o.b
 obtain ⟨f1,f2,f3,f4,f5,f6,f7,f8⟩:=zjp (m:=m) n1 n2 t hb hh
 have rl:=(pAB (x:=(P,m)) n1 b).2.2
 have rl':reN P.length m b<=P.length:=rl
 obtain ⟨f,ef⟩:∃ f,f=fuN P.length m b:=⟨_,rfl⟩
 obtain ⟨r,er⟩:∃ r,r=reN P.length m b:=⟨_,rfl⟩
 have eA:pA (P,m) b=[(P,f),(tkS P r,1)]:=by rw [ef,er];rfl
 have eB:pB (P,m) b=if f<m then [(dpS P r,1),(P,m-f-1)] else []:=by rw [ef,er];rfl
 rw [<- er] at rl'
 have rf:f=m->r=0:=fun z=>by rw [er];unfold reN;rw [<- ef,if_pos z]
 rw [<- ef] at f3 f4 f5 f6 f7 f8
 have mu:=yen (a:=P.length) (b:=m) (by lia) rfl hh
 have ln:∀ hx,fLen [.str P] hx = .ok (.int P.length) hx:=fun hx=>by simp
 have eq:fEq (.int f) (.int m) hh = .ok (.bl (decide (f=m))) hh:=by
  by_cases z:f=m
  ·rw [z];simp
  ·have : ¬ (f:Int)=m:=by lia
   simp [z,this]
 have ct:ya9 (.str P) none (some (r:Int)) hh = .ok (.str (tkS P r)) hh:=yfO hh
 obtain ⟨W,eW⟩:∃ W:List Bk,W=[(P,f),(tkS P r,1)]:=⟨_,rfl⟩
 have hl:=q.k.hl
 have Al:=yaR q.a
 have Bl:=yaR q.b
 obtain ⟨h1,eh1⟩:∃ h1,h1=hh++[AO.lst (W.map bv)]:=⟨_,rfl⟩
 have A1:h1[h.length]? = some (.lst (X.map bv)):=by rw [eh1,List.getElem?_append_left Al];exact q.a
 have W1:h1[hh.length]? = some (.lst (W.map bv)):=by rw [eh1];simp
 have x1:=extB A1 W1 (by rw [eW];show X.length+2<=1000;lia)
 obtain ⟨h2,eh2⟩:∃ h2,h2=h1.set h.length (.lst ((X++W).map bv)):=⟨_,rfl⟩
 rw [<- eh2] at x1
 have hl1:h1.length=hh.length+1:=by rw [eh1];simp
 have hl2:h2.length=hh.length+1:=by rw [eh2,List.length_set,hl1]
 have A2:h2[h.length]? = some (.lst ((X++W).map bv)):=by rw [eh2];exact List.getElem?_set_self (by lia)
 have k2:∀ i,i≠h.length->i<hh.length->h2[i]? = hh[i]? := fun i hi hj=>by rw [eh2,List.getElem?_set_ne (Ne.symm hi),eh1,List.getElem?_append_left hj]
 have B2:h2[h.length+1]? = some (.lst (Y.map bv)):=(k2 _ (by lia) Bl).trans q.b
 have isA:yaV (.ref h.length) hh=true:=by simp [q.a]
 have isB:yaV (.ref (h.length+1)) h2=true:=by simp [B2]
 have lt2:fLt (.int f) (.int m) h2 = .ok (.bl (decide (f<m))) h2:=by
  have:decide ((f:Int)<m)=decide (f<m):=by apply decide_eq_decide.mpr;lia
  simp only [fLt,this]
 have W':W.map bv=[.tup [.str P,.int f],.tup [.str (tkS P r),.int 1]]:=by rw [eW];rfl
 rw [W'] at eh1
 have sub:∀ hx,fSub (.int t) (.int (P.length*m:Nat)) hx = .ok (.int (t-(P.length*m:Nat))) hx:=fun _=>rfl
 have sb1:fSub (.int t) (.int (f*P.length:Nat)) hh = .ok (.int (t-(f*P.length:Nat))) hh:=rfl
 rw [eA,<- eW]
 by_cases z:f<m
 ·have ct2:ya9 (.str P) (some (r:Int)) none h2 = .ok (.str (dpS P r)) h2:=yfa (by lia) h2
  obtain ⟨V,eV⟩:∃ V:List Bk,V=[(dpS P r,1),(P,m-f-1)]:=⟨_,rfl⟩
  obtain ⟨h3,eh3⟩:∃ h3,h3=h2++[AO.lst (V.map bv)]:=⟨_,rfl⟩
  have B3:h3[h.length+1]? = some (.lst (Y.map bv)):=by rw [eh3,List.getElem?_append_left (by lia)];exact B2
  have V3:h3[h2.length]? = some (.lst (V.map bv)):=by rw [eh3];simp
  have x2:=extB B3 V3 (by rw [eV];show Y.length+2<=1000;lia)
  obtain ⟨h4,eh4⟩:∃ h4,h4=h3.set (h.length+1) (.lst ((Y++V).map bv)):=⟨_,rfl⟩
  rw [<- eh4] at x2
  have hl3:h3.length=h2.length+1:=by rw [eh3];simp
  have V':V.map bv=[.tup [.str (dpS P r),.int 1],.tup [.str P,.int ((m:Int)-f-1)]]:=by
   rw [eV]
   show [AV.tup [.str (dpS P r),.int ((1:Nat):Int)],AV.tup [.str P,.int ((m-f-1:Nat):Int)]]=_
   rw [show ((m-f-1:Nat):Int)=(m:Int)-f-1 by lia];rfl
  rw [V'] at eh3
  have s1:fSub (.int m) (.int f) h2 = .ok (.int ((m:Int)-f)) h2:=rfl
  have s2:fSub (.int ((m:Int)-f)) (.int 1) h2 = .ok (.int ((m:Int)-f-1)) h2:=rfl
  have rz:min P.length (b-f*P.length)=r:=by rw [f7 (by lia),er]
  rw [rz] at f6
  rw [decide_eq_false (by lia)] at eq
  rw [decide_eq_true z] at lt2
  rw [eB,if_pos z,<- eV]
  refine ⟨h4,some (.int (P.length*m:Nat)),some (.int f),some (.int r),?_,⟨⟨fun i hi=>?_,?_⟩,?_,?_⟩⟩
  rotate_left
  ·rw [eh4,List.getElem?_set_ne (by lia),eh3,List.getElem?_append_left (by lia),k2 i (by lia) (by lia),q.k.fr i hi]
  ·rw [eh4,List.length_set];lia
  ·rw [eh4,List.getElem?_set_ne (by lia),eh3,List.getElem?_append_left (by lia)];exact A2
  ·rw [eh4];exact List.getElem?_set_self (by lia)
  ·clear q A1 W1 A2 B2 B3 V3 k2 eh4 eh2 hl hl1 hl2 hl3 eA eB eV eW W' V' f7 f8 rz rf hb o Al Bl
   simp only [ePt]
   generalize ((P.length*m:Nat):Int)=PM at *
   generalize ((b / P.length:Nat):Int)=BD at *
   generalize t-((f*P.length:Nat):Int)=TF at *
   generalize ((f*P.length:Nat):Int)=FP at *
   generalize ((b-f*P.length:Nat):Int)=BF at *
   generalize (P.length:Int)=PL at *
   generalize t-PM=TP at *
   generalize (m:Int)-f-1=MF1 at *
   generalize (m:Int)-f=MF at *
   generalize h.length+1=HB at *
   simp [ybe,ln,mu,f1,f2,f3,f4,sb1,f5,f6,eq,isA,ct,<- eh1,x1,lt2,isB,ct2,s1,s2,<- eh3,x2,sub,-fLen,-fMul,-ybm,-fDiv,-ycW,-fSub,-fEq,-yaV,-ya9,-yb6,-fLt]
 ·have fm:f=m:=by lia
  have r0:=rf fm
  rw [decide_eq_true fm] at eq
  rw [decide_eq_false z] at lt2
  rw [eB,if_neg z,List.append_nil]
  have ct0:ya9 (.str P) none (some 0) hh = .ok (.str (tkS P r)) hh:=by rw [r0] at ct ⊢;exact ct
  refine ⟨h2,some (.int (P.length*m:Nat)),some (.int f),some (.int 0),?_,⟨⟨fun i hi=>?_,?_⟩,A2,B2⟩⟩
  rotate_left
  ·rw [k2 i (by lia) (by lia),q.k.fr i hi]
  ·lia
  ·clear q A1 W1 A2 B2 k2 eh2 hl hl1 hl2 eA eB eW W' f7 f8 rf hb o Al Bl ct
   simp only [ePt]
   generalize ((P.length*m:Nat):Int)=PM at *
   generalize ((b / P.length:Nat):Int)=BD at *
   generalize t-((f*P.length:Nat):Int)=TF at *
   generalize ((f*P.length:Nat):Int)=FP at *
   generalize ((min P.length (b-f*P.length):Nat):Int)=MM at *
   generalize ((b-f*P.length:Nat):Int)=BF at *
   generalize (P.length:Int)=PL at *
   generalize t-PM=TP at *
   generalize h.length+1=HB at *
   simp [ybe,ln,mu,f1,f2,f3,f4,sb1,f5,f6,eq,isA,ct0,<- eh1,x1,lt2,sub,-fLen,-fMul,-ybm,-fDiv,-ycW,-fSub,-fEq,-yaV,-ya9,-yb6,-fLt]
end Sk
namespace Sk
open PySem PySem.Spec L2 Sm
theorem zcR {h:AH} {bs:List Bk} {a:Nat} (ok:∀ x∈bs,Ok x) (hl:bs.length<=400) :
  ∃ (A B:List Bk) (h':AH),ya6 [.fl (bs.map bv),.int a] h = .ok (.tup [.fl (A.map bv),.fl (B.map bv)]) h'/\Kf h h'/\fB A=(fB bs).take a/\fB B=(fB bs).drop a/\(∀ x∈A,Ok x)/\(∀ x∈B,Ok x)/\A.length<=2*bs.length/\B.length<=2*bs.length:=by
 obtain ⟨Z,eZ⟩:∃ Z,Z=AV.fl (bs.map bv):=⟨_,rfl⟩
 obtain ⟨h0,eh0⟩:∃ h0,h0=(h++[AO.lst []])++[AO.lst []]:=⟨_,rfl⟩
 have P0:Pt h h0 [] []:=by
  rw [eh0]
  exact ⟨⟨fun i hi=>by rw [List.append_assoc,List.getElem?_append_left hi],by simp⟩,by simp,by simp⟩
 obtain ⟨e',h',r1,r2⟩:=ydz (w:=none) (all:=bs.map bv) (t:=.tup [4,5]) (b:=ybe) (xs:=bs.map bv) (en:=ePt Z h.length a none none none none none) (h:=h0)
  (fun j en hh=>j<=bs.length->∃ (o4 o5 o6 o7 o8:Option AV),en=ePt Z h.length ((a:Int)-(fB (bs.take j)).length) o4 o5 o6 o7 o8/\Pt h hh (prA a 0 (bs.take j)) (prB a 0 (bs.take j)))
  (fun _=>⟨none,none,none,none,none,by simp [fB],P0⟩) (fun _ _ _ _=>rfl) (by
   intro j u en hh hu hp
   rw [List.getElem?_map] at hu
   obtain ⟨x,ex,rfl⟩:=Option.map_eq_some_iff.mp hu
   have hj:=(List.getElem?_eq_some_iff.mp ex).1
   obtain ⟨o4,o5,o6,o7,o8,rfl,P⟩:=hp (by lia)
   obtain ⟨s,es⟩:∃ s,s=(fB (bs.take j)).length:=⟨_,rfl⟩
   rw [<- es]
   obtain ⟨l1,l2⟩:=yfc a (bs.take j) 0
   have lt:(bs.take j).length<=400:=by rw [List.length_take];lia
   obtain ⟨h2,a6,a7,a8,ev,P2⟩:=zjq (Z:=Z) (t:=(a:Int)-s) (b:=a-s) (o6:=o6) (o7:=o7) (o8:=o8) P (ok x (List.mem_of_getElem? ex)) (by lia) (by lia) (by lia)
   show thn (ybe (ePt Z h.length ((a:Int)-s) (some (.str x.1)) (some (.int x.2)) o6 o7 o8) hh) _
   rw [ev]
   intro _
   have tk:bs.take (j+1)=bs.take j++[x]:=by rw [List.take_succ,ex];rfl
   obtain ⟨q1,q2⟩:=zfX a (bs.take j) 0 x
   rw [Nat.zero_add,<- es] at q1 q2
   have ln:(fB (bs.take (j+1))).length=s+x.1.length*x.2:=by rw [tk,ycI,yfb,List.length_append,za4,<- es]
   refine ⟨some (.str x.1),some (.int x.2),a6,a7,a8,?_,by rw [tk,q1,q2];exact P2⟩
   rw [ln,show (a:Int)-s-((x.1.length*x.2:Nat):Int)=(a:Int)-((s+x.1.length*x.2:Nat):Int) by lia])
 rw [List.length_map] at r2
 obtain ⟨o4,o5,o6,o7,o8,rfl,P⟩:=r2 (Nat.le_refl _)
 rw [List.take_length] at P r1
 obtain ⟨e1,e2⟩:=yf9 a bs 0 ok
 rw [Nat.sub_zero] at e1 e2
 obtain ⟨l1,l2⟩:=yfc a bs 0
 obtain ⟨k1,k2⟩:=yga a bs 0 ok
 obtain ⟨X,eX⟩:∃ X,X=prA a 0 bs:=⟨_,rfl⟩
 obtain ⟨Y,eY⟩:∃ Y,Y=prB a 0 bs:=⟨_,rfl⟩
 rw [<- eX] at P e1 l1 k1
 rw [<- eY] at P e2 l2 k2
 have f1:=zeC P.a k1 (by lia)
 have f2:=zeC P.b k2 (by lia)
 have it:ya3 (sVar 0) (ePt Z h.length a none none none none none) h0 = .ok (bs.map bv,none) h0:=by
  rw [eZ]
  simp only [ePt]
  generalize bs.map bv=ZZ
  simp
 have lp:=(ycF (t:=.tup [4,5]) (b:=ybe) it).trans r1
 refine ⟨flB X,flB Y,h',?_,P.k,(yeM X).trans e1,(yeM Y).trans e2,yfT k1,yfT k2,Nat.le_trans (List.length_filter_le _ _) l1,Nat.le_trans (List.length_filter_le _ _) l2⟩
 have n0:(h++[AO.lst []]).length=h.length+1:=by simp
 rw [<- eZ]
 clear P P0 r1 it e1 e2 k1 k2 eZ
 unfold ya6
 generalize sFor (ya3 (sVar 0)) (.tup [4,5]) ybe=LP at *
 generalize ybV=FF at *
 simp only [ePt] at lp
 generalize (flB X).map bv=ZX at *
 generalize (flB Y).map bv=ZY at *
 have lp':LP [some Z,some (.int a),some (.ref h.length),some (.ref (h.length+1)),none,none,none,none,none] (h++[AO.lst [],AO.lst []]) = .nx [some Z,some (.int ((a:Int)-(fB bs).length)),some (.ref h.length),some (.ref (h.length+1)),o4,o5,o6,o7,o8] h' := by
  rw [show h++[AO.lst [],AO.lst []]=h0 by rw [eh0];simp]
  exact lp
 simp [lp',f1,f2]
abbrev En2:=Nat×List Bk
abbrev ev2 (q:En2):AV:=.tup [.int q.1,.fl (q.2.map bv)]
structure Ent (ps:List Pc) (k:Nat) (q:En2):Prop where
 tx:∃ X:Str,TxZ ps q.1 X/\X.cps.toList=fB q.2
 l2:(fB q.2).length<=1000000000000000000
 ok:∀ x∈q.2,Ok x
 fw:q.2.length<=k
theorem Ent.pre {ps ps':List Pc} {k:Nat} {q:En2} (e:Ent ps k q) (h:ps <+: ps'):Ent ps' k q:=by
 obtain ⟨X,T,eX⟩:=e.tx
 exact ⟨⟨X,T.pre h,eX⟩,e.l2,e.ok,e.fw⟩
theorem Ent.bok {ps:List Pc} {k:Nat} {q:En2} (e:Ent ps k q):BOk q.2:=fun x hx=>Nat.le_trans (e.ok x hx).b (by decide)
theorem Kd.kf {L:Nat} {h h' h'':AH} {ps ps':List Pc} {k:Nat} (a:Kd L h h' ps ps' k) (f:Kf h' h''):Kd L h h'' ps ps' k:=by
 obtain ⟨N,e⟩:=a.rr.ro
 exact ⟨⟨f.sh a.rr.sh,a.rr.gd,a.rr.far,N,(f.fr L (yaR e)).trans e⟩,a.pre,a.len,fun i i8 hi n=>(f.fr i (Nat.lt_of_lt_of_le hi a.hl)).trans (a.fr i i8 hi n),Nat.le_trans a.hl f.hl⟩
theorem addB {as bs:List Bk} (ha:as.length+bs.length<=1000) (h:AH):fAdd (.fl (as.map bv)) (.fl (bs.map bv)) h = .ok (.fl ((as++bs).map bv)) h:=by
 have sl:(as.map bv).length+(bs.map bv).length<=sizeLine:=Nat.le_trans (m:=1000) (by simpa using ha) (by decide)
 show (if (as.map bv).length+(bs.map bv).length<=sizeLine then Out.ok (AV.fl (as.map bv++bs.map bv)) h else .bad)=_
 rw [if_pos sl,List.map_append]
theorem yif {L:Nat} {h:AH} {ps:List Pc} {n1 n2 kd p:Nat} {b1 b2:List Bk} (s:Rr L h ps) (E1:Ent ps 40 (n1,b1)) (E2:Ent ps 40 (n2,b2)) (hk:kd=1\/kd=2) (hp:p<=(fB b1).length) (hx:(fB b1).length+(fB b2).length<=1000000000000000000) (hz:ps.length<12900000) :
  ∃ (q:En2) (h':AH) (ps':List Pc),ybX [.ref 0,ev2 (n1,b1),ev2 (n2,b2),.int kd,.int p] h = .ok (.fl [ev2 q]) h'/\Kd L h h' ps ps' ((if kd=1 then 16 else 200)*(1+max (htOf ps n1) (htOf ps n2)).toNat)/\Ent ps' 240 q:=by
 obtain ⟨X1,T1,eX1⟩:=E1.tx
 obtain ⟨X2,T2,eX2⟩:=E2.tx
 have T1':TxZ ps n1 X1:=T1
 have T2':TxZ ps n2 X2:=T2
 have lx1:X1.length=(fB b1).length:=by rw [zad];exact congrArg _ eX1
 have lx2:X2.length=(fB b2).length:=by rw [zad];exact congrArg _ eX2
 have w1:b1.length<=40:=E1.fw
 have w2:b2.length<=40:=E2.fw
 have ok1:∀ x∈b1,Ok x:=E1.ok
 have ok2:∀ x∈b2,Ok x:=E2.ok
 have eX1':X1.cps.toList=fB b1:=eX1
 have eX2':X2.cps.toList=fB b2:=eX2
 rcases hk with rfl | rfl
 ·obtain ⟨r,ps1,h1,d1,T⟩:=zcN s.sh s.gd T1' T2' (by lia) (by lia)
  have ev:=d1.ev
  have ad:=addB (as:=b1) (bs:=b2) (by lia) h1
  have eq:fEq (.int 1) (.int 1) h = .ok (.bl true) h:=by simp
  refine ⟨(r,b1++b2),h1,ps1,?_,(Kd.refl s).dd d1.dd (by rw [if_pos rfl,Nat.zero_add,Int.add_comm];exact Nat.le_refl _),⟨⟨_,T,by rw [zae,eX1',eX2',ycI]⟩,by show (fB (b1++b2)).length<=_;rw [ycI,List.length_append];exact hx,fun x hx=>(List.mem_append.mp hx).elim (ok1 x) (ok2 x),by show (b1++b2).length<=240;rw [List.length_append];lia⟩⟩
  show _=Out.ok (AV.fl [.tup [.int r,.fl ((b1++b2).map bv)]]) h1
  unfold ybX
  generalize ya6=FP at *
  generalize (b1++b2).map bv=Z12 at *
  simp only [ev2]
  generalize b1.map bv=Z1 at *
  generalize b2.map bv=Z2 at *
  simp [eq,ev,ad,-fEq,-fAdd]
 ·obtain ⟨A,B,h1,fp,k1,eA,eB,okA,okB,lA,lB⟩:=zcR (h:=h) (a:=p) ok1 (by lia)
  have K1:=(Kd.refl s).kf k1
  obtain ⟨r,ps2,h2,e2,D2,T⟩:=yho (t:=p) K1.rr.sh K1.rr.gd T1' T2' (by lia) (by lia) (by lia)
  have a1:=addB (as:=A) (bs:=b2) (by lia) h2
  have a2:=addB (as:=A++b2) (bs:=B) (by rw [List.length_append];lia) h2
  have eq:fEq (.int 2) (.int 1) h = .ok (.bl false) h:=by simp
  have fb:fB ((A++b2)++B)=((tkS X1 p++X2)++dpS X1 p).cps.toList:=by
   rw [zae,zae,ybM,ybW,ycI,ycI,eA,eB,eX1',eX2']
  refine ⟨(r,(A++b2)++B),h2,ps2,?_,K1.dd D2 (by rw [if_neg (by decide),Nat.zero_add];exact Nat.le_refl _),⟨⟨_,T,fb.symm⟩,?_,?_,?_⟩⟩
  ·show _=Out.ok (AV.fl [.tup [.int r,.fl (((A++b2)++B).map bv)]]) h2
   unfold ybX
   generalize ya6=FP at *
   generalize ((A++b2)++B).map bv=Z4 at *
   generalize (A++b2).map bv=Z3 at *
   simp only [ev2]
   generalize b1.map bv=Z1 at *
   generalize b2.map bv=Z2 at *
   generalize A.map bv=ZA at *
   generalize B.map bv=ZB at *
   simp [eq,fp,e2,a1,a2,-fEq,-fAdd]
  ·show (fB ((A++b2)++B)).length<=_
   rw [fb,zae,zae,List.length_append,List.length_append,<- zad,<- zad,<- zad,ydo (by lia),yc7]
   lia
  ·intro x hx
   rcases List.mem_append.mp hx with hx | hx
   ·exact (List.mem_append.mp hx).elim (okA x) (ok2 x)
   ·exact okB x hx
  ·show ((A++b2)++B).length<=240
   rw [List.length_append,List.length_append];lia
theorem yig {L:Nat} {h:AH} {ps:List Pc} {n1 kd p e:Nat} {b1:List Bk} (s:Rr L h ps) (E1:Ent ps 40 (n1,b1)) (hk:kd=3\/kd=4\/kd=5) (hp:p<=e) (he:e<=(fB b1).length) (hz:ps.length<12900000) :
  ∃ (qs:List En2) (h':AH) (ps':List Pc),ybQ [.ref 0,ev2 (n1,b1),.int kd,.int p,.int e] h = .ok (.fl (qs.map ev2)) h'/\Kd L h h' ps ps' ((if kd=3 then 64 else 200)*(1+htOf ps n1).toNat)/\(∀ q∈qs,Ent ps' 240 q)/\qs.length<=2:=by
 obtain ⟨X1,T1,eX1⟩:=E1.tx
 have T1':TxZ ps n1 X1:=T1
 have lx1:X1.length=(fB b1).length:=by rw [zad];exact congrArg _ eX1
 have lm:(fB b1).length<=1000000000000000000:=E1.l2
 have w1:b1.length<=40:=E1.fw
 have ok1:∀ x∈b1,Ok x:=E1.ok
 have eX1':X1.cps.toList=fB b1:=eX1
 obtain ⟨A,B,h1,fp,k1,eA,eB,okA,okB,lA,lB⟩:=zcR (h:=h) (a:=p) ok1 (by lia)
 have K1:=(Kd.refl s).kf k1
 have lA':(fB A).length<=(fB b1).length:=by rw [eA,List.length_take];lia
 have lB':(fB B).length=(fB b1).length-p:=by rw [eB,List.length_drop]
 by_cases q3:kd=3
 ·subst q3
  obtain ⟨r1,r2,ps2,h2,e2,D2,T2,T3,_⟩:=yhp (t:=p) K1.rr.sh K1.rr.gd T1' (by lia) (by lia)
  have eq:fEq (.int 3) (.int 3) h1 = .ok (.bl true) h1:=by simp
  have x0:fIx (.tup [.int r1,.int r2]) (.int 0) h2 = .ok (.int r1) h2:=rfl
  have x1:fIx (.tup [.int r1,.int r2]) (.int 1) h2 = .ok (.int r2) h2:=rfl
  refine ⟨[(r1,A),(r2,B)],h2,ps2,?_,K1.dd D2 (by rw [if_pos rfl,Nat.zero_add,Int.add_comm];exact Nat.le_refl _),?_,by simp⟩
  ·show _=Out.ok (AV.fl [.tup [.int r1,.fl (A.map bv)],.tup [.int r2,.fl (B.map bv)]]) h2
   unfold ybQ
   generalize ya6=FP at *
   simp only [ev2]
   generalize b1.map bv=Z1 at *
   generalize A.map bv=ZA at *
   generalize B.map bv=ZB at *
   simp [fp,eq,e2,x0,x1,-fEq,-fIx]
  ·intro q hq
   simp at hq
   rcases hq with rfl | rfl
   ·exact ⟨⟨_,T2,by rw [ybM,eX1'];exact eA.symm⟩,by show (fB A).length<=_;lia,okA,by show A.length<=240;lia⟩
   ·exact ⟨⟨_,T3,by rw [ybW,eX1'];exact eB.symm⟩,by show (fB B).length<=_;lia,okB,by show B.length<=240;lia⟩
 ·obtain ⟨C,D,h2,fp2,k2,eC,eD,okC,okD,lC,lD⟩:=zcR (h:=h1) (a:=e-p) okB (by lia)
  have K2:=K1.kf k2
  have sb:fSub (.int e) (.int p) h1 = .ok (.int (e-p:Nat)) h1:=yfl (a:=e) (b:=p) (by lia) h1
  have eq3:fEq (.int kd) (.int 3) h1 = .ok (.bl false) h1:=by
   have : ¬ (kd:Int)=3:=by lia
   simp [this]
  by_cases q4:kd=4
  ·subst q4
   obtain ⟨r,ps3,h3,e3,D3,T3⟩:=zh9 (b:=p) (e:=e) K2.rr.sh K2.rr.gd T1' hp (by lia) (by lia) (by lia)
   have eq:fEq (.int 4) (.int 4) h2 = .ok (.bl true) h2:=by simp
   have eq3':fEq (.int 4) (.int 3) h1 = .ok (.bl false) h1:=eq3
   have a1:=addB (as:=A) (bs:=D) (by lia) h3
   have fb:fB (A++D)=(tkS X1 p++dpS X1 e).cps.toList:=by
    rw [zae,ybM,ybW,ycI,eA,eD,eB,eX1',List.drop_drop]
    congr 2
    lia
   refine ⟨[(r,A++D)],h3,ps3,?_,K2.dd D3 (by rw [if_neg (by decide),Nat.zero_add];exact Nat.le_refl _),?_,by simp⟩
   ·show _=Out.ok (AV.fl [.tup [.int r,.fl ((A++D).map bv)]]) h3
    unfold ybQ
    generalize ya6=FP at *
    simp only [ev2]
    generalize (A++D).map bv=ZE at *
    generalize b1.map bv=Z1 at *
    generalize A.map bv=ZA at *
    generalize B.map bv=ZB at *
    generalize C.map bv=ZC at *
    generalize D.map bv=ZD at *
    generalize ((e-p:Nat):Int)=EP at *
    simp [fp,eq3',sb,fp2,eq,e3,a1,-fEq,-fSub,-fAdd]
   ·intro q hq
    simp at hq
    subst hq
    refine ⟨⟨_,T3,fb.symm⟩,?_,fun x hx=>(List.mem_append.mp hx).elim (okA x) (okD x),by show (A++D).length<=240;rw [List.length_append];lia⟩
    show (fB (A++D)).length<=_
    rw [fb,zae,List.length_append,<- zad,<- zad,ydo (by lia),yc7]
    lia
  ·have q5:kd=5:=by lia
   subst q5
   obtain ⟨r,ps3,h3,e3,D3,T3⟩:=zjo (b:=p) (e:=e) K2.rr.sh K2.rr.gd T1' hp (by lia) (by lia)
   have eq:fEq (.int 5) (.int 4) h2 = .ok (.bl false) h2:=by simp
   have eq3':fEq (.int 5) (.int 3) h1 = .ok (.bl false) h1:=eq3
   have fb:fB C=(dpS (tkS X1 e) p).cps.toList:=by
    rw [ybW,ybM,eC,eB,eX1',List.drop_take]
   refine ⟨[(r,C)],h3,ps3,?_,K2.dd D3 (by rw [if_neg (by decide),Nat.zero_add];exact Nat.le_refl _),?_,by simp⟩
   ·show _=Out.ok (AV.fl [.tup [.int r,.fl (C.map bv)]]) h3
    unfold ybQ
    generalize ya6=FP at *
    simp only [ev2]
    generalize b1.map bv=Z1 at *
    generalize A.map bv=ZA at *
    generalize B.map bv=ZB at *
    generalize C.map bv=ZC at *
    generalize D.map bv=ZD at *
    generalize ((e-p:Nat):Int)=EP at *
    simp [fp,eq3',sb,fp2,eq,e3,-fEq,-fSub]
   ·intro q hq
    simp at hq
    subst hq
    refine ⟨⟨_,T3,fb.symm⟩,?_,okC,by show C.length<=240;lia⟩
    show (fB C).length<=_
    rw [eC,List.length_take]
    lia
end Sk
namespace Sk
open PySem PySem.Spec L2 Sm
theorem yih (B:List Nat) (X:Str) (e:X.cps.toList=B) (k:Nat):(repS X k).cps.toList=rp B k:=by rw [<- e];rfl
def w42:Str := "ba\ncdefg"
theorem yhq:yaE w42=true/\w42.length=8:=by decide +kernel
theorem zjr (v:Nat) (hv:v<3) (h:AH):∃ m:Nat,fIx (.fl [.int 9,.int 1000000,.int 1000000000000000]) (.int v) h = .ok (.int m) h/\0<m/\m<=1000000000000000:=by
 have:v=0\/v=1\/v=2:=by lia
 rcases this with rfl | rfl | rfl
 ·exact ⟨9,rfl,by decide,by decide⟩
 ·exact ⟨1000000,rfl,by decide,by decide⟩
 ·exact ⟨1000000000000000,rfl,by decide,by decide⟩
theorem zfY {L:Nat} {h h0:AH} {ps ps0:List Pc} {k0:Nat} (a:Kd L h0 h ps0 ps k0) (hz:ps.length<13000000) :
  ∃ (q:En2) (h':AH) (ps':List Pc),ybn [.ref 0,.ref L] h = .ok (.fl [ev2 q]) h'/\Kd L h0 h' ps0 ps' (k0+140100)/\Ent ps' 40 q:=by
 obtain ⟨v,h1,hv,t1,a1⟩:=a.take 8 (by decide) (by decide)
 have t1':yar [.ref L,.int 8] h = .ok (.int v) h1:=t1
 obtain ⟨N1,eN1⟩:=a1.rr.ro
 obtain ⟨x,N2,p1,px,lx⟩:=zgk 12 (by decide) eN1
 have p1':yct [.ref L,.int 12] h1 = .ok (.str x) (h1.set L (.lst [.int N2])):=p1
 have a2:=a1.fr' (a1.rr.self.set N2)
 generalize h1.set L (.lst [.int N2])=h2 at *
 obtain ⟨u,h3,hu,t3,a3⟩:=a2.take 3 (by decide) (by decide)
 have t3':yar [.ref L,.int 3] h2 = .ok (.int u) h3:=t3
 obtain ⟨m,em,m0,m1⟩:=zjr u hu h3
 obtain ⟨w,h4,hw,t4,a4⟩:=a3.take m m0 (Nat.le_trans m1 (by decide))
 obtain ⟨pw,lw⟩:=yhq
 obtain ⟨y,ey⟩:∃ y,y=dpS w42 v++x:=⟨_,rfl⟩
 have cd:=yfa (x:=w42) (a:=v) (by lia) h1
 have cd':ya9 (.str "ba\ncdefg") (some (v:Int)) none h1 = .ok (.str (dpS w42 v)) h1:=cd
 have dl:=yc7 w42 v
 have ad:fAdd (.str (dpS w42 v)) (.str x) h2 = .ok (.str y) h2:=by
  have:(dpS w42 v).length+x.length<=sizeLine:=Nat.le_trans (m:=1000) (by lia) (by decide)
  rw [ey]
  simp only [fAdd,this,if_true]
 have py:yaE y=true:=by rw [ey,zaJ,zey pw,px];rfl
 have ly:1<=y.length/\y.length<=20:=by rw [ey,zak];lia
 obtain ⟨n,ps5,h5,e5,D5,T5⟩:=zja a4.rr.sh a4.rr.gd py (by lia) (by lia)
 have a5:=a4.dd D5 (k2:=k0+40) (by lia)
 have l5:=D5.len
 obtain ⟨K,eK⟩:∃ K,K=1+w:=⟨_,rfl⟩
 have aw:fAdd (.int 1) (.int w) h4 = .ok (.int K) h4:=yeK (a:=1) (b:=w) (by lia) h4
 have yK:1<=y.length*K/\y.length*K<=1000000000000000000:=by
  have h1:=Nat.mul_le_mul ly.2 (show K<=1000000000000000 by lia)
  have h2:=Nat.mul_le_mul ly.1 (show 1<=K by lia)
  lia
 obtain ⟨b,ps6,h6,d6,T6⟩:=zgi (e:=50) (k:=K) a5.rr.sh a5.rr.gd T5 (Nat.lt_of_le_of_lt (m:=1000000000000000) (by lia) (by decide)) (by decide) yK.2 (by lia)
 have a6:=a5.dd d6.dd (k2:=k0+140100) (by lia)
 have e6:=d6.ev
 have p6:∀ hh,fPow (.int 10) (.int 6) hh = .ok (.int 1000000) hh:=fun hh=>by simp
 have p15:∀ hh,fPow (.int 10) (.int 15) hh = .ok (.int 1000000000000000) hh:=fun hh=>by simp
 refine ⟨(b,[(y,K)]),h6,ps6,?_,a6,⟨⟨_,T6,by rw [yih _ _ rfl,yfb]⟩,by show (fB [(y,K)]).length<=_;rw [yfb,za4];exact yK.2,fun q hq=>by simp at hq;rw [hq];exact ⟨ly.1,ly.2⟩,by show 1<=40;decide⟩⟩
 clear a a1 a2 a3 a4 a5 a6 D5 d6 T5 T6 t1 t3 cd
 show ybn [.ref 0,.ref L] h = .ok (.fl [.tup [.int b,.fl [.tup [.str y,.int K]]]]) h6
 unfold ybn
 generalize (K:Int)=KK at *
 simp [t1',cd',p1',ad,p6,p15,t3',em,t4,aw,e5,e6,-ya9,-fAdd,-fPow,-fIx]
end Sk
namespace Sk
open PySem PySem.Spec L2 Sm
def C94:SB:=(sOr (yaj (sOp2 fLt (yad fLen (sCons (sVar 1) sNil)) (sLit (.int 2)))) (yaj (sOp2 fEq (sVar 3) (sLit (.int 0)))))
def C94b:SB:=(sOr (yaj (sOp2 fGt (sOp2 fAdd (sVar 6) (yad ya5 (sCons (sOp2 fIx (sVar 5) (sLit (.int 1))) sNil))) (sOp2 fPow (sLit (.int 10)) (sLit (.int 18))))) (yaj (sOp2 fGt (yad fLen (sCons (sOp2 fAdd (sOp2 fIx (sVar 4) (sLit (.int 1))) (sOp2 fIx (sVar 5) (sLit (.int 1)))) sNil)) (sLit (.int 38)))))
def T94:SE:=(sTup (sCons (yad ybn (sCons (sVar 0) (sCons (sVar 2) sNil))) (sCons (sLit (.bl true)) sNil)))
def D94:SS:=(sIf (yaj (sOp2 fLt (sVar 3) (sLit (.int 3)))) (sSet 11 (yad ybX (sCons (sVar 0) (sCons (sVar 4) (sCons (sVar 5) (sCons (sVar 3) (sCons (sVar 7) sNil))))))) (sSet 11 (yad ybQ (sCons (sVar 0) (sCons (sVar 4) (sCons (sVar 3) (sCons (sVar 7) (sCons (sVar 8) sNil))))))))
def R94:SE:=(sTup (sCons (sVar 11) (sCons (sOp2 fLe (sOp2 fSub (yam 0 ybI (sVar 0) sNil) (sVar 10)) (sOp2 fMul (sOp2 fIx (sLst (sCons (sLit (.int 0)) (sCons (sLit (.int 16)) (sCons (sLit (.int 200)) (sCons (sLit (.int 64)) (sCons (sLit (.int 200)) (sCons (sLit (.int 200)) sNil))))))) (sVar 3)) (sOp2 fAdd (sVar 9) (sLit (.int 1))))) sNil)))
theorem zib:ycm=mkFn 3 12
  (sSeq (sSet 3 (yad yar (sCons (sVar 2) (sCons (sLit (.int 6)) sNil))))
  (sSeq (sIf C94 (sRet T94) yat)
  (sSeq (sSet 4 (sOp2 fIx (sVar 1) (yad yar (sCons (sVar 2) (sCons (yad fLen (sCons (sVar 1) sNil)) sNil)))))
  (sSeq (sSet 5 (sOp2 fIx (sVar 1) (yad yar (sCons (sVar 2) (sCons (yad fLen (sCons (sVar 1) sNil)) sNil)))))
  (sSeq (sSet 6 (yad ya5 (sCons (sOp2 fIx (sVar 4) (sLit (.int 1))) sNil)))
  (sSeq (sSet 7 (yad yar (sCons (sVar 2) (sCons (sOp2 fAdd (sVar 6) (sLit (.int 1))) sNil))))
  (sSeq (sSet 8 (sOp2 fAdd (sVar 7) (yad yar (sCons (sVar 2) (sCons (sOp2 fAdd (sOp2 fSub (sVar 6) (sVar 7)) (sLit (.int 1))) sNil)))))
  (sSeq (sSet 9 (yam 0 yaA (sVar 0) (sCons (sOp2 fIx (sVar 4) (sLit (.int 0))) sNil)))
  (sSeq (sIf (yaj (sOp2 fLt (sVar 3) (sLit (.int 3)))) (sSeq (sSet 9 (yad ybm (sCons (sVar 9) (sCons (yam 0 yaA (sVar 0) (sCons (sOp2 fIx (sVar 5) (sLit (.int 0))) sNil)) sNil))))
  (sIf C94b (sRet T94) yat)) yat)
  (sSeq (sSet 10 (yam 0 ybI (sVar 0) sNil))
  (sSeq D94
  (sRet R94)))))))))))):=rfl
theorem gtD (a b:Nat) (h:AH):fGt (.int a) (.int b) h = .ok (.bl (decide (b<a))) h:=by
 have:decide ((a:Int) > b)=decide (b<a):=by apply decide_eq_decide.mpr;lia
 simp only [fGt,this]
theorem yii (hh:AH):fPow (.int 10) (.int 18) hh = .ok (.int 1000000000000000000) hh:=by simp
theorem ltD (a b:Nat) (h:AH):fLt (.int a) (.int b) h = .ok (.bl (decide (a<b))) h:=by
 have:decide ((a:Int)<b)=decide (a<b):=by apply decide_eq_decide.mpr;lia
 simp only [fLt,this]
theorem eqD (a b:Nat) (h:AH):fEq (.int a) (.int b) h = .ok (.bl (decide (a=b))) h:=by
 by_cases q:a=b
 ·subst q;simp
 ·have : ¬ (a:Int)=b:=by lia
  simp [this,q]
theorem lenB (bs:List Bk) (h:AH):fLen [.fl (bs.map bv)] h = .ok (.int bs.length) h:=by
 simp
def yfm (L:Nat) (h:AH) (v:AV) (es:List En2):Prop:=(v = .fl []/\es=[])\/∃ R,v = .ref R/\8<R/\R≠L/\h[R]? = some (.lst (es.map ev2))
theorem c94b {o0 o1 o2 o3 o7 o8 o9 o10 o11:Option AV} {n1 n2:Nat} {b1 b2:List Bk} (ok:BOk b2) (w1:b1.length<=40) (w2:b2.length<=40) (h:AH) :
  C94b [o0,o1,o2,o3,some (ev2 (n1,b1)),some (ev2 (n2,b2)),some (.int (fB b1).length),o7,o8,o9,o10,o11] h = .ok (decide (1000000000000000000<(fB b1).length+(fB b2).length\/38<(b1++b2).length)) h:=by
 have x1:∀ n b,fIx (ev2 (n,b)) (.int 1) h = .ok (.fl (b.map bv)) h:=fun _ _=>rfl
 have e5:=zbN (h:=h) ok (by lia)
 have ad:=yeK (a:=(fB b1).length) (b:=(fB b2).length) rfl h
 have g1:fGt (.int ((fB b1).length+(fB b2).length:Nat)) (.int 1000000000000000000) h = .ok (.bl (decide (1000000000000000000<(fB b1).length+(fB b2).length))) h:=gtD _ 1000000000000000000 h
 have e8:=yii h
 have e1:=addB (as:=b1) (bs:=b2) (by lia) h
 have e2:=lenB (b1++b2) h
 have g2:fGt (.int ((b1++b2).length:Nat)) (.int 38) h = .ok (.bl (decide (38<(b1++b2).length))) h:=gtD _ 38 h
 have y1:=x1 n1 b1
 have y2:=x1 n2 b2
 unfold C94b
 generalize ev2 (n1,b1)=E1 at *
 generalize ev2 (n2,b2)=E2 at *
 generalize (b1++b2).map bv=Z12 at *
 generalize b1.map bv=Z1 at *
 generalize b2.map bv=Z2 at *
 generalize (b1++b2).length=A3 at *
 generalize (fB b1).length+(fB b2).length=A4 at *
 generalize (fB b1).length=A5 at *
 generalize (fB b2).length=A6 at *
 by_cases q1:1000000000000000000<A4
 ·rw [decide_eq_true q1] at g1
  simp [y2,e5,ad,e8,g1,q1,-fIx,-fAdd,-fPow,-fGt]
 ·rw [decide_eq_false q1] at g1
  simp only [q1,false_or]
  by_cases q2:38<A3
  ·rw [decide_eq_true q2] at g2
   simp [y1,y2,e5,ad,e8,g1,e1,e2,g2,q2,-fIx,-fAdd,-fPow,-fGt,-fLen]
  ·rw [decide_eq_false q2] at g2
   simp [y1,y2,e5,ad,e8,g1,e1,e2,g2,q2,-fIx,-fAdd,-fPow,-fGt,-fLen]
theorem c6 (kd:Nat) (h1:1<=kd) (h2:kd<6) (h:AH):∃ c:Nat,fIx (.fl [.int 0,.int 16,.int 200,.int 64,.int 200,.int 200]) (.int kd) h = .ok (.int c) h/\c<=200/\c=(if kd=1 then 16 else if kd=3 then 64 else 200):=by
 have:kd=1\/kd=2\/kd=3\/kd=4\/kd=5:=by lia
 rcases this with rfl | rfl | rfl | rfl | rfl
 ·exact ⟨16,rfl,by decide,rfl⟩
 ·exact ⟨200,rfl,by decide,rfl⟩
 ·exact ⟨64,rfl,by decide,rfl⟩
 ·exact ⟨200,rfl,by decide,rfl⟩
 ·exact ⟨200,rfl,by decide,rfl⟩
theorem r94 {h:AH} {ps:List Pc} {kd m c:Nat} {hi:Int} {V:AV} {o1 o2 o4 o5 o6 o7 o8:Option AV} (S:ShelfAt h 0 ps) (ix:fIx (.fl [.int 0,.int 16,.int 200,.int 64,.int 200,.int 200]) (.int kd) h = .ok (.int c) h) (c2:c<=200) (hh : -1<=hi) (hp:ps.length<=m+c*(1+hi).toNat) :
  R94 [some (.ref 0),o1,o2,some (.int kd),o4,o5,o6,o7,o8,some (.int hi),some (.int m),some V] h = .ok (.tup [V,.bl true]) h:=by
 have mn:=yfL S
 have ob:=S.ob
 have sb:fSub (.int ps.length) (.int m) h = .ok (.int ((ps.length:Int)-m)) h:=rfl
 have ad:fAdd (.int hi) (.int 1) h = .ok (.int (hi+1)) h:=rfl
 have mu:fMul (.int c) (.int (hi+1)) h = .ok (.int (c*(hi+1))) h:=ye7 (Nat.lt_of_le_of_lt (m:=200) (by lia) (by decide))
 have le:fLe (.int ((ps.length:Int)-m)) (.int (c*(hi+1))) h = .ok (.bl true) h:=by
  have e:((1+hi).toNat:Int)=hi+1:=by lia
  have:(ps.length:Int)-m<=c*(hi+1):=by
   rw [<- e,<- Int.natCast_mul]
   lia
  simp only [fLe,this,decide_true]
 unfold R94
 generalize (c:Int)*(hi+1)=CH at *
 generalize hi+1=H1 at *
 generalize (ps.length:Int)-m=PM at *
 generalize (ps.length:Int)=PL at *
 simp [ob,mn,sb,ix,ad,mu,le,-fSub,-fIx,-fAdd,-fMul,-fLe]
end Sk
namespace Sk
open PySem PySem.Spec L2 Sm
theorem Kd.trans {L:Nat} {h h' h'':AH} {ps ps' ps'':List Pc} {k k' k2:Nat} (a:Kd L h h' ps ps' k) (b:Kd L h' h'' ps' ps'' k') (hk:k+k'<=k2):Kd L h h'' ps ps'' k2 :=
 ⟨b.rr,a.pre.trans b.pre,by have:=a.len;have:=b.len;lia,fun i i8 hi n=>(b.fr i i8 (Nat.lt_of_lt_of_le hi a.hl) n).trans (a.fr i i8 hi n),Nat.le_trans a.hl b.hl⟩
theorem yhr {L:Nat} {h:AH} {ps:List Pc} {es:List En2} {v:AV} (s:Rr L h ps) (r:yfm L h v es) (hen:∀ q∈es,Ent ps 40 q) (le:es.length<=8) (hz:ps.length<12500000) :
  ∃ (qs:List En2) (h':AH) (ps':List Pc),ycm [.ref 0,v,.ref L] h = .ok (.tup [.fl (qs.map ev2),.bl true]) h'/\Kd L h h' ps ps' 140100/\(∀ q∈qs,Ent ps' 240 q)/\qs.length<=2:=by
 obtain ⟨kd,h1,hkd,t1,a1⟩:=(Kd.refl s).take 6 (by decide) (by decide)
 have t1':yar [.ref L,.int 6] h = .ok (.int kd) h1:=t1
 have r1:yfm L h1 v es:=r.imp id fun ⟨R,e1,e2,e3,e4⟩=>⟨R,e1,e2,e3,(a1.fr R e2 (yaR e4) e3).trans e4⟩
 have up:∀ {ps':List Pc} {q:En2},Ent ps' 40 q->Ent ps' 240 q:=fun e=>{ e with fw:=Nat.le_trans e.fw (by decide) }
 have cc:∀ o4 o5 o6 o7 o8 o9 o10 o11:Option AV,C94 [some (.ref 0),some v,some (.ref L),some (.int kd),o4,o5,o6,o7,o8,o9,o10,o11] h1 = .ok (decide (es.length<2\/kd=0)) h1:=by
  intro o4 o5 o6 o7 o8 o9 o10 o11
  have e0:fLen [v] h1 = .ok (.int es.length) h1:=by
   rcases r1 with ⟨rfl,rfl⟩ | ⟨R,rfl,_,_,e⟩
   ·rfl
   ·simp [e]
  have e1:fLt (.int es.length) (.int 2) h1 = .ok (.bl (decide (es.length<2))) h1:=ltD _ 2 h1
  have e2:fEq (.int kd) (.int 0) h1 = .ok (.bl (decide (kd=0))) h1:=eqD kd 0 h1
  unfold C94
  generalize (es.length:Int)=A at *
  by_cases q1:es.length<2
  ·rw [decide_eq_true q1] at e1
   simp [e0,e1,q1,-fLen,-fLt]
  ·rw [decide_eq_false q1] at e1
   by_cases q2:kd=0
   ·rw [decide_eq_true q2] at e2
    subst q2
    have e2':fEq (.int 0) (.int 0) h1 = .ok (.bl true) h1:=e2
    simp [e0,e1,e2',-fLen,-fLt,-fEq]
   ·rw [decide_eq_false q2] at e2
    simp [e0,e1,e2,q1,q2,-fLen,-fLt,-fEq]
 have c1:=cc none none none none none none none none
 rw [zib]
 by_cases q:es.length<2\/kd=0
 ·obtain ⟨w,h2,ps2,e2,a2,E2⟩:=zfY a1 (by lia)
  have tt:T94 [some (.ref 0),some v,some (.ref L),some (.int kd),none,none,none,none,none,none,none,none] h1 = .ok (.tup [.fl [ev2 w],.bl true]) h2:=by
   unfold T94
   generalize ybn=FF at *
   generalize ev2 w=W at *
   simp [e2]
  refine ⟨[w],h2,ps2,?_,{ a2 with len:=by have:=a2.len;lia },fun z hz=>by rw [List.mem_singleton.mp hz];exact up E2,by simp⟩
  show _=Out.ok (AV.tup [.fl [ev2 w],.bl true]) h2
  rw [decide_eq_true q] at c1
  generalize C94=CA at *
  generalize T94=TA at *
  generalize D94=DA at *
  generalize R94=RA at *
  generalize C94b=CB at *
  generalize ev2 w=W at *
  simp [t1',c1,tt]
 ·rw [decide_eq_false q] at c1
  rcases r1 with ⟨rfl,rfl⟩ | ⟨R,rfl,R8,RL,eR⟩
  ·exact absurd (Or.inl (by decide)) q
  have Rl:R<h1.length:=yaR eR
  have lnR:∀ hh:AH,hh[R]? = some (.lst (es.map ev2))->fLen [.ref R] hh = .ok (.int es.length) hh:=fun hh e=>by simp [e]
  obtain ⟨i1,h2,hi1,t2,a2⟩:=(Kd.refl a1.rr).take es.length (by lia) (Nat.le_trans le (by decide))
  have eR2:h2[R]? = some (.lst (es.map ev2)):=(a2.fr R R8 Rl RL).trans eR
  obtain ⟨i2,h3,hi2,t3,a3⟩:=a2.take es.length (by lia) (Nat.le_trans le (by decide))
  have eR3:h3[R]? = some (.lst (es.map ev2)):=(a3.fr R R8 Rl RL).trans eR
  obtain ⟨⟨n1,b1⟩,eq1⟩:∃ q,es[i1]? = some q:=⟨_,List.getElem?_eq_getElem hi1⟩
  obtain ⟨⟨n2,b2⟩,eq2⟩:∃ q,es[i2]? = some q:=⟨_,List.getElem?_eq_getElem hi2⟩
  have x1:fIx (.ref R) (.int i1) h2 = .ok (ev2 (n1,b1)) h2:=by
   have:atI (es.map ev2) (i1:Int)=some (ev2 (n1,b1)):=zcJ eq1
   simp only [fIx,eR2,this]
  have x2:fIx (.ref R) (.int i2) h3 = .ok (ev2 (n2,b2)) h3:=by
   have:atI (es.map ev2) (i2:Int)=some (ev2 (n2,b2)):=zcJ eq2
   simp only [fIx,eR3,this]
  have E1:=hen _ (List.mem_of_getElem? eq1)
  have E2:=hen _ (List.mem_of_getElem? eq2)
  have ln1:=lnR h1 eR
  have ln2:=lnR h2 eR2
  have y1:∀ hh,fIx (ev2 (n1,b1)) (.int 1) hh = .ok (.fl (b1.map bv)) hh:=fun _=>rfl
  have y0:∀ hh,fIx (ev2 (n1,b1)) (.int 0) hh = .ok (.int n1) hh:=fun _=>rfl
  have z0:∀ hh,fIx (ev2 (n2,b2)) (.int 0) hh = .ok (.int n2) hh:=fun _=>rfl
  have w1:b1.length<=40:=E1.fw
  have w2:b2.length<=40:=E2.fw
  have lb:=zbN (h:=h3) E1.bok (by show b1.length<=1000;lia)
  have lb':ya5 [.fl (b1.map bv)] h3 = .ok (.int (fB b1).length) h3:=lb
  obtain ⟨l1,el1⟩:∃ l,l=(fB b1).length:=⟨_,rfl⟩
  have l1m:l1<=1000000000000000000:=by rw [el1];exact E1.l2
  rw [<- el1] at lb'
  obtain ⟨p,h4,hp,t4,a4⟩:=a3.take (l1+1) (by lia) (Nat.le_trans (m:=1000000000000000001) (by lia) (by decide))
  obtain ⟨e0,h5,he,t5,a5⟩:=a4.take (l1-p+1) (by lia) (Nat.le_trans (m:=1000000000000000001) (by lia) (by decide))
  have ad4:fAdd (.int l1) (.int 1) h3 = .ok (.int ((l1+1:Nat):Int)) h3:=yeK (a:=l1) (b:=1) rfl h3
  have sb5:fSub (.int l1) (.int p) h4 = .ok (.int ((l1-p:Nat):Int)) h4:=yfl (a:=l1) (b:=p) (by lia) h4
  have ad5:fAdd (.int ((l1-p:Nat):Int)) (.int 1) h4 = .ok (.int ((l1-p+1:Nat):Int)) h4:=yeK (a:=l1-p) (b:=1) rfl h4
  obtain ⟨e,ee⟩:∃ e,e=p+e0:=⟨_,rfl⟩
  have ade:fAdd (.int p) (.int e0) h5 = .ok (.int e) h5:=yeK ee.symm h5
  obtain ⟨X1,T1,eX1⟩:=E1.tx
  obtain ⟨X2,T2,eX2⟩:=E2.tx
  have T1':TxZ ps n1 X1:=T1
  have T2':TxZ ps n2 X2:=T2
  have f1:=zdU a5.rr.sh T1'
  have f2:=zdU a5.rr.sh T2'
  have g1:=zaH T1'
  have g2:=zaH T2'
  have ob5:=a5.rr.sh.ob
  have mn5:=yfL a5.rr.sh
  have A5:Kd L h h5 ps ps 0:=⟨a5.rr,List.prefix_refl _,by lia,fun i i8 hi n=>(a5.fr i i8 (Nat.lt_of_lt_of_le hi a1.hl) n).trans (a1.fr i i8 hi n),Nat.le_trans a1.hl a5.hl⟩
  have h82:∀ {n:Nat} {X:Str},TxZ ps n X->htOf ps n<=82:=fun {n X} t=>by
   rcases t with ⟨rfl,rfl⟩ | ⟨m,f,l,T⟩
   ·rw [za3];lia
   ·rw [ybA T.ms];exact ht82 s.gd T
  have u1:=h82 T1'
  have u2:=h82 T2'
  by_cases k3:kd<3
  ·have lt3:∀ hh,fLt (.int kd) (.int 3) hh = .ok (.bl true) hh:=fun hh=>by
    have:=ltD kd 3 hh
    rw [decide_eq_true k3] at this;exact this
   obtain ⟨H,eH⟩:∃ H,H=max (htOf ps n1) (htOf ps n2):=⟨_,rfl⟩
   have mx:ybm [.int (htOf ps n1),.int (htOf ps n2)] h5 = .ok (.int H) h5:=by
    have:(if htOf ps n2 > htOf ps n1 then htOf ps n2 else htOf ps n1)=H:=by rw [eH];split<;>lia
    simp only [ybm,this]
   have cb:=c94b (n1:=n1) (n2:=n2) (o0:=some (.ref 0)) (o1:=some (.ref R)) (o2:=some (.ref L)) (o3:=some (.int kd)) (o7:=some (.int p)) (o8:=some (.int e)) (o9:=some (.int H)) (o10:=none) (o11:=none) E2.bok w1 w2 h5
   rw [<- el1] at cb
   by_cases qb:1000000000000000000<l1+(fB b2).length\/38<(b1++b2).length
   ·rw [decide_eq_true qb] at cb
    obtain ⟨w,h6,ps6,e6,a6,E6⟩:=zfY A5 (by lia)
    have tt:T94 [some (.ref 0),some (.ref R),some (.ref L),some (.int kd),some (ev2 (n1,b1)),some (ev2 (n2,b2)),some (.int l1),some (.int p),some (.int e),some (.int H),none,none] h5 = .ok (.tup [.fl [ev2 w],.bl true]) h6:=by
     unfold T94
     generalize ybn=FF at *
     generalize ev2 w=W at *
     generalize ev2 (n1,b1)=V1 at *
     generalize ev2 (n2,b2)=V2 at *
     simp [e6]
    refine ⟨[w],h6,ps6,?_,{ a6 with len:=by have:=a6.len;lia },fun z hz=>by rw [List.mem_singleton.mp hz];exact up E6,by simp⟩
    show _=Out.ok (AV.tup [.fl [ev2 w],.bl true]) h6
    clear a1 a2 a3 a4 a5 a6 A5 E1 E2 E6 T1 T2 T1' T2' t1 lb cc mn5 e6
    generalize C94=CA at *
    generalize T94=TA at *
    generalize D94=DA at *
    generalize R94=RA at *
    generalize C94b=CB at *
    generalize ev2 w=W at *
    generalize ev2 (n1,b1)=V1 at *
    generalize ev2 (n2,b2)=V2 at *
    generalize b1.map bv=Z1 at *
    generalize ((l1-p+1:Nat):Int)=Y1 at *
    generalize ((l1+1:Nat):Int)=Y2 at *
    generalize ((l1-p:Nat):Int)=Y3 at *
    simp [t1',c1,ln1,t2,x1,ln2,t3,x2,y1,lb',ad4,t4,sb5,ad5,t5,ade,y0,ob5,f1,lt3,z0,f2,mx,cb,tt,-fLen,-fIx,-fAdd,-fSub,-fLt,-ybm]
   ·rw [decide_eq_false qb] at cb
    have hk:kd=1\/kd=2:=by lia
    obtain ⟨w,h6,ps6,e6,a6,E6⟩:=yif a5.rr E1 E2 hk (p:=p) (by lia) (by lia) (by lia)
    obtain ⟨c,ix,c2,ec⟩:=c6 kd (by lia) hkd h6
    have l6:=a6.len
    have rr:=r94 (m:=ps.length) (hi:=H) (V:=.fl [ev2 w]) (o1:=some (.ref R)) (o2:=some (.ref L)) (o4:=some (ev2 (n1,b1))) (o5:=some (ev2 (n2,b2))) (o6:=some (.int l1)) (o7:=some (.int p)) (o8:=some (.int e)) a6.rr.sh ix c2 (by lia) (by
     rw [ec,eH]
     rcases hk with rfl | rfl
     ·exact l6
     ·exact l6)
    have dd:D94 [some (.ref 0),some (.ref R),some (.ref L),some (.int kd),some (ev2 (n1,b1)),some (ev2 (n2,b2)),some (.int l1),some (.int p),some (.int e),some (.int H),some (.int ps.length),none] h5 = .nx [some (.ref 0),some (.ref R),some (.ref L),some (.int kd),some (ev2 (n1,b1)),some (ev2 (n2,b2)),some (.int l1),some (.int p),some (.int e),some (.int H),some (.int ps.length),some (.fl [ev2 w])] h6:=by
     have l3:=lt3 h5
     unfold D94
     generalize ybX=FT at *
     generalize ybQ=FO at *
     generalize ev2 w=W at *
     generalize ev2 (n1,b1)=V1 at *
     generalize ev2 (n2,b2)=V2 at *
     generalize (ps.length:Int)=PL at *
     simp [l3,e6,-fLt]
    refine ⟨[w],h6,ps6,?_,{ (A5.trans a6 (Nat.le_refl _)) with len:=?_ },fun z hz=>by rw [List.mem_singleton.mp hz];exact E6,by simp⟩
    ·show _=Out.ok (AV.tup [.fl [ev2 w],.bl true]) h6
     clear a1 a2 a3 a4 a5 a6 A5 E1 E2 E6 T1 T2 T1' T2' t1 lb cc e6 ix l6
     generalize C94=CA at *
     generalize T94=TA at *
     generalize D94=DA at *
     generalize R94=RA at *
     generalize C94b=CB at *
     generalize ev2 w=W at *
     generalize ev2 (n1,b1)=V1 at *
     generalize ev2 (n2,b2)=V2 at *
     generalize b1.map bv=Z1 at *
     generalize ((l1-p+1:Nat):Int)=Y1 at *
     generalize ((l1+1:Nat):Int)=Y2 at *
     generalize ((l1-p:Nat):Int)=Y3 at *
     generalize (ps.length:Int)=PL at *
     simp [t1',c1,ln1,t2,x1,ln2,t3,x2,y1,lb',ad4,t4,sb5,ad5,t5,ade,y0,ob5,f1,lt3,z0,f2,mx,cb,mn5,dd,rr,-fLen,-fIx,-fAdd,-fSub,-fLt,-ybm]
    ·have:(if kd=1 then 16 else 200)*(1+max (htOf ps n1) (htOf ps n2)).toNat<=200*83:=Nat.mul_le_mul (by split<;>lia) (by lia)
     lia
  ·have lt3:∀ hh,fLt (.int kd) (.int 3) hh = .ok (.bl false) hh:=fun hh=>by
    have:=ltD kd 3 hh
    rw [decide_eq_false k3] at this;exact this
   have hk:kd=3\/kd=4\/kd=5:=by lia
   obtain ⟨qs,h6,ps6,e6,a6,E6,lq⟩:=yig a5.rr E1 hk (p:=p) (e:=e) (by lia) (by lia) (by lia)
   obtain ⟨c,ix,c2,ec⟩:=c6 kd (by lia) hkd h6
   have l6:=a6.len
   have rr:=r94 (m:=ps.length) (hi:=htOf ps n1) (V:=.fl (qs.map ev2)) (o1:=some (.ref R)) (o2:=some (.ref L)) (o4:=some (ev2 (n1,b1))) (o5:=some (ev2 (n2,b2))) (o6:=some (.int l1)) (o7:=some (.int p)) (o8:=some (.int e)) a6.rr.sh ix c2 (by lia) (by
    rw [ec]
    rcases hk with rfl | rfl | rfl
    ·exact l6
    ·exact l6
    ·exact l6)
   have dd:D94 [some (.ref 0),some (.ref R),some (.ref L),some (.int kd),some (ev2 (n1,b1)),some (ev2 (n2,b2)),some (.int l1),some (.int p),some (.int e),some (.int (htOf ps n1)),some (.int ps.length),none] h5 = .nx [some (.ref 0),some (.ref R),some (.ref L),some (.int kd),some (ev2 (n1,b1)),some (ev2 (n2,b2)),some (.int l1),some (.int p),some (.int e),some (.int (htOf ps n1)),some (.int ps.length),some (.fl (qs.map ev2))] h6:=by
    have l3:=lt3 h5
    unfold D94
    generalize ybX=FT at *
    generalize ybQ=FO at *
    generalize qs.map ev2=W at *
    generalize ev2 (n1,b1)=V1 at *
    generalize ev2 (n2,b2)=V2 at *
    generalize (ps.length:Int)=PL at *
    generalize htOf ps n1=HT1 at *
    simp [l3,e6,-fLt]
   refine ⟨qs,h6,ps6,?_,{ (A5.trans a6 (Nat.le_refl _)) with len:=?_ },E6,lq⟩
   ·clear a1 a2 a3 a4 a5 a6 A5 E1 E2 E6 T1 T2 T1' T2' t1 lb cc e6 ix l6
    generalize C94=CA at *
    generalize T94=TA at *
    generalize D94=DA at *
    generalize R94=RA at *
    generalize C94b=CB at *
    generalize qs.map ev2=W at *
    generalize ev2 (n1,b1)=V1 at *
    generalize ev2 (n2,b2)=V2 at *
    generalize b1.map bv=Z1 at *
    generalize ((l1-p+1:Nat):Int)=Y1 at *
    generalize ((l1+1:Nat):Int)=Y2 at *
    generalize ((l1-p:Nat):Int)=Y3 at *
    generalize (ps.length:Int)=PL at *
    generalize htOf ps n1=HT1 at *
    simp [t1',c1,ln1,t2,x1,ln2,t3,x2,y1,lb',ad4,t4,sb5,ad5,t5,ade,y0,ob5,f1,lt3,mn5,dd,rr,-fLen,-fIx,-fAdd,-fSub,-fLt]
   ·have:(if kd=3 then 64 else 200)*(1+htOf ps n1).toNat<=200*83:=Nat.mul_le_mul (by split<;>lia) (by lia)
    lia
end Sk
namespace Sk
open PySem PySem.Spec L2 Sm
def RowR (h:AH) (v:AV) (es:List En2):Prop:=(v = .fl []/\es=[])\/∃ R,v = .ref R/\9<R/\h[R]? = some (.lst (es.map ev2))
structure St94 (h:AH) (ps:List Pc) (v:AV) (es ms:List En2):Prop where
 sh:ShelfAt h 0 ps
 gd:Good ps
 md:h[9]? = some (.lst (ms.map ev2))
 rw:RowR h v es
 e6:es.length<=6
 ee:∀ q∈es,Ent ps 40 q
 em:∀ q∈ms,Ent ps 240 q
abbrev e94 (o0:Option AV) (v:AV) (o4 o5:Option AV) (L:Nat) (P:AV) (o9 o10:Option AV):En:=[o0,some (.ref 0),some v,some (.ref 9),o4,o5,some (.ref L),some P,some (.bl true),o9,o10]
theorem zic {L:Nat} {h:AH} {ps:List Pc} {qs:List En2} {o0 o4 o5 o9 o10:Option AV} {v P:AV} (s:Rr L h ps) (E:∀ q∈qs,Ent ps 240 q) (hz:ps.length<16000000) :
  ∃ (h':AH) (a9 a10:Option AV),ybu none (qs.map ev2) (.tup [9,10]) ycB (qs.map ev2) (e94 o0 v o4 o5 L P o9 o10) h = .nx (e94 o0 v o4 o5 L P a9 a10) h'/\Fr L h h' := by
 obtain ⟨e',h',r1,r2⟩:=ydz (w:=none) (all:=qs.map ev2) (t:=.tup [9,10]) (b:=ycB) (xs:=qs.map ev2) (en:=e94 o0 v o4 o5 L P o9 o10) (h:=h)
  (fun _ en hh=>Fr L h hh/\∃ a9 a10,en=e94 o0 v o4 o5 L P a9 a10) ⟨s.self,o9,o10,rfl⟩ (fun _ _ _ _=>rfl) (by
   rintro j u en hh hu ⟨F,a9,a10,rfl⟩
   rw [List.getElem?_map] at hu
   obtain ⟨⟨n,bs⟩,eq,rfl⟩:=Option.map_eq_some_iff.mp hu
   have e:=E _ (List.mem_of_getElem? eq)
   obtain ⟨X,T,eX⟩:=e.tx
   obtain ⟨h2,f2,F2⟩:=zfW (s.fr F) T eX (by rw [zad,eX];exact e.l2) e.bok (Nat.le_trans e.fw (by decide)) hz
   have f2':yaQ [.ref 0,.int n,.fl (bs.map bv),.ref L] hh = .ok (.bl true) h2:=f2
   have eb:ycB (e94 o0 v o4 o5 L P (some (.int n)) (some (.fl (bs.map bv)))) hh = .nx (e94 o0 v o4 o5 L P (some (.int n)) (some (.fl (bs.map bv)))) h2:=by
    unfold ycB
    generalize yaQ=FR at *
    generalize bs.map bv=Z at *
    simp only [e94]
    simp [f2']
   show thn (ycB (e94 o0 v o4 o5 L P (some (.int n)) (some (.fl (bs.map bv)))) hh) _
   rw [eb]
   exact ⟨F.trans F2,_,_,rfl⟩)
 obtain ⟨F,a9,a10,rfl⟩:=r2
 exact ⟨h',a9,a10,r1,F⟩
theorem yfU (es qs:List En2):es.map ev2++qs.map ev2=(es++qs).map ev2:=by simp
theorem zjs {h:AH} {qs:List En2} (hl:qs.length<=2) (fw:∀ q∈qs,q.2.length<=240) (en:En) (he:en[7]? = some (some (.fl (qs.map ev2)))) :
  yaU [] (iVal (sVar 7)) (yaj (sOp2 fLt (yad fLen (sCons (sOp2 fIx (sVar 0) (sLit (.int 1))) sNil)) (sLit (.int 40)))) (sVar 0) en h = .ok (.fl ((qs.filter fun q=>decide (q.2.length<40)).map ev2)) h:=by
 have c1:=zaI (js:=[]) (en:=en) (w:=none) (all:=qs.map ev2) (c:=yaj (sOp2 fLt (yad fLen (sCons (sOp2 fIx (sVar 0) (sLit (.int 1))) sNil)) (sLit (.int 40)))) (e:=sVar 0) (g:=ev2) (f:=ev2) (p:=fun q=>decide (q.2.length<40)) (h:=h) rfl qs [] (by
  intro q hq
  have x1:fIx (ev2 q) (.int 1) h = .ok (.fl (q.2.map bv)) h:=rfl
  have ln:=lenB q.2 h
  have lt:fLt (.int q.2.length) (.int 40) h = .ok (.bl (decide (q.2.length<40))) h:=ltD _ 40 h
  generalize ev2 q=Q at *
  generalize q.2.map bv=Z at *
  generalize (q.2.length:Int)=B at *
  simp [x1,ln,lt,-fIx,-fLen,-fLt]) (fun _ _ _=>rfl) (by exact Nat.le_trans (m:=2) (by simpa using hl) (by decide))
 rw [List.nil_append] at c1
 have it:iVal (sVar 7) en h = .ok (qs.map ev2,none) h:=by
  generalize qs.map ev2=Z at *
  simp [he]
 simp only [yaU,it,c1]
theorem pops {L R:Nat} {h:AH} {ps:List Pc} {es ms:List En2} {o0 o4 o5 o9 o10:Option AV} {P:AV} (s:Rr L h ps) (eR:h[R]? = some (.lst (es.map ev2))) (hR:9<R) (RL:R≠L) (L9:9<L) (le:es.length<=8) (md:h[9]? = some (.lst (ms.map ev2))) :
  ∃ (h':AH) (es':List En2),ybF (yaj (sOp2 fGt (yad fLen (sCons (sVar 2) sNil)) (sLit (.int 6)))) ycR ydd (e94 o0 (.ref R) o4 o5 L P o9 o10) h = .nx (e94 o0 (.ref R) o4 o5 L P o9 o10) h'/\Rr L h' ps/\h'[R]? = some (.lst (es'.map ev2))/\es'.length<=6/\(∀ q∈es',q∈es)/\h'[9]? = some (.lst (ms.map ev2)):=by
 obtain ⟨e',h',r1,rfl,es',q1,q2,q3,q4,q5⟩:=zfD (c:=yaj (sOp2 fGt (yad fLen (sCons (sVar 2) sNil)) (sLit (.int 6)))) (b:=ycR) (fuel:=ydd) (n:=es.length) (en:=e94 o0 (.ref R) o4 o5 L P o9 o10) (h:=h)
  (fun N en hh=>en=e94 o0 (.ref R) o4 o5 L P o9 o10/\∃ es':List En2,Rr L hh ps/\hh[R]? = some (.lst (es'.map ev2))/\es'.length<=8/\N=es'.length/\(∀ q∈es',q∈es)/\hh[9]? = some (.lst (ms.map ev2)))
  (fun en hh=>en=e94 o0 (.ref R) o4 o5 L P o9 o10/\∃ es':List En2,Rr L hh ps/\hh[R]? = some (.lst (es'.map ev2))/\es'.length<=6/\(∀ q∈es',q∈es)/\hh[9]? = some (.lst (ms.map ev2)))
  ⟨rfl,es,s,eR,le,rfl,fun _ h=>h,md⟩ (Nat.lt_of_le_of_lt le (by decide)) (by
   rintro N en hh ⟨rfl,es',s',eR',le',rfl,sb,md'⟩
   have ln:fLen [.ref R] hh = .ok (.int es'.length) hh:=by simp [eR']
   have gt:fGt (.int es'.length) (.int 6) hh = .ok (.bl (decide (6<es'.length))) hh:=gtD _ 6 hh
   have c:yaj (sOp2 fGt (yad fLen (sCons (sVar 2) sNil)) (sLit (.int 6))) (e94 o0 (.ref R) o4 o5 L P o9 o10) hh = .ok (decide (6<es'.length)) hh:=by
    simp only [e94]
    generalize (es'.length:Int)=A at *
    simp [ln,gt,-fLen,-fGt]
   rw [c]
   by_cases z:6<es'.length
   ·rw [decide_eq_true z]
    obtain ⟨u,N6,hu,t6,F6⟩:=s'.self.take es'.length (by lia) (Nat.le_trans le' (by decide))
    have R6:(hh.set L (.lst [.int N6]))[R]? = some (.lst (es'.map ev2)):=by rw [List.getElem?_set_ne (Ne.symm RL)];exact eR'
    have M6:(hh.set L (.lst [.int N6]))[9]? = some (.lst (ms.map ev2)):=by rw [List.getElem?_set_ne (by lia)];exact md'
    have s6:=s'.fr F6
    generalize hh.set L (.lst [.int N6])=h6 at *
    obtain ⟨y,ey⟩:∃ y,es'[u]? = some y:=⟨_,List.getElem?_eq_getElem hu⟩
    have ey':(es'.map ev2)[(u:Int).toNat]? = some (ev2 y):=by rw [Int.toNat_natCast,List.getElem?_map,ey];rfl
    have pp:ydO (.ref R) [.int u] h6 = .ok (ev2 y) (h6.set R (.lst ((es'.eraseIdx u).map ev2))):=by
     have cc:0<=(u:Int)/\(u:Int)<2 ^ 40:=by lia
     have em:((es'.eraseIdx u).map ev2)=(es'.map ev2).eraseIdx (u:Int).toNat:=by
      rw [Int.toNat_natCast,List.eraseIdx_eq_take_drop_succ,List.eraseIdx_eq_take_drop_succ,List.map_append,List.map_take,List.map_drop]
     rw [em]
     simp only [ydO,R6]
     rw [if_pos cc,ey']
    have isl:yaV (.ref R) hh=true:=by simp [eR']
    obtain ⟨h7,eh7⟩:∃ h7,h7=h6.set R (.lst ((es'.eraseIdx u).map ev2)):=⟨_,rfl⟩
    rw [<- eh7] at pp
    have eb:ycR (e94 o0 (.ref R) o4 o5 L P o9 o10) hh = .nx (e94 o0 (.ref R) o4 o5 L P o9 o10) h7:=by
     unfold ycR
     generalize ev2 y=Y at *
     simp only [e94]
     generalize (es'.length:Int)=A at *
     simp [isl,ln,t6,pp,-yaV,-fLen,-ydO]
    show thn (ycR (e94 o0 (.ref R) o4 o5 L P o9 o10) hh) _
    rw [eb]
    have k7:∀ i,i≠R->h7[i]? = h6[i]? := fun i hi=>by rw [eh7];exact List.getElem?_set_ne (Ne.symm hi)
    have l7:(es'.eraseIdx u).length=es'.length-1:=List.length_eraseIdx_of_lt hu
    obtain ⟨Nx,eNx⟩:=s6.ro
    refine ⟨(es'.eraseIdx u).length,by lia,rfl,es'.eraseIdx u,⟨s6.sh.keep fun i i1 i8=>k7 i (by lia),s6.gd,s6.far,Nx,(k7 L (Ne.symm RL)).trans eNx⟩,by rw [eh7];exact List.getElem?_set_self (yaR R6),by lia,rfl,fun q hq=>sb q (List.mem_of_mem_eraseIdx hq),(k7 9 (by lia)).trans M6⟩
   ·rw [decide_eq_false z]
    exact ⟨rfl,es',s',eR',by lia,sb,md'⟩)
 exact ⟨h',es',r1,q1,q2,q3,q4,q5⟩
theorem yhs {h:AH} {ps:List Pc} {v:AV} {es ms:List En2} (s:St94 h ps v es ms) (hz:ps.length<12000000) (hm:ms.length<=200) (c k:Int) (o0 o6 o7 o8 o9 o10:Option AV) :
  ∃ (h':AH) (ps':List Pc) (v':AV) (es' qs:List En2) (a6 a7 a8 a9 a10:Option AV),ycS [o0,some (.ref 0),some v,some (.ref 9),some (.int k),some (.int c),o6,o7,o8,o9,o10] h = .nx [o0,some (.ref 0),some v',some (.ref 9),some (.int k),some (.int c),a6,a7,a8,a9,a10] h'/\St94 h' ps' v' es' (ms++qs)/\qs.length<=2/\ps'.length<=ps.length+140100:=by
 have l9:=yaR s.md
 obtain ⟨N0,ow⟩:=yia c k h
 obtain ⟨L,eL⟩:∃ L,L=h.length:=⟨_,rfl⟩
 rw [<- eL] at ow
 have s1:Rr L (h++[AO.lst [.int N0]]) ps:=⟨s.sh.app _,s.gd,by lia,N0,by rw [eL];simp⟩
 have M1:(h++[AO.lst [.int N0]])[9]? = some (.lst (ms.map ev2)):=by rw [List.getElem?_append_left l9];exact s.md
 have R1:RowR (h++[AO.lst [.int N0]]) v es:=s.rw.imp id fun ⟨R,e1,e2,e3⟩=>⟨R,e1,e2,by rw [List.getElem?_append_left (yaR e3)];exact e3⟩
 have rL:∀ R,v = .ref R->R≠L:=fun R e=>by
  rcases s.rw with ⟨e1,_⟩ | ⟨R',e1,e2,e3⟩
  ·rw [e1] at e;cases e
  ·rw [e1] at e;cases e
   have:=yaR e3
   lia
 obtain ⟨h1,eh1⟩:∃ h1,h1=h++[AO.lst [.int N0]]:=⟨_,rfl⟩
 have n1:h1.length=L+1:=by rw [eh1,eL];simp
 rw [<- eh1] at ow s1 M1 R1
 have r1:yfm L h1 v es:=R1.imp id fun ⟨R,e1,e2,e3⟩=>⟨R,e1,by lia,rL R e1,e3⟩
 obtain ⟨qs,h2,ps2,f2,a2,E2,lq⟩:=yhr s1 r1 s.ee (by have:=s.e6;lia) (by lia)
 have z2:=a2.len
 obtain ⟨PV,ePV⟩:∃ PV,PV=AV.fl (qs.map ev2):=⟨_,rfl⟩
 obtain ⟨h3,b9,b10,f3,F3⟩:=zic (o0:=o0) (o4:=some (.int k)) (o5:=some (.int c)) (o9:=o9) (o10:=o10) (v:=v) (P:=PV) a2.rr E2 (by lia)
 have it3:ya3 (sVar 7) (e94 o0 v (some (.int k)) (some (.int c)) L PV o9 o10) h2 = .ok (qs.map ev2,none) h2:=by
  rw [ePV]
  simp only [e94]
  generalize qs.map ev2=Z
  simp
 have lp3:=(ycF (t:=.tup [9,10]) (b:=ycB) it3).trans f3
 have a3:=a2.fr' F3
 have M3:h3[9]? = some (.lst (ms.map ev2)):=(a3.fr 9 (by decide) (by lia) (by lia)).trans M1
 have R3:RowR h3 v es:=R1.imp id fun ⟨R,e1,e2,e3⟩=>⟨R,e1,e2,(a3.fr R (by lia) (yaR e3) (rL R e1)).trans e3⟩
 have ex:yel (.ref 9) [PV] h3 = .ok .non (h3.set 9 (.lst ((ms++qs).map ev2))):=by
  have l2:ybS PV h3=some (qs.map ev2):=by rw [ePV];rfl
  have:(ms.map ev2).length+(qs.map ev2).length<=sizeLine:=Nat.le_trans (m:=300) (by simp;lia) (by decide)
  rw [<- yfU]
  simp only [yel,M3,l2,this,if_true]
 have isl:yaV (.ref 9) h3=true:=by simp [M3]
 obtain ⟨h4,eh4⟩:∃ h4,h4=h3.set 9 (.lst ((ms++qs).map ev2)):=⟨_,rfl⟩
 rw [<- eh4] at ex
 have M4:h4[9]? = some (.lst ((ms++qs).map ev2)):=by rw [eh4];exact List.getElem?_set_self (yaR M3)
 have k4:∀ i,i≠9->h4[i]? = h3[i]? := fun i hi=>by rw [eh4];exact List.getElem?_set_ne (Ne.symm hi)
 have S4:ShelfAt h4 0 ps2:=a3.rr.sh.keep fun i i1 i8=>k4 i (by lia)
 have R4:ybS v h4=some (es.map ev2):=by
  rcases R3 with ⟨rfl,rfl⟩ | ⟨R,rfl,e2,e3⟩
  ·rfl
  ·have:h4[R]? = some (.lst (es.map ev2)):=(k4 R (by lia)).trans e3
   simp [ybS,this]
 obtain ⟨ws,ews⟩:∃ ws,ws=qs.filter fun q=>decide (q.2.length<40):=⟨_,rfl⟩
 have lw:ws.length<=2:=by rw [ews];exact Nat.le_trans (List.length_filter_le _ _) lq
 have hw:∀ w∈ws,Ent ps2 40 w:=fun w hw=>by
  rw [ews,List.mem_filter,decide_eq_true_eq] at hw
  exact { E2 w hw.1 with fw:=by lia }
 have cp:=zjs (h:=h4) lq (fun q hq=>(E2 q hq).fw) (e94 o0 v (some (.int k)) (some (.int c)) L (.fl (qs.map ev2)) b9 b10) rfl
 rw [<- ews,<- ePV] at cp
 have le6:=s.e6
 have am:yek v (.fl (ws.map ev2)) h4 = .ok (.ref h4.length) (h4++[.lst ((es++ws).map ev2)]):=by
  have le:(es.map ev2).length+(ws.map ev2).length<=sizeLine:=Nat.le_trans (m:=10) (by simp;lia) (by decide)
  have l2:ybS (.fl (ws.map ev2)) h4=some (ws.map ev2):=rfl
  rw [<- yfU]
  simp only [yek,R4,l2,le,if_true]
 obtain ⟨h5,eh5⟩:∃ h5,h5=h4++[AO.lst ((es++ws).map ev2)]:=⟨_,rfl⟩
 rw [<- eh5] at am
 obtain ⟨R,eR⟩:∃ R,R=h4.length:=⟨_,rfl⟩
 rw [<- eR] at am
 have hl4:h4.length=h3.length:=by rw [eh4,List.length_set]
 have hl3:=a3.hl
 have W5:h5[R]? = some (.lst ((es++ws).map ev2)):=by rw [eh5,eR];simp
 have M5:h5[9]? = some (.lst ((ms++qs).map ev2)):=by rw [eh5,List.getElem?_append_left (yaR M4)];exact M4
 obtain ⟨N3,eN3⟩:=a3.rr.ro
 have eN5:h5[L]? = some (.lst [.int N3]):=by rw [eh5,List.getElem?_append_left (by lia),k4 L (by lia)];exact eN3
 have s5:Rr L h5 ps2:=⟨eh5▸S4.app _,a2.rr.gd,by lia,N3,eN5⟩
 obtain ⟨h6,es6,w6,s6,R6,l6,m6,M6⟩:=pops (o0:=o0) (o4:=some (.int k)) (o5:=some (.int c)) (o9:=b9) (o10:=b10) (P:=PV) s5 W5 (by lia) (by lia) (by lia) (by rw [List.length_append];lia) M5
 have ee:∀ w∈es6,Ent ps2 40 w:=fun w hw' => (List.mem_append.mp (m6 w hw')).elim (fun h=>(s.ee w h).pre a2.pre) (hw w)
 have em:∀ w∈ms++qs,Ent ps2 240 w:=fun w hw=>(List.mem_append.mp hw).elim (fun h=>(s.em w h).pre a2.pre) (E2 w)
 refine ⟨h6,ps2,.ref R,es6,qs,some (.ref L),some PV,some (.bl true),b9,b10,?_,⟨s6.sh,s6.gd,M6,.inr ⟨R,rfl,by lia,R6⟩,l6,ee,em⟩,lq,by lia⟩
 have f2':ycm [.ref 0,v,.ref L] h1 = .ok (.tup [PV,.bl true]) h2:=by rw [ePV];exact f2
 clear a2 a3 F3 E2 s s1 s5 s6 r1 R1 R3 R4 M1 M3 M4 M5 M6 W5 S4 ee em eN5 eN3 f2 f3 it3 ePV ews hw lw R6 m6 eh4 eh5 k4
 unfold ycS
 generalize sFor (ya3 (sVar 7)) (.tup [9,10]) ycB=LP at *
 generalize yaU [] (iVal (sVar 7)) (yaj (sOp2 fLt (yad fLen (sCons (sOp2 fIx (sVar 0) (sLit (.int 1))) sNil)) (sLit (.int 40)))) (sVar 0)=SC at *
 generalize ybF (yaj (sOp2 fGt (yad fLen (sCons (sVar 2) sNil)) (sLit (.int 6)))) ycR ydd=WH at *
 generalize ycm=FD at *
 generalize ws.map ev2=ZW at *
 simp only [e94] at lp3 cp w6
 simp [ow,f2',lp3,isl,ex,cp,am,w6,-yaV,-yel,-yek]
end Sk
namespace Sk
open PySem PySem.Spec L2 Sm
theorem zjt (n:Nat) (h:AH):fAll [.fl (List.replicate n (.bl true))] h = .ok (.bl true) h:=by
 have:∀ n:Nat,ych (List.replicate n (.bl true))=some (List.replicate n true):=by
  intro n
  induction n with
  | zero=>rfl
  | succ n ih=>simp [List.replicate_succ,ych,ih]
 simp [fAll,this]
theorem law_true (ns:List Int) (hl:ns.length<=63):∃ h',yfk [.fl (ns.map AV.int)] [] = .ok (.bl true) h' := by
 have mk:=yg8 [some (.fl (ns.map AV.int)),none,none,none,none,none,none,none,none,none,none] []
 have l0:([]:AH).length=0:=rfl
 rw [l0,List.nil_append] at mk
 have S0:ShelfAt (yc2 0) 0 []:=by have:=yg9 [] [];simpa using this
 have n0:(yc2 0).length=9:=rfl
 obtain ⟨sc,esc⟩:∃ sc:Option AV,sc=some (.fl (ns.map AV.int)):=⟨_,rfl⟩
 obtain ⟨cells,ecl⟩:∃ cells:List Int,cells=ns++[0,1,2]:=⟨_,rfl⟩
 have lc:cells.length<=66:=by rw [ecl];simp;lia
 have St0:St94 (yc2 0++[.lst []]) [] (.fl []) [] []:=⟨S0.app _,.nil,rfl,.inl ⟨rfl,rfl⟩,by decide,fun _ h=>(nomatch h),fun _ h=>(nomatch h)⟩
 obtain ⟨e',H2,r1,r2⟩:=ydz (w:=none) (all:=Sm.numbered 0 (cells.map AV.int)) (t:=.tup [4,5]) (b:=ycS) (xs:=Sm.numbered 0 (cells.map AV.int)) (en:=[sc,some (.ref 0),some (.fl []),some (.ref 9),none,none,none,none,none,none,none]) (h:=yc2 0++[.lst []])
  (fun i en h' => i<=66->∃ (o4 o5 o6 o7 o8 o9 o10:Option AV) (v:AV) (ps:List Pc) (es ms:List En2),en=[sc,some (.ref 0),some v,some (.ref 9),o4,o5,o6,o7,o8,o9,o10]/\St94 h' ps v es ms/\ms.length<=2*i/\ps.length<=140100*i)
  (fun _=>⟨none,none,none,none,none,none,none,.fl [],[],[],[],rfl,St0,Nat.zero_le _,Nat.zero_le _⟩) (fun _ _ _ _=>rfl) (by
   intro j u en h' hu hp
   rw [Sm.numbered_get,List.getElem?_map] at hu
   obtain ⟨w,ev,rfl⟩:=Option.map_eq_some_iff.mp hu
   obtain ⟨c,ec,rfl⟩:=Option.map_eq_some_iff.mp ev
   have hj:j<cells.length:=(List.getElem?_eq_some_iff.mp ec).1
   obtain ⟨o4,o5,o6,o7,o8,o9,o10,v,ps,es,ms,rfl,S,lm,lp⟩:=hp (by lia)
   obtain ⟨h2,ps2,v2,es2,q,a6,a7,a8,a9,a10,e,S2,lq,lp2⟩:=yhs S (by lia) (by lia) c ((0+j:Nat):Int) sc o6 o7 o8 o9 o10
   obtain ⟨BB,hB⟩:∃ BB,BB=ycS:=⟨_,rfl⟩
   rw [<- hB] at e ⊢
   show thn (BB [sc,some (.ref 0),some v,some (.ref 9),some (.int ((0+j:Nat):Int)),some (.int c),o6,o7,o8,o9,o10] h') _
   rw [e]
   exact fun _=>⟨_,_,a6,a7,a8,a9,a10,v2,ps2,es2,ms++q,rfl,S2,by rw [List.length_append];lia,by lia⟩)
 have nl:∀ (xs:List AV) (k:Nat),(Sm.numbered k xs).length=xs.length:=fun xs=>by
  induction xs with
  | nil=>intro k;rfl
  | cons x xs ih=>intro k;simp [Sm.numbered,ih (k+1)]
 rw [nl,List.length_map] at r2
 obtain ⟨o4,o5,o6,o7,o8,o9,o10,v,ps,es,ms,rfl,S2,lm,lp⟩:=r2 lc
 obtain ⟨N,st⟩:=zh7 ns hl 0 (by decide) H2
 have st':ybH [.fl (ns.map AV.int),.int 0] H2 = .ok (.ref H2.length) (H2++[.lst [.int N]]):=st
 obtain ⟨L,eL⟩:∃ L,L=H2.length:=⟨_,rfl⟩
 have l9:=yaR S2.md
 rw [<- eL] at st'
 have s3:Rr L (H2++[AO.lst [.int N]]) ps:=⟨S2.sh.app _,S2.gd,by lia,N,by rw [eL];simp⟩
 have M3:(H2++[AO.lst [.int N]])[9]? = some (.lst (ms.map ev2)):=by rw [List.getElem?_append_left l9];exact S2.md
 obtain ⟨H3,eH3⟩:∃ H3,H3=H2++[AO.lst [.int N]]:=⟨_,rfl⟩
 rw [<- eH3] at st' s3 M3
 obtain ⟨zs,H4,c1,c2,c3,c4⟩:=zdX (w:=some 9) (c:=un2 sYes) (js:=[1,6]) (en:=[sc,some (.ref 0),some v,some (.ref 9),o4,o5,some (.ref L),o7,o8,o9,o10]) (all:=ms.map ev2) (e:=un2 (yad yaQ (sCons (sVar 2) (sCons (sVar 0) (sCons (sVar 1) (sCons (sVar 3) sNil))))))
  (fun i ys hh=>hh[9]? = some (.lst (ms.map ev2))/\Rr L hh ps/\ys=List.replicate i (.bl true)) (fun _ _ _ p=>by simp [p.1]) (ms.map ev2) [] 0 H3 ⟨M3,s3,rfl⟩ (by
   rintro j x ys hh hx ⟨p1,p2,rfl⟩
   rw [List.getElem?_map] at hx
   obtain ⟨⟨b,qb⟩,eq,rfl⟩:=Option.map_eq_some_iff.mp hx
   have E:=S2.em _ (List.mem_of_getElem? eq)
   obtain ⟨X,T,eX⟩:=E.tx
   obtain ⟨h5,f5,F5⟩:=zfW p2 T eX (by rw [zad,eX];exact E.l2) E.bok (Nat.le_trans E.fw (by decide)) (by lia)
   refine ⟨rfl,.bl true,h5,?_,(F5.fr 9 (yaR p1) (by lia)).trans p1,p2.fr F5,by rw [List.replicate_succ']⟩
   have u:un2 (yad yaQ (sCons (sVar 2) (sCons (sVar 0) (sCons (sVar 1) (sCons (sVar 3) sNil))))) (some (ev2 (b,qb))::[1,6].map fun j=>(([sc,some (.ref 0),some v,some (.ref 9),o4,o5,some (.ref L),o7,o8,o9,o10]:En)[j]?).join) hh=yad yaQ (sCons (sVar 2) (sCons (sVar 0) (sCons (sVar 1) (sCons (sVar 3) sNil)))) [some (.int b),some (.fl (qb.map bv)),some (.ref 0),some (.ref L)] hh:=rfl
   rw [u]
   have f5':yaQ [.ref 0,.int b,.fl (qb.map bv),.ref L] hh = .ok (.bl true) h5:=f5
   generalize qb.map bv=QB at *
   generalize yaQ=FR at *
   simp [f5']) (Nat.le_trans (m:=132) (by simp;lia) (by decide))
 have it2:ya3 (sVar 3) [sc,some (.ref 0),some v,some (.ref 9),o4,o5,some (.ref L),o7,o8,o9,o10] H3 = .ok (ms.map ev2,some 9) H3:=by simp [M3]
 have cp:ybG [1,6] (ya3 (sVar 3)) sYes (yad yaQ (sCons (sVar 2) (sCons (sVar 0) (sCons (sVar 1) (sCons (sVar 3) sNil))))) [sc,some (.ref 0),some v,some (.ref 9),o4,o5,some (.ref L),o7,o8,o9,o10] H3 = .ok (.fl zs) H4:=by
  simp only [ybG,yaU,it2,c1]
 have al:=zjt (0+(ms.map ev2).length) H4
 rw [<- c4] at al
 have it1:Sm.iEnum (sOp2 fAdd (sVar 0) (sLst (sCons (sLit (.int 0)) (sCons (sLit (.int 1)) (sCons (sLit (.int 2)) sNil))))) [some (.fl (ns.map AV.int)),some (.ref 0),some (.fl []),some (.ref 9),none,none,none,none,none,none,none] (yc2 0++[.lst []]) = .ok (Sm.numbered 0 (cells.map AV.int),none) (yc2 0++[.lst []]):=by
  have sl:ns.length+3<=sizeLine:=Nat.le_trans (Nat.add_le_add_right hl 3) (by decide)
  simp [sl,ecl]
 subst esc
 have f1:=(ycF (t:=.tup [4,5]) (b:=ycS) it1).trans r1
 refine ⟨H4,?_⟩
 clear r1 it1 it2 c1 c2 c3 s3 M3 S2 St0 S0 st c4 eH3 eL
 unfold yfk
 generalize yeU 0 8 yca sNil=MK at *
 generalize sFor (Sm.iEnum (sOp2 fAdd (sVar 0) (sLst (sCons (sLit (.int 0)) (sCons (sLit (.int 1)) (sCons (sLit (.int 2)) sNil)))))) (.tup [4,5]) ycS=F1 at *
 generalize ybG [1,6] (ya3 (sVar 3)) sYes (yad yaQ (sCons (sVar 2) (sCons (sVar 0) (sCons (sVar 1) (sCons (sVar 3) sNil)))))=SC at *
 generalize ybH=FS at *
 generalize ns.map AV.int=NS at *
 generalize yc2 0=SN at *
 have f1':F1 [some (.fl NS),some (.ref 0),some (.fl []),some (.ref SN.length),none,none,none,none,none,none,none] (SN++[.lst []]) = .nx [some (.fl NS),some (.ref 0),some v,some (.ref 9),o4,o5,o6,o7,o8,o9,o10] H2:=by rw [n0];exact f1
 simp [mk,f1',st',cp,al,-fAll]
end Sk
namespace Sk
open PySem PySem.Spec L2 Sm
def top (i:Nat):Stmt:=PySem.Challenge.pw_skeinwood_k94_whole_deeds_on_long_texts.main.body.getD i (.Pass ⟨0,0,0,0⟩)
abbrev ydp:Stmt:=ybc (top 18) 0
abbrev ydB:Stmt:=top 44
abbrev ycJ:Stmt:=top 45
abbrev yea:Stmt:=top 47
abbrev ydV:Stmt:=top 46
abbrev ycK:Stmt:=top 52
abbrev ydW:Stmt:=top 11
abbrev ycn:Stmt:=ybc (top 18) 11
abbrev yb5:Stmt:=ybc (top 18) 12
abbrev ycd:Stmt:=ybc (top 18) 13
abbrev ycT:Stmt:=ybc (top 18) 8
abbrev ydq:Stmt:=ybc (top 18) 3
abbrev ycL:Stmt:=top 56
abbrev ydr:Stmt:=top 57
abbrev yc8:Stmt:=ybc (top 18) 5
abbrev ydC:Stmt:=top 34
abbrev ycU:Stmt:=top 23
abbrev yco:Stmt:=ybc (top 18) 10
abbrev yce:Stmt:=ybc (top 18) 9
abbrev ydD:Stmt:=top 24
abbrev yc9:Stmt:=ybc (top 18) 4
abbrev ycf:Stmt:=ybc (top 18) 14
abbrev ydE:Stmt:=ybc (top 18) 17
abbrev ycy:Stmt:=ybc (top 18) 16
abbrev yds:Stmt:=ybc (top 18) 2
abbrev ydF:Stmt:=top 29
abbrev yda:Stmt:=top 26
abbrev ycM:Stmt:=top 30
abbrev ycV:Stmt:=top 27
abbrev yer:Stmt:=top 25
abbrev ycN:Stmt:=top 13
abbrev ydh:Stmt:=top 12
abbrev ydX:Stmt:=top 14
abbrev yeb:Stmt:=top 15
abbrev ycz:Stmt:=ybc (top 18) 15
abbrev ydt:Stmt:=ybc (top 18) 1
abbrev yes:Stmt:=top 28
abbrev yet:Stmt:=top 20
abbrev ydY:Stmt:=top 41
abbrev yec:Stmt:=top 42
abbrev yeu:Stmt:=top 38
abbrev yed:Stmt:=top 59
abbrev yev:Stmt:=top 37
abbrev ycO:Stmt:=top 35
abbrev ydG:Stmt:=top 40
abbrev ydH:Stmt:=top 39
abbrev yee:Stmt:=top 60
abbrev ydI:Stmt:=top 48
abbrev ydJ:Stmt:=top 49
abbrev yef:Stmt:=top 32
abbrev ydZ:Stmt:=top 22
abbrev yew:Stmt:=top 31
abbrev yeo:Stmt:=top 21
abbrev ydK:Stmt:=top 58
abbrev yd0:Stmt:=top 61
abbrev yd1:Stmt:=top 50
abbrev ycu:Stmt:=top 54
abbrev ydu:Stmt:=ybc (top 18) 6
abbrev yd2:Stmt:=top 51
abbrev ycA:Stmt:=top 53
abbrev ycv:Stmt:=top 55
abbrev yep:Stmt:=top 62
def flds:Nat->List Str
 | 0=>["pieces", "numbers", "sign_counts", "end_counts", "leaf_counts", "heights", "first_leaves", "last_leaves"]
 | _=>[]
theorem zju:∀ c,(flds c).Nodup
 | 0=>by decide +kernel
 | _+1=>List.nodup_nil
theorem zid:∀ c,(flds c).length<=500
 | 0=>by decide +kernel
 | _+1=>Nat.zero_le _
abbrev mkT (K:PySem.W.Frag) (cls exc:Nat->Option Addr):Tb:=⟨K,cls,exc,flds,zju,zid⟩
structure Facts (P:Program) (w:World) (K:PySem.W.Frag) (cls exc:Nat->Option Addr) (mg:Str->Option Value) (base:Heap):Prop where
 b_abs:mg "abs" = none
 b_all:mg "all" = none
 b_bool:mg "bool" = none
 b_enumerate:mg "enumerate" = none
 b_int:mg "int" = none
 b_isinstance:mg "isinstance" = none
 b_len:mg "len" = none
 b_max:mg "max" = none
 b_min:mg "min" = none
 b_range:mg "range" = none
 b_str:mg "str" = none
 b_sum:mg "sum" = none
 c_LEAF_SIGNS:∃ t,mg "LEAF_SIGNS" = some (.int 8 t)
 c_MOST_PLAIN:∃ t,mg "MOST_PLAIN" = some (.int 10000 t)
 c_MOST_SIGNS:∃ t,mg "MOST_SIGNS" = some (.int 1000000000000000000 t)
 cf_Shelf:CF (mkT K cls exc) 0
 x_NoText:GX (mkT K cls exc) mg base 1 "NoText"
 x_NoPiece:GX (mkT K cls exc) mg base 2 "NoPiece"
 x_Loose:GX (mkT K cls exc) mg base 3 "Loose"
 x_Unlevel:GX (mkT K cls exc) mg base 4 "Unlevel"
 x_TooLong:GX (mkT K cls exc) mg base 5 "TooLong"
 x_NoPlace:GX (mkT K cls exc) mg base 6 "NoPlace"
 d_Shelf_init:DI K cls mg 0 "Shelf" "Shelf.__init__" ydp ["self"]
 d_law_mixed:DG K mg "_law_mixed" ydB ["cell", "k"]
 d_law_stream:DG K mg "_law_stream" ycJ ["script", "k"]
 d_law_own:DG K mg "_law_own" yea ["cell", "k"]
 d_law_take:DG K mg "_law_take" ydV ["stream", "many"]
 d_law_length:DG K mg "_law_length" ycK ["blocks"]
 d_is_whole:DG K mg "is_whole" ydW ["thing"]
 d_Shelf_has_piece:DMm K cls 0 "has_piece" "Shelf.has_piece" ycn ["self", "number"]
 d_Shelf_check_piece:DMm K cls 0 "check_piece" "Shelf.check_piece" yb5 ["self", "number"]
 d_Shelf_check_text:DMm K cls 0 "check_text" "Shelf.check_text" ycd ["self", "text"]
 d_Shelf_height:DMm K cls 0 "height" "Shelf.height" ycT ["self", "text"]
 d_Shelf_many:DMm K cls 0 "many" "Shelf.many" ydq ["self"]
 d_law_filled:DG K mg "_law_filled" ycL ["blocks"]
 d_law_parted:DG K mg "_law_parted" ydr ["blocks", "at"]
 d_Shelf_signs:DMm K cls 0 "signs" "Shelf.signs" yc8 ["self", "text"]
 d_check_gap:DG K mg "check_gap" ydC ["shelf", "text", "at"]
 d_check_length:DG K mg "check_length" ycU ["signs"]
 d_Shelf_last_leaf:DMm K cls 0 "last_leaf" "Shelf.last_leaf" yco ["self", "text"]
 d_Shelf_first_leaf:DMm K cls 0 "first_leaf" "Shelf.first_leaf" yce ["self", "text"]
 d_are_close:DG K mg "are_close" ydD ["shelf", "one", "other"]
 d_Shelf_piece:DMm K cls 0 "piece" "Shelf.piece" yc9 ["self", "number"]
 d_Shelf_check_fork:DMm K cls 0 "check_fork" "Shelf.check_fork" ycf ["self", "one", "other"]
 d_Shelf_lay:DMm K cls 0 "lay" "Shelf.lay" ydE ["self", "made"]
 d_Shelf_lay_fork:DMm K cls 0 "lay_fork" "Shelf.lay_fork" ycy ["self", "made"]
 d_Shelf_fork:DMm K cls 0 "fork" "Shelf.fork" yds ["self", "one", "other"]
 d_with_last:DG K mg "with_last" ydF ["shelf", "text", "leaf"]
 d_turned_left:DG K mg "turned_left" yda ["shelf", "one", "other"]
 d_without_first:DG K mg "without_first" ycM ["shelf", "text"]
 d_turned_right:DG K mg "turned_right" ycV ["shelf", "one", "other"]
 d_linked:DG K mg "linked" yer ["shelf", "one", "other"]
 d_is_plain_sign:DG K mg "is_plain_sign" ycN ["sign"]
 d_is_plain:DG K mg "is_plain" ydh ["thing"]
 d_is_short:DG K mg "is_short" ydX ["thing"]
 d_ends_in:DG K mg "ends_in" yeb ["plain"]
 d_Shelf_lay_leaf:DMm K cls 0 "lay_leaf" "Shelf.lay_leaf" ycz ["self", "made"]
 d_Shelf_leaf:DMm K cls 0 "leaf" "Shelf.leaf" ydt ["self", "plain"]
 d_welded:DG K mg "welded" yes ["shelf", "one", "other"]
 d_joined:DG K mg "joined" yet ["shelf", "one", "other"]
 d_front_of:DG K mg "front_of" ydY ["shelf", "text", "at"]
 d_back_of:DG K mg "back_of" yec ["shelf", "text", "at"]
 d_put_in:DG K mg "put_in" yeu ["shelf", "text", "at", "other"]
 d_law_two:DG K mg "_law_two" yed ["shelf", "one", "other", "kind", "place"]
 d_cut_at:DG K mg "cut_at" yev ["shelf", "text", "at"]
 d_check_stretch:DG K mg "check_stretch" ycO ["shelf", "text", "begin", "end"]
 d_kept_part:DG K mg "kept_part" ydG ["shelf", "text", "begin", "end"]
 d_taken_out:DG K mg "taken_out" ydH ["shelf", "text", "begin", "end"]
 d_law_one:DG K mg "_law_one" yee ["shelf", "one", "kind", "place", "end"]
 d_law_signs:DG K mg "_law_signs" ydI ["kind"]
 d_law_plain:DG K mg "_law_plain" ydJ ["stream", "most"]
 d_doubled:DG K mg "doubled" yef ["shelf", "text", "many"]
 d_repeated:DG K mg "repeated" ydZ ["shelf", "text", "many"]
 d_halved:DG K mg "halved" yew ["shelf", "leaves"]
 d_built:DG K mg "built" yeo ["shelf", "plain"]
 d_law_fresh:DG K mg "_law_fresh" ydK ["shelf", "stream"]
 d_law_deed:DG K mg "_law_deed" yd0 ["shelf", "row", "stream"]
 d_law_look:DG K mg "_law_look" yd1 ["shelf", "number", "known"]
 d_law_spots:DG K mg "_law_spots" ycu ["blocks", "stream"]
 d_Shelf_ends:DMm K cls 0 "ends" "Shelf.ends" ydu ["self", "text"]
 d_law_sign:DG K mg "_law_sign" yd2 ["shelf", "text", "place", "known"]
 d_law_block_sign:DG K mg "_law_block_sign" ycA ["blocks", "place"]
 d_law_reads:DG K mg "_law_reads" ycv ["shelf", "text", "blocks", "stream"]
 d_law:DG K mg "law" yep ["script"]
theorem zd3:FnScope ["self"] ["self"] (yag ydp):=fsk
theorem zeD:FnScope ["cell", "k", "one"] ["cell", "k"] (yag ydB):=fsk
theorem zd4:FnScope ["script", "k", "cell", "j", "found"] ["script", "k"] (yag ycJ):=fsk
theorem zgl:FnScope ["cell", "k", "found", "j"] ["cell", "k"] (yag yea):=fsk
theorem zeY:FnScope ["stream", "many", "digit"] ["stream", "many"] (yag ydV):=fsk
theorem zd5:FnScope ["blocks"] ["blocks"] (yag ycK):=fsk
theorem zeZ:FnScope ["thing"] ["thing"] (yag ydW):=fsk
theorem zb6:FnScope ["self", "number"] ["self", "number"] (yag ycn):=fsk
theorem zbP:FnScope ["self", "number"] ["self", "number"] (yag yb5):=fsk
theorem zbT:FnScope ["self", "text"] ["self", "text"] (yag ycd):=fsk
theorem zc6:FnScope ["self", "text"] ["self", "text"] (yag ycT):=fsk
theorem zd6:FnScope ["self"] ["self"] (yag ydq):=fsk
theorem zd7:FnScope ["blocks"] ["blocks"] (yag ycL):=fsk
theorem zd8:FnScope ["blocks", "at", "ahead", "behind", "plain", "many", "size", "full", "rest"] ["blocks", "at"] (yag ydr):=fsk
theorem zdy:FnScope ["self", "text"] ["self", "text"] (yag yc8):=fsk
theorem zeE:FnScope ["shelf", "text", "at", "signs"] ["shelf", "text", "at"] (yag ydC):=fsk
theorem zc7:FnScope ["signs"] ["signs"] (yag ycU):=fsk
theorem zb7:FnScope ["self", "text"] ["self", "text"] (yag yco):=fsk
theorem zbU:FnScope ["self", "text"] ["self", "text"] (yag yce):=fsk
theorem zeF:FnScope ["shelf", "one", "other"] ["shelf", "one", "other"] (yag ydD):=fsk
theorem zdz:FnScope ["self", "number"] ["self", "number"] (yag yc9):=fsk
theorem zbV:FnScope ["self", "one", "other", "seam"] ["self", "one", "other"] (yag ycf):=fsk
theorem zeG:FnScope ["self", "made", "number"] ["self", "made"] (yag ydE):=fsk
theorem zcl:FnScope ["self", "made", "one", "other"] ["self", "made"] (yag ycy):=fsk
theorem zd9:FnScope ["self", "one", "other", "made"] ["self", "one", "other"] (yag yds):=fsk
theorem zb8:FnScope ["shelf", "text", "leaf", "piece"] ["shelf", "text", "leaf"] (yag ydF):=fsk
theorem zdA:FnScope ["shelf", "one", "other", "piece", "near", "far", "inner"] ["shelf", "one", "other"] (yag yda):=fsk
theorem zbj:FnScope ["shelf", "text", "piece", "rest"] ["shelf", "text"] (yag ycM):=fsk
theorem zc8:FnScope ["shelf", "one", "other", "piece", "far", "near", "inner"] ["shelf", "one", "other"] (yag ycV):=fsk
theorem zdY:FnScope ["shelf", "one", "other", "tilt", "piece"] ["shelf", "one", "other"] (yag yer):=fsk
theorem zcS:FnScope ["sign"] ["sign"] (yag ycN):=fsk
theorem ze0:FnScope ["thing"] ["thing"] (yag ydh):=fsk
theorem ze1:FnScope ["thing"] ["thing"] (yag ydX):=fsk
theorem zgm:FnScope ["plain"] ["plain"] (yag yeb):=fsk
theorem zcm:FnScope ["self", "made", "number", "plain"] ["self", "made"] (yag ycz):=fsk
theorem zea:FnScope ["self", "plain", "made"] ["self", "plain"] (yag ydt):=fsk
theorem zhc:FnScope ["shelf", "one", "other", "seam", "front", "back"] ["shelf", "one", "other"] (yag yes):=fsk
theorem zhd:FnScope ["shelf", "one", "other"] ["shelf", "one", "other"] (yag yet):=fsk
theorem zcw:FnScope ["shelf", "text", "at", "piece", "ahead"] ["shelf", "text", "at"] (yag ydY):=fsk
theorem zc9:FnScope ["shelf", "text", "at", "piece", "ahead"] ["shelf", "text", "at"] (yag yec):=fsk
theorem zhe:FnScope ["shelf", "text", "at", "other", "together", "front"] ["shelf", "text", "at", "other"] (yag yeu):=fsk
theorem zgn:FnScope ["shelf", "one", "other", "kind", "place", "text", "blocks", "more", "others", "ahead", "behind"] ["shelf", "one", "other", "kind", "place"] (yag yed):=fsk
theorem zhf:FnScope ["shelf", "text", "at"] ["shelf", "text", "at"] (yag yev):=fsk
theorem zcT:FnScope ["shelf", "text", "begin", "end", "signs"] ["shelf", "text", "begin", "end"] (yag ycO):=fsk
theorem zeH:FnScope ["shelf", "text", "begin", "end"] ["shelf", "text", "begin", "end"] (yag ydG):=fsk
theorem zeI:FnScope ["shelf", "text", "begin", "end"] ["shelf", "text", "begin", "end"] (yag ydH):=fsk
theorem zgo:FnScope ["shelf", "one", "kind", "place", "end", "text", "blocks", "ahead", "behind", "parts", "amid", "rest"] ["shelf", "one", "kind", "place", "end"] (yag yee):=fsk
theorem zeJ:FnScope ["kind", "many"] ["kind"] (yag ydI):=fsk
theorem zeK:FnScope ["stream", "most", "signs", "found", "k"] ["stream", "most"] (yag ydJ):=fsk
theorem zda:FnScope ["shelf", "text", "many", "half", "twice"] ["shelf", "text", "many"] (yag yef):=fsk
theorem ze2:FnScope ["shelf", "text", "many", "signs"] ["shelf", "text", "many"] (yag ydZ):=fsk
theorem zdZ:FnScope ["shelf", "leaves", "middle"] ["shelf", "leaves"] (yag yew):=fsk
theorem zie:FnScope ["shelf", "plain", "leaves"] ["shelf", "plain"] (yag yeo):=fsk
theorem zeL:FnScope ["shelf", "stream", "plain", "times"] ["shelf", "stream"] (yag ydK):=fsk
theorem ze3:FnScope ["shelf", "row", "stream", "kind", "one", "other", "length", "place", "end", "high", "many", "told"] ["shelf", "row", "stream"] (yag yd0):=fsk
theorem zcx:FnScope ["shelf", "number", "known", "piece", "found", "one", "other"] ["shelf", "number", "known"] (yag yd1):=fsk
theorem zeM:FnScope ["blocks", "stream", "length", "found", "seam", "plain", "many"] ["blocks", "stream"] (yag ycu):=fsk
theorem zeb:FnScope ["self", "text"] ["self", "text"] (yag ydu):=fsk
theorem ze4:FnScope ["shelf", "text", "place", "known", "piece", "ahead"] ["shelf", "text", "place", "known"] (yag yd2):=fsk
theorem zcn:FnScope ["blocks", "place", "plain", "many"] ["blocks", "place"] (yag ycA):=fsk
theorem zeN:FnScope ["shelf", "text", "blocks", "stream", "length", "known", "look", "spots"] ["shelf", "text", "blocks", "stream"] (yag ycv):=fsk
theorem yht:FnScope ["script", "shelf", "row", "made", "k", "cell", "stream", "pairs", "few", "text", "blocks"] ["script"] (yag yep):=fsk
section
variable {P:Program} {w:World} {K:PySem.W.Frag} {cls exc:Nat->Option Addr} {mg:Str->Option Value} {base:Heap} (Z:Facts P w K cls exc mg base)
include Z
theorem zeO:GK P w (mkT K cls exc) mg base 1 0 "Shelf" yca:=gk Z.d_Shelf_init zd3 fun hr C hu nd =>
 (zab (zaM rfl Z.cf_Shelf (yaa 0) (ybi yab))
  (zab (zaM rfl Z.cf_Shelf (yaa 0) ziO)
  (zab (zaM rfl Z.cf_Shelf (yaa 0) (ybi (zaa yac yab)))
  (zab (zaM rfl Z.cf_Shelf (yaa 0) (ybi (zaa yac yab)))
  (zab (zaM rfl Z.cf_Shelf (yaa 0) (ybi (zaa yac yab)))
  (zab (zaM rfl Z.cf_Shelf (yaa 0) (ybi (zaa (yf2 yac) yab)))
  (zab (zaM rfl Z.cf_Shelf (yaa 0) (ybi (zaa yac yab)))
  (yae (zaM rfl Z.cf_Shelf (yaa 0) (ybi (zaa yac yab)))))))))))
theorem zcy:GF P w (mkT K cls exc) mg base 1 "_law_mixed" ybR:=gf Z.d_law_mixed zeD fun hr C hu nd =>
 (zab (yak (i:=2) nd (yai ycX (yai ybg (yai (yaG rfl) (yai (yaG rfl) (yai ycX (yaa 0) yac) (yai ybg yac (yaa 1))) yac) yac) yac))
  (yae (yan (yai ycX (yai ybg (yai ycX (yai ybg (yaa 2) (yaa 2)) yac) yac) yac))))
theorem zeP:GF P w (mkT K cls exc) mg base 2 "_law_stream" ybH:=gf Z.d_law_stream zd4 fun {f cdv A outer s H E} hr C hu nd =>
 (zab (yak (i:=2) nd yac)
  (zab (ydc rfl (zdN (E:=EN) rfl Z.b_range (yaa 1) (r_bi (b_len rfl) rfl Z.b_len PySem.boot_len (zaa (yaa 0) yab)) yac) (zcg (i:=3) nd) (yae (yak (i:=2) nd (yai (yaG rfl) (yai ybg (yaa 2) (yai ybg (yai ycw yac yac) (yai ycw yac yac))) (yai ycX (r_ix rfl hu (yaa 0) (yaa 3)) (yai ybg (yai ycw yac yac) (yai ycw yac yac)))))))
  (zab (r_if (yap o_ge (yaa 2) (yai ycw yac yac) (yao _)) (yae (yan (ybi (zaa (yaa 2) yab)))) yaq)
  (zab (yak (i:=2) nd (yai (yaG rfl) (yaa 2) (r_bi (b_sum rfl) rfl Z.b_sum PyProof.Rows.boot_sum (zaa (ydN (jf:=[]) (zaE (N:=["script", "k", "cell", "j", "found"]) (sc:=yag ycJ) rfl (fun _=>rfl) (by decide +kernel)) rfl (ydM (E:=(fun _=>E)) rfl (yaa 0)) (fun _ _ _ _ _=>zaS) (fun _ _ _ _ _=>(yai ycX (yaa 0) (yai ycw yac yac)))) yab))))
  (zab (yak (i:=4) nd yac)
  (zab (ydc rfl (zbn (E:=EN) rfl Z.b_range yac) (zcg (i:=3) nd) (yae (yak (i:=4) nd (yai (yaG rfl) (yai ybg (yaa 4) yac) (yah rfl (C.nox) (zcy Z) hr.m rfl (zaa (yai (yaG rfl) (yai (yaG rfl) (yaa 2) (yai ybg yac (yaa 1))) (r_bi (b_len rfl) rfl Z.b_len PySem.boot_len (zaa (yaa 0) yab))) (zaa (yaa 3) yab)))))))
  (yae (yan (ybi (zaa (yaa 4) yab))))))))))
theorem zhg:GF P w (mkT K cls exc) mg base 2 "_law_own" yc6:=gf Z.d_law_own zgl fun hr C hu nd =>
 (zab (yak (i:=0) nd (yai ycX (yaa 0) (yai ybg (yai ycw yac yac) (yai ycw yac yac))))
  (zab (r_if (yap o_ge (yaa 0) (yai ycw yac yac) (yao _)) (yae (yan (ybi (zaa (yaa 0) yab)))) yaq)
  (zab (yak (i:=2) nd yac)
  (zab (ydc rfl (zbn (E:=EN) rfl Z.b_range yac) (zcg (i:=3) nd) (yae (yak (i:=2) nd (yai (yaG rfl) (yai ybg (yaa 2) yac) (yah rfl (C.nox) (zcy Z) hr.m rfl (zaa (yai (yaG rfl) (yaa 0) (yai ybg yac (yaa 1))) (zaa (yaa 3) yab)))))))
  (yae (yan (ybi (zaa (yaa 2) yab))))))))
theorem zav:GF P w (mkT K cls exc) mg base 1 "_law_take" yar:=gf Z.d_law_take zeY fun hr C hu nd =>
 (zab (yak (i:=2) nd (yai ycX (r_ix rfl hu (yaa 0) yac) (yaa 1)))
  (zab (zdn hu (yaa 0) yac (yai yeV (r_ix rfl hu (yaa 0) yac) (yaa 1)))
  (yae (yan (yaa 2)))))
theorem zaZ:GF P w (mkT K cls exc) mg base 1 "_law_length" ya5:=gf Z.d_law_length zd5 fun {f cdv A outer s H E} hr C hu nd =>
 (yae (yan (r_bi (b_sum rfl) rfl Z.b_sum PyProof.Rows.boot_sum (zaa (zdp rfl (jf:=[]) (zbF (N:=["blocks"]) (sc:=yag ycK) rfl (fun _=>rfl) (by decide +kernel)) rfl (za1 (E:=(fun _=>E)) rfl (yaa 0)) (fun _ _ _ _ _=>zaS) (fun _ _ _ _ _=>(yai ybg (r_bi (b_len rfl) rfl Z.b_len PySem.boot_len (zaa (yaa 0) yab)) (yaa 1)))) yab))))
theorem zgp:GF P w (mkT K cls exc) mg base 1 "is_whole" yde:=gf Z.d_is_whole zeZ fun hr C hu nd =>
 (yae (yan (yeW (yeY rfl rfl Z.b_isinstance (yaa 0) rfl Z.b_int ygP (by decide)) (yeF (yhW (yeY rfl rfl Z.b_isinstance (yaa 0) rfl Z.b_bool ziJ (by decide)))))))
theorem zco:GM P w (mkT K cls exc) mg base 2 0 "has_piece" ybT:=gm Z.d_Shelf_has_piece zb6 (show ("has_piece" : Str)∉flds 0 by decide +kernel) fun hr C hu nd =>
 (yae (yan (yeW (yah rfl C (zgp Z) hr.m rfl (zaa (yaa 1) yab)) (yeF (zdi o_le o_le yac (yaa 1) (r_bi (b_len rfl) rfl Z.b_len PySem.boot_len (zaa (yaH rfl Z.cf_Shelf (yaa 0)) yab)))))))
theorem zaC:GM P w (mkT K cls exc) mg base 3 0 "check_piece" ya1:=gm Z.d_Shelf_check_piece zbP (show ("check_piece" : Str)∉flds 0 by decide +kernel) fun hr C hu nd =>
 (yae (r_if (yc4 (zaL rfl (yal rfl C (zco Z) hr.m (yaa 0) (zaa (yaa 1) yab)))) (yae (zaG Z.x_NoPiece zaF rfl (zaa yaN yab))) yaq))
theorem zaB:GM P w (mkT K cls exc) mg base 4 0 "check_text" yaP:=gm Z.d_Shelf_check_text zbT (show ("check_text" : Str)∉flds 0 by decide +kernel) fun hr C hu nd =>
 (yae (r_if (yap (o_ne rfl hu) (yaa 1) yac (yao _)) (yae (yaF (yal rfl C (zaC Z) hr.m (yaa 0) (zaa (yaa 1) yab)))) yaq))
theorem zap:GM P w (mkT K cls exc) mg base 5 0 "height" yaA:=gm Z.d_Shelf_height zc6 (show ("height" : Str)∉flds 0 by decide +kernel) fun hr C hu nd =>
 (zab (yaF (yal rfl C (zaB Z) hr.m (yaa 0) (zaa (yaa 1) yab)))
  (yae (yan (r_ix rfl hu (yaH rfl Z.cf_Shelf (yaa 0)) (yaa 1)))))
theorem zb9:GM P w (mkT K cls exc) mg base 1 0 "many" ybI:=gm Z.d_Shelf_many zd6 (show ("many" : Str)∉flds 0 by decide +kernel) fun hr C hu nd =>
 (yae (yan (r_bi (b_len rfl) rfl Z.b_len PySem.boot_len (zaa (yaH rfl Z.cf_Shelf (yaa 0)) yab))))
theorem zca:GF P w (mkT K cls exc) mg base 1 "_law_filled" ybV:=gf Z.d_law_filled zd7 fun {f cdv A outer s H E} hr C hu nd =>
 (yae (yan (ydN (jf:=[]) (zaE (N:=["blocks"]) (sc:=yag ycL) rfl (fun _=>rfl) (by decide +kernel)) rfl (ydM (E:=(fun _=>E)) rfl (yaa 0)) (fun _ _ _ _ _=>zdk (yap o_gt (yai ybg (r_bi (b_len rfl) rfl Z.b_len PySem.boot_len (zaa (r_ix rfl hu (yaa 0) yac) yab)) (r_ix rfl hu (yaa 0) yac)) yac (yao _))) (fun _ _ _ _ _=>(yaa 0)))))
theorem zbk:GF P w (mkT K cls exc) mg base 2 "_law_parted" ya6:=gf Z.d_law_parted zd8 fun hr C hu nd =>
 (zab (yak (i:=2) nd (ybi yab))
  (zab (yak (i:=3) nd (ybi yab))
  (zab (ydc rfl (za1 (E:=EN) rfl (yaa 0)) (yb2 rfl rfl (zaj (i:=4) nd (zaj (i:=5) nd zaD))) (zab (yak (i:=6) nd (yai ybg (r_bi (b_len rfl) rfl Z.b_len PySem.boot_len (zaa (yaa 4) yab)) (yaa 5)))
  (zab (yak (i:=7) nd (r_bi (yfH) rfl Z.b_min PyProof.Rows.boot_min (zaa (yaa 5) (zaa (yai yeV (r_bi (yd8) rfl Z.b_max PyProof.Rows.boot_max (zaa yac (zaa (yaa 1) yab))) (r_bi (b_len rfl) rfl Z.b_len PySem.boot_len (zaa (yaa 4) yab))) yab))))
  (zab (yak (i:=8) nd (r_bi (yfH) rfl Z.b_min PyProof.Rows.boot_min (zaa (r_bi (b_len rfl) rfl Z.b_len PySem.boot_len (zaa (yaa 4) yab)) (zaa (r_bi (yd8) rfl Z.b_max PyProof.Rows.boot_max (zaa yac (zaa (yai ybq (yaa 1) (yai ybg (yaa 7) (r_bi (b_len rfl) rfl Z.b_len PySem.boot_len (zaa (yaa 4) yab)))) yab))) yab))))
  (zab (r_if (yap (o_eq rfl hu) (yaa 7) (yaa 5) (yao _)) (yae (yak (i:=8) nd yac)) yaq)
  (zab (yaF (r_bm rfl PySem.F.plainAttrs_list PySem.F.slot_list_extend PySem.F.type_list_extend (yeI) zau (yaa 2) (zaa (ybi (zaa (yba (zaa (yaa 4) (zaa (yaa 7) yab))) (zaa (yba (zaa (zaP rfl (yaa 4) zaT (zaK (yaa 8))) (zaa yac yab))) yab))) yab)))
  (zab (r_if (yap o_lt (yaa 7) (yaa 5) (yao _)) (yae (yaF (r_bm rfl PySem.F.plainAttrs_list PySem.F.slot_list_extend PySem.F.type_list_extend (yeI) zau (yaa 3) (zaa (ybi (zaa (yba (zaa (zaP rfl (yaa 4) (zaK (yaa 8)) zaT) (zaa yac yab))) (zaa (yba (zaa (yaa 4) (zaa (yai ybq (yai ybq (yaa 5) (yaa 7)) yac) yab))) yab))) yab)))) yaq)
  (yae (yak (i:=1) nd (yai ybq (yaa 1) (yaa 6)))))))))))
  (yae (yan (yba (zaa (yah rfl C (zca Z) hr.m rfl (zaa (yaa 2) yab)) (zaa (yah rfl C (zca Z) hr.m rfl (zaa (yaa 3) yab)) yab))))))))
theorem zal:GM P w (mkT K cls exc) mg base 5 0 "signs" yaz:=gm Z.d_Shelf_signs zdy (show ("signs" : Str)∉flds 0 by decide +kernel) fun hr C hu nd =>
 (zab (yaF (yal rfl C (zaB Z) hr.m (yaa 0) (zaa (yaa 1) yab)))
  (yae (yan (r_ix rfl hu (yaH rfl Z.cf_Shelf (yaa 0)) (yaa 1)))))
theorem zcz:GF P w (mkT K cls exc) mg base 6 "check_gap" ycp:=gf Z.d_check_gap zeE fun hr C hu nd =>
 (zab (yak (i:=3) nd (yal rfl C (zal Z) hr.m (yaa 0) (zaa (yaa 1) yab)))
  (yae (r_if (yc4 (zbf o_le o_le yac (yaa 2) (yaa 3))) (yae (zaG Z.x_NoPlace zaF rfl (zaa yaN yab))) yaq)))
theorem za5:GF P w (mkT K cls exc) mg base 1 "check_length" ybD:=gf Z.d_check_length zc7 fun hr C hu nd =>
 (yae (r_if (yap o_gt (yaa 0) (r_gI rfl Z.c_MOST_SIGNS) (yao _)) (yae (zaG Z.x_TooLong zaF rfl (zaa yaN yab))) yaq))
theorem zba:GM P w (mkT K cls exc) mg base 5 0 "last_leaf" ybw:=gm Z.d_Shelf_last_leaf zb7 (show ("last_leaf" : Str)∉flds 0 by decide +kernel) fun hr C hu nd =>
 (zab (yaF (yal rfl C (zaB Z) hr.m (yaa 0) (zaa (yaa 1) yab)))
  (yae (yan (r_ix rfl hu (yaH rfl Z.cf_Shelf (yaa 0)) (yaa 1)))))
theorem za9:GM P w (mkT K cls exc) mg base 5 0 "first_leaf" ybo:=gm Z.d_Shelf_first_leaf zbU (show ("first_leaf" : Str)∉flds 0 by decide +kernel) fun hr C hu nd =>
 (zab (yaF (yal rfl C (zaB Z) hr.m (yaa 0) (zaa (yaa 1) yab)))
  (yae (yan (r_ix rfl hu (yaH rfl Z.cf_Shelf (yaa 0)) (yaa 1)))))
theorem ze5:GF P w (mkT K cls exc) mg base 6 "are_close" ycY:=gf Z.d_are_close zeF fun hr C hu nd =>
 (yae (yan (yej o_gt (yai (yaG rfl) (yal rfl C (zal Z) hr.m (yaa 0) (zaa (yal rfl C (zba Z) hr.m (yaa 0) (zaa (yaa 1) yab)) yab)) (yal rfl C (zal Z) hr.m (yaa 0) (zaa (yal rfl C (za9 Z) hr.m (yaa 0) (zaa (yaa 2) yab)) yab))) (r_gI rfl Z.c_LEAF_SIGNS) (yao _))))
theorem zai:GM P w (mkT K cls exc) mg base 4 0 "piece" yax:=gm Z.d_Shelf_piece zdz (show ("piece" : Str)∉flds 0 by decide +kernel) fun hr C hu nd =>
 (zab (yaF (yal rfl C (zaC Z) hr.m (yaa 0) (zaa (yaa 1) yab)))
  (yae (yan (r_ix rfl hu (yaH rfl Z.cf_Shelf (yaa 0)) (yai ybq (yaa 1) yac)))))
theorem zcb:GM P w (mkT K cls exc) mg base 4 0 "check_fork" yaW:=gm Z.d_Shelf_check_fork zbV (show ("check_fork" : Str)∉flds 0 by decide +kernel) fun hr C hu nd =>
 (zab (yaF (yal rfl C (zaC Z) hr.m (yaa 0) (zaa (yaa 1) yab)))
  (zab (yaF (yal rfl C (zaC Z) hr.m (yaa 0) (zaa (yaa 2) yab)))
  (zab (yak (i:=3) nd (yai (yaG rfl) (r_ix rfl hu (yaH rfl Z.cf_Shelf (yaa 0)) (r_ix rfl hu (yaH rfl Z.cf_Shelf (yaa 0)) (yaa 1))) (r_ix rfl hu (yaH rfl Z.cf_Shelf (yaa 0)) (r_ix rfl hu (yaH rfl Z.cf_Shelf (yaa 0)) (yaa 2)))))
  (zab (r_if (yap o_le (yaa 3) (r_gI rfl Z.c_LEAF_SIGNS) (yao _)) (yae (zaG Z.x_Loose zaF rfl (zaa yaN yab))) yaq)
  (zab (r_if (yap o_gt (r_bi (b_abs) rfl Z.b_abs PyProof.Rows.boot_abs (zaa (yai ybq (r_ix rfl hu (yaH rfl Z.cf_Shelf (yaa 0)) (yaa 1)) (r_ix rfl hu (yaH rfl Z.cf_Shelf (yaa 0)) (yaa 2))) yab)) yac (yao _)) (yae (zaG Z.x_Unlevel zaF rfl (zaa yaN yab))) yaq)
  (yae (r_if (yap o_gt (yai (yaG rfl) (r_ix rfl hu (yaH rfl Z.cf_Shelf (yaa 0)) (yaa 1)) (r_ix rfl hu (yaH rfl Z.cf_Shelf (yaa 0)) (yaa 2))) (r_gI rfl Z.c_MOST_SIGNS) (yao _)) (yae (zaG Z.x_TooLong zaF rfl (zaa yaN yab))) yaq)))))))
theorem zcA:GM P w (mkT K cls exc) mg base 1 0 "lay" ycq:=gm Z.d_Shelf_lay zeG (show ("lay" : Str)∉flds 0 by decide +kernel) fun hr C hu nd =>
 (zab (yaF (r_bm rfl PySem.F.plainAttrs_list PySem.F.slot_list_append PySem.F.type_list_append (zaz) zau (yaH rfl Z.cf_Shelf (yaa 0)) (zaa (yaa 1) yab)))
  (zab (yak (i:=2) nd (r_bi (b_len rfl) rfl Z.b_len PySem.boot_len (zaa (yaH rfl Z.cf_Shelf (yaa 0)) yab)))
  (zab (zdn hu (yaH rfl Z.cf_Shelf (yaa 0)) (yaa 1) (yaa 2))
  (yae (yan (yaa 2))))))
theorem zcU:GM P w (mkT K cls exc) mg base 2 0 "lay_fork" ybJ:=gm Z.d_Shelf_lay_fork zcl (show ("lay_fork" : Str)∉flds 0 by decide +kernel) fun hr C hu nd =>
 (zab (yaF (yal rfl C (zcA Z) hr.m (yaa 0) (zaa (yaa 1) yab)))
  (zab (yak (i:=2) nd (r_ix rfl hu (yaa 1) yac))
  (zab (yak (i:=3) nd (r_ix rfl hu (yaa 1) yac))
  (zab (yaF (r_bm rfl PySem.F.plainAttrs_list PySem.F.slot_list_append PySem.F.type_list_append (zaz) zau (yaH rfl Z.cf_Shelf (yaa 0)) (zaa (yai (yaG rfl) (r_ix rfl hu (yaH rfl Z.cf_Shelf (yaa 0)) (yaa 2)) (r_ix rfl hu (yaH rfl Z.cf_Shelf (yaa 0)) (yaa 3))) yab)))
  (zab (yaF (r_bm rfl PySem.F.plainAttrs_list PySem.F.slot_list_append PySem.F.type_list_append (zaz) zau (yaH rfl Z.cf_Shelf (yaa 0)) (zaa (yai (yaG rfl) (r_ix rfl hu (yaH rfl Z.cf_Shelf (yaa 0)) (yaa 2)) (r_ix rfl hu (yaH rfl Z.cf_Shelf (yaa 0)) (yaa 3))) yab)))
  (zab (yaF (r_bm rfl PySem.F.plainAttrs_list PySem.F.slot_list_append PySem.F.type_list_append (zaz) zau (yaH rfl Z.cf_Shelf (yaa 0)) (zaa (yai (yaG rfl) (r_ix rfl hu (yaH rfl Z.cf_Shelf (yaa 0)) (yaa 2)) (r_ix rfl hu (yaH rfl Z.cf_Shelf (yaa 0)) (yaa 3))) yab)))
  (zab (yaF (r_bm rfl PySem.F.plainAttrs_list PySem.F.slot_list_append PySem.F.type_list_append (zaz) zau (yaH rfl Z.cf_Shelf (yaa 0)) (zaa (yai (yaG rfl) (r_bi (yd8) rfl Z.b_max PyProof.Rows.boot_max (zaa (r_ix rfl hu (yaH rfl Z.cf_Shelf (yaa 0)) (yaa 2)) (zaa (r_ix rfl hu (yaH rfl Z.cf_Shelf (yaa 0)) (yaa 3)) yab))) yac) yab)))
  (zab (yaF (r_bm rfl PySem.F.plainAttrs_list PySem.F.slot_list_append PySem.F.type_list_append (zaz) zau (yaH rfl Z.cf_Shelf (yaa 0)) (zaa (r_ix rfl hu (yaH rfl Z.cf_Shelf (yaa 0)) (yaa 2)) yab)))
  (yae (yaF (r_bm rfl PySem.F.plainAttrs_list PySem.F.slot_list_append PySem.F.type_list_append (zaz) zau (yaH rfl Z.cf_Shelf (yaa 0)) (zaa (r_ix rfl hu (yaH rfl Z.cf_Shelf (yaa 0)) (yaa 3)) yab))))))))))))
theorem zam:GM P w (mkT K cls exc) mg base 5 0 "fork" yaf:=gm Z.d_Shelf_fork zd9 (show ("fork" : Str)∉flds 0 by decide +kernel) fun hr C hu nd =>
 (zab (yaF (yal rfl C (zcb Z) hr.m (yaa 0) (zaa (yaa 1) (zaa (yaa 2) yab))))
  (zab (yak (i:=3) nd (yba (zaa yaN (zaa (yaa 1) (zaa (yaa 2) yab)))))
  (zab (r_if (yap (zfy rfl hu) (yaa 3) (yaH rfl Z.cf_Shelf (yaa 0)) rfl) (yae (yaF (yal rfl C (zcU Z) hr.m (yaa 0) (zaa (yaa 3) yab)))) yaq)
  (yae (yan (r_ix rfl hu (yaH rfl Z.cf_Shelf (yaa 0)) (yaa 3)))))))
theorem zcB:∀ d,GF P w (mkT K cls exc) mg base (5+d+1) "with_last" (ya8 d)
 | 0=>gf Z.d_with_last zb8 fun _ _ _ _=>yc5
 | d+1=>gf Z.d_with_last zb8 fun hr C hu nd =>
  (zab (yak (i:=3) nd (yal rfl C (zai Z) (hr.mono (show 4<=5+(d+1) by lia)) (yaa 0) (zaa (yaa 1) yab)))
  (zab (r_if (yap (o_eq rfl hu) (r_ix rfl hu (yaa 3) yac) yaN (yao _)) (yae (yan (yaa 2))) yaq)
  (yae (yan (yal rfl C (zam Z) (hr.mono (show 5<=5+(d+1) by lia)) (yaa 0) (zaa (r_ix rfl hu (yaa 3) yac) (zaa (yah rfl C (zcB d) (hr.mono (by lia)) rfl (zaa (yaa 0) (zaa (r_ix rfl hu (yaa 3) yac) (zaa (yaa 2) yab)))) yab)))))))
theorem zbS:GF P w (mkT K cls exc) mg base 6 "turned_left" yaO:=gf Z.d_turned_left zdA fun hr C hu nd =>
 (zab (r_if (yap o_lt (yai ybq (yal rfl C (zap Z) hr.m (yaa 0) (zaa (yaa 2) yab)) (yal rfl C (zap Z) hr.m (yaa 0) (zaa (yaa 1) yab))) yac (yao _)) (yae (yan (yal rfl C (zam Z) hr.m (yaa 0) (zaa (yaa 1) (zaa (yaa 2) yab))))) yaq)
  (zab (yak (i:=3) nd (yal rfl C (zai Z) hr.m (yaa 0) (zaa (yaa 2) yab)))
  (zab (yak (i:=4) nd (r_ix rfl hu (yaa 3) yac))
  (zab (yak (i:=5) nd (r_ix rfl hu (yaa 3) yac))
  (zab (r_if (yap o_le (yal rfl C (zap Z) hr.m (yaa 0) (zaa (yaa 4) yab)) (yal rfl C (zap Z) hr.m (yaa 0) (zaa (yaa 5) yab)) (yao _)) (yae (yan (yal rfl C (zam Z) hr.m (yaa 0) (zaa (yal rfl C (zam Z) hr.m (yaa 0) (zaa (yaa 1) (zaa (yaa 4) yab))) (zaa (yaa 5) yab))))) yaq)
  (zab (yak (i:=6) nd (yal rfl C (zai Z) hr.m (yaa 0) (zaa (yaa 4) yab)))
  (yae (yan (yal rfl C (zam Z) hr.m (yaa 0) (zaa (yal rfl C (zam Z) hr.m (yaa 0) (zaa (yaa 1) (zaa (r_ix rfl hu (yaa 6) yac) yab))) (zaa (yal rfl C (zam Z) hr.m (yaa 0) (zaa (r_ix rfl hu (yaa 6) yac) (zaa (yaa 5) yab))) yab)))))))))))
theorem zbs:∀ d,GF P w (mkT K cls exc) mg base (6+d+1) "without_first" (yaB d)
 | 0=>gf Z.d_without_first zbj fun _ _ _ _=>yc5
 | d+1=>gf Z.d_without_first zbj fun hr C hu nd =>
  (zab (yak (i:=2) nd (yal rfl C (zai Z) (hr.mono (show 4<=6+(d+1) by lia)) (yaa 0) (zaa (yaa 1) yab)))
  (zab (r_if (yap (o_eq rfl hu) (r_ix rfl hu (yaa 2) yac) yaN (yao _)) (yae (yan yac)) yaq)
  (zab (yak (i:=3) nd (yah rfl C (zbs d) (hr.mono (by lia)) rfl (zaa (yaa 0) (zaa (r_ix rfl hu (yaa 2) yac) yab))))
  (zab (r_if (yap (o_eq rfl hu) (yaa 3) yac (yao _)) (yae (yan (r_ix rfl hu (yaa 2) yac))) yaq)
  (yae (yan (yah rfl C (zbS Z) (hr.mono (show 6<=6+(d+1) by lia)) rfl (zaa (yaa 0) (zaa (yaa 3) (zaa (r_ix rfl hu (yaa 2) yac) yab))))))))))
theorem zdB:GF P w (mkT K cls exc) mg base 6 "turned_right" yaT:=gf Z.d_turned_right zc8 fun hr C hu nd =>
 (zab (r_if (yap o_lt (yai ybq (yal rfl C (zap Z) hr.m (yaa 0) (zaa (yaa 1) yab)) (yal rfl C (zap Z) hr.m (yaa 0) (zaa (yaa 2) yab))) yac (yao _)) (yae (yan (yal rfl C (zam Z) hr.m (yaa 0) (zaa (yaa 1) (zaa (yaa 2) yab))))) yaq)
  (zab (yak (i:=3) nd (yal rfl C (zai Z) hr.m (yaa 0) (zaa (yaa 1) yab)))
  (zab (yak (i:=4) nd (r_ix rfl hu (yaa 3) yac))
  (zab (yak (i:=5) nd (r_ix rfl hu (yaa 3) yac))
  (zab (r_if (yap o_le (yal rfl C (zap Z) hr.m (yaa 0) (zaa (yaa 5) yab)) (yal rfl C (zap Z) hr.m (yaa 0) (zaa (yaa 4) yab)) (yao _)) (yae (yan (yal rfl C (zam Z) hr.m (yaa 0) (zaa (yaa 4) (zaa (yal rfl C (zam Z) hr.m (yaa 0) (zaa (yaa 5) (zaa (yaa 2) yab))) yab))))) yaq)
  (zab (yak (i:=6) nd (yal rfl C (zai Z) hr.m (yaa 0) (zaa (yaa 5) yab)))
  (yae (yan (yal rfl C (zam Z) hr.m (yaa 0) (zaa (yal rfl C (zam Z) hr.m (yaa 0) (zaa (yaa 4) (zaa (r_ix rfl hu (yaa 6) yac) yab))) (zaa (yal rfl C (zam Z) hr.m (yaa 0) (zaa (r_ix rfl hu (yaa 6) yac) (zaa (yaa 2) yab))) yab)))))))))))
theorem zbQ:∀ d,GF P w (mkT K cls exc) mg base (6+d+1) "linked" (ya7 d)
 | 0=>gf Z.d_linked zdY fun _ _ _ _=>yc5
 | d+1=>gf Z.d_linked zdY fun hr C hu nd =>
  (zab (yak (i:=3) nd (yai ybq (yal rfl C (zap Z) (hr.mono (show 5<=6+(d+1) by lia)) (yaa 0) (zaa (yaa 1) yab)) (yal rfl C (zap Z) (hr.mono (show 5<=6+(d+1) by lia)) (yaa 0) (zaa (yaa 2) yab))))
  (zab (r_if (yap o_gt (yaa 3) yac (yao _)) (zab (yak (i:=4) nd (yal rfl C (zai Z) (hr.mono (show 4<=6+(d+1) by lia)) (yaa 0) (zaa (yaa 1) yab)))
  (yae (yan (yah rfl C (zbS Z) (hr.mono (show 6<=6+(d+1) by lia)) rfl (zaa (yaa 0) (zaa (r_ix rfl hu (yaa 4) yac) (zaa (yah rfl C (zbQ d) (hr.mono (by lia)) rfl (zaa (yaa 0) (zaa (r_ix rfl hu (yaa 4) yac) (zaa (yaa 2) yab)))) yab))))))) yaq)
  (zab (r_if (yap o_lt (yaa 3) (yf2 yac) (yao _)) (zab (yak (i:=4) nd (yal rfl C (zai Z) (hr.mono (show 4<=6+(d+1) by lia)) (yaa 0) (zaa (yaa 2) yab)))
  (yae (yan (yah rfl C (zdB Z) (hr.mono (show 6<=6+(d+1) by lia)) rfl (zaa (yaa 0) (zaa (yah rfl C (zbQ d) (hr.mono (by lia)) rfl (zaa (yaa 0) (zaa (yaa 1) (zaa (r_ix rfl hu (yaa 4) yac) yab)))) (zaa (r_ix rfl hu (yaa 4) yac) yab))))))) yaq)
  (yae (yan (yal rfl C (zam Z) (hr.mono (show 5<=6+(d+1) by lia)) (yaa 0) (zaa (yaa 1) (zaa (yaa 2) yab))))))))
theorem zdb:GF P w (mkT K cls exc) mg base 1 "is_plain_sign" ybO:=gf Z.d_is_plain_sign zcS fun hr C hu nd =>
 (yae (yan (r_or (yej (o_eq rfl hu) (yaa 0) yaN (yao _)) (yeF (zdi o_le o_le yaN (yaa 0) yaN)))))
theorem zdc:GF P w (mkT K cls exc) mg base 2 "is_plain" ycD:=gf Z.d_is_plain ze0 fun {f cdv A outer s H E} hr C hu nd =>
 (zab (r_if (yc4 (zaL rfl (yeY rfl rfl Z.b_isinstance (yaa 0) rfl Z.b_str yfw (by decide)))) (yae (yan r_bl)) yaq)
  (yae (yan (r_bi (b_all rfl) rfl Z.b_all PyProof.Rows.boot_all (zaa (ydN (jf:=[]) (zaE (N:=["thing"]) (sc:=yag ydh) rfl (fun _=>rfl) (by decide +kernel)) rfl (ydM (E:=(fun _=>E)) rfl (yaa 0)) (fun _ _ _ _ _=>zaS) (fun _ _ _ _ _=>(yah rfl (CA.never rfl) (zdb Z) hr.m rfl (zaa (yaa 0) yab)))) yab)))))
theorem zgq:GF P w (mkT K cls exc) mg base 3 "is_short" ydf:=gf Z.d_is_short ze1 fun hr C hu nd =>
 (yae (yan (yeW (yah rfl C (zdc Z) hr.m rfl (zaa (yaa 0) yab)) (yeF (zdi o_le o_le yac (r_bi (b_len rfl) rfl Z.b_len PySem.boot_len (zaa (yaa 0) yab)) (r_gI rfl Z.c_LEAF_SIGNS))))))
theorem zhh:GF P w (mkT K cls exc) mg base 1 "ends_in" ydx:=gf Z.d_ends_in zgm fun hr C hu nd =>
 (yae (yan (r_bm rfl PySem.F.plainAttrs_str PySem.F.slot_str_count PySem.F.type_str_count (zeq) zfz (yaa 0) (zaa yaN yab))))
theorem zcV:GM P w (mkT K cls exc) mg base 2 0 "lay_leaf" ybK:=gm Z.d_Shelf_lay_leaf zcm (show ("lay_leaf" : Str)∉flds 0 by decide +kernel) fun hr C hu nd =>
 (zab (yak (i:=2) nd (yal rfl C (zcA Z) hr.m (yaa 0) (zaa (yaa 1) yab)))
  (zab (yak (i:=3) nd (r_ix rfl hu (yaa 1) yac))
  (zab (yaF (r_bm rfl PySem.F.plainAttrs_list PySem.F.slot_list_append PySem.F.type_list_append (zaz) zau (yaH rfl Z.cf_Shelf (yaa 0)) (zaa (r_bi (b_len rfl) rfl Z.b_len PySem.boot_len (zaa (yaa 3) yab)) yab)))
  (zab (yaF (r_bm rfl PySem.F.plainAttrs_list PySem.F.slot_list_append PySem.F.type_list_append (zaz) zau (yaH rfl Z.cf_Shelf (yaa 0)) (zaa (yah rfl C (zhh Z) hr.m rfl (zaa (yaa 3) yab)) yab)))
  (zab (yaF (r_bm rfl PySem.F.plainAttrs_list PySem.F.slot_list_append PySem.F.type_list_append (zaz) zau (yaH rfl Z.cf_Shelf (yaa 0)) (zaa yac yab)))
  (zab (yaF (r_bm rfl PySem.F.plainAttrs_list PySem.F.slot_list_append PySem.F.type_list_append (zaz) zau (yaH rfl Z.cf_Shelf (yaa 0)) (zaa yac yab)))
  (zab (yaF (r_bm rfl PySem.F.plainAttrs_list PySem.F.slot_list_append PySem.F.type_list_append (zaz) zau (yaH rfl Z.cf_Shelf (yaa 0)) (zaa (yaa 2) yab)))
  (yae (yaF (r_bm rfl PySem.F.plainAttrs_list PySem.F.slot_list_append PySem.F.type_list_append (zaz) zau (yaH rfl Z.cf_Shelf (yaa 0)) (zaa (yaa 2) yab)))))))))))
theorem za0:GM P w (mkT K cls exc) mg base 4 0 "leaf" yaD:=gm Z.d_Shelf_leaf zea (show ("leaf" : Str)∉flds 0 by decide +kernel) fun hr C hu nd =>
 (zab (r_if (yc4 (zaL rfl (yah rfl C (zgq Z) hr.m rfl (zaa (yaa 1) yab)))) (yae (zaG Z.x_NoText zaF rfl (zaa yaN yab))) yaq)
  (zab (yak (i:=2) nd (yba (zaa yaN (zaa (yaa 1) yab))))
  (zab (r_if (yap (zfy rfl hu) (yaa 2) (yaH rfl Z.cf_Shelf (yaa 0)) rfl) (yae (yaF (yal rfl C (zcV Z) hr.m (yaa 0) (zaa (yaa 2) yab)))) yaq)
  (yae (yan (r_ix rfl hu (yaH rfl Z.cf_Shelf (yaa 0)) (yaa 2)))))))
theorem zif:GF P w (mkT K cls exc) mg base 98 "welded" ycb:=gf Z.d_welded zhc fun hr C hu nd =>
 (zab (yak (i:=3) nd (yai (yaG rfl) (r_ix rfl hu (yal rfl C (zai Z) hr.m (yaa 0) (zaa (yal rfl C (zba Z) hr.m (yaa 0) (zaa (yaa 1) yab)) yab)) yac) (r_ix rfl hu (yal rfl C (zai Z) hr.m (yaa 0) (zaa (yal rfl C (za9 Z) hr.m (yaa 0) (zaa (yaa 2) yab)) yab)) yac)))
  (zab (yak (i:=4) nd (yah rfl C (zcB Z 90) hr.m rfl (zaa (yaa 0) (zaa (yaa 1) (zaa (yal rfl C (za0 Z) hr.m (yaa 0) (zaa (yaa 3) yab)) yab)))))
  (zab (yak (i:=5) nd (yah rfl C (zbs Z 90) hr.m rfl (zaa (yaa 0) (zaa (yaa 2) yab))))
  (zab (r_if (yap (o_eq rfl hu) (yaa 5) yac (yao _)) (yae (yan (yaa 4))) yaq)
  (yae (yan (yah rfl C (zbQ Z 90) hr.m rfl (zaa (yaa 0) (zaa (yaa 4) (zaa (yaa 5) yab))))))))))
theorem zaN:GF P w (mkT K cls exc) mg base 99 "joined" yav:=gf Z.d_joined zhd fun hr C hu nd =>
 (zab (yaF (yah rfl C (za5 Z) hr.m rfl (zaa (yai (yaG rfl) (yal rfl C (zal Z) hr.m (yaa 0) (zaa (yaa 1) yab)) (yal rfl C (zal Z) hr.m (yaa 0) (zaa (yaa 2) yab))) yab)))
  (zab (r_if (yap (o_eq rfl hu) (yaa 1) yac (yao _)) (yae (yan (yaa 2))) yaq)
  (zab (r_if (yap (o_eq rfl hu) (yaa 2) yac (yao _)) (yae (yan (yaa 1))) yaq)
  (zab (r_if (zaL rfl (yah rfl C (ze5 Z) hr.m rfl (zaa (yaa 0) (zaa (yaa 1) (zaa (yaa 2) yab))))) (yae (yan (yah rfl C (zbQ Z 90) hr.m rfl (zaa (yaa 0) (zaa (yaa 1) (zaa (yaa 2) yab)))))) yaq)
  (yae (yan (yah rfl C (zif Z) hr.m rfl (zaa (yaa 0) (zaa (yaa 1) (zaa (yaa 2) yab))))))))))
theorem zaQ:∀ d,GF P w (mkT K cls exc) mg base (99+d+1) "front_of" (yas d)
 | 0=>gf Z.d_front_of zcw fun _ _ _ _=>yc5
 | d+1=>gf Z.d_front_of zcw fun hr C hu nd =>
  (zab (r_if (yap (o_eq rfl hu) (yaa 2) yac (yao _)) (yae (yan yac)) yaq)
  (zab (r_if (yap (o_eq rfl hu) (yaa 2) (yal rfl C (zal Z) (hr.mono (show 5<=99+(d+1) by lia)) (yaa 0) (zaa (yaa 1) yab)) (yao _)) (yae (yan (yaa 1))) yaq)
  (zab (yak (i:=3) nd (yal rfl C (zai Z) (hr.mono (show 4<=99+(d+1) by lia)) (yaa 0) (zaa (yaa 1) yab)))
  (zab (r_if (yap (o_eq rfl hu) (r_ix rfl hu (yaa 3) yac) yaN (yao _)) (yae (yan (yal rfl C (za0 Z) (hr.mono (show 4<=99+(d+1) by lia)) (yaa 0) (zaa (zaP rfl (r_ix rfl hu (yaa 3) yac) zaT (zaK (yaa 2))) yab)))) yaq)
  (zab (yak (i:=4) nd (yal rfl C (zal Z) (hr.mono (show 5<=99+(d+1) by lia)) (yaa 0) (zaa (r_ix rfl hu (yaa 3) yac) yab)))
  (zab (r_if (yap o_le (yaa 2) (yaa 4) (yao _)) (yae (yan (yah rfl C (zaQ d) (hr.mono (by lia)) rfl (zaa (yaa 0) (zaa (r_ix rfl hu (yaa 3) yac) (zaa (yaa 2) yab)))))) yaq)
  (yae (yan (yah rfl C (zaN Z) (hr.mono (show 99<=99+(d+1) by lia)) rfl (zaa (yaa 0) (zaa (r_ix rfl hu (yaa 3) yac) (zaa (yah rfl C (zaQ d) (hr.mono (by lia)) rfl (zaa (yaa 0) (zaa (r_ix rfl hu (yaa 3) yac) (zaa (yai ybq (yaa 2) (yaa 4)) yab)))) yab))))))))))))
theorem zaV:∀ d,GF P w (mkT K cls exc) mg base (99+d+1) "back_of" (yaw d)
 | 0=>gf Z.d_back_of zc9 fun _ _ _ _=>yc5
 | d+1=>gf Z.d_back_of zc9 fun hr C hu nd =>
  (zab (r_if (yap (o_eq rfl hu) (yaa 2) yac (yao _)) (yae (yan (yaa 1))) yaq)
  (zab (r_if (yap (o_eq rfl hu) (yaa 2) (yal rfl C (zal Z) (hr.mono (show 5<=99+(d+1) by lia)) (yaa 0) (zaa (yaa 1) yab)) (yao _)) (yae (yan yac)) yaq)
  (zab (yak (i:=3) nd (yal rfl C (zai Z) (hr.mono (show 4<=99+(d+1) by lia)) (yaa 0) (zaa (yaa 1) yab)))
  (zab (r_if (yap (o_eq rfl hu) (r_ix rfl hu (yaa 3) yac) yaN (yao _)) (yae (yan (yal rfl C (za0 Z) (hr.mono (show 4<=99+(d+1) by lia)) (yaa 0) (zaa (zaP rfl (r_ix rfl hu (yaa 3) yac) (zaK (yaa 2)) zaT) yab)))) yaq)
  (zab (yak (i:=4) nd (yal rfl C (zal Z) (hr.mono (show 5<=99+(d+1) by lia)) (yaa 0) (zaa (r_ix rfl hu (yaa 3) yac) yab)))
  (zab (r_if (yap o_ge (yaa 2) (yaa 4) (yao _)) (yae (yan (yah rfl C (zaV d) (hr.mono (by lia)) rfl (zaa (yaa 0) (zaa (r_ix rfl hu (yaa 3) yac) (zaa (yai ybq (yaa 2) (yaa 4)) yab)))))) yaq)
  (yae (yan (yah rfl C (zaN Z) (hr.mono (show 99<=99+(d+1) by lia)) rfl (zaa (yaa 0) (zaa (yah rfl C (zaV d) (hr.mono (by lia)) rfl (zaa (yaa 0) (zaa (r_ix rfl hu (yaa 3) yac) (zaa (yaa 2) yab)))) (zaa (r_ix rfl hu (yaa 3) yac) yab))))))))))))
theorem zig:GF P w (mkT K cls exc) mg base 191 "put_in" ydm:=gf Z.d_put_in zhe fun hr C hu nd =>
 (zab (yak (i:=4) nd (yai (yaG rfl) (yal rfl C (zal Z) hr.m (yaa 0) (zaa (yaa 1) yab)) (yal rfl C (zal Z) hr.m (yaa 0) (zaa (yaa 3) yab))))
  (zab (yaF (yah rfl C (zcz Z) hr.m rfl (zaa (yaa 0) (zaa (yaa 1) (zaa (yaa 2) yab)))))
  (zab (yaF (yah rfl C (za5 Z) hr.m rfl (zaa (yaa 4) yab)))
  (zab (yak (i:=5) nd (yah rfl C (zaN Z) hr.m rfl (zaa (yaa 0) (zaa (yah rfl C (zaQ Z 90) hr.m rfl (zaa (yaa 0) (zaa (yaa 1) (zaa (yaa 2) yab)))) (zaa (yaa 3) yab)))))
  (yae (yan (yah rfl C (zaN Z) hr.m rfl (zaa (yaa 0) (zaa (yaa 5) (zaa (yah rfl C (zaV Z 90) hr.m rfl (zaa (yaa 0) (zaa (yaa 1) (zaa (yaa 2) yab)))) yab))))))))))
theorem zhi:GF P w (mkT K cls exc) mg base 192 "_law_two" ybX:=gf Z.d_law_two zgn fun hr C hu nd =>
 (zab (ydl (yaa 1) (yb2 rfl rfl (zaj (i:=5) nd (zaj (i:=6) nd zaD))))
  (zab (ydl (yaa 2) (yb2 rfl rfl (zaj (i:=7) nd (zaj (i:=8) nd zaD))))
  (zab (r_if (yap (o_eq rfl hu) (yaa 3) yac (yao _)) (yae (yan (ycx (zaa (yba (zaa (yah rfl C (zaN Z) hr.m rfl (zaa (yaa 0) (zaa (yaa 5) (zaa (yaa 7) yab)))) (zaa (yai (yaG rfl) (yaa 6) (yaa 8)) yab))) yab)))) yaq)
  (zab (ydl (yah rfl C (zbk Z) hr.m rfl (zaa (yaa 6) (zaa (yaa 4) yab))) (yb2 rfl rfl (zaj (i:=9) nd (zaj (i:=10) nd zaD))))
  (yae (yan (ycx (zaa (yba (zaa (yah rfl C (zig Z) hr.m rfl (zaa (yaa 0) (zaa (yaa 5) (zaa (yaa 4) (zaa (yaa 7) yab))))) (zaa (yai (yaG rfl) (yai (yaG rfl) (yaa 9) (yaa 8)) (yaa 10)) yab))) yab))))))))
theorem zih:GF P w (mkT K cls exc) mg base 191 "cut_at" ycQ:=gf Z.d_cut_at zhf fun hr C hu nd =>
 (zab (yaF (yah rfl C (zcz Z) hr.m rfl (zaa (yaa 0) (zaa (yaa 1) (zaa (yaa 2) yab)))))
  (yae (yan (yba (zaa (yah rfl C (zaQ Z 90) hr.m rfl (zaa (yaa 0) (zaa (yaa 1) (zaa (yaa 2) yab)))) (zaa (yah rfl C (zaV Z 90) hr.m rfl (zaa (yaa 0) (zaa (yaa 1) (zaa (yaa 2) yab)))) yab))))))
theorem zbt:GF P w (mkT K cls exc) mg base 6 "check_stretch" ybP:=gf Z.d_check_stretch zcT fun hr C hu nd =>
 (zab (yak (i:=4) nd (yal rfl C (zal Z) hr.m (yaa 0) (zaa (yaa 1) yab)))
  (yae (r_if (yc4 (zg4 o_le o_le o_le yac (yaa 2) (yaa 3) (yaa 4))) (yae (zaG Z.x_NoPlace zaF rfl (zaa yaN yab))) yaq)))
theorem ze6:GF P w (mkT K cls exc) mg base 191 "kept_part" ycr:=gf Z.d_kept_part zeH fun hr C hu nd =>
 (zab (yaF (yah rfl C (zbt Z) hr.m rfl (zaa (yaa 0) (zaa (yaa 1) (zaa (yaa 2) (zaa (yaa 3) yab))))))
  (yae (yan (yah rfl C (zaV Z 90) hr.m rfl (zaa (yaa 0) (zaa (yah rfl C (zaQ Z 90) hr.m rfl (zaa (yaa 0) (zaa (yaa 1) (zaa (yaa 3) yab)))) (zaa (yaa 2) yab)))))))
theorem ze7:GF P w (mkT K cls exc) mg base 191 "taken_out" ycs:=gf Z.d_taken_out zeI fun hr C hu nd =>
 (zab (yaF (yah rfl C (zbt Z) hr.m rfl (zaa (yaa 0) (zaa (yaa 1) (zaa (yaa 2) (zaa (yaa 3) yab))))))
  (yae (yan (yah rfl C (zaN Z) hr.m rfl (zaa (yaa 0) (zaa (yah rfl C (zaQ Z 90) hr.m rfl (zaa (yaa 0) (zaa (yaa 1) (zaa (yaa 2) yab)))) (zaa (yah rfl C (zaV Z 90) hr.m rfl (zaa (yaa 0) (zaa (yaa 1) (zaa (yaa 3) yab)))) yab)))))))
theorem zhj:GF P w (mkT K cls exc) mg base 192 "_law_one" ybQ:=gf Z.d_law_one zgo fun hr C hu nd =>
 (zab (ydl (yaa 1) (yb2 rfl rfl (zaj (i:=5) nd (zaj (i:=6) nd zaD))))
  (zab (ydl (yah rfl C (zbk Z) hr.m rfl (zaa (yaa 6) (zaa (yaa 3) yab))) (yb2 rfl rfl (zaj (i:=7) nd (zaj (i:=8) nd zaD))))
  (zab (r_if (yap (o_eq rfl hu) (yaa 2) yac (yao _)) (zab (yak (i:=9) nd (yah rfl C (zih Z) hr.m rfl (zaa (yaa 0) (zaa (yaa 5) (zaa (yaa 3) yab)))))
  (yae (yan (ycx (zaa (yba (zaa (r_ix rfl hu (yaa 9) yac) (zaa (yaa 7) yab))) (zaa (yba (zaa (r_ix rfl hu (yaa 9) yac) (zaa (yaa 8) yab))) yab)))))) yaq)
  (zab (ydl (yah rfl C (zbk Z) hr.m rfl (zaa (yaa 8) (zaa (yai ybq (yaa 4) (yaa 3)) yab))) (yb2 rfl rfl (zaj (i:=10) nd (zaj (i:=11) nd zaD))))
  (zab (r_if (yap (o_eq rfl hu) (yaa 2) yac (yao _)) (yae (yan (ycx (zaa (yba (zaa (yah rfl C (ze7 Z) hr.m rfl (zaa (yaa 0) (zaa (yaa 5) (zaa (yaa 3) (zaa (yaa 4) yab))))) (zaa (yai (yaG rfl) (yaa 7) (yaa 11)) yab))) yab)))) yaq)
  (yae (yan (ycx (zaa (yba (zaa (yah rfl C (ze6 Z) hr.m rfl (zaa (yaa 0) (zaa (yaa 5) (zaa (yaa 3) (zaa (yaa 4) yab))))) (zaa (yaa 10) yab))) yab)))))))))
theorem ze8:GF P w (mkT K cls exc) mg base 1 "_law_signs" ycZ:=gf Z.d_law_signs zeJ fun hr C hu nd =>
 (zab (yak (i:=1) nd yaN)
  (yae (yan (r_ix rfl hu (ycx (zaa yaN (zaa (yai (yaG rfl) yaN yaN) (zaa (yai (yaG rfl) (yai (yaG rfl) (yai (yaG rfl) (yai (yaG rfl) (yaa 1) yaN) yaN) yaN) yaN) (zaa yaN yab))))) (yaa 0)))))
theorem ze9:GF P w (mkT K cls exc) mg base 2 "_law_plain" yct:=gf Z.d_law_plain zeK fun hr C hu nd =>
 (zab (yak (i:=2) nd (yah rfl C (ze8 Z) hr.m rfl (zaa (yah rfl C (zav Z) hr.m rfl (zaa (yaa 0) (zaa yac yab))) yab)))
  (zab (yak (i:=3) nd yaN)
  (zab (ydc rfl (zbn (E:=EN) rfl Z.b_range (yah rfl (C.nox) (zav Z) hr.m rfl (zaa (yaa 0) (zaa (yai (yaG rfl) (yaa 1) yac) yab)))) (zcg (i:=4) nd) (yae (yak (i:=3) nd (yai (yaG rfl) (yaa 3) (r_ix rfl hu (yaa 2) (yah rfl (C.nox) (zav Z) hr.m rfl (zaa (yaa 0) (zaa (r_bi (b_len rfl) rfl Z.b_len PySem.boot_len (zaa (yaa 2) yab)) yab))))))))
  (yae (yan (yaa 3))))))
theorem zd0:∀ d,GF P w (mkT K cls exc) mg base (99+d+1) "doubled" (yaX d)
 | 0=>gf Z.d_doubled zda fun _ _ _ _=>yc5
 | d+1=>gf Z.d_doubled zda fun hr C hu nd =>
  (zab (r_if (yap (o_eq rfl hu) (yaa 2) yac (yao _)) (yae (yan yac)) yaq)
  (zab (yak (i:=3) nd (yah rfl C (zd0 d) (hr.mono (by lia)) rfl (zaa (yaa 0) (zaa (yaa 1) (zaa (yai yeV (yaa 2) yac) yab)))))
  (zab (yak (i:=4) nd (yah rfl C (zaN Z) (hr.mono (show 99<=99+(d+1) by lia)) rfl (zaa (yaa 0) (zaa (yaa 3) (zaa (yaa 3) yab)))))
  (zab (r_if (yap (o_eq rfl hu) (yai ycX (yaa 2) yac) yac (yao _)) (yae (yan (yaa 4))) yaq)
  (yae (yan (yah rfl C (zaN Z) (hr.mono (show 99<=99+(d+1) by lia)) rfl (zaa (yaa 0) (zaa (yaa 4) (zaa (yaa 1) yab))))))))))
theorem zgr:GF P w (mkT K cls exc) mg base 165 "repeated" ycl:=gf Z.d_repeated ze2 fun hr C hu nd =>
 (zab (yak (i:=3) nd (yal rfl C (zal Z) hr.m (yaa 0) (zaa (yaa 1) yab)))
  (zab (r_if (yap o_lt (yaa 2) yac (yao _)) (yae (zaG Z.x_NoPlace zaF rfl (zaa yaN yab))) yaq)
  (zab (yaF (yah rfl C (za5 Z) hr.m rfl (zaa (yai ybg (yaa 3) (yaa 2)) yab)))
  (zab (r_if (yap (o_eq rfl hu) (yaa 1) yac (yao _)) (yae (yan yac)) yaq)
  (yae (yan (yah rfl C (zd0 Z 64) hr.m rfl (zaa (yaa 0) (zaa (yaa 1) (zaa (yaa 2) yab))))))))))
theorem zcW:∀ d,GF P w (mkT K cls exc) mg base (5+d+1) "halved" (ybL d)
 | 0=>gf Z.d_halved zdZ fun _ _ _ _=>yc5
 | d+1=>gf Z.d_halved zdZ fun hr C hu nd =>
  (zab (r_if (yap (o_eq rfl hu) (r_bi (b_len rfl) rfl Z.b_len PySem.boot_len (zaa (yaa 1) yab)) yac (yao _)) (yae (yan (r_ix rfl hu (yaa 1) yac))) yaq)
  (zab (yak (i:=2) nd (yai yeV (r_bi (b_len rfl) rfl Z.b_len PySem.boot_len (zaa (yaa 1) yab)) yac))
  (yae (yan (yal rfl C (zam Z) (hr.mono (show 5<=5+(d+1) by lia)) (yaa 0) (zaa (yah rfl C (zcW d) (hr.mono (by lia)) rfl (zaa (yaa 0) (zaa (zaP rfl (yaa 1) zaT (zaK (yaa 2))) yab))) (zaa (yah rfl C (zcW d) (hr.mono (by lia)) rfl (zaa (yaa 0) (zaa (zaP rfl (yaa 1) (zaK (yaa 2)) zaT) yab))) yab)))))))
theorem zjv:GF P w (mkT K cls exc) mg base 27 "built" ydP:=gf Z.d_built zie fun {f cdv A outer s H E} hr C hu nd =>
 (zab (r_if (yc4 (zaL rfl (yah rfl C (zdc Z) hr.m rfl (zaa (yaa 1) yab)))) (yae (zaG Z.x_NoText zaF rfl (zaa yaN yab))) yaq)
  (zab (r_if (yap o_gt (r_bi (b_len rfl) rfl Z.b_len PySem.boot_len (zaa (yaa 1) yab)) (r_gI rfl Z.c_MOST_PLAIN) (yao _)) (yae (zaG Z.x_TooLong zaF rfl (zaa yaN yab))) yaq)
  (zab (r_if (yap (o_eq rfl hu) (yaa 1) yaN (yao _)) (yae (yan yac)) yaq)
  (zab (ziT (jf:=[(0, "shelf"),(1, "plain")]) (zaE (N:=["shelf", "plain", "leaves"]) (sc:=yag yeo) rfl (fun _=>rfl) (by decide +kernel)) rfl (zdN (E:=(fun _=>E)) rfl Z.b_range yac (r_bi (b_len rfl) rfl Z.b_len PySem.boot_len (zaa (yaa 1) yab)) (r_gI rfl Z.c_LEAF_SIGNS)) (fun _ _ _ _ _=>zaS) (fun _ _ _ _ _=>(yal rfl (CA.never rfl) (za0 Z) hr.m (yaa 1) (zaa (zaP rfl (yaa 2) (zaK (yaa 0)) (zaK (yai (yaG rfl) (yaa 0) (r_gI rfl Z.c_LEAF_SIGNS)))) yab))) nd (i:=2))
  (yae (yan (yah rfl C (zcW Z 20) hr.m rfl (zaa (yaa 0) (zaa (yaa 2) yab)))))))))
theorem zcC:GF P w (mkT K cls exc) mg base 166 "_law_fresh" ybn:=gf Z.d_law_fresh zeL fun hr C hu nd =>
 (zab (yak (i:=2) nd (yai (yaG rfl) (zaP rfl yaN (zaK (yah rfl C (zav Z) hr.m rfl (zaa (yaa 1) (zaa yac yab)))) zaT) (yah rfl C (ze9 Z) hr.m rfl (zaa (yaa 1) (zaa yac yab)))))
  (zab (yak (i:=3) nd (yai (yaG rfl) yac (yah rfl C (zav Z) hr.m rfl (zaa (yaa 1) (zaa (r_ix rfl hu (ycx (zaa yac (zaa (yai ycw yac yac) (zaa (yai ycw yac yac) yab)))) (yah rfl C (zav Z) hr.m rfl (zaa (yaa 1) (zaa yac yab)))) yab)))))
  (yae (yan (ycx (zaa (yba (zaa (yah rfl C (zgr Z) hr.m rfl (zaa (yaa 0) (zaa (yah rfl C (zjv Z) hr.m rfl (zaa (yaa 0) (zaa (yaa 2) yab))) (zaa (yaa 3) yab)))) (zaa (ycx (zaa (yba (zaa (yaa 2) (zaa (yaa 3) yab))) yab)) yab))) yab))))))
theorem zgs:GF P w (mkT K cls exc) mg base 193 "_law_deed" ycm:=gf Z.d_law_deed ze3 fun hr C hu nd =>
 (zab (yak (i:=3) nd (yah rfl C (zav Z) hr.m rfl (zaa (yaa 2) (zaa yac yab))))
  (zab (r_if (rt_w (yeE (yap o_lt (r_bi (b_len rfl) rfl Z.b_len PySem.boot_len (zaa (yaa 1) yab)) yac (yao _)) (yeD (yap (o_eq rfl hu) (yaa 3) yac (yao _))))) (yae (yan (yba (zaa (yah rfl C (zcC Z) hr.m rfl (zaa (yaa 0) (zaa (yaa 2) yab))) (zaa r_bl yab))))) yaq)
  (zab (yak (i:=4) nd (r_ix rfl hu (yaa 1) (yah rfl C (zav Z) hr.m rfl (zaa (yaa 2) (zaa (r_bi (b_len rfl) rfl Z.b_len PySem.boot_len (zaa (yaa 1) yab)) yab)))))
  (zab (yak (i:=5) nd (r_ix rfl hu (yaa 1) (yah rfl C (zav Z) hr.m rfl (zaa (yaa 2) (zaa (r_bi (b_len rfl) rfl Z.b_len PySem.boot_len (zaa (yaa 1) yab)) yab)))))
  (zab (yak (i:=6) nd (yah rfl C (zaZ Z) hr.m rfl (zaa (r_ix rfl hu (yaa 4) yac) yab)))
  (zab (yak (i:=7) nd (yah rfl C (zav Z) hr.m rfl (zaa (yaa 2) (zaa (yai (yaG rfl) (yaa 6) yac) yab))))
  (zab (yak (i:=8) nd (yai (yaG rfl) (yaa 7) (yah rfl C (zav Z) hr.m rfl (zaa (yaa 2) (zaa (yai (yaG rfl) (yai ybq (yaa 6) (yaa 7)) yac) yab)))))
  (zab (yak (i:=9) nd (yal rfl C (zap Z) hr.m (yaa 0) (zaa (r_ix rfl hu (yaa 4) yac) yab)))
  (zab (r_if (yap o_lt (yaa 3) yac (yao _)) (zab (yak (i:=9) nd (r_bi (yd8) rfl Z.b_max PyProof.Rows.boot_max (zaa (yaa 9) (zaa (yal rfl C (zap Z) hr.m (yaa 0) (zaa (r_ix rfl hu (yaa 5) yac) yab)) yab))))
  (yae (r_if (rt_w (yeE (yap o_gt (yai (yaG rfl) (yaa 6) (yah rfl C (zaZ Z) hr.m rfl (zaa (r_ix rfl hu (yaa 5) yac) yab))) (yai ycw yac yac) (yao _)) (yeD (yap o_gt (r_bi (b_len rfl) rfl Z.b_len PySem.boot_len (zaa (yai (yaG rfl) (r_ix rfl hu (yaa 4) yac) (r_ix rfl hu (yaa 5) yac)) yab)) yac (yao _))))) (yae (yan (yba (zaa (yah rfl C (zcC Z) hr.m rfl (zaa (yaa 0) (zaa (yaa 2) yab))) (zaa r_bl yab))))) yaq))) yaq)
  (zab (yak (i:=10) nd (zfv rfl C (zb9 Z) hr.m (yaa 0)))
  (zab (r_if (yap o_lt (yaa 3) yac (yao _)) (yae (yak (i:=11) nd (yah rfl C (zhi Z) hr.m rfl (zaa (yaa 0) (zaa (yaa 4) (zaa (yaa 5) (zaa (yaa 3) (zaa (yaa 7) yab)))))))) (yae (yak (i:=11) nd (yah rfl C (zhj Z) hr.m rfl (zaa (yaa 0) (zaa (yaa 4) (zaa (yaa 3) (zaa (yaa 7) (zaa (yaa 8) yab)))))))))
  (yae (yan (yba (zaa (yaa 11) (zaa (yej o_le (yai ybq (zfv rfl C (zb9 Z) hr.m (yaa 0)) (yaa 10)) (yai ybg (r_ix rfl hu (ycx (zaa yac (zaa yac (zaa yac (zaa yac (zaa yac (zaa yac yab))))))) (yaa 3)) (yai (yaG rfl) (yaa 9) yac)) (yao _)) yab))))))))))))))))
theorem zbR:∀ d,GF P w (mkT K cls exc) mg base (4+d+1) "_law_look" (yaY d)
 | 0=>gf Z.d_law_look zcx fun _ _ _ _=>yc5
 | d+1=>gf Z.d_law_look zcx fun hr C hu nd =>
  (zab (r_if (yap (o_in rfl hu) (yaa 1) (yaa 2) rfl) (yae (yan (r_ix rfl hu (yaa 2) (yaa 1)))) yaq)
  (zab (yak (i:=3) nd (yal rfl C (zai Z) (hr.mono (show 4<=4+(d+1) by lia)) (yaa 0) (zaa (yaa 1) yab)))
  (zab (yak (i:=4) nd (yba yab))
  (zab (r_if (rt_w (ydk (yap (o_eq rfl hu) (r_ix rfl hu (yaa 3) yac) yaN (yao _)) (ydk (zaL rfl (yeY rfl rfl Z.b_isinstance (r_ix rfl hu (yaa 3) yac) rfl Z.b_str yfw (by decide))) (zdj (zbf o_lt o_lt yac (r_bi (b_len rfl) rfl Z.b_len PySem.boot_len (zaa (r_ix rfl hu (yaa 3) yac) yab)) yac))))) (yae (yak (i:=4) nd (yba (zaa yac (zaa (r_bi (b_len rfl) rfl Z.b_len PySem.boot_len (zaa (r_ix rfl hu (yaa 3) yac) yab)) (zaa (r_bi (b_len rfl) rfl Z.b_len PySem.boot_len (zaa (r_ix rfl hu (yaa 3) yac) yab)) (zaa (r_bi (b_len rfl) rfl Z.b_len PySem.boot_len (zaa (r_ix rfl hu (yaa 3) yac) yab)) (zaa yac yab)))))))) yaq)
  (zab (r_if (rt_w (ydk (yap (o_eq rfl hu) (r_ix rfl hu (yaa 3) yac) yaN (yao _)) (ydk (zbf o_lt o_lt yac (r_ix rfl hu (yaa 3) yac) (yaa 1)) (zdj (zbf o_lt o_lt yac (r_ix rfl hu (yaa 3) yac) (yaa 1)))))) (zab (yak (i:=5) nd (yah rfl C (zbR d) (hr.mono (by lia)) rfl (zaa (yaa 0) (zaa (r_ix rfl hu (yaa 3) yac) (zaa (yaa 2) yab)))))
  (zab (yak (i:=6) nd (yah rfl C (zbR d) (hr.mono (by lia)) rfl (zaa (yaa 0) (zaa (r_ix rfl hu (yaa 3) yac) (zaa (yaa 2) yab)))))
  (yae (r_if (rt_w (ydk (yap (o_ne rfl hu) (yaa 5) (yba yab) (yao _)) (ydk (yap (o_ne rfl hu) (yaa 6) (yba yab) (yao _)) (ydk (yap o_lt (r_bi (b_abs) rfl Z.b_abs PyProof.Rows.boot_abs (zaa (yai ybq (r_ix rfl hu (yaa 5) yac) (r_ix rfl hu (yaa 6) yac)) yab)) yac (yao _)) (zdj (yap o_gt (yai (yaG rfl) (r_ix rfl hu (yaa 5) yac) (r_ix rfl hu (yaa 6) yac)) yac (yao _))))))) (yae (yak (i:=4) nd (yba (zaa (yai (yaG rfl) yac (r_bi (yd8) rfl Z.b_max PyProof.Rows.boot_max (zaa (r_ix rfl hu (yaa 5) yac) (zaa (r_ix rfl hu (yaa 6) yac) yab)))) (zaa (yai (yaG rfl) (r_ix rfl hu (yaa 5) yac) (r_ix rfl hu (yaa 6) yac)) (zaa (r_ix rfl hu (yaa 5) yac) (zaa (r_ix rfl hu (yaa 6) yac) (zaa (yai (yaG rfl) (r_ix rfl hu (yaa 5) yac) (r_ix rfl hu (yaa 6) yac)) yab)))))))) yaq)))) yaq)
  (zab (zdn hu (yaa 2) (yaa 1) (yaa 4))
  (yae (yan (yaa 4)))))))))
theorem zfa:GF P w (mkT K cls exc) mg base 2 "_law_spots" yc0:=gf Z.d_law_spots zeM fun {f cdv A outer s H E} hr C hu nd =>
 (zab (yak (i:=2) nd (yah rfl C (zaZ Z) hr.m rfl (zaa (yaa 0) yab)))
  (zab (yak (i:=3) nd (ybi (zaa yac (zaa (yai ybq (yaa 2) yac) yab))))
  (zab (yak (i:=4) nd yac)
  (zab (ydc rfl (za1 (E:=EN) rfl (zaP rfl (yaa 0) zaT (zaK yac))) (yb2 rfl rfl (zaj (i:=5) nd (zaj (i:=6) nd zaD))) (zab (yak (i:=4) nd (yai (yaG rfl) (yaa 4) (yai ybg (r_bi (b_len rfl) rfl Z.b_len PySem.boot_len (zaa (yaa 5) yab)) (yaa 6))))
  (yae (yaF (r_bm rfl PySem.F.plainAttrs_list PySem.F.slot_list_extend PySem.F.type_list_extend (yeI) zau (yaa 3) (zaa (ybi (zaa (yai ybq (yaa 4) yac) (zaa (yaa 4) (zaa (yai ybq (yaa 4) (r_bi (b_len rfl) rfl Z.b_len PySem.boot_len (zaa (yaa 5) yab))) yab)))) yab))))))
  (zab (yaF (r_bm rfl PySem.F.plainAttrs_list PySem.F.slot_list_extend PySem.F.type_list_extend (yeI) zau (yaa 3) (zaa (ziS (jf:=[(1, "stream"),(2, "length")]) (zaE (N:=["blocks", "stream", "length", "found", "seam", "plain", "many"]) (sc:=yag ycu) rfl (fun _=>rfl) (by decide +kernel)) rfl (zbn (E:=(fun _=>E)) rfl Z.b_range yac) (fun _ _ _ _ _=>zaS) (fun _ _ _ _ _=>(yah rfl (CA.never rfl) (zav Z) hr.m rfl (zaa (yaa 1) (zaa (yaa 2) yab))))) yab)))
  (yae (yan (ydN (jf:=[(2, "length")]) (zaE (N:=["blocks", "stream", "length", "found", "seam", "plain", "many"]) (sc:=yag ycu) rfl (fun _=>rfl) (by decide +kernel)) rfl (ydM (E:=(fun _=>E)) rfl (yaa 3)) (fun _ _ _ _ _=>zdk (zbf o_le o_lt yac (yaa 0) (yaa 1))) (fun _ _ _ _ _=>(yaa 0))))))))))
theorem zeQ:GM P w (mkT K cls exc) mg base 5 0 "ends" ycE:=gm Z.d_Shelf_ends zeb (show ("ends" : Str)∉flds 0 by decide +kernel) fun hr C hu nd =>
 (zab (yaF (yal rfl C (zaB Z) hr.m (yaa 0) (zaa (yaa 1) yab)))
  (yae (yan (r_ix rfl hu (yaH rfl Z.cf_Shelf (yaa 0)) (yaa 1)))))
theorem zgt:GF P w (mkT K cls exc) mg base 5 "_law_sign" yb0:=gf Z.d_law_sign ze4 fun hr C hu nd =>
 (zab (yak (i:=4) nd (yal rfl C (zai Z) hr.m (yaa 0) (zaa (yaa 1) yab)))
  (zab (zfq ydd (yap (o_eq rfl hu) (r_ix rfl hu (yaa 4) yac) yaN (yao _)) (zab (yak (i:=5) nd (r_ix rfl hu (r_ix rfl hu (yaa 3) (r_ix rfl hu (yaa 4) yac)) yac))
  (zab (r_if (yap o_lt (yaa 2) (yaa 5) (yao _)) (yae (yak (i:=1) nd (r_ix rfl hu (yaa 4) yac))) (zab (yak (i:=1) nd (r_ix rfl hu (yaa 4) yac))
  (yae (yak (i:=2) nd (yai ybq (yaa 2) (yaa 5))))))
  (yae (yak (i:=4) nd (yal rfl (C.nox) (zai Z) hr.m (yaa 0) (zaa (yaa 1) yab)))))))
  (yae (yan (r_ix rfl hu (r_ix rfl hu (yaa 4) yac) (yaa 2))))))
theorem zcX:GF P w (mkT K cls exc) mg base 1 "_law_block_sign" ybb:=gf Z.d_law_block_sign zcn fun hr C hu nd =>
 (zab (ydc rfl (za1 (E:=EN) rfl (yaa 0)) (yb2 rfl rfl (zaj (i:=2) nd (zaj (i:=3) nd zaD))) (zab (r_if (yap o_lt (yaa 1) (yai ybg (r_bi (b_len rfl) rfl Z.b_len PySem.boot_len (zaa (yaa 2) yab)) (yaa 3)) (yao _)) (yae (yan (r_ix rfl hu (yaa 2) (yai ycX (yaa 1) (r_bi (b_len rfl) rfl Z.b_len PySem.boot_len (zaa (yaa 2) yab)))))) yaq)
  (yae (yak (i:=1) nd (yai ybq (yaa 1) (yai ybg (r_bi (b_len rfl) rfl Z.b_len PySem.boot_len (zaa (yaa 2) yab)) (yaa 3)))))))
  (yae (yan yaN)))
theorem zcD:GF P w (mkT K cls exc) mg base 96 "_law_reads" yaQ:=gf Z.d_law_reads zeN fun {f cdv A outer s H E} hr C hu nd =>
 (zab (yak (i:=4) nd (yah rfl C (zaZ Z) hr.m rfl (zaa (yaa 2) yab)))
  (zab (r_if (rt_w (yeE (yap (o_eq rfl hu) (yaa 1) yac (yao _)) (yeD (yap (o_eq rfl hu) (yaa 4) yac (yao _))))) (yae (yan (yeW (yej (o_eq rfl hu) (yaa 1) yac (yao _)) (yeF (yej (o_eq rfl hu) (yaa 4) yac (yao _)))))) yaq)
  (zab (yak (i:=5) nd ziN)
  (zab (yak (i:=6) nd (yah rfl C (zbR Z 90) hr.m rfl (zaa (yaa 0) (zaa (yaa 1) (zaa (yaa 5) yab)))))
  (zab (r_if (rt_w (yeE (yap (o_eq rfl hu) (yaa 6) (yba yab) (yao _)) (yeE (yap (o_ne rfl hu) (r_ix rfl hu (yaa 6) yac) (yaa 4) (yao _)) (yeD (yap (o_ne rfl hu) (yal rfl C (zal Z) hr.m (yaa 0) (zaa (yaa 1) yab)) (yaa 4) (yao _)))))) (yae (yan r_bl)) yaq)
  (zab (r_if (yap (o_ne rfl hu) (yal rfl C (zeQ Z) hr.m (yaa 0) (zaa (yaa 1) yab)) (r_bi (b_sum rfl) rfl Z.b_sum PyProof.Rows.boot_sum (zaa (zdp rfl (jf:=[]) (zbF (N:=["shelf", "text", "blocks", "stream", "length", "known", "look", "spots"]) (sc:=yag ycv) rfl (fun _=>rfl) (by decide +kernel)) rfl (za1 (E:=(fun _=>E)) rfl (yaa 2)) (fun _ _ _ _ _=>zaS) (fun _ _ _ _ _=>(yai ybg (r_bm rfl PySem.F.plainAttrs_str PySem.F.slot_str_count PySem.F.type_str_count (zeq) zfz (yaa 0) (zaa yaN yab)) (yaa 1)))) yab)) (yao _)) (yae (yan r_bl)) yaq)
  (zab (yak (i:=7) nd (yah rfl C (zfa Z) hr.m rfl (zaa (yaa 2) (zaa (yaa 3) yab))))
  (yae (yan (r_bi (b_all rfl) rfl Z.b_all PyProof.Rows.boot_all (zaa (ydN (jf:=[(0, "shelf"),(1, "text"),(5, "known"),(2, "blocks")]) (zaE (N:=["shelf", "text", "blocks", "stream", "length", "known", "look", "spots"]) (sc:=yag ycv) rfl (fun _=>rfl) (by decide +kernel)) rfl (ydM (E:=(fun _=>E)) rfl (yaa 7)) (fun _ _ _ _ _=>zaS) (fun _ _ _ _ _=>(yej (o_eq rfl hu) (yah rfl (CA.never rfl) (zgt Z) hr.m rfl (zaa (yaa 1) (zaa (yaa 2) (zaa (yaa 0) (zaa (yaa 3) yab))))) (yah rfl (CA.never rfl) (zcX Z) hr.m rfl (zaa (yaa 4) (zaa (yaa 0) yab))) (yao _)))) yab)))))))))))
theorem yij {f:Addr} {fd:FuncData} (h4:Fun K "law" "law" yep f fd):FnOk P w K mg base (CXE P w) 194 f fd ["script"] (spA (mkT K cls exc) yfk):=gl (T:=mkT K cls exc) h4 yht fun {cdv A outer s H E} hr C hu nd =>
 (zab (yak (i:=1) nd (ziV rfl C (zeO Z) hr.m rfl))
  (zab (yak (i:=2) nd (ycx yab))
  (zab (yak (i:=3) nd (ybi yab))
  (zab (ydc rfl (ziR (E:=EN) rfl rfl Z.b_enumerate (yai (yaG rfl) (yaa 0) (ycx (zaa yac (zaa yac (zaa yac yab)))))) (yb2 rfl rfl (zaj (i:=4) nd (zaj (i:=5) nd zaD))) (zab (yak (i:=6) nd (yah rfl (C.nox) (zhg Z) hr.m rfl (zaa (yaa 5) (zaa (yaa 4) yab))))
  (zab (ydl (yah rfl (C.nox) (zgs Z) hr.m rfl (zaa (yaa 1) (zaa (yaa 2) (zaa (yaa 6) yab)))) (yb2 rfl rfl (zaj (i:=7) nd (zaj (i:=8) nd zaD))))
  (zab (r_if (yc4 (zaL rfl (yaa 8))) (yae (yan r_bl)) yaq)
  (zab (ydc rfl (za1 (E:=EN) rfl (yaa 7)) (yb2 rfl rfl (zaj (i:=9) nd (zaj (i:=10) nd zaD))) (yae (r_if (yc4 (zaL rfl (yah rfl ((C.nox).nox) (zcD Z) hr.m rfl (zaa (yaa 1) (zaa (yaa 9) (zaa (yaa 10) (zaa (yaa 6) yab))))))) (yae (yan r_bl)) yaq)))
  (zab (yaF (r_bm rfl PySem.F.plainAttrs_list PySem.F.slot_list_extend PySem.F.type_list_extend (yg2 rfl) zau (yaa 3) (zaa (yaa 7) yab)))
  (zab (yak (i:=2) nd (yai (yg0 rfl) (yaa 2) (ydN (jf:=[]) (zaE (N:=["script", "shelf", "row", "made", "k", "cell", "stream", "pairs", "few", "text", "blocks"]) (sc:=yag yep) rfl (fun _=>rfl) (by decide +kernel)) rfl (ydM (E:=EN) rfl (yaa 7)) (fun _ _ _ _ _=>zdk (yap o_lt (r_bi (b_len rfl) rfl Z.b_len PySem.boot_len (zaa (r_ix rfl hu (yaa 0) yac) yab)) yac (yao _))) (fun _ _ _ _ _=>(yaa 0)))))
  (yae (zfq ydd (yap o_gt (r_bi (b_len rfl) rfl Z.b_len PySem.boot_len (zaa (yaa 2) yab)) yac (yao _)) (yae (yaF (r_bm rfl PySem.F.plainAttrs_list PySem.F.slot_list_pop PySem.F.type_list_pop (ziZ) zau (yaa 2) (zaa (yah rfl ((C.nox).nox) (zav Z) hr.m rfl (zaa (yaa 6) (zaa (r_bi (b_len rfl) rfl Z.b_len PySem.boot_len (zaa (yaa 2) yab)) yab))) yab)))))))))))))
  (zab (yak (i:=6) nd (yah rfl C (zeP Z) hr.m rfl (zaa (yaa 0) (zaa yac yab))))
  (yae (yan (r_bi (b_all rfl) rfl Z.b_all PyProof.Rows.boot_all (zaa (zdp rfl (jf:=[(1, "shelf"),(6, "stream")]) (zbF (N:=["script", "shelf", "row", "made", "k", "cell", "stream", "pairs", "few", "text", "blocks"]) (sc:=yag yep) rfl (fun _=>rfl) (by decide +kernel)) rfl (za1 (E:=(fun _=>E)) rfl (yaa 3)) (fun _ _ _ _ _=>zaS) (fun _ _ _ _ _=>(yah rfl (CA.never rfl) (zcD Z) hr.m rfl (zaa (yaa 2) (zaa (yaa 0) (zaa (yaa 1) (zaa (yaa 3) yab))))))) yab)))))))))
end
end Sk
namespace Sk
open PySem PySem.Spec L2 Sm
abbrev FX (l:PySem.W.OpenLaw) (w:World) (K:PySem.W.Frag) (mg:Str->Option Value) (fa:Addr):Prop:=∃ fd:FuncData,(∀ (s:Shared) (v:Value),BindsTo s fd ⟨[v],[]⟩ [("script",v)])/\∀ base:Heap,K.In base->base.Ns mainGlobals mg->FnOk l.prog w K mg base (CXE l.prog w) 194 fa fd ["script"] (spL K)
theorem all_mk {l:PySem.W.OpenLaw} {w:World} {K:PySem.W.Frag} {h:Heap} {mg:Str->Option Value} {fa C0 X0 X1 X2 X3 X4 X5 X6:Addr} {tk_LEAF_SIGNS tk_MOST_PLAIN tk_MOST_SIGNS:Tok} (X:K.In h) (G:h.Ns mainGlobals mg) (hfa:mg "law" = some (.ref fa))
  (aC0:NA K "Shelf" (some (.ref C0))) (a0:DN K C0 "__init__" "Shelf.__init__" ydp) (a7:DN K C0 "has_piece" "Shelf.has_piece" ycn) (a8:DN K C0 "check_piece" "Shelf.check_piece" yb5) (a9:DN K C0 "check_text" "Shelf.check_text" ycd) (a10:DN K C0 "height" "Shelf.height" ycT) (a11:DN K C0 "many" "Shelf.many" ydq) (a14:DN K C0 "signs" "Shelf.signs" yc8) (a17:DN K C0 "last_leaf" "Shelf.last_leaf" yco) (a18:DN K C0 "first_leaf" "Shelf.first_leaf" yce) (a20:DN K C0 "piece" "Shelf.piece" yc9) (a21:DN K C0 "check_fork" "Shelf.check_fork" ycf) (a22:DN K C0 "lay" "Shelf.lay" ydE) (a23:DN K C0 "lay_fork" "Shelf.lay_fork" ycy) (a24:DN K C0 "fork" "Shelf.fork" yds) (a34:DN K C0 "lay_leaf" "Shelf.lay_leaf" ycz) (a35:DN K C0 "leaf" "Shelf.leaf" ydt) (a57:DN K C0 "ends" "Shelf.ends" ydu) (a1:DK K "_law_mixed" ydB) (a2:DK K "_law_stream" ycJ) (a3:DK K "_law_own" yea) (a4:DK K "_law_take" ydV) (a5:DK K "_law_length" ycK) (a6:DK K "is_whole" ydW) (a12:DK K "_law_filled" ycL) (a13:DK K "_law_parted" ydr) (a15:DK K "check_gap" ydC) (a16:DK K "check_length" ycU) (a19:DK K "are_close" ydD) (a25:DK K "with_last" ydF) (a26:DK K "turned_left" yda) (a27:DK K "without_first" ycM) (a28:DK K "turned_right" ycV) (a29:DK K "linked" yer) (a30:DK K "is_plain_sign" ycN) (a31:DK K "is_plain" ydh) (a32:DK K "is_short" ydX) (a33:DK K "ends_in" yeb) (a36:DK K "welded" yes) (a37:DK K "joined" yet) (a38:DK K "front_of" ydY) (a39:DK K "back_of" yec) (a40:DK K "put_in" yeu) (a41:DK K "_law_two" yed) (a42:DK K "cut_at" yev) (a43:DK K "check_stretch" ycO) (a44:DK K "kept_part" ydG) (a45:DK K "taken_out" ydH) (a46:DK K "_law_one" yee) (a47:DK K "_law_signs" ydI) (a48:DK K "_law_plain" ydJ) (a49:DK K "doubled" yef) (a50:DK K "repeated" ydZ) (a51:DK K "halved" yew) (a52:DK K "built" yeo) (a53:DK K "_law_fresh" ydK) (a54:DK K "_law_deed" yd0) (a55:DK K "_law_look" yd1) (a56:DK K "_law_spots" ycu) (a58:DK K "_law_sign" yd2) (a59:DK K "_law_block_sign" ycA) (a60:DK K "_law_reads" ycv) (a61:DK K "law" yep) (kk0:Cls K C0) (mk0:PySem.W.makesIn K C0=true) (kc0:PySem.W.keepIn K (.ref C0)=true) (nf0_0:FA K C0 "pieces") (nf0_1:FA K C0 "numbers") (nf0_2:FA K C0 "sign_counts") (nf0_3:FA K C0 "end_counts") (nf0_4:FA K C0 "leaf_counts") (nf0_5:FA K C0 "heights") (nf0_6:FA K C0 "first_leaves") (nf0_7:FA K C0 "last_leaves") (z_abs:NA K "abs" none) (z_all:NA K "all" none) (z_bool:NA K "bool" none) (z_enumerate:NA K "enumerate" none) (z_int:NA K "int" none) (z_isinstance:NA K "isinstance" none) (z_len:NA K "len" none) (z_max:NA K "max" none) (z_min:NA K "min" none) (z_range:NA K "range" none) (z_str:NA K "str" none) (z_sum:NA K "sum" none) (e_SkeinError:NA K "SkeinError" (some (.ref X0))) (e_NoText:NA K "NoText" (some (.ref X1))) (x_NoText:XI K X1) (e_NoPiece:NA K "NoPiece" (some (.ref X2))) (x_NoPiece:XI K X2) (e_Loose:NA K "Loose" (some (.ref X3))) (x_Loose:XI K X3) (e_Unlevel:NA K "Unlevel" (some (.ref X4))) (x_Unlevel:XI K X4) (e_TooLong:NA K "TooLong" (some (.ref X5))) (x_TooLong:XI K X5) (e_NoPlace:NA K "NoPlace" (some (.ref X6))) (x_NoPlace:XI K X6) (m_LEAF_SIGNS:NA K "LEAF_SIGNS" (some (.int 8 tk_LEAF_SIGNS))) (m_MOST_PLAIN:NA K "MOST_PLAIN" (some (.int 10000 tk_MOST_PLAIN))) (m_MOST_SIGNS:NA K "MOST_SIGNS" (some (.int 1000000000000000000 tk_MOST_SIGNS)))
  : FX l w K mg fa:=by
 have Z:∀ base:Heap,K.In base->Facts l.prog w K (fun n=>[C0][n]?) (fun n=>[X0,X1,X2,X3,X4,X5,X6][n]?) mg base:=fun base KB=>{
   b_abs:=PySem.W.mg_none_of X G z_abs,
   b_all:=PySem.W.mg_none_of X G z_all,
   b_bool:=PySem.W.mg_none_of X G z_bool,
   b_enumerate:=PySem.W.mg_none_of X G z_enumerate,
   b_int:=PySem.W.mg_none_of X G z_int,
   b_isinstance:=PySem.W.mg_none_of X G z_isinstance,
   b_len:=PySem.W.mg_none_of X G z_len,
   b_max:=PySem.W.mg_none_of X G z_max,
   b_min:=PySem.W.mg_none_of X G z_min,
   b_range:=PySem.W.mg_none_of X G z_range,
   b_str:=PySem.W.mg_none_of X G z_str,
   b_sum:=PySem.W.mg_none_of X G z_sum,
   c_LEAF_SIGNS:=⟨_,PySem.W.mg_of X G m_LEAF_SIGNS⟩,
   c_MOST_PLAIN:=⟨_,PySem.W.mg_of X G m_MOST_PLAIN⟩,
   c_MOST_SIGNS:=⟨_,PySem.W.mg_of X G m_MOST_SIGNS⟩,
   cf_Shelf:=⟨C0,rfl,kk0,fun f hf=>by
   have hf2:f∈flds 0:=hf
   simp only [flds,List.mem_cons,List.not_mem_nil,or_false] at hf2
   rcases hf2 with rfl | rfl | rfl | rfl | rfl | rfl | rfl | rfl
   ·exact nf0_0
   ·exact nf0_1
   ·exact nf0_2
   ·exact nf0_3
   ·exact nf0_4
   ·exact nf0_5
   ·exact nf0_6
   ·exact nf0_7⟩,
   x_NoText:=gx KB X G rfl e_NoText x_NoText,
   x_NoPiece:=gx KB X G rfl e_NoPiece x_NoPiece,
   x_Loose:=gx KB X G rfl e_Loose x_Loose,
   x_Unlevel:=gx KB X G rfl e_Unlevel x_Unlevel,
   x_TooLong:=gx KB X G rfl e_TooLong x_TooLong,
   x_NoPlace:=gx KB X G rfl e_NoPlace x_NoPlace,
   d_Shelf_init:=di rfl (PySem.W.mg_of X G aC0) mk0 kc0 a0 bl1,
   d_law_mixed:=dg X G a1 bl2,
   d_law_stream:=dg X G a2 bl2,
   d_law_own:=dg X G a3 bl2,
   d_law_take:=dg X G a4 bl2,
   d_law_length:=dg X G a5 bl1,
   d_is_whole:=dg X G a6 bl1,
   d_Shelf_has_piece:=dm rfl kk0 a7 bl2,
   d_Shelf_check_piece:=dm rfl kk0 a8 bl2,
   d_Shelf_check_text:=dm rfl kk0 a9 bl2,
   d_Shelf_height:=dm rfl kk0 a10 bl2,
   d_Shelf_many:=dm rfl kk0 a11 bl1,
   d_law_filled:=dg X G a12 bl1,
   d_law_parted:=dg X G a13 bl2,
   d_Shelf_signs:=dm rfl kk0 a14 bl2,
   d_check_gap:=dg X G a15 bl3,
   d_check_length:=dg X G a16 bl1,
   d_Shelf_last_leaf:=dm rfl kk0 a17 bl2,
   d_Shelf_first_leaf:=dm rfl kk0 a18 bl2,
   d_are_close:=dg X G a19 bl3,
   d_Shelf_piece:=dm rfl kk0 a20 bl2,
   d_Shelf_check_fork:=dm rfl kk0 a21 bl3,
   d_Shelf_lay:=dm rfl kk0 a22 bl2,
   d_Shelf_lay_fork:=dm rfl kk0 a23 bl2,
   d_Shelf_fork:=dm rfl kk0 a24 bl3,
   d_with_last:=dg X G a25 bl3,
   d_turned_left:=dg X G a26 bl3,
   d_without_first:=dg X G a27 bl2,
   d_turned_right:=dg X G a28 bl3,
   d_linked:=dg X G a29 bl3,
   d_is_plain_sign:=dg X G a30 bl1,
   d_is_plain:=dg X G a31 bl1,
   d_is_short:=dg X G a32 bl1,
   d_ends_in:=dg X G a33 bl1,
   d_Shelf_lay_leaf:=dm rfl kk0 a34 bl2,
   d_Shelf_leaf:=dm rfl kk0 a35 bl2,
   d_welded:=dg X G a36 bl3,
   d_joined:=dg X G a37 bl3,
   d_front_of:=dg X G a38 bl3,
   d_back_of:=dg X G a39 bl3,
   d_put_in:=dg X G a40 bl4,
   d_law_two:=dg X G a41 bl5,
   d_cut_at:=dg X G a42 bl3,
   d_check_stretch:=dg X G a43 bl4,
   d_kept_part:=dg X G a44 bl4,
   d_taken_out:=dg X G a45 bl4,
   d_law_one:=dg X G a46 bl5,
   d_law_signs:=dg X G a47 bl1,
   d_law_plain:=dg X G a48 bl2,
   d_doubled:=dg X G a49 bl3,
   d_repeated:=dg X G a50 bl3,
   d_halved:=dg X G a51 bl2,
   d_built:=dg X G a52 bl2,
   d_law_fresh:=dg X G a53 bl2,
   d_law_deed:=dg X G a54 bl3,
   d_law_look:=dg X G a55 bl3,
   d_law_spots:=dg X G a56 bl2,
   d_Shelf_ends:=dm rfl kk0 a57 bl2,
   d_law_sign:=dg X G a58 bl4,
   d_law_block_sign:=dg X G a59 bl2,
   d_law_reads:=dg X G a60 bl4,
   d_law:=dg X G a61 bl1 }
 obtain ⟨fd,h1,F⟩:=dlaw (p := "script") X G hfa a61 bl1
 exact ⟨fd,h1,fun base KB _=>FnOk.imp (yij (Z base KB) F) (ziY (T:=mkT K (fun n=>[C0][n]?) (fun n=>[X0,X1,X2,X3,X4,X5,X6][n]?)) law_true)⟩
theorem walk {l:PySem.W.OpenLaw} {q:Program} {loose:List Str} {XP:(Str->Option Value)->Heap->Prop} {YP:World->Heap->Prop} {d:DefRec} {K:Params->PySem.W.Frag} (hn:l.most=some 63) (hdf:d.params.defaults=[])
  (hY:∀ (w:World) (h:Heap),YP w h->(K w.params).In h)
  (F:∀ (w:World) (mg:Str->Option Value) (fa:Addr) (h:Heap),(K w.params).In h->h.Ns mainGlobals mg->mg d.name=some (.ref fa)->FX l w (K w.params) mg fa) :
  PySem.W.WalkO q loose XP YP l.row.toRowW d [] (fun f vs=>PySem.call f vs) :=
 L2.walk_of (n:=63) (k:=194) (x := "script") (CX:=fun w=>CXE l.prog w) (sp:=fun w=>spL (K w.params)) hn (by decide) hdf ⟨rfl,by decide,by decide⟩ hY F (fun _ _ a ns hl _ hS=>⟨a,ns,rfl,hS,hl,fun _=>rfl⟩) fun _ _ _ _ _ z=>zg3 z
end Sk
open PySem PySem.W PyProof.Rows
section
namespace PySem.W.Fast
def tw2313675564924692786:=0
def tw15252363763640652488:=0
def tw8033742872590593983:=0
def tw17629778370163226559:=0
def tw13046762795250060191:=0
def tw3838821652969905919:=0
def tw17439830515130151455:=0
def tw655867655536053791:=0
def tw7486898993542400479:=0
def tw10687948016509631679:=0
def tw17247149531888924863:=0
def tw1436104486029459166:=0
def tw1487642894373621214:=0
def tw2707445321536709854:=0
def tw14803644581590067326:=0
def tw5308552239771149277:=0
def tw5690715779302287293:=0
def tw18116268066709457757:=0
def tw14036248899765941021:=0
def tw2710282441805521661:=0
def tw9731946892191329021:=0
def tw2845215837195005469:=0
def tw2100163410211257853:=0
def tw14712139839427163581:=0
def tw5129717208011199869:=0
def tw8701408188580330685:=0
def tw2359004678395883709:=0
def tw17362520720833104029:=0
def tw14082436213091976349:=0
def tw17412643711357074589:=0
def tw10113739962814615645:=0
def tw16145660423002175517:=0
def tw10906778584164119516:=0
def tw631382715106637724:=0
def tw16287615795497535292:=0
def tw6762142005408221948:=0
def tw17401534930572431932:=0
def tw3765519466961634876:=0
def tw13511432311499049468:=0
def tw13487964871311390044:=0
def tw3621978532094490940:=0
def tw11202020051017583900:=0
def tw12129711935603414268:=0
def tw10799652070313193692:=0
def tw1169080186342839516:=0
def tw2264714486564726844:=0
def tw11050280728262770651:=0
def tw8070324949711469211:=0
def tw4152060718498330267:=0
def tw5777305036638352987:=0
def tw7524152201691862587:=0
def tw3411023663741152731:=0
def tw14958871400342116795:=0
def tw14561629784557450651:=0
def tw128446194878935323:=0
def tw1542671149622947995:=0
def tw520317050882072635:=0
def tw17145340229651322:=0
def tw17756007867626257210:=0
def tw9964782171679100730:=0
def tw1839111998521174650:=0
def tw11426957087695287930:=0
def tw170384656758851930:=0
def tw8505462952580977850:=0
def tw3643884343476597914:=0
def tw10097461720538632250:=0
def tw9864927245897252922:=0
def tw13388797525136347993:=0
def tw15710283100384407321:=0
def tw13732019197957672729:=0
def tw7154403933848994393:=0
def tw1209609304092156377:=0
def tw10064710888645713113:=0
def tw8932932824023516345:=0
def tw4549202488583782264:=0
def tw1690575120311036792:=0
def tw18137663599799898968:=0
def tw8072694433259862840:=0
def tw6481998335714181912:=0
def tw18190610545396795160:=0
def tw5967281028908144184:=0
def tw17028285069126457912:=0
def tw4178114444589147640:=0
def tw15450175443844922712:=0
def tw4733408179912521016:=0
def tw10534696182034581752:=0
def tw14355975046850440408:=0
def tw4611163379307350232:=0
def tw9394133025582218424:=0
def tw6024495764747349080:=0
def tw1214533259776683959:=0
def tw2371294761197013911:=0
def tw217467067876065015:=0
def tw1699041927091026615:=0
def tw7572887640742618743:=0
def tw11434942417113404023:=0
def tw15730816719703864855:=0
def tw13649980395495080439:=0
def tw8139646261832815095:=0
def tw7606286581285408983:=0
def tw5138346892467415159:=0
def tw8943905256242006103:=0
def tw13034187237367525431:=0
def tw3795486242930805750:=0
def tw2199408497799708598:=0
def tw15498363471635638102:=0
def tw1373474242300441398:=0
def tw2145846962155362070:=0
def tw5431058610822228726:=0
def tw1595390127133636246:=0
def tw10170612288785984118:=0
def tw4925085204615041622:=0
def tw4444750293116572054:=0
def tw14496441762372051350:=0
def tw15833033166944895254:=0
def tw15059908930760387702:=0
def tw17870544397269525590:=0
def tw1881171314546569173:=0
def tw6582117096152276885:=0
def tw12189420856041565045:=0
def tw1074108292707891029:=0
def tw16148548431404145429:=0
def tw7239170130037119733:=0
def tw11404588884632671893:=0
def tw14856861884504465877:=0
def tw16377250840485680437:=0
def tw10878328670270850165:=0
def tw3592781567687085812:=0
def tw18187049405969421972:=0
def tw7023829552467129972:=0
def tw3570646105851783732:=0
def tw7907676383563418164:=0
def tw9083123219535400340:=0
def tw7438661631649761524:=0
def tw10219891510783290548:=0
def tw17163572114404658099:=0
def tw7775734227008325555:=0
def tw2100073165986441075:=0
def tw4551593585685626643:=0
def tw3910804343647456531:=0
def tw10992067350529305843:=0
def tw11896077206905985075:=0
def tw7842528589087199251:=0
def tw15922131914722270194:=0
def tw14879625706633717522:=0
def tw17693948886863206002:=0
def tw3251342995107187058:=0
def tw4668591199352894770:=0
def tw9967366377820282130:=0
def tw3387431773905662194:=0
def tw13373185637568098354:=0
def tw5326414934821811218:=0
def tw6571392599210359729:=0
def tw4197997517775838097:=0
def tw18071054373795520337:=0
def tw3965544741898667825:=0
def tw3660388560668009201:=0
def tw3423683533694344881:=0
def tw16283659249651782321:=0
def tw12048728050349264497:=0
def tw9751895084458836465:=0
def tw14877759789622791601:=0
def tw7047333076080334161:=0
def tw3780615006425008465:=0
def tw6212758080023416081:=0
def tw4114282656787431601:=0
def tw17377802596135271569:=0
def tw7912263076919793809:=0
def tw8086253841807332465:=0
def tw12976322631553776689:=0
def tw11361527506428045361:=0
def tw11353024142374255600:=0
def tw8987272067155968816:=0
def tw4319426965006083728:=0
def tw17522797630046882448:=0
def tw16813265962610432624:=0
def tw10024012907300053456:=0
def tw8978866833199402384:=0
def tw12518953140068038960:=0
def tw13547443189098484623:=0
def tw3207901327894494063:=0
def tw14852083536846545711:=0
def tw4874855840734596783:=0
def tw18159177769002307119:=0
def tw10660736121224681839:=0
def tw14559143357289752911:=0
def tw10366731406913125711:=0
def tw18445554214913881359:=0
def tw1199742043871658255:=0
def tw9009531355943529647:=0
def tw6599061225398943887:=0
def tw5345192311685390286:=0
def tw9010623832324037454:=0
def tw15144403391947436814:=0
def tw2630126107773491950:=0
def tw16600450478010682094:=0
def tw16055529413485632142:=0
def tw7123337462534923918:=0
def tw12622792027347800462:=0
def tw6899177364122562926:=0
def tw17551991000870206510:=0
def tw10024241062256561166:=0
def tw17491667189970346989:=0
def tw16505432811505079117:=0
def tw15215974206047391533:=0
def tw15968449913807139405:=0
def tw2400706684945287725:=0
def tw9944722941390171565:=0
def tw4631808212773908781:=0
def tw15371399407814107213:=0
def tw5785127180238437453:=0
def tw16809271704135220301:=0
def tw14236040400433895469:=0
def tw4081882411568179245:=0
def tw2531021499559714764:=0
def tw5969243416404460428:=0
def tw6416766050961659756:=0
def tw7127717302550708012:=0
def tw15733173100680076972:=0
def tw7273944259867544204:=0
def tw3596827081084328556:=0
def tw8193261258824595020:=0
def tw8193672098196629900:=0
def tw1715678546165197036:=0
def tw6983779367553138892:=0
def tw7916302299493366892:=0
def tw15168358959380069452:=0
def tw16246518991619661868:=0
def tw1427980028762778668:=0
def tw4921584333868265484:=0
def tw16489009359940115339:=0
def tw5948422611719464811:=0
def tw18264841199481494187:=0
def tw8127929453723717227:=0
def tw17152240018967066155:=0
def tw2215379144499152427:=0
def tw11951116618827606507:=0
def tw6199092417706144171:=0
def tw8949349932477849963:=0
def tw10474521858495489355:=0
def tw5157284214479528235:=0
def tw427513472633277707:=0
def tw7927457535534602475:=0
def tw6311565032271331499:=0
def tw6959144466478479531:=0
def tw9841686759889464459:=0
def tw3961808546393998475:=0
def tw3503139690174512203:=0
def tw7260913806956864555:=0
def tw3855995895980040170:=0
def tw14893640837122416554:=0
def tw6819088731342289834:=0
def tw13502734400627403594:=0
def tw4513085796779745098:=0
def tw5271296311429734218:=0
def tw13413253257934559658:=0
def tw13035938331527290218:=0
def tw3364837797641829706:=0
def tw2289474912095565994:=0
def tw10287425615310271594:=0
def tw7725124356114638890:=0
def tw8109316915546815401:=0
def tw16816004232476591945:=0
def tw7243244479349778057:=0
def tw97843423576453705:=0
def tw11374380786854245833:=0
def tw4378217674070661417:=0
def tw10969059598162245641:=0
def tw11105639318756686824:=0
def tw14734302768666029032:=0
def tw2900487563544375208:=0
def tw1737446570180123560:=0
def tw16128935075263977384:=0
def tw12452947860733047592:=0
def tw345662484797555496:=0
def tw3993455834176574216:=0
def tw6112328671413496488:=0
def tw6832740543256186504:=0
def tw13703997336420751944:=0
def tw6042750495872511400:=0
def tw11385410421355127176:=0
def tw9075051677229580648:=0
def tw10091325232655515976:=0
def tw2622003113733050632:=0
def tw13236645976953057544:=0
def tw13776527744491801704:=0
def tw14833150081280614504:=0
def tw13814675484797085607:=0
def tw16329565257638603655:=0
def tw13537495976856718055:=0
def tw17370333428963055271:=0
def tw14442771860140637703:=0
def tw11529557266826035559:=0
def tw7977163977663329415:=0
def tw1465060951744150535:=0
def tw11666702607921818470:=0
def tw12297146987227873990:=0
def tw11371102227164349030:=0
def tw2451794998721779270:=0
def tw5385278042787357094:=0
def tw18312005071351847078:=0
def tw1498214038177626246:=0
def tw7080919894935770150:=0
def tw17373286583361739814:=0
def tw4489681976417528838:=0
def tw15305705019585104869:=0
def tw15292010510684508101:=0
def tw10151580221824745349:=0
def tw13290766136511365957:=0
def tw17760960166734757669:=0
def tw4160351025262309061:=0
def tw15875434079339674213:=0
def tw17786356912891227717:=0
def tw10677267538579560965:=0
def tw16251216354192578021:=0
def tw15229916795604123109:=0
def tw11888546113087343909:=0
def tw4351843500269153477:=0
def tw2537440862431177925:=0
def tw1546738442070978436:=0
def tw17238445357288128356:=0
def tw6182643054675215076:=0
def tw18035444626485090020:=0
def tw13322232010344488580:=0
def tw5738135530156089956:=0
def tw1091806908408453636:=0
def tw16238873673464281572:=0
def tw15460642748067554532:=0
def tw14733488909272192164:=0
def tw613853628856903780:=0
def tw8621063468381548644:=0
def tw6934198113760540579:=0
def tw15393628539295687555:=0
def tw12758034425459402435:=0
def tw514907379782379075:=0
def tw7265802571502994851:=0
def tw3007981418558341507:=0
def tw1148123468117320931:=0
def tw1012754068732745891:=0
def tw7446351281260536899:=0
def tw14941670993646655491:=0
def tw2986955390721287171:=0
def tw11298979622642562:=0
def tw821879738002069378:=0
def tw11173536566908088162:=0
def tw4206067553825791842:=0
def tw15148115448250886946:=0
def tw1116392106647165634:=0
def tw16325264556173985346:=0
def tw12228156124381446722:=0
def tw11381825743998669154:=0
def tw5881052009412585730:=0
def tw1110106248638799074:=0
def tw9258400716071221410:=0
def tw8479815459019919490:=0
def tw2244842023837164578:=0
def tw10188976249358807042:=0
def tw10972975234858260482:=0
def tw13002662951336085441:=0
def tw15099299156779959169:=0
def tw15684002837604451905:=0
def tw18206255064997415489:=0
def tw17006404494151870785:=0
def tw5267681870498944065:=0
def tw10529394094237303841:=0
def tw10673533464039626688:=0
def tw9772897061845069568:=0
def tw7335942129779058400:=0
def tw4581590500586610240:=0
def tw1023049545709828640:=0
def tw12317500295361967552:=0
def tw17192773176924306848:=0
def tw4632069302743892384:=0
def tw3907296499343442240:=0
def tw13210040765940605120:=0
def tw7731146448510948416:=0
def tw3102279674270525504:=0
end PySem.W.Fast
end
set_option maxRecDepth 100000 in
set_option maxHeartbeats 0 in
theorem PySem.Challenge.cw_skeinwood_k94_whole_deeds_on_long_texts_holds : PySem.Challenge.rw_skeinwood_k94_whole_deeds_on_long_texts.Holds := by
 w_on; o_law; k_head; (case hw => w_witness2)
 k_fill
 refine Sk.walk (l := PySem.Challenge.rw_skeinwood_k94_whole_deeds_on_long_texts) rfl rfl (fun w h Y => PySem.W.kIn_of Y) ?F
 case F =>
  intro w mg fa h KX G hmg
  refine' Sk.all_mk KX G hmg ?aC0 ?a0 ?a7 ?a8 ?a9 ?a10 ?a11 ?a14 ?a17 ?a18 ?a20 ?a21 ?a22 ?a23 ?a24 ?a34 ?a35 ?a57 ?a1 ?a2 ?a3 ?a4 ?a5 ?a6 ?a12 ?a13 ?a15 ?a16 ?a19 ?a25 ?a26 ?a27 ?a28 ?a29 ?a30 ?a31 ?a32 ?a33 ?a36 ?a37 ?a38 ?a39 ?a40 ?a41 ?a42 ?a43 ?a44 ?a45 ?a46 ?a47 ?a48 ?a49 ?a50 ?a51 ?a52 ?a53 ?a54 ?a55 ?a56 ?a58 ?a59 ?a60 ?a61 ?kk0 ?mk0 ?kc0 ?nf0_0 ?nf0_1 ?nf0_2 ?nf0_3 ?nf0_4 ?nf0_5 ?nf0_6 ?nf0_7 ?z_abs ?z_all ?z_bool ?z_enumerate ?z_int ?z_isinstance ?z_len ?z_max ?z_min ?z_range ?z_str ?z_sum ?e_SkeinError ?e_NoText ?x_NoText ?e_NoPiece ?x_NoPiece ?e_Loose ?x_Loose ?e_Unlevel ?x_Unlevel ?e_TooLong ?x_TooLong ?e_NoPlace ?x_NoPlace ?m_LEAF_SIGNS ?m_MOST_PLAIN ?m_MOST_SIGNS
  (case aC0 => apply Sm.na;k_is)
  (case a0 => apply Sm.dn<;>k_is)
  (case a7 => apply Sm.dn<;>k_is)
  (case a8 => apply Sm.dn<;>k_is)
  (case a9 => apply Sm.dn<;>k_is)
  (case a10 => apply Sm.dn<;>k_is)
  (case a11 => apply Sm.dn<;>k_is)
  (case a14 => apply Sm.dn<;>k_is)
  (case a17 => apply Sm.dn<;>k_is)
  (case a18 => apply Sm.dn<;>k_is)
  (case a20 => apply Sm.dn<;>k_is)
  (case a21 => apply Sm.dn<;>k_is)
  (case a22 => apply Sm.dn<;>k_is)
  (case a23 => apply Sm.dn<;>k_is)
  (case a24 => apply Sm.dn<;>k_is)
  (case a34 => apply Sm.dn<;>k_is)
  (case a35 => apply Sm.dn<;>k_is)
  (case a57 => apply Sm.dn<;>k_is)
  (case a1 => apply Sm.dk<;>k_is)
  (case a2 => apply Sm.dk<;>k_is)
  (case a3 => apply Sm.dk<;>k_is)
  (case a4 => apply Sm.dk<;>k_is)
  (case a5 => apply Sm.dk<;>k_is)
  (case a6 => apply Sm.dk<;>k_is)
  (case a12 => apply Sm.dk<;>k_is)
  (case a13 => apply Sm.dk<;>k_is)
  (case a15 => apply Sm.dk<;>k_is)
  (case a16 => apply Sm.dk<;>k_is)
  (case a19 => apply Sm.dk<;>k_is)
  (case a25 => apply Sm.dk<;>k_is)
  (case a26 => apply Sm.dk<;>k_is)
  (case a27 => apply Sm.dk<;>k_is)
  (case a28 => apply Sm.dk<;>k_is)
  (case a29 => apply Sm.dk<;>k_is)
  (case a30 => apply Sm.dk<;>k_is)
  (case a31 => apply Sm.dk<;>k_is)
  (case a32 => apply Sm.dk<;>k_is)
  (case a33 => apply Sm.dk<;>k_is)
  (case a36 => apply Sm.dk<;>k_is)
  (case a37 => apply Sm.dk<;>k_is)
  (case a38 => apply Sm.dk<;>k_is)
  (case a39 => apply Sm.dk<;>k_is)
  (case a40 => apply Sm.dk<;>k_is)
  (case a41 => apply Sm.dk<;>k_is)
  (case a42 => apply Sm.dk<;>k_is)
  (case a43 => apply Sm.dk<;>k_is)
  (case a44 => apply Sm.dk<;>k_is)
  (case a45 => apply Sm.dk<;>k_is)
  (case a46 => apply Sm.dk<;>k_is)
  (case a47 => apply Sm.dk<;>k_is)
  (case a48 => apply Sm.dk<;>k_is)
  (case a49 => apply Sm.dk<;>k_is)
  (case a50 => apply Sm.dk<;>k_is)
  (case a51 => apply Sm.dk<;>k_is)
  (case a52 => apply Sm.dk<;>k_is)
  (case a53 => apply Sm.dk<;>k_is)
  (case a54 => apply Sm.dk<;>k_is)
  (case a55 => apply Sm.dk<;>k_is)
  (case a56 => apply Sm.dk<;>k_is)
  (case a58 => apply Sm.dk<;>k_is)
  (case a59 => apply Sm.dk<;>k_is)
  (case a60 => apply Sm.dk<;>k_is)
  (case a61 => apply Sm.dk<;>k_is)
  (case kk0 => constructor<;>k_is)
  (case mk0 => k_is)
  (case kc0 => k_is)
  (case nf0_0 => apply Sm.fatt;k_is)
  (case nf0_1 => apply Sm.fatt;k_is)
  (case nf0_2 => apply Sm.fatt;k_is)
  (case nf0_3 => apply Sm.fatt;k_is)
  (case nf0_4 => apply Sm.fatt;k_is)
  (case nf0_5 => apply Sm.fatt;k_is)
  (case nf0_6 => apply Sm.fatt;k_is)
  (case nf0_7 => apply Sm.fatt;k_is)
  (case z_abs => apply Sm.na;k_is)
  (case z_all => apply Sm.na;k_is)
  (case z_bool => apply Sm.na;k_is)
  (case z_enumerate => apply Sm.na;k_is)
  (case z_int => apply Sm.na;k_is)
  (case z_isinstance => apply Sm.na;k_is)
  (case z_len => apply Sm.na;k_is)
  (case z_max => apply Sm.na;k_is)
  (case z_min => apply Sm.na;k_is)
  (case z_range => apply Sm.na;k_is)
  (case z_str => apply Sm.na;k_is)
  (case z_sum => apply Sm.na;k_is)
  (case e_SkeinError => apply Sm.na;k_is)
  (case e_NoText => apply Sm.na;k_is)
  (case x_NoText => apply Sm.xi;k_exc)
  (case e_NoPiece => apply Sm.na;k_is)
  (case x_NoPiece => apply Sm.xi;k_exc)
  (case e_Loose => apply Sm.na;k_is)
  (case x_Loose => apply Sm.xi;k_exc)
  (case e_Unlevel => apply Sm.na;k_is)
  (case x_Unlevel => apply Sm.xi;k_exc)
  (case e_TooLong => apply Sm.na;k_is)
  (case x_TooLong => apply Sm.xi;k_exc)
  (case e_NoPlace => apply Sm.na;k_is)
  (case x_NoPlace => apply Sm.xi;k_exc)
  (case m_LEAF_SIGNS => apply Sm.na;k_is)
  (case m_MOST_PLAIN => apply Sm.na;k_is)
  (case m_MOST_SIGNS => apply Sm.na;k_is)
