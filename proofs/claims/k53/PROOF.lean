import PyProof.Rows.All
import Wide.All
import OpenK.AllK
import Wide.FinOn
import Lean
import PyProof.EqAt
import PyProof.EqKinds
import PyProof.TupleCall
import PyProof.StrCalls2
import PyProof.SumAny
import PyProof.Rows.Range3
import PyProof.StrBlockI
import PyProof.SliceStr2
import PyProof.IsRules
import PyProof.StrBlock2
import KE.KRevIter
import PyProof.StrBlock
import PyProof.StrLawsIn
import PySem.Challenge.RW_skeinwood_k53_spells_just
set_option Elab.async false
set_option linter.all false
set_option maxRecDepth 100000
noncomputable section
namespace L2
open PySem PySem.Spec PyProof.Rows
abbrev Key:=Sum Int Str
abbrev b01 (b:Bool):Int:=if b then 1 else 0
def yd8:Key->Value->Bool
 | .inl k,.bool b=>decide (k=b01 b)
 | .inl k,v=>Value.isInt k v
 | .inr x,v=>Value.isStrOf x v
def keyH (w:World):Key->Int
 | .inl k=>hashInt k
 | .inr x=>hashStr w x
theorem zat:∀ {k:Key} {v:Value},yd8 k v=true->(∃ i t,k=Sum.inl i/\v=Value.int i t)\/(∃ b,k=Sum.inl (b01 b)/\v=Value.bool b)\/(∃ x t,k=Sum.inr x/\v=Value.str x t)
 | .inl i,v,h=>by
  cases v with
  | bool b=>exact .inr (.inl ⟨b,by rw [of_decide_eq_true (show decide (i=b01 b)=true from h)],rfl⟩)
  | int j t =>
   obtain ⟨t,e⟩:=Value.isInt_shape (k:=i) (v:=.int j t) h
   exact .inl ⟨i,t,rfl,e⟩
  | _=>exact absurd h (by simp [yd8,Value.isInt])
 | .inr x,v,h=>by
  obtain ⟨t,e⟩:=Value.isStrOf_shape (x:=x) (v:=v) h
  exact .inr (.inr ⟨x,t,rfl,e⟩)
theorem zgy (i:Int) (t:Tok):yd8 (.inl i) (.int i t)=true:=by simp [yd8,Value.isInt]
theorem zgz (x:Str) (t:Tok):yd8 (.inr x) (.str x t)=true:=by simp [yd8,Value.isStrOf]
theorem yeT (a b:Int):decide ((Sum.inl a:Key)=Sum.inl b)=(a == b):=by
 by_cases e:a=b
 ·subst e;simp
 ·have h : ¬ (Sum.inl a:Key)=Sum.inl b:=fun q=>e (Sum.inl.inj q)
  rw [decide_eq_false h]
  exact (beq_eq_false_iff_ne.mpr e).symm
theorem ygu (a b:Str):decide ((Sum.inr a:Key)=Sum.inr b)=decide (a=b):=by
 by_cases e:a=b
 ·subst e;simp
 ·have h : ¬ (Sum.inr a:Key)=Sum.inr b:=fun q=>e (Sum.inr.inj q)
  rw [decide_eq_false h,decide_eq_false e]
theorem yfn (a:Int) (b:Str):decide ((Sum.inl a:Key)=Sum.inr b)=false:=decide_eq_false (fun q=>nomatch q)
theorem yfo (a:Str) (b:Int):decide ((Sum.inr a:Key)=Sum.inl b)=false:=decide_eq_false (fun q=>nomatch q)
theorem zcK {prog:Program} {w:World} {A:Around} {E:Value->Shared->Prop} {s:Shared} {b:Bool} {Q:Int->Shared->Prop} (h:Q (hashInt (b01 b)) { s with toks:=s.toks+1 }) :
  wpAny (model prog w) A (pyHash (.bool b)) Q E s:=by
 unfold pyHash
 unfold pyHashByItsType
 have hv:[Value.bool b].any Value.onHeap=false:=rfl
 refine wpAny_bind ?_
 rw [cRoomFor,if_neg (by rw [hv];exact Bool.false_ne_true)];refine wpAny_pure ?_
 refine wpAny_bind (wpAny_specialOf (PySem.typeIs_bool s b) PySem.F.slot_bool_hash.lookup ?_)
 show wpAny _ _ (if (some (Value.builtin "int.__hash__") == some Value.none)=true then _ else _) Q E s
 rw [if_neg (by rw [beq_builtin_none];exact Bool.false_ne_true)]
 refine wpAny_bind (wpAny_specialOf (PySem.typeIs_bool s b) PySem.F.slot_bool_hash.lookup ?_)
 show wpAny _ _ (callSpecialIfBoundUnlessNone? (.bool b) "__hash__" _ >>= _) Q E s
 cases b with
 | false =>
  refine wpAny_bind (wpAny_callSpecialIfBoundUnlessNone?_slot (PySem.typeIs_bool s false) PySem.F.slot_bool_hash
   (wpAny_call_entry PySem.F.slot_bool_hash (PySem.typeIs_bool s false) entry_int_hash
    (show wpAny _ _ (do ret (<- mkInt 0)) _ _ s from wpAny_ret_mkInt ?_) (args_int_hash _)))
  exact wpAny_pure h
 | true =>
  refine wpAny_bind (wpAny_callSpecialIfBoundUnlessNone?_slot (PySem.typeIs_bool s true) PySem.F.slot_bool_hash
   (wpAny_call_entry PySem.F.slot_bool_hash (PySem.typeIs_bool s true) entry_int_hash
    (show wpAny _ _ (do ret (<- mkInt 1)) _ _ s from wpAny_ret_mkInt ?_) (args_int_hash _)))
  exact wpAny_pure h
theorem zih (a b:Bool):(a == b)=decide ((Sum.inl (b01 a):Key)=Sum.inl (b01 b)):=by cases a<;>cases b<;>decide
def ybF (prog:Program) (w:World):PySem.KeyKind prog w Key where
 is:=yd8
 hash:=keyH w
 inj:=fun v a b ha hb=>by
  rcases zat ha with ⟨i,t,rfl,rfl⟩ | ⟨c,rfl,rfl⟩ | ⟨x,t,rfl,rfl⟩
  ·rcases zat hb with ⟨j,u,rfl,e⟩ | ⟨d,rfl,e⟩ | ⟨y,u,rfl,e⟩
   ·injection e with e1 _;rw [e1]
   ·exact nomatch e
   ·exact nomatch e
  ·rcases zat hb with ⟨j,u,rfl,e⟩ | ⟨d,rfl,e⟩ | ⟨y,u,rfl,e⟩
   ·exact nomatch e
   ·injection e with e1;rw [e1]
   ·exact nomatch e
  ·rcases zat hb with ⟨j,u,rfl,e⟩ | ⟨d,rfl,e⟩ | ⟨y,u,rfl,e⟩
   ·exact nomatch e
   ·exact nomatch e
   ·injection e with e1 _;rw [e1]
 byValue:=fun k v h=>by
  rcases zat h with ⟨i,t,rfl,rfl⟩ | ⟨c,rfl,rfl⟩ | ⟨x,t,rfl,rfl⟩<;>rfl
 pyHash:=fun hv h=>by
  rcases zat hv with ⟨i,t,rfl,rfl⟩ | ⟨c,rfl,rfl⟩ | ⟨x,t,rfl,rfl⟩
  ·exact wpAny_pyHash_int h
  ·exact zcK h
  ·exact wpAny_pyHash_str h
 eqBool:=fun hu hv h=>by
  rcases zat hu with ⟨i,t,rfl,rfl⟩ | ⟨c,rfl,rfl⟩ | ⟨x,t,rfl,rfl⟩
  ·rcases zat hv with ⟨j,u,rfl,rfl⟩ | ⟨d,rfl,rfl⟩ | ⟨y,u,rfl,rfl⟩
   ·rw [yeT] at h;exact wpAny_eqBool_int h
   ·rw [yeT] at h;exact SeqAt.EqAt.int_bool i t d _ _ _ _ h
   ·rw [yfn] at h;exact SeqAt.EqAt.int_str i t y u _ _ _ _ h
  ·rcases zat hv with ⟨j,u,rfl,rfl⟩ | ⟨d,rfl,rfl⟩ | ⟨y,u,rfl,rfl⟩
   ·rw [yeT] at h;exact SeqAt.EqAt.bool_int c j u _ _ _ _ h
   ·rw [<- zih] at h;exact SeqAt.EqAt.bool_bool c d _ _ _ _ h
   ·rw [yfn] at h;exact SeqAt.EqAt.bool_str c y u _ _ _ _ h
  ·rcases zat hv with ⟨j,u,rfl,rfl⟩ | ⟨d,rfl,rfl⟩ | ⟨y,u,rfl,rfl⟩
   ·rw [yfo] at h;exact SeqAt.EqAt.str_int x t j u _ _ _ _ h
   ·rw [yfo] at h;exact SeqAt.EqAt.str_bool x t d _ _ _ _ h
   ·rw [ygu] at h;exact wpAny_eqBool_str h
 «strs» := fun k x t v h=>by
  rcases zat h with ⟨i,u,rfl,e⟩ | ⟨d,rfl,e⟩ | ⟨y,u,rfl,e⟩
  ·exact nomatch e
  ·exact nomatch e
  ·injection e with e1 _
   subst e1
   cases v<;>rfl
theorem zcL (prog:Program) (w:World) (i:Int) (t:Tok):(ybF prog w).is (.inl i) (.int i t)=true:=zgy i t
theorem zcM (prog:Program) (w:World) (x:Str) (t:Tok):(ybF prog w).is (.inr x) (.str x t)=true:=zgz x t
end L2
namespace L2
open PySem PySem.Spec PyProof.Rows
inductive V where
 | non | bl (b:Bool) | int (i:Int) | str (x:Str) | byt (b:Array UInt8) | flt (b:UInt64) | ref (a:Addr) | ty (n:String)
 deriving DecidableEq
def RelV:V->Value->Prop
 | .non,u=>u=Value.none
 | .bl b,u=>u=Value.bool b
 | .int i,u=>∃ t,u=Value.int i t
 | .str x,u=>∃ t,u=Value.str x t
 | .byt b,u=>∃ t,u=Value.bytes b t
 | .flt b,u=>∃ t,u=Value.float b t
 | .ref a,u=>u=Value.ref a
 | .ty n,u=>u=Value.type n
abbrev Vals:List V->List Value->Prop:=Paired RelV
theorem Vals.length {xs:List V} {us:List Value} (r:Vals xs us):xs.length=us.length:=Paired.length r
theorem Vals.get:∀ {xs:List V} {us:List Value} {i:Nat} {x:V},Vals xs us->xs[i]? = some x->∃ u,us[i]? = some u/\RelV x u
 | _,_,_,_,.nil,e=>by simp at e
 | _,_,0,_,.cons r _,e=>by simp at e;subst e;exact ⟨_,rfl,r⟩
 | _,_,i+1,x,.cons _ t,e=>by
  obtain ⟨u,h1,h2⟩:=Vals.get (i:=i) (x:=x) t (by simpa using e)
  exact ⟨u,by simpa using h1,h2⟩
theorem Vals.set {x:V} {u:Value} (r:RelV x u):∀ {xs:List V} {us:List Value} (i:Nat),Vals xs us->Vals (xs.set i x) (us.set i u)
 | _,_,_,.nil=>.nil
 | _,_,0,.cons _ t=>.cons r t
 | _,_,i+1,.cons q t=>.cons q (Vals.set r i t)
theorem Vals.append:∀ {xs ys:List V} {us ws:List Value},Vals xs us->Vals ys ws->Vals (xs++ys) (us++ws)
 | _,_,_,_,.nil,s=>s
 | _,_,_,_,.cons r t,s=>.cons r (Vals.append t s)
theorem Vals.take:∀ {xs:List V} {us:List Value} (n:Nat),Vals xs us->Vals (xs.take n) (us.take n)
 | _,_,0,_=>.nil
 | _,_,_+1,.nil=>.nil
 | _,_,n+1,.cons r t=>.cons r (Vals.take n t)
theorem Vals.drop:∀ {xs:List V} {us:List Value} (n:Nat),Vals xs us->Vals (xs.drop n) (us.drop n)
 | _,_,0,r=>r
 | _,_,_+1,.nil=>.nil
 | _,_,n+1,.cons _ t=>Vals.drop n t
def RelO:Option V->Option Value->Prop
 | some v,some u=>RelV v u
 | none,none=>True
 | _,_=>False
def KV {κ:Type}:List (κ×V)->List (κ×Value)->Prop:=Paired fun (p:κ×V) (q:κ×Value)=>p.1=q.1/\RelV p.2 q.2
def kV:Key->V
 | .inl i=>.int i
 | .inr x=>.str x
def kOf:V->Option Key
 | .int i=>some (.inl i)
 | .bl b=>some (.inl (b01 b))
 | .str x=>some (.inr x)
 | _=>none
theorem ygv (k:Key):kOf (kV k)=some k:=by cases k<;>rfl
inductive HO where
 | lst (xs:List V)
 | tup (xs:List V)
 | dK (kvs:List (Key×V)) | dT (kvs:List (List Key×V))
 | set (S:Int->Bool) (n:Nat)
 | ins (C dx:Addr) (fs:List (Str×V))
 | own (x:Addr)
 | xd (fs:List (Str×V))
 | met (f x:Addr)
 | rng (lo hi:Int)
 | frz (o:Obj) (u:HO)
 | tbl (ps:Array Value)
 | ext (φ:Heap->Prop)
abbrev Hp:=Addr->Option HO
def upd (H:Hp) (a:Addr) (o:HO):Hp:=fun b=>if b=a then some o else H b
theorem zay {H:Hp} {a:Addr} {o:HO}:upd H a o a=some o:=by unfold upd;rw [if_pos rfl]
theorem yaT {H:Hp} {a b:Addr} {o:HO} (h:b≠a):upd H a o b=H b:=by unfold upd;rw [if_neg h]
theorem yhT {H:Hp} {a b:Addr} {o u:HO} (h:H a=some o) (h':H b=some u) (d:o≠u):a≠b:=by
 intro e;subst e;rw [h] at h';exact d (Option.some.inj h')
theorem zav {H:Hp} {a b:Addr} {o:HO} (h:H a=some o) (h':H b=none):a≠b:=by
 intro e;subst e;rw [h] at h';cases h'
section
variable (P:Program) (w:World)
def ObjOk (H:Hp) (h:Heap) (a:Addr):HO->Prop
 | .lst xs=>xs.length<=sizeLine/\∃ (its:List Value) (n:Nat),Vals xs its/\h.get? a=some { cls:=.type "list",data:=.seq its.toArray n }
 | .tup xs=>xs.length<=sizeLine/\∃ its:List Value,Vals xs its/\IsTup h a its.toArray
 | .dK kvs=>kvs.length<=sizeLine/\(a == sysModules)=false/\∃ vs,KV kvs vs/\h.DictOf (ybF P w) a vs
 | .dT kvs=>kvs.length<=sizeLine/\(a == sysModules)=false/\∃ xs:List (List Key×Addr×Value),
   Paired (fun (p:List Key×V) (q:List Key×Addr×Value)=>p.1=q.1/\(∃ ys,H q.2.1=some (.tup ys)/\ys.map kOf=p.1.map some)/\RelV p.2 q.2.2) kvs xs /\
   ∃ o es ep,h.get? a=some o/\o.ExactDict/\o.data = .dict es ep/\es.toList=xs.map (entryOfKey (tupleKind (ybF P w)))/\(xs.map (·.1)).Nodup
 | .set S n=>h.SetOf (intKind P w) a S n
 | .ins C dx fs=>H dx=some (.own a)/\fs.length<=1000/\dx≠a/\h.get? a=some (PySem.W.instObj C dx) /\
   ∃ mA,h.Ns1 dx mA/\(∀ f,RelO (fs.lookup f) (mA f))/\PySem.Within mA (fs.map (·.1))
 | .own _=>∃ o,h.get? a=some o
 | .xd fs=>∃ mA,h.Ns1 a mA/\∀ f,RelO (fs.lookup f) (mA f)
 | .rng lo hi=>∃ t u v,h.get? a=some { cls:=.type "range",data:=.fields #[.int lo t,.int hi u,.int 1 v] }
 | .frz o u=>h.get? a=some o/\ObjOk H h a u
 | .tbl ps=>h.get? a=some { cls:=.none,data:=.fields ps }
 | .met f x=>h.get? a=some (PySem.W.methodObj (.ref f) (.ref x))
 | .ext φ=>φ h/\(∃ o,h.get? a=some o)/\∀ h1 h2:Heap,φ h1->(∀ o,h1.get? a=some o->h2.get? a=some o)->φ h2
def HOk (H:Hp) (h:Heap):Prop:=∀ a o,H a=some o->ObjOk P w H h a o
end
section
variable {P:Program} {w:World} {H H':Hp} {h h':Heap} {a:Addr} {o:HO}
theorem ObjOk.lt (x:ObjOk P w H h a o):a<h.objs.size:=by
 cases o with
 | lst xs=>obtain ⟨_,_,_,_,e⟩:=x;exact Heap.lt_size e
 | tup xs=>obtain ⟨_,_,_,p⟩:=x;exact p.lt
 | dK kvs=>obtain ⟨_,_,_,_,o,_,_,e,_⟩:=x;exact Heap.lt_size e
 | dT kvs=>obtain ⟨_,_,_,_,o,_,_,e,_⟩:=x;exact Heap.lt_size e
 | set S n=>obtain ⟨o,_,_,_,e,_⟩:=x;exact Heap.lt_size e
 | ins C dx fs=>obtain ⟨_,_,_,e,_⟩:=x;exact Heap.lt_size e
 | own y=>obtain ⟨_,e⟩:=x;exact Heap.lt_size e
 | xd fs=>obtain ⟨_,⟨_,_,_,e,_⟩,_⟩:=x;exact Heap.lt_size e
 | rng lo hi=>obtain ⟨_,_,_,e⟩:=x;exact Heap.lt_size e
 | frz ob u=>obtain ⟨e,_⟩:=x;exact Heap.lt_size e
 | tbl ps=>exact Heap.lt_size (show h.get? a=some _ from x)
 | met f y=>exact Heap.lt_size (show h.get? a=some _ from x)
 | ext φ=>obtain ⟨_,⟨_,e⟩,_⟩:=x;exact Heap.lt_size e
theorem Paired.mapP {α β:Type} {F G:α->β->Prop}:∀ {l₁:List α} {l₂:List β},Paired F l₁ l₂->(∀ a b,F a b->G a b)->Paired G l₁ l₂
 | _,_,.nil,_=>.nil
 | _,_,.cons r t,f=>.cons (f _ _ r) (Paired.mapP t f)
theorem ObjOk.stay (x:ObjOk P w H h a o) (k:∀ b u,(b=a\/H b=some (.own a))->h.get? b=some u->h'.get? b=some u)
  (ho:∀ b,H b=some (.own a)->H' b=some (.own a)) (ht:∀ b xs,H b=some (.tup xs)->H' b=some (.tup xs)):ObjOk P w H' h' a o:=by
 induction o with
 | lst xs=>obtain ⟨z,its,n,r,e⟩:=x;exact ⟨z,its,n,r,k _ _ (.inl rfl) e⟩
 | tup xs=>obtain ⟨z,its,r,ob,e,c⟩:=x;exact ⟨z,its,r,ob,k _ _ (.inl rfl) e,c⟩
 | dK kvs=>obtain ⟨z,y,vs,r,ob,es,ep,e,c⟩:=x;exact ⟨z,y,vs,r,ob,es,ep,k _ _ (.inl rfl) e,c⟩
 | dT kvs =>
  obtain ⟨z,y,xs,r,ob,es,ep,e,c⟩:=x
  exact ⟨z,y,xs,Paired.mapP r fun p q z=>⟨z.1,z.2.1.imp fun _ e=>⟨ht _ _ e.1,e.2⟩,z.2.2⟩,ob,es,ep,k _ _ (.inl rfl) e,c⟩
 | set S n=>obtain ⟨ob,es,ep,t,e,c⟩:=x;exact ⟨ob,es,ep,t,k _ _ (.inl rfl) e,c⟩
 | ins C dx fs =>
  obtain ⟨d,z,ne,e,mA,⟨od,es,ep,e2,c⟩,r⟩:=x
  exact ⟨ho _ d,z,ne,k _ _ (.inl rfl) e,mA,⟨od,es,ep,k _ _ (.inr d) e2,c⟩,r⟩
 | own y=>obtain ⟨ob,e⟩:=x;exact ⟨ob,k _ _ (.inl rfl) e⟩
 | xd fs=>obtain ⟨mA,⟨od,es,ep,e,c⟩,r⟩:=x;exact ⟨mA,⟨od,es,ep,k _ _ (.inl rfl) e,c⟩,r⟩
 | rng lo hi=>obtain ⟨t,u,v,e⟩:=x;exact ⟨t,u,v,k _ _ (.inl rfl) e⟩
 | frz ob u ih=>obtain ⟨e,q⟩:=x;exact ⟨k _ _ (.inl rfl) e,ih q⟩
 | tbl ps =>
  have e:h.get? a=some { cls:=.none,data:=.fields ps }:=x
  show h'.get? a=some { cls:=.none,data:=.fields ps }
  exact k a _ (.inl rfl) e
 | met f y =>
  have e:h.get? a=some (PySem.W.methodObj (.ref f) (.ref y)):=x
  show h'.get? a=some (PySem.W.methodObj (.ref f) (.ref y))
  exact k a _ (.inl rfl) e
 | ext φ=>obtain ⟨p,⟨o,e⟩,st⟩:=x;exact ⟨st _ _ p fun o q=>k _ _ (.inl rfl) q,⟨o,k _ _ (.inl rfl) e⟩,st⟩
theorem HOk.lt (x:HOk P w H h) (e:H a=some o):a<h.objs.size:=(x a o e).lt
theorem HOk.fresh (x:HOk P w H h) (e:h.objs.size<=a):H a=none:=by
 cases q:H a with
 | none=>rfl
 | some u=>exact absurd (Nat.lt_of_lt_of_le (x.lt q) e) (Nat.lt_irrefl _)
theorem HOk.kept (x:HOk P w H h) (k:∀ b u,h.get? b=some u->h'.get? b=some u):HOk P w H h' := fun a o e =>
 (x a o e).stay (fun b u _ q=>k b u q) (fun _ q=>q) fun _ _ q=>q
theorem HOk.laid (x:HOk P w H h) (k:∀ b u,h.get? b=some u->h'.get? b=some u) (hp:h.objs.size<=a) (new:ObjOk P w (upd H a o) h' a o):HOk P w (upd H a o) h' := fun b u e=>by
 have hn:=x.fresh hp
 by_cases hb:b=a
 ·subst hb;rw [zay] at e;cases e;exact new
 ·rw [yaT hb] at e
  exact (x b u e).stay (fun c v _ q=>k c v q) (fun c q=>by rw [yaT (zav q hn)];exact q) fun c xs q=>by rw [yaT (zav q hn)];exact q
end
def Rd (H:Hp) (a:Addr) (u:HO):Prop:=H a=some u\/∃ o,H a=some (.frz o u)
theorem Rd.of {H:Hp} {a:Addr} {u:HO} (h:H a=some u):Rd H a u:=.inl h
theorem Rd.ok {P:Program} {w:World} {H:Hp} {h:Heap} {a:Addr} {u:HO} (r:Rd H a u) (x:HOk P w H h):ObjOk P w H h a u:=by
 rcases r with r | ⟨o,r⟩
 ·exact x a u r
 ·obtain ⟨_,q⟩:=x a _ r
  exact q
def Mut:Option HO->Prop
 | some (.lst _)=>True
 | some (.dK _)=>True
 | some (.dT _)=>True
 | some (.set _ _)=>True
 | some (.ins _ _ _)=>True
 | some (.ext _)=>True
 | _=>False
section
variable {P:Program} {w:World} {H:Hp} {h h':Heap} {x e:Addr} {o':HO}
theorem HOk.write (ok:HOk P w H h) (mu:Mut (H x)) (he:e=x\/H e=some (.own x)) (k:∀ b u,b≠e->h.get? b=some u->h'.get? b=some u) (heo:∃ u,h'.get? e=some u)
  (new:ObjOk P w (upd H x o') h' x o'):HOk P w (upd H x o') h' := fun b u q=>by
 have nown:∀ c y,H c=some (.own y)->c≠x:=fun c y r z=>by subst z;rw [r] at mu;exact mu
 have ntup:∀ c xs,H c=some (.tup xs)->c≠x:=fun c xs r z=>by subst z;rw [r] at mu;exact mu
 by_cases hb:b=x
 ·subst hb;rw [zay] at q;cases q;exact new
 ·rw [yaT hb] at q
  by_cases hbe:b=e
  ·have q':H b=some (.own x):=by
    rcases he with z | z
    ·exact absurd (hbe.trans z) hb
    ·rw [hbe];exact z
   rw [q] at q';cases q'
   obtain ⟨v,hv⟩:=heo
   exact ⟨v,by rw [hbe];exact hv⟩
  ·refine (ok b u q).stay (fun c v hc r=>k c v ?_ r) (fun c r=>by rw [yaT (nown c b r)];exact r) fun c xs r=>by rw [yaT (ntup c xs r)];exact r
   rcases hc with rfl | hc
   ·exact hbe
   ·rintro rfl
    rcases he with z | z
    ·exact nown c b hc z
    ·rw [hc] at z;cases z;exact hb rfl
end
structure Un (fs ex:List Addr) (H H':Hp) (h h':Heap):Prop where
 keep:∀ b o,h.get? b=some o->H b=none->b∉fs->b∉ex->h'.get? b=some o
 slot:∀ b o,h.get? b=some o->H b=none->b∈fs->b∉ex->∃ sl,h'.get? b=some { o with slots:=sl }
 free:∀ b o,h.get? b=some o->H b=none->b∉ex->H' b=none
 there:∀ b o,h.get? b=some o->b∉ex->∃ o',h'.get? b=some o'
 tups:∀ b xs,H b=some (.tup xs)->H' b=some (.tup xs)
 frzs:∀ b o u,H b=some (.frz o u)->H' b=some (.frz o u)
 tbls:∀ b ps,H b=some (.tbl ps)->∃ more,H' b=some (.tbl (ps++more))
section
variable {fs fs' ex ex':List Addr} {H H1 H2:Hp} {h h1 h2 h':Heap} {a x e:Addr} {o:HO}
theorem Un.any (u:Un fs ex H H1 h h1) {b:Addr} {ob:Obj} (q:h.get? b=some ob) (n:H b=none) (hx:b∉ex):∃ sl,h1.get? b=some { ob with slots:=sl }:=by
 by_cases hb:b∈fs
 ·exact u.slot b ob q n hb hx
 ·exact ⟨ob.slots,u.keep b ob q n hb hx⟩
theorem Un.kept (k:∀ b u,h.get? b=some u->h'.get? b=some u):Un fs ex H H h h' :=
 ⟨fun b ob q _ _ _=>k b ob q,fun b ob q _ _ _=>⟨ob.slots,k b ob q⟩,fun _ _ _ n _=>n,fun b ob q _=>⟨ob,k b ob q⟩,fun _ _ q=>q,fun _ _ _ q=>q,fun _ ps q=>⟨#[],by rw [q];simp⟩⟩
theorem Un.refl:Un fs ex H H h h:=Un.kept fun _ _ q=>q
theorem Un.laid (k:∀ b u,h.get? b=some u->h'.get? b=some u) (hp:h.objs.size<=a) (hn:H a=none):Un fs ex H (upd H a o) h h' where
 keep:=fun b u q _ _ _=>k b u q
 slot:=fun b u q _ _ _=>⟨u.slots,k b u q⟩
 free:=fun b u q n _=>by rw [yaT (Nat.ne_of_lt (Nat.lt_of_lt_of_le (Heap.lt_size q) hp))];exact n
 there:=fun b u q _=>⟨u,k b u q⟩
 tups:=fun b xs q=>by rw [yaT (zav q hn)];exact q
 frzs:=fun b u xs q=>by rw [yaT (zav q hn)];exact q
 tbls:=fun b ps q=>⟨#[],by rw [yaT (zav q hn),q];simp⟩
theorem Un.write (mu:Mut (H x)) (he:e=x\/H e=some (.own x)) (k:∀ b u,b≠e->h.get? b=some u->h'.get? b=some u) (heo:∃ u,h'.get? e=some u):Un fs ex H (upd H x o) h h' := by
 have hx:∀ b,H b=none->b≠x:=fun b n z=>by subst z;rw [n] at mu;exact mu
 have hb:∀ b,H b=none->b≠e:=fun b n z=>by
  subst z
  rcases he with r | r
  ·exact hx b n r
  ·rw [n] at r;cases r
 have hm:∀ b u,H b=some u -> ¬ Mut (some u)->b≠x:=fun b u q nm z=>by subst z;rw [q] at mu;exact nm mu
 refine ⟨fun b u q n _ _=>k b u (hb b n) q,fun b u q n _ _=>⟨u.slots,k b u (hb b n) q⟩,fun b u q n _=>by rw [yaT (hx b n)];exact n,fun b u q _=>?_,
  fun b xs q=>by rw [yaT (hm b _ q fun z=>z)];exact q,fun b u xs q=>by rw [yaT (hm b _ q fun z=>z)];exact q,fun b ps q=>⟨#[],by rw [yaT (hm b _ q fun z=>z),q];simp⟩⟩
 by_cases hbe:b=e
 ·subst hbe;exact heo
 ·exact ⟨u,k b u hbe q⟩
end
def trk (h:Heap) (H:Hp):List Addr:=(List.range h.objs.size).filter fun a=>(H a).isSome
def hidT (h:Heap) (H:Hp):Heap:=PySem.W.hideAll h (trk h H)
theorem zgA (h:Heap) (H:Hp):(hidT h H).objs.size=h.objs.size:=PySem.W.hideAll_size _ _
theorem zhj {h:Heap} {H:Hp} {b:Addr} {o:Obj} (e:h.get? b=some o) (n:H b=none):(hidT h H).get? b=some o :=
 PySem.W.hideAll_get _ e fun hm=>by
  have q:(H b).isSome=true:=(List.mem_filter.mp hm).2
  rw [n] at q;simp at q
theorem zii {h:Heap} {H:Hp} {b:Addr} {o:Obj} (e:(hidT h H).get? b=some o):h.get? b=some o/\H b=none:=by
 have e':h.get? b=some o:=PySem.W.of_hideAll (trk h H) e
 refine ⟨e',?_⟩
 cases q:H b with
 | none=>rfl
 | some x =>
  have hm:b∈trk h H:=List.mem_filter.mpr ⟨List.mem_range.mpr (Heap.lt_size e'),by simp [q]⟩
  have z:(hidT h H).get? b=none:=PySem.W.hideAll_none (trk h H) hm
  rw [z] at e;cases e
end L2
namespace L2
open PySem PySem.Spec PyProof.Rows
structure Mod (K:PySem.W.Frag) (mg:Str->Option Value) (base:Heap):Prop where
 kin:K.In base
 glob:base.Ns mainGlobals mg
 blt:∃ mb,base.Ns builtinsNs mb/\∀ x:Str,x ≠ "__name__" -> mb x=bootBuiltins x
 nolimit:base.NoLimit
structure Cx where
 prog:Program
 w:World
 K:PySem.W.Frag
 mg:Str->Option Value
 base:Heap
 A:Around
 N:List Str
 s₀:Shared
 H₀:Hp
 env:Env
 outer:List Env
 stack:List Env
 ex:List Addr
 fn:Str->Bool
 calm:Bool
 pn:List (Addr×Obj)
 xe:Value->Shared->Prop
def frs (l:List Env):List Addr:=l.filterMap (·.frame)
abbrev Cx.fs (X:Cx):List Addr:=frs X.outer
def Vis (sc:Scope) (x:Str):Prop:=sc.names.lookup x=some .local\/sc.names.lookup x=some .cell\/sc.names.lookup x=some .free
def Loc (sc:Scope) (x:Str):Prop:=sc.names.lookup x=some .local\/sc.names.lookup x=some .cell
def Look (env:Env) (h:Heap) (m:Str->Option Value) (x:Str) (u:Value):Prop :=
 (env.kindOf x=some .local/\m x=some u)\/((env.kindOf x=some .cell\/env.kindOf x=some .free)/\∃ c,env.cells.lookup x=some c/\h.IsCell c (some u))
structure Cx.Ok (X:Cx):Prop where
 mod:Mod X.K X.mg X.base
 kind:X.env.scope.kind = .function
 glob:X.env.globals=mainGlobals
 blt:X.env.builtins=builtinsNs
 above:X.s₀.heap.objs.size<=X.env.locals
 inj:∀ x y c,X.env.cells.lookup x=some c->X.env.cells.lookup y=some c->x=y
 has:∀ x,(X.env.kindOf x=some .cell\/X.env.kindOf x=some .free)->∃ c,X.env.cells.lookup x=some c
 cab:∀ x c,X.fn x=true->X.env.cells.lookup x=some c->X.s₀.heap.objs.size<=c
 hd:X.calm=true->X.A.handled=none
 frames:X.A.frames=some X.stack
 stk:X.stack=X.outer\/(X.stack=X.env::X.outer/\X.env.frame=some X.env.locals)
 exf:∀ b∈X.ex,b≠X.env.locals/\∀ x c,X.env.cells.lookup x=some c->c≠b
 bs:∀ b o,X.base.get? b=some o->X.s₀.heap.get? b=some o/\X.H₀ b=none
 bsz:X.base.objs.size<=X.s₀.heap.objs.size
 noex:∀ b o,X.base.get? b=some o->b∉X.ex
 exfs:∀ b∈X.ex,b∉X.fs
 funs:X.s₀.heap.FunFrames X.base X.outer
 frf:∀ b∈X.fs,X.H₀ b=none
structure Inv (X:Cx) (pins:List (Addr×Obj)) (σ:List (Option V)) (H:Hp) (s:Shared):Prop where
 ok:X.Ok
 os:s.os=X.s₀.os
 bare:AllBare s.gens
 base:Un X.fs X.ex X.H₀ H X.s₀.heap s.heap
 loc:∃ m,s.heap.Ns X.env.locals m/\∀ (i:Nat) (x:Str) (v:V),X.N[i]? = some x->σ[i]? = some (some v)->Vis X.env.scope x->∃ u,RelV v u/\Look X.env s.heap m x u
 cell:∀ x c,X.env.cells.lookup x=some c->∃ v,s.heap.IsCell c v
 free:H X.env.locals=none
 freeC:∀ x c,X.env.cells.lookup x=some c->H c=none
 pin:∀ p∈X.pn++pins,s.heap.get? p.1=some p.2/\H p.1=none/\p.1≠X.env.locals/\p.1∉X.fs/\∀ v,p.2.data ≠ .cell v
 hok:HOk X.prog X.w H s.heap
 len:σ.length=X.N.length
section
variable {X:Cx} {pins:List (Addr×Obj)} {σ:List (Option V)} {H H':Hp} {s:Shared} {h':Heap}
theorem Cx.Ok.nofr (ok:X.Ok) {b:Addr} {o:Obj} (e:X.base.get? b=some o):b∉X.fs:=fun hb=>by
 have:=(ok.funs.mem hb).1
 rw [e] at this;cases this
theorem Inv.bs (I:Inv X pins σ H s):∀ b o,X.base.get? b=some o->s.heap.get? b=some o/\H b=none:=fun b o e =>
 ⟨I.base.keep b o (I.ok.bs b o e).1 (I.ok.bs b o e).2 (I.ok.nofr e) (I.ok.noex b o e),I.base.free b o (I.ok.bs b o e).1 (I.ok.bs b o e).2 (I.ok.noex b o e)⟩
theorem Inv.bk (I:Inv X pins σ H s):∀ b o,X.base.get? b=some o->s.heap.get? b=some o:=fun b o e=>(I.bs b o e).1
theorem Inv.mod (I:Inv X pins σ H s):Mod X.K X.mg X.base:=I.ok.mod
theorem Inv.kIn (I:Inv X pins σ H s):X.K.In s.heap:=I.ok.mod.kin.keeps I.bk
theorem Inv.fr (I:Inv X pins σ H s):∃ m,Fr X.base X.env.locals s.heap m :=
 let ⟨m,hn,_⟩:=I.loc
 ⟨m,hn,I.bk,Nat.le_trans I.ok.bsz I.ok.above⟩
theorem Inv.lt (I:Inv X pins σ H s):X.env.locals<s.heap.objs.size:=let ⟨_,hn,_⟩:=I.loc;hn.lt
theorem Inv.sz (I:Inv X pins σ H s):X.s₀.heap.objs.size<=s.heap.objs.size:=Nat.le_trans I.ok.above (Nat.le_of_lt I.lt)
theorem Inv.nofs (I:Inv X pins σ H s) {a:Addr} (h:s.heap.objs.size<=a):a∉X.fs:=fun hb=>by
 obtain ⟨_,o,ho,_⟩:=I.ok.funs.mem hb
 exact absurd (Nat.lt_of_lt_of_le (Heap.lt_size ho) (Nat.le_trans I.sz h)) (Nat.lt_irrefl _)
theorem Inv.cne (I:Inv X pins σ H s):∀ x c,X.env.cells.lookup x=some c->c≠X.env.locals:=fun x c e z=>by
 obtain ⟨v,o,ho,hd⟩:=I.cell x c e
 obtain ⟨m,⟨o',es,ep,ho',hd',_⟩,_⟩:=I.loc
 rw [z,ho'] at ho;cases ho;rw [hd'] at hd;cases hd
theorem Inv.funs (I:Inv X pins σ H s):s.heap.FunFrames X.base X.outer:=by
 have all:∀ (l:List Env),(∀ b∈frs l,b∈X.fs)->X.s₀.heap.FunFrames X.base l->s.heap.FunFrames X.base l:=by
  intro l
  induction l with
  | nil=>intro _ _;trivial
  | cons env r ih =>
   intro hs hl
   obtain ⟨hk,⟨L,o,hf,hn,ho,hd⟩,hr⟩:=hl
   have hL:L∈X.fs:=hs L (by unfold frs;rw [List.filterMap_cons,hf];exact List.mem_cons_self)
   obtain ⟨sl,e⟩:=I.base.slot L o ho (I.ok.frf L hL) hL fun z=>I.ok.exfs L z hL
   exact ⟨hk,⟨L,_,hf,hn,e,hd⟩,ih (fun b hb=>hs b (by unfold frs;rw [List.filterMap_cons,hf];exact List.mem_cons_of_mem _ hb)) hr⟩
 exact all X.outer (fun _ hb=>hb) I.ok.funs
theorem Inv.stack (I:Inv X pins σ H s):s.heap.FunFrames X.base X.stack:=by
 rcases I.ok.stk with e | ⟨e,hf⟩
 ·rw [e];exact I.funs
 ·rw [e]
  obtain ⟨m,hn,_⟩:=I.loc
  refine .cons (by rw [I.ok.kind];decide) hf hn ?_ I.funs
  exact Heap.get?_none_of_le (Nat.le_trans I.ok.bsz I.ok.above)
theorem Inv.stkSub (I:Inv X pins σ H s):∀ b∈frs X.stack,b∈X.env.locals::X.fs:=fun b hb=>by
 rcases I.ok.stk with e | ⟨e,hf⟩
 ·rw [e] at hb;exact List.mem_cons_of_mem _ hb
 ·rw [e] at hb
  unfold frs at hb
  rw [List.filterMap_cons,hf] at hb
  exact hb
theorem Inv.stkFree (I:Inv X pins σ H s):∀ b∈frs X.stack,H b=none:=fun b hb=>by
 rcases List.mem_cons.mp (I.stkSub b hb) with e | hb
 ·rw [e];exact I.free
 ·obtain ⟨_,o,ho,_⟩:=I.ok.funs.mem hb
  exact I.base.free b o ho (I.ok.frf b hb) fun z=>I.ok.exfs b z hb
theorem Inv.step {g':Array GenState} {t':Nat} {d':Drawn} {ch:List Addr} (I:Inv X pins σ H s)
  (hch:∀ b∈ch,(b∈X.ex\/X.s₀.heap.objs.size<=b)/\b≠X.env.locals/\(∀ x c,X.env.cells.lookup x=some c->c≠b)/\∀ p∈X.pn++pins,p.1≠b)
  (keep:∀ b o,b≠X.env.locals->b∉X.fs->b∉ch->s.heap.get? b=some o->H b=none->h'.get? b=some o)
  (slot:∀ b o,b≠X.env.locals->b∈X.fs->b∉ch->s.heap.get? b=some o->H b=none->∃ sl,h'.get? b=some { o with slots:=sl }) (free:∀ b o,b∉ch->s.heap.get? b=some o->H b=none->H' b=none)
  (there:∀ b o,b∉ch->s.heap.get? b=some o->∃ o',h'.get? b=some o')
  (tups:∀ b xs,H b=some (.tup xs)->H' b=some (.tup xs)) (frzs:∀ b o u,H b=some (.frz o u)->H' b=some (.frz o u)) (tbls:∀ b ps,H b=some (.tbl ps)->∃ more,H' b=some (.tbl (ps++more)))
  (ns:∀ m,s.heap.Ns X.env.locals m->h'.Ns X.env.locals m) (hok:HOk X.prog X.w H' h') (hg:AllBare g') :
  Inv X pins σ H' { s with heap:=h',gens:=g',drawn:=d',toks:=t' }:=by
 have neL:∀ b o,X.s₀.heap.get? b=some o->b≠X.env.locals:=fun b o e=>Nat.ne_of_lt (Nat.lt_of_lt_of_le (Heap.lt_size e) I.ok.above)
 have neC:∀ b o,X.s₀.heap.get? b=some o->b∉X.ex->b∉ch:=fun b o e hx hb=>by
  rcases (hch b hb).1 with z | z
  ·exact hx z
  ·exact absurd (Nat.lt_of_lt_of_le (Heap.lt_size e) z) (Nat.lt_irrefl _)
 have cellK:∀ x c,X.env.cells.lookup x=some c->∀ v,s.heap.IsCell c v->h'.IsCell c v:=fun x c e v ⟨o,ho,hd⟩=>by
  have nch:c∉ch:=fun z=>(hch c z).2.2.1 x c e rfl
  by_cases hc:c∈X.fs
  ·obtain ⟨sl,q⟩:=slot c o (I.cne x c e) hc nch ho (I.freeC x c e)
   exact ⟨_,q,hd⟩
  ·exact ⟨o,keep c o (I.cne x c e) hc nch ho (I.freeC x c e),hd⟩
 refine ⟨I.ok,I.os,hg,⟨fun b o e n hb hx=>?_,fun b o e n hb hx=>?_,fun b o e n hx=>?_,fun b o e hx=>?_,fun b xs e=>tups b xs (I.base.tups b xs e),fun b o xs e=>frzs b o xs (I.base.frzs b o xs e),fun b ps e=>?_⟩,?_,fun x c e=>?_,?_,fun x c e=>?_,fun p hp=>?_,hok,I.len⟩
 ·exact keep b o (neL b o e) hb (neC b o e hx) (I.base.keep b o e n hb hx) (I.base.free b o e n hx)
 ·obtain ⟨sl,e1⟩:=I.base.slot b o e n hb hx
  obtain ⟨sl',e2⟩:=slot b _ (neL b o e) hb (neC b o e hx) e1 (I.base.free b o e n hx)
  exact ⟨sl',e2⟩
 ·obtain ⟨o',e1⟩:=I.base.there b o e hx
  exact free b o' (neC b o e hx) e1 (I.base.free b o e n hx)
 ·obtain ⟨o',e1⟩:=I.base.there b o e hx
  exact there b o' (neC b o e hx) e1
 ·obtain ⟨m1,e1⟩:=I.base.tbls b ps e
  obtain ⟨m2,e2⟩:=tbls b _ e1
  exact ⟨m1++m2,by rw [e2,Array.append_assoc]⟩
 ·obtain ⟨m,hn,hl⟩:=I.loc
  refine ⟨m,ns m hn,fun i x v e1 e2 e3=>?_⟩
  obtain ⟨u,r,l⟩:=hl i x v e1 e2 e3
  refine ⟨u,r,?_⟩
  rcases l with l | ⟨k,c,e,z⟩
  ·exact .inl l
  ·exact .inr ⟨k,c,e,cellK x c e _ z⟩
 ·obtain ⟨v,z⟩:=I.cell x c e
  exact ⟨v,cellK x c e v z⟩
 ·obtain ⟨m,⟨o,_,_,ho,_⟩,_⟩:=I.loc
  exact free _ o (fun z=>(hch _ z).2.1 rfl) ho I.free
 ·obtain ⟨v,o,ho,hd⟩:=I.cell x c e
  exact free c o (fun z=>(hch c z).2.2.1 x c e rfl) ho (I.freeC x c e)
 ·obtain ⟨e,n,ne,nf,d⟩:=I.pin p hp
  have nch:p.1∉ch:=fun z=>(hch p.1 z).2.2.2 p hp rfl
  exact ⟨keep p.1 p.2 ne nf nch e n,free p.1 p.2 nch e n,ne,nf,d⟩
theorem Inv.un {t':Nat} (I:Inv X pins σ H s) (u:Un X.fs [] H H' s.heap h') (hok:HOk X.prog X.w H' h'):Inv X pins σ H' { s with heap:=h',toks:=t' }:=by
 obtain ⟨m,⟨o,es,ep,ho,r⟩,_⟩:=id I.loc
 obtain ⟨sl,hL⟩:=u.any ho I.free (by simp)
 exact I.step (g' := s.gens) (d' := s.drawn) (ch:=[]) (fun _ z=>nomatch z) (fun b o _ hb _ e n=>u.keep b o e n hb (by simp)) (fun b o _ hb _ e n=>u.slot b o e n hb (by simp)) (fun b o _ e n=>u.free b o e n (by simp)) (fun b o _ e=>u.there b o e (by simp)) u.tups u.frzs u.tbls (fun m' hm=>by
  obtain ⟨o',es',ep',ho',r'⟩:=hm
  rw [ho] at ho';cases ho'
  exact ⟨_,es',ep',hL,r'⟩) hok I.bare
theorem Inv.call {g':Array GenState} {t':Nat} {d':Drawn} {ch:List Addr} (I:Inv X pins σ H s) (u:Un (frs X.stack) ch H H' s.heap h') (hok:HOk X.prog X.w H' h') (hg:AllBare g')
  (hch:∀ b∈ch,(b∈X.ex\/X.s₀.heap.objs.size<=b)/\b≠X.env.locals/\(∀ x c,X.env.cells.lookup x=some c->c≠b)/\∀ p∈X.pn++pins,p.1≠b) :
  Inv X pins σ H' { s with heap:=h',gens:=g',drawn:=d',toks:=t' }:=by
 obtain ⟨m,⟨o,es,ep,ho,r⟩,_⟩:=id I.loc
 obtain ⟨sl,hL⟩:=u.any ho I.free fun z=>(hch _ z).2.1 rfl
 exact I.step (ch:=ch) hch (fun b o hL hb hc e n=>u.keep b o e n (fun z=>(List.mem_cons.mp (I.stkSub b z)).elim hL hb) hc) (fun b o _ _ hc e n=>u.any e n hc) (fun b o hc e n=>u.free b o e n hc) (fun b o hc e=>u.there b o e hc) u.tups u.frzs u.tbls (fun m' hm=>by
  obtain ⟨o',es',ep',ho',r'⟩:=hm
  rw [ho] at ho';cases ho'
  exact ⟨_,es',ep',hL,r'⟩) hok hg
theorem Inv.turned {t':Nat} {it:Addr} (I:Inv X pins σ H s) (k:∀ b o,b≠it->s.heap.get? b=some o->h'.get? b=some o) (hn:H it=none) (hL:it≠X.env.locals)
  (h1:it∈X.ex\/X.s₀.heap.objs.size<=it) (h2:∀ x c,X.env.cells.lookup x=some c->c≠it) (h3:∀ p∈X.pn++pins,p.1≠it):Inv X pins σ H { s with heap:=h',toks:=t' }:=by
 have nit:∀ b u,H b=some u->b≠it:=fun b u e z=>by rw [z,hn] at e;cases e
 refine I.step (g' := s.gens) (d' := s.drawn) (ch:=[it]) (fun b hb=>?_) (fun b o _ _ hc e _=>k b o (fun z=>hc (by simp [z])) e) (fun b o _ _ hc e _=>⟨o.slots,k b o (fun z=>hc (by simp [z])) e⟩) (fun _ _ _ _ n=>n)
  (fun b o hc e=>⟨o,k b o (fun z=>hc (by simp [z])) e⟩) (fun _ _ e=>e) (fun _ _ _ e=>e) (fun b ps e=>⟨#[],by rw [e];simp⟩) (fun m hm=>?_) (fun b u e=>?_) I.bare
 ·have e:b=it:=by simpa using hb
  subst e
  exact ⟨h1,hL,h2,h3⟩
 ·obtain ⟨o,es,ep,ho,r⟩:=hm
  exact ⟨o,es,ep,k _ o (Ne.symm hL) ho,r⟩
 ·refine (I.hok b u e).stay (fun c v hc q=>k c v ?_ q) (fun _ q=>q) fun _ _ q=>q
  rcases hc with z | z
  ·rw [z];exact nit b u e
  ·exact nit c _ z
theorem Inv.tok (I:Inv X pins σ H s) (t:Nat):Inv X pins σ H { s with toks:=t }:=I.un (h' := s.heap) (t' := t) Un.refl I.hok
theorem Inv.kept {t':Nat} (I:Inv X pins σ H s) (k:∀ b u,s.heap.get? b=some u->h'.get? b=some u):Inv X pins σ H { s with heap:=h',toks:=t' }:=I.un (Un.kept k) (I.hok.kept k)
theorem Inv.laid {a:Addr} {o:HO} {t':Nat} (I:Inv X pins σ H s) (k:∀ b u,s.heap.get? b=some u->h'.get? b=some u) (hp:s.heap.objs.size<=a) (new:ObjOk X.prog X.w (upd H a o) h' a o) :
  Inv X pins σ (upd H a o) { s with heap:=h',toks:=t' }:=I.un (Un.laid k hp (I.hok.fresh hp)) (I.hok.laid k hp new)
theorem Inv.write {x e:Addr} {o:HO} {t':Nat} (I:Inv X pins σ H s) (mu:Mut (H x)) (he:e=x\/H e=some (.own x)) (k:∀ b u,b≠e->s.heap.get? b=some u->h'.get? b=some u) (heo:∃ u,h'.get? e=some u)
  (new:ObjOk X.prog X.w (upd H x o) h' x o):Inv X pins σ (upd H x o) { s with heap:=h',toks:=t' }:=I.un (Un.write mu he k heo) (I.hok.write mu he k heo new)
theorem Inv.weak {σ':List (Option V)} (I:Inv X pins σ H s) (hl:σ'.length=σ.length) (w:∀ (i:Nat) v,σ'[i]? = some (some v)->σ[i]? = some (some v)):Inv X pins σ' H s :=
 ⟨I.ok,I.os,I.bare,I.base,let ⟨m,hn,hl'⟩:=I.loc;⟨m,hn,fun i x v e1 e2 e3=>hl' i x v e1 (w i v e2) e3⟩,I.cell,I.free,I.freeC,I.pin,I.hok,hl.trans I.len⟩
theorem Inv.pins_of {pins':List (Addr×Obj)} (I:Inv X pins σ H s) (h:∀ p∈pins',s.heap.get? p.1=some p.2/\H p.1=none/\p.1≠X.env.locals/\p.1∉X.fs/\∀ v,p.2.data ≠ .cell v):Inv X pins' σ H s :=
 ⟨I.ok,I.os,I.bare,I.base,I.loc,I.cell,I.free,I.freeC,fun p hp=>(List.mem_append.mp hp).elim (fun z=>I.pin p (List.mem_append_left _ z)) (h p),I.hok,I.len⟩
theorem zcW {N:List Str} (hN:N.Nodup) {i j:Nat} {x:Str} (a:N[i]? = some x) (b:N[j]? = some x):i=j:=by
 obtain ⟨h1,e1⟩:=List.getElem?_eq_some_iff.mp a
 obtain ⟨h2,e2⟩:=List.getElem?_eq_some_iff.mp b
 exact (List.getElem_inj hN).mp (e1.trans e2.symm)
theorem zdG {M:Model} {A:Around} {E:Value->Shared->Prop} {i:Nat} {x:Str} {v:V} {u:Value} {Q:Unit->Shared->Prop} (I:Inv X pins σ H s) (hN:X.N.Nodup) (hi:X.N[i]? = some x) (hx:Loc X.env.scope x) (r:RelV v u)
  (h:∀ s',Inv X pins (σ.set i (some v)) H s'->(∃ a,Heap.SameBut a s.heap s'.heap/\(a=X.env.locals\/X.env.cells.lookup x=some a))->Q () s') (hf:X.fn x=true\/X.env.scope.names.lookup x=some .local:=by first | exact .inl rfl | exact .inr rfl | assumption):wpAny M A (storeName X.env x u) Q E s:=by
 obtain ⟨m,hn,hl⟩:=id I.loc
 have hcls:(X.env.scope.kind == .class || (X.env.scope.kind == .module && X.env.locals != X.env.globals))=false:=by rw [I.ok.kind];rfl
 have hiσ:i<σ.length:=by rw [I.len];exact (List.getElem?_eq_some_iff.mp hi).1
 have cne:=I.cne
 have tracked:∀ {a:Addr} {h':Heap},(∃ o,s.heap.get? a=some o/\H a=none)->Heap.SameBut a s.heap h'->HOk X.prog X.w H h' := fun {a h'} ha hs b ob e=>by
  obtain ⟨_,_,hfree⟩:=ha
  refine (I.hok b ob e).stay (fun c w' hc q=>(hs.2 c ?_).trans q) (fun _ q=>q) fun _ _ q=>q
  rintro rfl
  rcases hc with rfl | hc
  ·rw [hfree] at e;cases e
  ·rw [hfree] at hc;cases hc
 rcases hx with hk | hk
 ·refine wpAny_storeName_local hk hn (fun h' hn' hs=>?_) hcls
  obtain ⟨oL,_,_,hoL,_⟩:=id hn
  refine h _ ⟨I.ok,I.os,I.bare,⟨fun b o e n hb hx=>?_,fun b o e n hb hx=>?_,I.base.free,fun b o e hx=>?_,I.base.tups,I.base.frzs,I.base.tbls⟩,⟨_,hn',fun j y v' e1 e2 e3=>?_⟩,fun y c e=>?_,I.free,I.freeC,fun p hp=>?_,tracked ⟨oL,hoL,I.free⟩ hs,by simpa using I.len⟩ ⟨_,hs,.inl rfl⟩
  ·exact (hs.2 b (Nat.ne_of_lt (Nat.lt_of_lt_of_le (Heap.lt_size e) I.ok.above))).trans (I.base.keep b o e n hb hx)
  ·obtain ⟨sl,e1⟩:=I.base.slot b o e n hb hx
   exact ⟨sl,(hs.2 b (Nat.ne_of_lt (Nat.lt_of_lt_of_le (Heap.lt_size e) I.ok.above))).trans e1⟩
  ·obtain ⟨o',e1⟩:=I.base.there b o e hx
   exact ⟨o',(hs.2 b (Nat.ne_of_lt (Nat.lt_of_lt_of_le (Heap.lt_size e) I.ok.above))).trans e1⟩
  ·by_cases hj:j=i
   ·subst hj
    rw [hi] at e1;cases e1
    rw [List.getElem?_set_self hiσ] at e2
    cases e2
    exact ⟨u,r,.inl ⟨hk,by simp⟩⟩
   ·rw [List.getElem?_set_ne (Ne.symm hj)] at e2
    obtain ⟨u',r',q⟩:=hl j y v' e1 e2 e3
    refine ⟨u',r',?_⟩
    rcases q with ⟨k,e⟩ | ⟨k,c,e,z⟩
    ·refine .inl ⟨k,?_⟩
     have:y≠x:=fun e=>hj (zcW hN e1 (e▸hi))
     simp [this,e]
    ·exact .inr ⟨k,c,e,z.sameBut hs (cne y c e)⟩
  ·obtain ⟨w',z⟩:=I.cell y c e
   exact ⟨w',z.sameBut hs (cne y c e)⟩
  ·obtain ⟨e,n,ne,nf,d⟩:=I.pin p hp
   exact ⟨(hs.2 p.1 ne).trans e,n,ne,nf,d⟩
 ·have hfn:X.fn x=true:=by
   rcases hf with z | z
   ·exact z
   ·rw [z] at hk;cases hk
  obtain ⟨c,hc⟩:=I.ok.has x (.inl hk)
  obtain ⟨w',z⟩:=I.cell x c hc
  refine wpAny_storeName_cell I.ok.kind hk hc z (fun h' hc' hs=>?_)
  obtain ⟨oc,hoc,hocd⟩:=id z
  refine h { s with heap:=h' } ⟨I.ok,I.os,I.bare,⟨fun b o e n hb hx=>?_,fun b o e n hb hx=>?_,I.base.free,fun b o e hx=>?_,I.base.tups,I.base.frzs,I.base.tbls⟩,⟨m,hn.sameBut hs (Ne.symm (cne x c hc)),fun j y v' e1 e2 e3=>?_⟩,fun y c' e=>?_,I.free,I.freeC,fun p hp=>?_,tracked ⟨oc,hoc,I.freeC x c hc⟩ hs,by simpa using I.len⟩ ⟨c,hs,.inr hc⟩
  ·exact (hs.2 b (Nat.ne_of_lt (Nat.lt_of_lt_of_le (Heap.lt_size e) (I.ok.cab x c hfn hc)))).trans (I.base.keep b o e n hb hx)
  ·obtain ⟨sl,e1⟩:=I.base.slot b o e n hb hx
   exact ⟨sl,(hs.2 b (Nat.ne_of_lt (Nat.lt_of_lt_of_le (Heap.lt_size e) (I.ok.cab x c hfn hc)))).trans e1⟩
  ·obtain ⟨o',e1⟩:=I.base.there b o e hx
   exact ⟨o',(hs.2 b (Nat.ne_of_lt (Nat.lt_of_lt_of_le (Heap.lt_size e) (I.ok.cab x c hfn hc)))).trans e1⟩
  ·by_cases hj:j=i
   ·subst hj
    rw [hi] at e1;cases e1
    rw [List.getElem?_set_self hiσ] at e2
    cases e2
    exact ⟨u,r,.inr ⟨.inl hk,c,hc,hc'⟩⟩
   ·rw [List.getElem?_set_ne (Ne.symm hj)] at e2
    obtain ⟨u',r',q⟩:=hl j y v' e1 e2 e3
    refine ⟨u',r',?_⟩
    rcases q with q | ⟨k,c',e,z'⟩
    ·exact .inl q
    ·refine .inr ⟨k,c',e,z'.sameBut hs ?_⟩
     rintro rfl
     exact hj (zcW hN e1 (I.ok.inj _ _ _ e hc▸hi))
  ·by_cases hcc:c'=c
   ·subst hcc;exact ⟨_,hc'⟩
   ·obtain ⟨w2,z2⟩:=I.cell y c' e
    exact ⟨w2,z2.sameBut hs hcc⟩
  ·obtain ⟨e,n,ne,nf,d⟩:=I.pin p hp
   refine ⟨(hs.2 p.1 ?_).trans e,n,ne,nf,d⟩
   intro q
   rw [q,hoc] at e
   have q':oc=p.2:=Option.some.inj e
   exact d w' (by rw [<- q'];exact hocd)
theorem zcX {M:Model} {A:Around} {E:Value->Shared->Prop} {i:Nat} {x:Str} {v:V} {u:Value} {Q:Unit->Shared->Prop} (I:Inv X pins σ H s) (hN:X.N.Nodup) (hi:X.N[i]? = some x) (hx:Loc X.env.scope x) (r:RelV v u)
  (h:∀ s',Inv X pins (σ.set i (some v)) H s'->Q () s') (hf:X.fn x=true\/X.env.scope.names.lookup x=some .local:=by first | exact .inl rfl | exact .inr rfl | assumption):wpAny M A (storeName X.env x u) Q E s :=
 zdG I hN hi hx r (fun s' I' _=>h s' I') hf
theorem Inv.call' {s':Shared} {ch:List Addr} (I:Inv X pins σ H s) (ho:s'.os=s.os) (u:Un (frs X.stack) ch H H' s.heap s'.heap) (hok:HOk X.prog X.w H' s'.heap) (hg:AllBare s'.gens)
  (hch:∀ b∈ch,(b∈X.ex\/X.s₀.heap.objs.size<=b)/\b≠X.env.locals/\(∀ x c,X.env.cells.lookup x=some c->c≠b)/\∀ p∈X.pn++pins,p.1≠b):Inv X pins σ H' s' := by
 obtain ⟨h',g',d',t',o'⟩:=s'
 have e:o'=s.os:=ho
 subst e
 exact I.call (g' := g') (t' := t') (d' := d') u hok hg hch
end
abbrev XK:=Value->Option Addr->Hp->Prop
abbrev St:=List (Option V)
abbrev VK:=V->Hp->Prop
abbrev TE:=St->Hp->VK->Prop
abbrev TT:=St->Hp->(Bool->Hp->Prop)->Prop
abbrev TA:=St->Hp->(List V->Hp->Prop)->Prop
structure Ends where
 nx:St->Hp->Prop
 rt:VK
 bk:St->Hp->Prop:=fun _ _=>False
 ct:St->Hp->Prop:=fun _ _=>False
abbrev TS:=Ends->St->Hp->Prop
def EP (X:Cx) (pins:List (Addr×Obj)) (σ:St) (Q:VK) (u:Value) (s':Shared):Prop:=∃ v H',Inv X pins σ H' s'/\RelV v u/\Q v H'
def TP (X:Cx) (pins:List (Addr×Obj)) (σ:St) (Q:Bool->Hp->Prop) (b:Bool) (s':Shared):Prop:=∃ H',Inv X pins σ H' s'/\Q b H'
def AP (X:Cx) (pins:List (Addr×Obj)) (σ:St) (Q:List V->Hp->Prop) (us:List Value) (s':Shared):Prop:=∃ vs H',Inv X pins σ H' s'/\Vals vs us/\Q vs H'
def SP (X:Cx) (pins:List (Addr×Obj)) (D:Ends) (f:Flow) (s':Shared):Prop :=
 match f with
 | .next=>∃ σ' H',Inv X pins σ' H' s'/\D.nx σ' H'
 | .brk=>∃ σ' H',Inv X pins σ' H' s'/\D.bk σ' H'
 | .cont=>∃ σ' H',Inv X pins σ' H' s'/\D.ct σ' H'
 | .ret u=>∃ v σ' H',Inv X pins σ' H' s'/\RelV v u/\D.rt v H'
def PE (X:Cx) (e:Expr) (t:TE):Prop :=
 ∀ (pins:List (Addr×Obj)) (s:Shared) (σ:St) (H:Hp) (Q:VK),Inv X pins σ H s->t σ H Q->wpAny (model X.prog X.w) X.A (eval e X.env) (EP X pins σ Q) X.xe s
def PT (X:Cx) (e:Expr) (t:TT):Prop :=
 ∀ (pins:List (Addr×Obj)) (s:Shared) (σ:St) (H:Hp) (Q:Bool->Hp->Prop),Inv X pins σ H s->t σ H Q->wpAny (model X.prog X.w) X.A (isTrue e X.env (eval e X.env)) (TP X pins σ Q) X.xe s
def PW (X:Cx) (e:Expr) (t:TT):Prop :=
 ∀ (whole:Sem Value) (pins:List (Addr×Obj)) (s:Shared) (σ:St) (H:Hp) (Q:Bool->Hp->Prop),Inv X pins σ H s->t σ H Q->wpAny (model X.prog X.w) X.A (isTrue e X.env whole) (TP X pins σ Q) X.xe s
theorem PW.pt {X:Cx} {e:Expr} {t:TT} (h:PW X e t):PT X e t:=h _
def PA (X:Cx) (es:List Expr) (t:TA):Prop :=
 ∀ (pos:Pos) (pins:List (Addr×Obj)) (s:Shared) (σ:St) (H:Hp) (Q:List V->Hp->Prop),Inv X pins σ H s->t σ H Q->wpAny (model X.prog X.w) X.A (spliced (backTo pos (starEach es X.env))) (AP X pins σ Q) X.xe s
def PS (X:Cx) (st:Stmt) (t:TS):Prop :=
 ∀ (pins:List (Addr×Obj)) (s:Shared) (σ:St) (H:Hp) (D:Ends),Inv X pins σ H s->t D σ H->wpAny (model X.prog X.w) X.A (exec st X.env) (SP X pins D) X.xe s
def PSs (X:Cx) (st:List Stmt) (t:TS):Prop :=
 ∀ (pins:List (Addr×Obj)) (s:Shared) (σ:St) (H:Hp) (D:Ends),Inv X pins σ H s->t D σ H->wpAny (model X.prog X.w) X.A (execs st X.env) (SP X pins D) X.xe s
theorem thn {α:Type} {t:Sem α} {Q Q':α->Shared->Prop} {M:Model} {A:Around} {E:Value->Shared->Prop} {s:Shared} (h:wpAny M A t Q E s) (hQ:∀ a s,Q a s->Q' a s):wpAny M A t Q' E s:=wpAny_mono h hQ fun _ _ x=>x
end L2
namespace L2
open PySem PySem.Spec PyProof.Rows
section
variable {X:Cx}
theorem bin {a b:Expr} {ta tb:TE} (ha:PE X a ta) (hb:PE X b tb) {pins:List (Addr×Obj)} {s:Shared} {σ:St} {H:Hp} {R:V->V->Hp->Prop} (I:Inv X pins σ H s) (h:ta σ H fun x H1=>tb σ H1 fun y H2=>R x y H2)
  {α:Type} {Q:α->Shared->Prop} {f:Value->Value->Sem α}
  (hf:∀ v u s2 x y H2,Inv X pins σ H2 s2->RelV x v->RelV y u->R x y H2->wpAny (model X.prog X.w) X.A (f v u) Q X.xe s2) :
  wpAny (model X.prog X.w) X.A (eval a X.env) (fun v s₁=>wpAny (model X.prog X.w) X.A (eval b X.env) (fun u s₂=>wpAny (model X.prog X.w) X.A (f v u) Q X.xe s₂) X.xe s₁) X.xe s:=by
 refine thn (ha pins s σ H _ I h) fun v s1 ⟨x,H1,I1,r1,q1⟩=>?_
 refine thn (hb pins s1 σ H1 _ I1 q1) fun u s2 ⟨y,H2,I2,r2,q2⟩=>?_
 exact hf v u s2 x y H2 I2 r1 r2 q2
def tVar (i:Nat):TE:=fun σ H Q=>∃ v,σ[i]? = some (some v)/\Q v H
def tC (v:V):TE:=fun _ H Q=>Q v H
theorem ygw {i:Nat} {x:Str} {pos:Pos} (hN:X.N[i]? = some x) (hv:Vis X.env.scope x) (hd:(x == ("__debug__" : Str))=false:=by decide) (hcd:(x == ("__classdict__" : Str))=false:=by decide):PE X (.Name x pos) (tVar i):=by
 intro pins s σ H Q I h
 obtain ⟨v,e,h⟩:=h
 obtain ⟨m,hn,hl⟩:=I.loc
 obtain ⟨u,r,l⟩:=hl i x v hN e hv
 have fin:EP X pins σ Q u s:=⟨v,H,I,r,h⟩
 rcases l with ⟨hk,hm⟩ | ⟨hk,c,hc,hcell⟩
 ·exact wpAny_Name (wpAny_loadName_local I.ok.kind hk hn hm fin) hd
 ·rcases hk with hk | hk
  ·exact wpAny_Name (wpAny_loadName_cell I.ok.kind hk hc hcell fin) hd
  ·exact wpAny_Name (wpAny_loadName_free I.ok.kind hk hc hcell fin hcd) hd
theorem ygx {i j pos}:PE X (.Constant (.int i) j pos) (tC (.int i)):=fun _ _ _ H _ I h=>wpAny_Constant_int ⟨.int i,H,I.tok _,⟨_,rfl⟩,h⟩
theorem yhU {b j pos}:PE X (.Constant (.bool b) j pos) (tC (.bl b)):=fun _ _ _ H _ I h=>Constant_bool ⟨.bl b,H,I,rfl,h⟩
theorem ygy {j pos}:PE X (.Constant .none j pos) (tC .non):=fun _ _ _ H _ I h=>Constant_none ⟨.non,H,I,rfl,h⟩
theorem ygz {x j pos}:PE X (.Constant (.str x) j pos) (tC (.str x)):=fun _ _ _ H _ I h=>Calls.Constant_str ⟨.str x,H,I.tok _,⟨_,rfl⟩,h⟩
def Gl (X:Cx) (x:Str):Prop:=X.env.kindOf x=some .globalImplicit
theorem zcy {E:Value->Shared->Prop} {pins:List (Addr×Obj)} {s:Shared} {σ:St} {H:Hp} {x:Str} {u:Value} {pos:Pos} {Q:Value->Shared->Prop} (I:Inv X pins σ H s) (hg:Gl X x) (hm:X.mg x=some u) (h:Q u s)
  (hd:(x == ("__debug__" : Str))=false:=by decide):wpAny (model X.prog X.w) X.A (eval (.Name x pos) X.env) Q E s :=
 Calls.Name_function_global I.ok.kind hg (Calls.loadGlobal_global (by rw [I.ok.glob];exact I.mod.glob.keeps I.bk) hm h) hd
theorem yd4 {E:Value->Shared->Prop} {pins:List (Addr×Obj)} {s:Shared} {σ:St} {H:Hp} {x:Str} {u:Value} {pos:Pos} {Q:Value->Shared->Prop} (I:Inv X pins σ H s) (hg:Gl X x) (hm:X.mg x=none) (hv:bootBuiltins x=some u) (h:Q u s)
  (hn:x ≠ "__name__" := by decide) (hd:(x == ("__debug__" : Str))=false:=by decide):wpAny (model X.prog X.w) X.A (eval (.Name x pos) X.env) Q E s:=by
 obtain ⟨mb,h1,h2⟩:=I.mod.blt
 exact Calls.Name_function_global I.ok.kind hg (Calls.loadGlobal_builtin (by rw [I.ok.glob];exact I.mod.glob.keeps I.bk) hm (by rw [I.ok.blt];exact h1.keeps I.bk) ((h2 x hn).trans hv) h) hd
theorem zij {x:Str} {v:V} {u:Value} {pos:Pos} (hg:Gl X x) (hm:X.mg x=some u) (r:RelV v u) (hd:(x == ("__debug__" : Str))=false:=by decide):PE X (.Name x pos) (tC v) :=
 fun _ _ _ H _ I h=>zcy I hg hm ⟨v,H,I,r,h⟩ hd
theorem zik {x:Str} {v:V} {u:Value} {pos:Pos} (hg:Gl X x) (hm:X.mg x=none) (hv:bootBuiltins x=some u) (r:RelV v u) (hn:x ≠ "__name__" := by decide) (hd:(x == ("__debug__" : Str))=false:=by decide):PE X (.Name x pos) (tC v) :=
 fun _ _ _ H _ I h=>yd4 I hg hm hv ⟨v,H,I,r,h⟩ hn hd
variable {a b:Expr} {ta tb:TE} {pos:Pos}
variable {tA tB':TT} {rest:List Expr}
def tAnd (t u:TT):TT:=fun σ H Q=>t σ H fun c H1=>if c=true then u σ H1 Q else Q false H1
def tOr (t u:TT):TT:=fun σ H Q=>t σ H fun c H1=>if c=true then Q true H1 else u σ H1 Q
def tNot (t:TT):TT:=fun σ H Q=>t σ H fun c H1=>Q (!c) H1
theorem zil (ha:PT X a tA):PW X (.BoolOp .And [a] pos) tA:=by
 intro wh pins s σ H Q I h
 refine isTrue_and (thn (ha pins s σ H Q I h) fun c s1 e=>?_)
 cases c with
 | true=>exact isTrue_and_nil e
 | false=>exact e
theorem ygA (ha:PT X a tA):PW X (.BoolOp .Or [a] pos) tA:=by
 intro wh pins s σ H Q I h
 refine isTrue_or (thn (ha pins s σ H Q I h) fun c s1 e=>?_)
 cases c with
 | false=>exact isTrue_or_nil e
 | true=>exact e
theorem ygB (ha:PT X a tA) (hb:PW X (.BoolOp .And (b::rest) pos) tB'):PW X (.BoolOp .And (a::b::rest) pos) (tAnd tA tB'):=by
 intro wh pins s σ H Q I h
 refine isTrue_and (thn (ha pins s σ H _ I h) fun c s1 ⟨H1,I1,q1⟩=>?_)
 cases c with
 | true=>exact hb wh pins s1 σ H1 Q I1 q1
 | false=>exact ⟨H1,I1,q1⟩
theorem yhV (ha:PT X a tA) (hb:PW X (.BoolOp .Or (b::rest) pos) tB'):PW X (.BoolOp .Or (a::b::rest) pos) (tOr tA tB'):=by
 intro wh pins s σ H Q I h
 refine isTrue_or (thn (ha pins s σ H _ I h) fun c s1 ⟨H1,I1,q1⟩=>?_)
 cases c with
 | true=>exact ⟨H1,I1,q1⟩
 | false=>exact hb wh pins s1 σ H1 Q I1 q1
theorem ygC (ha:PT X a tA):PT X (.UnaryOp .Not a pos) (tNot tA):=by
 intro pins s σ H Q I h
 exact isTrue_not (ha pins s σ H (fun c H1=>Q (!c) H1) I h)
def yhW (ta tb:TE):TE:=fun σ H Q=>ta σ H fun x H1=>∃ c,x = .bl c/\if c=true then tb σ H1 Q else Q (.bl false) H1
def tOrV (ta tb:TE):TE:=fun σ H Q=>ta σ H fun x H1=>∃ c,x = .bl c/\if c=true then Q (.bl true) H1 else tb σ H1 Q
def yhX (ta:TE):TE:=fun σ H Q=>ta σ H fun x H1=>∃ c,x = .bl c/\Q (.bl (!c)) H1
theorem ygD {op} {t:TE} (h:PE X a t):PE X (.BoolOp op [a] pos) t:=fun pins s σ H Q I hw=>BoolOp_one (h pins s σ H Q I hw)
theorem ygE (ha:PE X a ta) (hb:PE X (.BoolOp .And (b::rest) pos) tb):PE X (.BoolOp .And (a::b::rest) pos) (yhW ta tb):=by
 intro pins s σ H Q I h
 refine BoolOp_and (thn (ha pins s σ H _ I h) fun v s1 ⟨x,H1,I1,r1,q1⟩=>?_)
 obtain ⟨c,rfl,q1⟩:=q1
 cases r1
 refine wpAny_truthy_bool ?_
 cases c with
 | true=>exact hb pins s1 σ H1 Q I1 q1
 | false=>exact ⟨.bl false,H1,I1,rfl,q1⟩
theorem yhY (ha:PE X a ta) (hb:PE X (.BoolOp .Or (b::rest) pos) tb):PE X (.BoolOp .Or (a::b::rest) pos) (tOrV ta tb):=by
 intro pins s σ H Q I h
 refine BoolOp_or (thn (ha pins s σ H _ I h) fun v s1 ⟨x,H1,I1,r1,q1⟩=>?_)
 obtain ⟨c,rfl,q1⟩:=q1
 cases r1
 refine wpAny_truthy_bool ?_
 cases c with
 | false=>exact hb pins s1 σ H1 Q I1 q1
 | true=>exact ⟨.bl true,H1,I1,rfl,q1⟩
theorem ygF (ha:PE X a ta):PE X (.UnaryOp .Not a pos) (yhX ta):=by
 intro pins s σ H Q I h
 refine UnaryOp_ (thn (ha pins s σ H _ I h) fun v s1 ⟨x,H1,I1,r1,q1⟩=>?_)
 obtain ⟨c,rfl,q1⟩:=q1
 cases r1
 exact not_of (wpAny_truthy_bool ⟨.bl (!c),H1,I1,rfl,q1⟩)
def tIf (t:TT) (ta tb:TE):TE:=fun σ H Q=>t σ H fun c H1=>if c=true then ta σ H1 Q else tb σ H1 Q
theorem zhk {c:Expr} (hc:PT X c tA) (ha:PE X a ta) (hb:PE X b tb):PE X (.IfExp c a b pos) (tIf tA ta tb):=by
 intro pins s σ H Q I h
 refine wpAny_IfExp (thn (hc pins s σ H _ I h) fun d s1 ⟨H1,I1,q1⟩=>?_)
 cases d with
 | true=>exact ha pins s1 σ H1 Q I1 q1
 | false=>exact hb pins s1 σ H1 Q I1 q1
end
end L2
namespace L2
open PySem PySem.Spec PyProof.Rows
def SqL (K:PySem.W.Frag) (H:Hp) (a:Addr) (xs:List V):Prop :=
 Rd H a (.lst xs) \/
  ∃ (o:Obj) (its:Array Value) (n:Nat),K.lookup a=some o/\o.cls = .type "list" /\ o.dict=none/\o.data = .seq its n/\its.size<=sizeLine/\Vals xs its.toList
def SqT (K:PySem.W.Frag) (H:Hp) (a:Addr) (xs:List V):Prop :=
 Rd H a (.tup xs) \/
  ∃ (o:Obj) (its:Array Value) (n:Nat),K.lookup a=some o/\o.cls = .type "tuple" /\ o.data = .seq its n/\its.size<=sizeLine/\Vals xs its.toList
def absV:Value->Option V
 | .none=>some .non
 | .bool b=>some (.bl b)
 | .int i _=>some (.int i)
 | .str x _=>some (.str x)
 | .bytes b _=>some (.byt b)
 | .float b _=>some (.flt b)
 | .ref a=>some (.ref a)
 | .type n=>some (.ty n)
 | _=>none
theorem RelV.abs {x:V} {u:Value} (r:RelV x u):absV u=some x:=by
 cases x with
 | non=>cases r;rfl
 | bl _=>cases r;rfl
 | int _=>obtain ⟨t,rfl⟩:=r;rfl
 | str _=>obtain ⟨t,rfl⟩:=r;rfl
 | byt _=>obtain ⟨t,rfl⟩:=r;rfl
 | flt _=>obtain ⟨t,rfl⟩:=r;rfl
 | ref _=>cases r;rfl
 | ty _=>cases r;rfl
theorem RelV.inj {x y:V} {u:Value} (r:RelV x u) (q:RelV y u):x=y:=Option.some.inj (r.abs.symm.trans q.abs)
theorem Vals.inj:∀ {xs ys:List V} {us:List Value},Vals xs us->Vals ys us->xs=ys
 | _,_,_,.nil,.nil=>rfl
 | _,_,_,.cons r t,.cons r' t' => by rw [r.inj r',Vals.inj t t']
section
variable {X:Cx} {pins:List (Addr×Obj)} {σ:St} {H:Hp} {s:Shared} {a:Addr} {xs ys:List V}
theorem SqL.of {K:PySem.W.Frag} (h:H a=some (.lst xs)):SqL K H a xs:=.inl (.inl h)
theorem SqT.of {K:PySem.W.Frag} (h:H a=some (.tup xs)):SqT K H a xs:=.inl (.inl h)
theorem Inv.list (I:Inv X pins σ H s) (h:SqL X.K H a xs):∃ its:List Value,Vals xs its/\PlainL s.heap a its.toArray/\xs.length<=sizeLine:=by
 rcases h with h | ⟨o,its,n,hk,hc,hd,hs,hz,r⟩
 ·obtain ⟨z,its,n,r,e⟩:=h.ok I.hok
  exact ⟨its,r,⟨_,n,e,rfl,rfl,rfl⟩,z⟩
 ·refine ⟨its.toList,r,⟨o,n,I.kIn a o hk,hc,hd,by simpa using hs⟩,?_⟩
  have e:=r.length
  simp only [Array.length_toList] at e
  omega
theorem Inv.tuple (I:Inv X pins σ H s) (h:SqT X.K H a xs):∃ its:List Value,Vals xs its/\IsTup s.heap a its.toArray/\xs.length<=sizeLine:=by
 rcases h with h | ⟨o,its,n,hk,hc,hs,hz,r⟩
 ·obtain ⟨z,its,r,p⟩:=h.ok I.hok
  exact ⟨its,r,p,z⟩
 ·refine ⟨its.toList,r,⟨o,I.kIn a o hk,hc,n,by simpa using hs⟩,?_⟩
  have e:=r.length
  simp only [Array.length_toList] at e
  omega
theorem Inv.list_inj (I:Inv X pins σ H s) (h:SqL X.K H a xs) (h':SqL X.K H a ys):xs=ys:=by
 obtain ⟨its,r,⟨o,n,e,_,_,d⟩,_⟩:=I.list h
 obtain ⟨its',r',⟨o',n',e',_,_,d'⟩,_⟩:=I.list h'
 rw [e] at e';cases e'
 rw [d] at d'
 injection d' with d1 _
 have:its=its' := by simpa using congrArg Array.toList d1
 subst this
 exact r.inj r'
theorem Inv.tuple_inj (I:Inv X pins σ H s) (h:SqT X.K H a xs) (h':SqT X.K H a ys):xs=ys:=by
 obtain ⟨its,r,⟨o,e,_,n,d⟩,_⟩:=I.tuple h
 obtain ⟨its',r',⟨o',e',_,n',d'⟩,_⟩:=I.tuple h'
 rw [e] at e';cases e'
 rw [d] at d'
 injection d' with d1 _
 have:its=its' := by simpa using congrArg Array.toList d1
 subst this
 exact r.inj r'
end
abbrev Cx.wish (X:Cx) (E:Value->Shared->Prop):Cx:={ X with xe:=E }
abbrev Cx.nox (X:Cx):Cx:=X.wish fun _ _=>False
theorem Cx.Ok.wish {X:Cx} (ok:X.Ok) (E:Value->Shared->Prop):(X.wish E).Ok :=
 ⟨ok.mod,ok.kind,ok.glob,ok.blt,ok.above,ok.inj,ok.has,ok.cab,ok.hd,ok.frames,ok.stk,ok.exf,ok.bs,ok.bsz,ok.noex,ok.exfs,ok.funs,ok.frf⟩
theorem Cx.Ok.unwish {X:Cx} {E:Value->Shared->Prop} (ok:(X.wish E).Ok):X.Ok :=
 ⟨ok.mod,ok.kind,ok.glob,ok.blt,ok.above,ok.inj,ok.has,ok.cab,ok.hd,ok.frames,ok.stk,ok.exf,ok.bs,ok.bsz,ok.noex,ok.exfs,ok.funs,ok.frf⟩
section
variable {X:Cx} {pins:List (Addr×Obj)} {σ:St} {H:Hp} {s:Shared} {E:Value->Shared->Prop}
theorem Inv.wish (I:Inv X pins σ H s) (E:Value->Shared->Prop):Inv (X.wish E) pins σ H s:=⟨I.ok.wish E,I.os,I.bare,I.base,I.loc,I.cell,I.free,I.freeC,I.pin,I.hok,I.len⟩
theorem Inv.unwish (I:Inv (X.wish E) pins σ H s):Inv X pins σ H s:=⟨I.ok.unwish,I.os,I.bare,I.base,I.loc,I.cell,I.free,I.freeC,I.pin,I.hok,I.len⟩
theorem SP.unwish {D:Ends} {f:Flow} {s':Shared} (h:SP (X.wish E) pins D f s'):SP X pins D f s' := by
 cases f with
 | next=>obtain ⟨σ',H',I,q⟩:=h;exact ⟨σ',H',I.unwish,q⟩
 | brk=>obtain ⟨σ',H',I,q⟩:=h;exact ⟨σ',H',I.unwish,q⟩
 | cont=>obtain ⟨σ',H',I,q⟩:=h;exact ⟨σ',H',I.unwish,q⟩
 | ret u=>obtain ⟨v,σ',H',I,r,q⟩:=h;exact ⟨v,σ',H',I.unwish,r,q⟩
end
section
variable {X:Cx} {st:Stmt} {rest:List Stmt} {t u:TS} {e:Expr} {te:TE} {pos:Pos}
def yhZ:TS:=fun D σ H=>D.nx σ H
def tSeq (t u:TS):TS:=fun D σ H=>t { D with nx:=u D } σ H
theorem zim:PSs X [] yhZ:=fun _ _ σ H _ I h=>wpAny_execs_nil ⟨σ,H,I,h⟩
theorem zhl (h1:PS X st t) (h2:PSs X rest u):PSs X (st::rest) (tSeq t u):=by
 intro pins s σ H D I h
 refine wpAny_execs_cons (thn (h1 pins s σ H { D with nx:=u D } I h) fun f s1 q=>?_)
 cases f with
 | next =>
  obtain ⟨σ',H',I',q⟩:=q
  exact h2 pins s1 σ' H' D I' q
 | ret v=>exact q
 | brk=>exact q
 | cont=>exact q
theorem zin (h1:PS X st t):PSs X [st] t:=by
 intro pins s σ H D I h
 refine wpAny_execs_cons (thn (h1 pins s σ H D I h) fun f s1 q=>?_)
 cases f with
 | next=>exact wpAny_execs_nil q
 | ret v=>exact q
 | brk=>exact q
 | cont=>exact q
theorem Inv.quiet {pins:List (Addr×Obj)} {σ:St} {H:Hp} {s:Shared} (I:Inv X pins σ H s):interactive X.env=false:=by simp [interactive,I.ok.kind]
def yh0 (te:TE):TS:=fun D σ H=>te σ H fun _ H1=>D.nx σ H1
theorem zio (he:PE X e te) (hs:swapsWith e none pos.line X.env=pure false:=by rfl):PS X (.Expr e pos) (yh0 te):=by
 intro pins s σ H D I h
 exact wpAny_Expr_any (thn (he pins s σ H _ I h) fun v s1 ⟨x,H1,I1,r1,q1⟩=>⟨σ,H1,I1,q1⟩) I.quiet hs
def tRet (te:TE):TS:=fun D σ H=>te σ H D.rt
theorem ygG (he:PE X e te):PS X (.Return (some e) pos) (tRet te):=by
 intro pins s σ H D I h
 exact wpAny_Return_some (thn (he pins s σ H _ I h) fun v s1 ⟨x,H1,I1,r1,q1⟩=>⟨x,σ,H1,I1,r1,q1⟩)
def tIfS (c:TT) (t u:TS):TS:=fun D σ H=>c σ H fun b H1=>if b=true then t D σ H1 else u D σ H1
theorem yh1 {c:Expr} {a b:List Stmt} {tc:TT} (hc:PT X c tc) (ha:PSs X a t) (hb:PSs X b u):PS X (.If c a b pos) (tIfS tc t u):=by
 intro pins s σ H D I h
 refine wpAny_If (thn (hc pins s σ H _ I h) fun d s1 ⟨H1,I1,q1⟩=>?_)
 cases d with
 | true=>exact ha pins s1 σ H1 D I1 q1
 | false=>exact hb pins s1 σ H1 D I1 q1
end
abbrev TG:=V->St->Hp->(St->Hp->Prop)->Prop
def PG (X:Cx) (target:Expr) (t:TG):Prop :=
 ∀ (pins:List (Addr×Obj)) (s:Shared) (σ:St) (H:Hp) (v:V) (u:Value) (Q:St->Hp->Prop),Inv X pins σ H s->RelV v u->t v σ H Q ->
  wpAny (model X.prog X.w) X.A (assign target X.env u) (fun _ s' => ∃ σ' H',Inv X pins σ' H' s'/\Q σ' H') X.xe s
abbrev TSet:=V->V->V->Hp->(Hp->Prop)->Prop
def PSet (X:Cx) (t:TSet):Prop :=
 ∀ (pins:List (Addr×Obj)) (s:Shared) (σ:St) (H:Hp) (o i v:V) (ov iv u:Value) (Q:Hp->Prop),Inv X pins σ H s->RelV o ov->RelV i iv->RelV v u->t o i v H Q ->
  wpAny (model X.prog X.w) X.A (setItem ov iv u) (fun _ s' => ∃ H',Inv X pins σ H' s'/\Q H') X.xe s
section
variable {X:Cx} {pos:Pos}
def yeJ (i:Nat):TG:=fun v σ H Q=>Q (σ.set i (some v)) H
theorem ziq {i:Nat} {x:Str} (hN:X.N.Nodup) (hi:X.N[i]? = some x) (hx:Loc X.env.scope x) (hf:X.fn x=true\/X.env.scope.names.lookup x=some .local:=by first | exact .inl rfl | exact .inr rfl | assumption):PG X (.Name x pos) (yeJ i):=by
 intro pins s σ H v u Q I r h
 exact wpAny_assign_Name (zcX I hN hi hx r (fun s' I' => ⟨_,H,I',h⟩) hf)
def gSub (to ti:TE) (t:TSet):TG:=fun v σ H Q=>to σ H fun o H1=>ti σ H1 fun i H2=>t o i v H2 fun H3=>Q σ H3
theorem ygH {o i:Expr} {to ti:TE} {t:TSet} (ho:PE X o to) (hi:PE X i ti) (hs:PSet X t)
  (ha:∀ v,assign (.Subscript o i pos) X.env v=(do
   let ov <- holding [v] (eval o X.env)
   let iv <- holding [v,ov] (eval i X.env)
   standAt pos
   holding [v,ov,iv] (setItem ov iv v)
   release [v,ov,iv] []):=by intro _;rfl):PG X (.Subscript o i pos) (gSub to ti t):=by
 intro pins s σ H v u Q I r h
 rw [ha]
 refine wpAny_bind (wpAny_holding (thn (ho pins s σ H _ I h) fun ov s1 ⟨x,H1,I1,r1,q1⟩=>?_))
 refine wpAny_bind (wpAny_holding (thn (hi pins s1 σ H1 _ I1 q1) fun iv s2 ⟨y,H2,I2,r2,q2⟩=>?_))
 refine wpAny_bind (wpAny_standAt (wpAny_bind (wpAny_holding (thn (hs pins s2 σ H2 x y v ov iv u _ I2 r1 r2 r q2) fun _ s3 ⟨H3,I3,q3⟩=>?_))))
 exact wpAny_release ⟨σ,H3,I3,q3⟩
def tAsg (te:TE) (g:TG):TS:=fun D σ H=>te σ H fun x H1=>g x σ H1 D.nx
theorem ygI {tg e:Expr} {te:TE} {g:TG} (he:PE X e te) (hg:PG X tg g) (hs:swapsWithSole [tg] e pos.line X.env=pure false:=by rfl) (hw:swappedStores [tg] e X.env=pure none:=by rfl)
  (h1:(assignEach [tg] X.env).map (·.2)=[assign tg X.env]:=by rfl):PS X (.Assign [tg] e pos) (tAsg te g):=by
 intro pins s σ H D I h
 refine wpAny_Assign_stores (thn (he pins s σ H _ I h) fun v s1 ⟨x,H1,I1,r1,q1⟩=>?_) hs hw
 rw [h1]
 exact thn (hg pins s1 σ H1 x v _ I1 r1 q1) fun _ s2 q=>q
theorem ygJ {i:Nat} {x:Str} {e:Expr} {te:TE} {pos':Pos} (hN:X.N.Nodup) (hi:X.N[i]? = some x) (hx:Loc X.env.scope x) (he:PE X e te) (hs:swapsWith e (some (.Name x pos')) pos.line X.env=pure false:=by rfl) (hf:X.fn x=true\/X.env.scope.names.lookup x=some .local:=by first | exact .inl rfl | exact .inr rfl | assumption) :
  PS X (.Assign [.Name x pos'] e pos) (tAsg te (yeJ i)):=by
 intro pins s σ H D I h
 refine wpAny_Assign_Name (thn (he pins s σ H _ I h) fun v s1 ⟨y,H1,I1,r1,q1⟩=>?_) hs
 exact zcX I1 hN hi hx r1 (fun s2 I2=>⟨_,H1,I2,q1⟩) hf
end
section
variable {X:Cx} {pos:Pos}
def ygK (c:TT) (tb:TS):TS:=fun D σ H=>∃ W:Nat->St->Hp->Prop,(∃ m,W m σ H)/\∀ m σ H,W m σ H ->
 c σ H fun b H1=>if b=true then ∃ N:St->Hp->Prop,(∀ σ' H',N σ' H'->∃ m',m'<m/\W m' σ' H')/\tb { D with nx:=N,ct:=N,bk:=D.nx } σ H1 else D.nx σ H1
theorem zhm {c:Expr} {body:List Stmt} {tc:TT} {tb:TS} (hp:PassesOwn (model X.prog X.w) X.A X.env X.xe) (hc:PT X c tc) (hb:PSs X body tb):PS X (.While c body [] pos) (ygK tc tb):=by
 intro pins s σ H D I h
 obtain ⟨W,⟨m0,w0⟩,turn⟩:=h
 refine wpAny_While (codeAny_whileLoop (fun n s' => ∃ σ' H',Inv X pins σ' H' s'/\W n σ' H') ?_ m0 ⟨σ,H,I,w0⟩)
 rintro n s1 ⟨σ1,H1,I1,w1⟩
 refine wpAny_passesOwn hp (thn (hc pins s1 σ1 H1 _ I1 (turn n σ1 H1 w1)) fun b s2 ⟨H2,I2,q2⟩=>?_)
 cases b with
 | true =>
  obtain ⟨N,hN,q2⟩:=q2
  rw [if_pos rfl]
  refine wpAny_passesOwn hp (thn (hb pins s2 σ1 H2 _ I2 q2) fun f s3 q3=>?_)
  cases f with
  | next =>
   obtain ⟨σ3,H3,I3,n3⟩:=q3
   obtain ⟨m',hm,w3⟩:=hN σ3 H3 n3
   exact ⟨m',hm,σ3,H3,I3,w3⟩
  | cont =>
   obtain ⟨σ3,H3,I3,n3⟩:=q3
   obtain ⟨m',hm,w3⟩:=hN σ3 H3 n3
   exact ⟨m',hm,σ3,H3,I3,w3⟩
  | brk=>exact q3
  | ret v=>exact q3
 | false =>
  rw [if_neg Bool.false_ne_true]
  exact wpAny_execs_nil ⟨σ1,H2,I2,q2⟩
end
structure It where
 go:Nat->Hp->Prop
 yld:Nat->Hp->V->Hp->Prop
 stop:Nat->Hp->Prop
def FpOk (X:Cx) (pins:List (Addr×Obj)) (H:Hp) (b:Addr):Prop :=
 H b=none/\b≠X.env.locals/\b∉X.fs/\(b∈X.ex\/X.s₀.heap.objs.size<=b)/\(∀ x c,X.env.cells.lookup x=some c->c≠b)/\∀ p∈X.pn++pins,p.1≠b
theorem Inv.fpOk {X:Cx} {pins:List (Addr×Obj)} {σ:St} {H H':Hp} {s:Shared} {b:Addr} (I:Inv X pins σ H s) (hb:s.heap.objs.size<=b) (hn:H' b=none):FpOk X pins H' b:=by
 refine ⟨hn,Nat.ne_of_gt (Nat.lt_of_lt_of_le I.lt hb),I.nofs hb,.inr (Nat.le_trans I.sz hb),fun x c e z=>?_,fun p hp z=>?_⟩
 ·obtain ⟨v,q⟩:=I.cell x c e
  exact absurd (Nat.lt_of_lt_of_le q.lt (by rw [z];exact hb)) (Nat.lt_irrefl _)
 ·exact absurd (Nat.lt_of_lt_of_le (Heap.lt_size (I.pin p hp).1) (by rw [z];exact hb)) (Nat.lt_irrefl _)
structure Turn (P:Program) (w:World) (K:PySem.W.Frag) (tg:Expr) (J:It) (fp:List Addr) (it:Addr) (tn:Nat->Heap->Prop):Prop where
 mem:it∈fp
 obj:∀ i h,tn i h->∀ b∈fp,∃ o,h.get? b=some o/\∀ v,o.data ≠ .cell v
 keep:∀ i h h',tn i h->(∀ b∈fp,∀ o,h.get? b=some o->h'.get? b=some o)->tn i h'
 item:∀ (X:Cx),X.prog=P->X.w=w->X.K=K->X.calm=true->∀ (i:Nat) (pins:List (Addr×Obj)) (s:Shared) (σ:St) (H:Hp) (E:Value->Shared->Prop),Inv X pins σ H s->(∀ b∈fp,FpOk X pins H b)->tn i s.heap->J.go i H ->
  wpAny (model P w) X.A (pyNext (.ref it)) (fun r s1=>∃ u,r=some u /\
   wpAny (model P w) X.A (letOwnedTupleGo tg (.ref it) u) (fun _ s2=>∃ x H',Inv X pins σ H' s2/\RelV x u/\J.yld i H x H'/\tn (i+1) s2.heap/\∀ b∈fp,H' b=none) E s1) E s
 done:∀ (X:Cx),X.prog=P->X.w=w->X.K=K->X.calm=true->∀ (i:Nat) (pins:List (Addr×Obj)) (s:Shared) (σ:St) (H:Hp) (E:Value->Shared->Prop),Inv X pins σ H s->(∀ b∈fp,FpOk X pins H b)->tn i s.heap->J.stop i H ->
  wpAny (model P w) X.A (pyNext (.ref it)) (fun r s1=>r=none/\Inv X pins σ H s1) E s
 self:∀ (A:Around) (i:Nat) (s:Shared) (Q:Value->Shared->Prop) (E:Value->Shared->Prop),tn i s.heap->Q (.ref it) s->wpAny (model P w) A (pyIter (.ref it)) Q E s
abbrev TI:=St->Hp->(It->Hp->Prop)->Prop
def PIE (X:Cx) (pins:List (Addr×Obj)) (σ:St) (tg:Expr) (R:It->Hp->Prop) (itv:Value) (s2:Shared):Prop :=
 ∃ (it:Addr) (fp:List Addr) (tn:Nat->Heap->Prop) (J:It) (H':Hp),itv = .ref it/\Inv X pins σ H' s2/\Turn X.prog X.w X.K tg J fp it tn/\tn 0 s2.heap/\(∀ b∈fp,FpOk X pins H' b)/\R J H'
def PI (X:Cx) (tg iter:Expr) (wi:TI):Prop :=
 ∀ (pins:List (Addr×Obj)) (s:Shared) (σ:St) (H:Hp) (R:It->Hp->Prop),Inv X pins σ H s->wi σ H R ->
  wpAny (model X.prog X.w) X.A (eval iter X.env) (fun v s1=>wpAny (model X.prog X.w) X.A (pyIter v) (PIE X pins σ tg R) X.xe s1) X.xe s
theorem yer {M:Model} {A:Around} {E:Value->Shared->Prop} {s:Shared} {tg:Expr} {it:Addr} {u:Value} {o:Obj} {n:String} {vs:Array Value} {Q:Unit->Shared->Prop} (ho:s.heap.get? it=some o) (hc:o.cls = .type n) (hd:o.data = .fields vs)
  (hn:["enumerate", "zip", "dict_itemiterator", "dict_reverseitemiterator", "odict_iterator", "itertools.zip_longest", "itertools.pairwise"].contains n=false) (hQ:Q () s):wpAny M A (letOwnedTupleGo tg (.ref it) u) Q E s:=by
 unfold letOwnedTupleGo
 cases tg<;>first
  | exact wpAny_pure hQ
  | (cases u<;>first
    | exact wpAny_pure hQ
    | (refine wpAny_bind (wpAny_load ho ?_)
       rw [hc,hd]
       show wpAny M A (if (["enumerate", "zip", "dict_itemiterator", "dict_reverseitemiterator", "odict_iterator", "itertools.zip_longest", "itertools.pairwise"].contains n && vs[0]? == some (rawInt _))=true then _ else _) Q E s
       rw [if_neg (by intro h;rw [hn,Bool.false_and] at h;cases h)]
       exact wpAny_pure hQ))
def Itl (K:PySem.W.Frag) (a:Addr):It :=
 ⟨fun i H=>∃ xs x,SqL K H a xs/\xs[i]? = some x,fun i H x H' => H'=H/\∀ xs,SqL K H a xs->xs[i]? = some x,fun i H=>∃ xs,SqL K H a xs/\xs.length<=i⟩
def Itt (K:PySem.W.Frag) (a:Addr):It :=
 ⟨fun i H=>∃ xs x,SqT K H a xs/\xs[i]? = some x,fun i H x H' => H'=H/\∀ xs,SqT K H a xs->xs[i]? = some x,fun i H=>∃ xs,SqT K H a xs/\xs.length<=i⟩
def Itr (lo:Int) (n:Nat):It:=⟨fun i _=>i<n,fun i H x H' => H'=H/\x = .int (lo+i),fun i _=>n<=i⟩
theorem zgB {P:Program} {w:World} {K:PySem.W.Frag} {tg:Expr} (a it:Addr):Turn P w K tg (Itl K a) [it] it (fun i h=>h.IsListIter it a i) where
 mem:=by simp
 obj:=fun i h st b hb=>by
  have e:b=it:=by simpa using hb
  subst e
  obtain ⟨o,e,c,d⟩:=st
  exact ⟨o,e,fun v z=>by rw [d] at z;cases z⟩
 keep:=fun i h h' st k=>st.at fun o e=>k it (by simp) o e
 item:=by
  intro X hP hw hK hc i pins s σ H E I hf st hg
  subst hP hw hK
  obtain ⟨xs,x,hq,hx⟩:=hg
  obtain ⟨its,rv,p,hz⟩:=I.list hq
  obtain ⟨u,hu,ru⟩:=rv.get hx
  obtain ⟨f0,f1,f2,f3,f4,f5⟩:=hf it (by simp)
  refine wpAny_pyNext_list_item st p.isList (x:=u) (by simpa using hu) fun h' st' sb=>?_
  have I1:Inv X pins σ H { s with heap:=h' }:=I.turned (t' := s.toks) (fun b o hb e=>(sb.2 b hb).trans e) f0 f1 f3 f4 f5
  obtain ⟨o,e,c,d⟩:=id st'
  exact ⟨u,rfl,yer (s:={ s with heap:=h' }) e c d (by decide) ⟨x,H,I1,ru,⟨rfl,fun ys hy=>by rw [I.list_inj hy hq];exact hx⟩,st',fun b hb=>(hf b hb).1⟩⟩
 done:=by
  intro X hP hw hK hc i pins s σ H E I hf st hg
  subst hP hw hK
  obtain ⟨xs,hq,hx⟩:=hg
  obtain ⟨its,rv,p,hz⟩:=I.list hq
  obtain ⟨f0,f1,f2,f3,f4,f5⟩:=hf it (by simp)
  have hl:=rv.length
  exact wpAny_pyNext_list_end (I.ok.hd hc) st p.isList (by simp;omega) fun h' eb=>⟨rfl,I.turned (t' := s.toks) (fun b o hb e=>eb b o hb e) f0 f1 f3 f4 f5⟩
 self:=fun _ _ _ _ _ st h=>wpAny_pyIter_listiter st h
theorem zf7 {P:Program} {w:World} {K:PySem.W.Frag} {tg:Expr} (a it:Addr):Turn P w K tg (Itt K a) [it] it (fun i h=>h.IsTupleIter it a i) where
 mem:=by simp
 obj:=fun i h st b hb=>by
  have e:b=it:=by simpa using hb
  subst e
  obtain ⟨o,e,c,d⟩:=st
  exact ⟨o,e,fun v z=>by rw [d] at z;cases z⟩
 keep:=fun i h h' st k=>st.at fun o e=>k it (by simp) o e
 item:=by
  intro X hP hw hK hc i pins s σ H E I hf st hg
  subst hP hw hK
  obtain ⟨xs,x,hq,hx⟩:=hg
  obtain ⟨its,rv,p,hz⟩:=I.tuple hq
  obtain ⟨u,hu,ru⟩:=rv.get hx
  obtain ⟨f0,f1,f2,f3,f4,f5⟩:=hf it (by simp)
  refine wpAny_pyNext_tuple_item st (show s.heap.IsTuple a its.toArray from p) (x:=u) (by simpa using hu) fun h' st' sb=>?_
  have I1:Inv X pins σ H { s with heap:=h' }:=I.turned (t' := s.toks) (fun b o hb e=>(sb.2 b hb).trans e) f0 f1 f3 f4 f5
  obtain ⟨o,e,c,d⟩:=id st'
  exact ⟨u,rfl,yer (s:={ s with heap:=h' }) e c d (by decide) ⟨x,H,I1,ru,⟨rfl,fun ys hy=>by rw [I.tuple_inj hy hq];exact hx⟩,st',fun b hb=>(hf b hb).1⟩⟩
 done:=by
  intro X hP hw hK hc i pins s σ H E I hf st hg
  subst hP hw hK
  obtain ⟨xs,hq,hx⟩:=hg
  obtain ⟨its,rv,p,hz⟩:=I.tuple hq
  obtain ⟨f0,f1,f2,f3,f4,f5⟩:=hf it (by simp)
  have hl:=rv.length
  exact wpAny_pyNext_tuple_end (I.ok.hd hc) st (show s.heap.IsTuple a its.toArray from p) (by simp;omega) fun h' eb=>⟨rfl,I.turned (t' := s.toks) (fun b o hb e=>eb b o hb e) f0 f1 f3 f4 f5⟩
 self:=fun _ _ _ _ _ st h=>wpAny_pyIter_tupleiter st h
theorem zf8 {P:Program} {w:World} {K:PySem.W.Frag} {tg:Expr} (it:Addr) (lo:Int) (n:Nat):Turn P w K tg (Itr lo n) [it] it (fun i h=>IsRangeIter h it (lo+(i:Nat)*1) ((n:Int)-(i:Nat)) 1) where
 mem:=by simp
 obj:=fun i h st b hb=>by
  have e:b=it:=by simpa using hb
  subst e
  exact ⟨_,st,fun v z=>by
   have z':Data.fields _=Data.cell v:=z
   cases z'⟩
 keep:=fun i h h' st k=>k it (by simp) _ st
 item:=by
  intro X hP hw hK hc i pins s σ H E I hf st hg
  subst hP hw hK
  obtain ⟨f0,f1,f2,f3,f4,f5⟩:=hf it (by simp)
  have W:=Walks.range (prog:=X.prog) (w:=X.w) (I.ok.hd hc) it lo 1 n
  refine W.item i s _ _ hg st fun v h' tk hv st' kk=>?_
  obtain ⟨t,rfl⟩:=hv
  have I1:Inv X pins σ H { s with heap:=h',toks:=tk }:=I.turned (fun b o hb e=>kk b o (by simpa using hb) e) f0 f1 f3 f4 f5
  refine ⟨_,rfl,yer (s:={ s with heap:=h',toks:=tk }) (n := "range_iterator") st' rfl rfl (by decide) ⟨.int (lo+i),H,I1,⟨t,?_⟩,⟨rfl,rfl⟩,st',fun b hb=>(hf b hb).1⟩⟩
  rw [Int.mul_one]
 done:=by
  intro X hP hw hK hc i pins s σ H E I hf st hg
  subst hP hw hK
  obtain ⟨f0,f1,f2,f3,f4,f5⟩:=hf it (by simp)
  exact wpAny_pyNext_range_end (I.ok.hd hc) st (by have:n<=i:=hg;omega) fun h' eb=>⟨rfl,I.turned (t' := s.toks) (fun b o hb e=>eb b o hb e) f0 f1 f3 f4 f5⟩
 self:=fun _ _ _ _ _ st h=>wpAny_pyIter_rangeiter st h
end L2
namespace L2
open PySem PySem.Spec PyProof.Rows
section
variable {X:Cx} {tg:Expr}
def yf3 (K:PySem.W.Frag) (tl:TE):TI:=fun σ H R=>tl σ H fun x H1=>∃ a,x = .ref a/\(∃ xs,SqL K H1 a xs)/\R (Itl K a) H1
def iTup (K:PySem.W.Frag) (tl:TE):TI:=fun σ H R=>tl σ H fun x H1=>∃ a,x = .ref a/\(∃ xs,SqT K H1 a xs)/\R (Itt K a) H1
theorem zir {l:Expr} {tl:TE} (hl:PE X l tl):PI X tg l (yf3 X.K tl):=by
 intro pins s σ H R I h
 refine thn (hl pins s σ H _ I h) fun v s1 ⟨x,H1,I1,r1,q1⟩=>?_
 obtain ⟨a,e,⟨xs,hq⟩,q⟩:=q1
 subst e
 cases r1
 obtain ⟨its,rv,p,hz⟩:=I1.list hq
 refine wpAny_pyIter_list p.isList ?_
 refine ⟨s1.heap.objs.size,[s1.heap.objs.size],_,_,H1,rfl,I1.kept (t' := s1.toks) fun b o e=>Heap.get?_push_of_some _ e,zgB a _,⟨_,Heap.get?_push_size _ rfl,rfl,rfl⟩,fun b hb=>?_,q⟩
 have e:b=s1.heap.objs.size:=by simpa using hb
 subst e
 exact I1.fpOk (Nat.le_refl _) (I1.hok.fresh (Nat.le_refl _))
theorem ygL {l:Expr} {tl:TE} (hl:PE X l tl):PI X tg l (iTup X.K tl):=by
 intro pins s σ H R I h
 refine thn (hl pins s σ H _ I h) fun v s1 ⟨x,H1,I1,r1,q1⟩=>?_
 obtain ⟨a,e,⟨xs,hq⟩,q⟩:=q1
 subst e
 cases r1
 obtain ⟨its,rv,p,hz⟩:=I1.tuple hq
 refine wpAny_pyIter_tuple (show s1.heap.IsTuple a its.toArray from p) ?_
 refine ⟨s1.heap.objs.size,[s1.heap.objs.size],_,_,H1,rfl,I1.kept (t' := s1.toks) fun b o e=>Heap.get?_push_of_some _ e,zf7 a _,⟨_,Heap.get?_push_size _ rfl,rfl,rfl⟩,fun b hb=>?_,q⟩
 have e:b=s1.heap.objs.size:=by simpa using hb
 subst e
 exact I1.fpOk (Nat.le_refl _) (I1.hok.fresh (Nat.le_refl _))
theorem zhn {pins:List (Addr×Obj)} {σ:St} {H:Hp} {s:Shared} {R:It->Hp->Prop} {E:Value->Shared->Prop} {lo hi:Int} {t u v:Tok} {tk:Nat} (I:Inv X pins σ H s) (h1 : -(2 ^ 62)<=lo) (h2:lo<2 ^ 62) (h3 : -(2 ^ 62)<=hi) (h4:hi<2 ^ 62)
  (q:R (Itr lo (hi-lo).toNat) H):wpAny (model X.prog X.w) X.A (pyIter (.ref s.heap.objs.size)) (PIE X pins σ tg R) E { s with heap:=s.heap.push { cls:=.type "range",data:=.fields #[.int lo t,.int hi u,.int 1 v] },toks:=tk }:=by
 refine wpAny_pyIter_range (IsRange.new ..) (small_one h1 h2 h3 h4) ?_
 have I1:Inv X pins σ H { s with heap:=s.heap.push { cls:=.type "range",data:=.fields #[.int lo t,.int hi u,.int 1 v] },toks:=tk }:=I.kept fun b o e=>Heap.get?_push_of_some _ e
 refine ⟨(s.heap.push { cls:=.type "range",data:=.fields #[.int lo t,.int hi u,.int 1 v] }).objs.size,[(s.heap.push { cls:=.type "range",data:=.fields #[.int lo t,.int hi u,.int 1 v] }).objs.size],_,_,H,rfl,
  I1.kept (t' := tk) fun b o e=>Heap.get?_push_of_some _ e,zf8 _ lo (hi-lo).toNat,?_,fun b hb=>?_,q⟩
 ·have e1:lo+((0:Nat):Int)*1=lo:=by simp
  have e2:(((hi-lo).toNat:Nat):Int)-((0:Nat):Int)=Builtin.Range.rangeSize lo hi 1:=by rw [rangeSize_one];split<;>omega
  show IsRangeIter _ _ (lo+((0:Nat):Int)*1) ((((hi-lo).toNat:Nat):Int)-((0:Nat):Int)) 1
  rw [e1,e2]
  exact Heap.get?_push_size _ rfl
 ·have e:b=(s.heap.push { cls:=.type "range",data:=.fields #[.int lo t,.int hi u,.int 1 v] }).objs.size:=by simpa using hb
  subst e
  exact I1.fpOk (Nat.le_refl _) (I1.hok.fresh (Nat.le_refl _))
def yh2 (ta:TA):TI:=fun σ H R=>ta σ H fun vs H1=>∃ j:Int,vs=[.int j] /\ -(2 ^ 62)<=j/\j<2 ^ 62/\R (Itr 0 j.toNat) H1
theorem zgC {a:Expr} {ta:TA} {p pos:Pos} (hg:Gl X "range") (hm:X.mg "range" = none) (ha:PA X [a] ta) (hs:starEach [a] X.env=[(false,eval a X.env)]:=by rfl):PI X tg (.Call (.Name "range" p) [a] [] pos) (yh2 ta):=by
 intro pins s σ H R I h
 refine Call_ (yd4 I hg hm boot_range (PyProof.Rows.callWith_type1 (thn (ha pos pins s σ H _ I h) fun us s1 ⟨vs,H1,I1,r1,q1⟩=>?_) hs rfl))
 obtain ⟨j,e,q1,q2,q⟩:=q1
 subst e
 cases r1 with
 | cons r rr =>
  cases rr
  obtain ⟨t,rfl⟩:=r
  exact call_range_1 (zhn I1 (by omega) (by omega) q1 q2 (by simpa using q))
def tFor (wi:TI) (g:TG) (tb:TS):TS:=fun D σ H=>wi σ H fun J H1=>∃ W:Nat->Nat->St->Hp->Prop,(∃ m,W 0 m σ H1)/\∀ i m σ H,W i m σ H ->
 (J.stop i H/\D.nx σ H)\/(J.go i H/\∃ N:St->Hp->Prop,(∀ σ' H',N σ' H'->∃ m',m'<m/\W (i+1) m' σ' H')/\∀ x H',J.yld i H x H'->g x σ H' fun σ2 H2=>tb { D with nx:=N,ct:=N,bk:=D.nx } σ2 H2)
def ydp (fp:List Addr) (h:Heap):List (Addr×Obj):=fp.filterMap fun b=>(h.get? b).map fun o=>(b,o)
theorem zbm {fp:List Addr} {h:Heap} {b:Addr} {o:Obj} (hb:b∈fp) (e:h.get? b=some o):(b,o)∈ydp fp h:=List.mem_filterMap.mpr ⟨b,hb,by rw [e];rfl⟩
theorem zgD {fp:List Addr} {h:Heap} {p:Addr×Obj} (hp:p∈ydp fp h):p.1∈fp/\h.get? p.1=some p.2:=by
 obtain ⟨b,hb,e⟩:=List.mem_filterMap.mp hp
 cases q:h.get? b with
 | none=>rw [q] at e;cases e
 | some o =>
  rw [q] at e
  have e':(b,o)=p:=Option.some.inj e
  subst e'
  exact ⟨hb,q⟩
theorem Inv.pinned {pins:List (Addr×Obj)} {σ:St} {H:Hp} {s:Shared} {fp:List Addr} (I:Inv X pins σ H s) (hf:∀ b∈fp,FpOk X pins H b) (ho:∀ b∈fp,∃ o,s.heap.get? b=some o/\∀ v,o.data ≠ .cell v):Inv X (pins++ydp fp s.heap) σ H s :=
 I.pins_of fun p hp=>(List.mem_append.mp hp).elim (fun z=>I.pin p (List.mem_append_right _ z)) fun z=>by
  obtain ⟨hb,e⟩:=zgD z
  obtain ⟨f0,f1,f2,_⟩:=hf p.1 hb
  obtain ⟨o,e',d⟩:=ho p.1 hb
  rw [e] at e';cases e'
  exact ⟨e,f0,f1,f2,d⟩
theorem Inv.unpinned {pins pl:List (Addr×Obj)} {σ:St} {H:Hp} {s:Shared} (I:Inv X (pins++pl) σ H s):Inv X pins σ H s:=I.pins_of fun p hp=>I.pin p (List.mem_append_right _ (List.mem_append_left _ hp))
theorem yfp {iter:Expr} {body:List Stmt} {wi:TI} {g:TG} {tb:TS} {pos:Pos} (hp:PassesOwn (model X.prog X.w) X.A X.env X.xe) (hc:X.calm=true) (hi:PI X tg iter wi) (hg:PG X tg g) (hb:PSs X body tb)
  (hs:∀ x,foldedSetIterable iter X.env x=pure x:=by intro _;rfl):PS X (.For tg iter body [] pos) (tFor wi g tb):=by
 intro pins s σ H D I h
 refine wpAny_For (thn (hi pins s σ H _ I h) fun v s1 h1=>thn h1 fun itv s2 h2=>?_) hs
 obtain ⟨it,fp,tn,J,H2,e,I2,T,st2,f2,W,⟨m0,w0⟩,turn⟩:=h2
 subst e
 have stat:∀ {H':Hp},(∀ b∈fp,H' b=none)->∀ b∈fp,FpOk X pins H' b:=fun hn b hb=>⟨hn b hb,(f2 b hb).2⟩
 refine codeAny_forLoop_any (fun n s' => ∃ i σ' H',Inv X pins σ' H' s'/\tn i s'.heap/\(∀ b∈fp,H' b=none)/\W i n σ' H') ?_ m0 ⟨0,σ,H2,I2,st2,fun b hb=>(f2 b hb).1,w0⟩
 rintro n s3 ⟨i,σ3,H3,I3,st3,fr3,w3⟩
 rcases turn i n σ3 H3 w3 with ⟨stop,qn⟩ | ⟨go,N,hN,step⟩
 ·refine wpAny_passesOwn hp (thn (T.done X rfl rfl rfl hc i pins s3 σ3 H3 X.xe I3 (stat fr3) st3 stop) fun r s4 ⟨hr,I4⟩=>?_)
  subst hr
  exact wpAny_execs_nil ⟨σ3,H3,I4,qn⟩
 ·refine wpAny_passesOwn hp (thn (T.item X rfl rfl rfl hc i pins s3 σ3 H3 X.xe I3 (stat fr3) st3 go) fun r s4 ⟨u,hr,h4⟩=>?_)
  subst hr
  refine wpAny_passesOwn hp (thn h4 fun _ s5 ⟨x,H5,I5,r5,y5,st5,fr5⟩=>?_)
  have I5' := I5.pinned (stat fr5) (T.obj _ _ st5)
  refine wpAny_passesOwn hp (thn (hg _ s5 σ3 H5 x u _ I5' r5 (step x H5 y5)) fun _ s6 ⟨σ6,H6,I6,q6⟩=>?_)
  refine wpAny_passesOwn hp (thn (hb _ s6 σ6 H6 _ I6 q6) fun f s7 q7=>?_)
  have again:∀ {σ7:St} {H7:Hp},Inv X (pins++ydp fp s5.heap) σ7 H7 s7->N σ7 H7->∃ m,m<n/\∃ i σ' H',Inv X pins σ' H' s7/\tn i s7.heap/\(∀ b∈fp,H' b=none)/\W i m σ' H' := fun {σ7 H7} I7 n7=>by
   obtain ⟨m',hm,w7⟩:=hN σ7 H7 n7
   refine ⟨m',hm,i+1,σ7,H7,I7.unpinned,T.keep _ _ _ st5 fun b hb o e=>(I7.pin (b,o) (List.mem_append_right _ (List.mem_append_right _ (zbm hb e)))).1,fun b hb=>?_,w7⟩
   obtain ⟨o,e,d⟩:=T.obj _ _ st5 b hb
   exact (I7.pin (b,o) (List.mem_append_right _ (List.mem_append_right _ (zbm hb e)))).2.1
  cases f with
  | next=>obtain ⟨σ7,H7,I7,n7⟩:=q7;exact again I7 n7
  | cont=>obtain ⟨σ7,H7,I7,n7⟩:=q7;exact again I7 n7
  | brk=>obtain ⟨σ7,H7,I7,q7⟩:=q7;exact ⟨σ7,H7,I7.unpinned,q7⟩
  | ret v=>obtain ⟨x7,σ7,H7,I7,r7,q7⟩:=q7;exact ⟨x7,σ7,H7,I7.unpinned,r7,q7⟩
end
end L2
namespace L2
open PySem PySem.Spec PyProof.Rows
abbrev R2:=V->V->Hp->VK->Prop
def OpR (X:Cx) (f:Value->Value->Sem Value) (r:R2):Prop :=
 ∀ (pins:List (Addr×Obj)) (s:Shared) (σ:St) (H:Hp) (x y:V) (v u:Value) (Q:VK),Inv X pins σ H s->RelV x v->RelV y u->r x y H Q ->
  wpAny (model X.prog X.w) X.A (f v u) (EP X pins σ Q) X.xe s
def UnR (X:Cx) (f:Value->Sem Value) (r:V->Hp->VK->Prop):Prop :=
 ∀ (pins:List (Addr×Obj)) (s:Shared) (σ:St) (H:Hp) (x:V) (v:Value) (Q:VK),Inv X pins σ H s->RelV x v->r x H Q ->
  wpAny (model X.prog X.w) X.A (f v) (EP X pins σ Q) X.xe s
def CallR (X:Cx) (f:Value) (r:List V->Hp->VK->Prop):Prop :=
 ∀ (pins:List (Addr×Obj)) (s:Shared) (σ:St) (H:Hp) (xs:List V) (us:List Value) (Q:VK),Inv X pins σ H s->Vals xs us->r xs H Q ->
  wpAny (model X.prog X.w) X.A (call f us) (EP X pins σ Q) X.xe s
def TruR (X:Cx) (r:V->Hp->(Bool->Hp->Prop)->Prop):Prop :=
 ∀ (pins:List (Addr×Obj)) (s:Shared) (σ:St) (H:Hp) (x:V) (v:Value) (Q:Bool->Hp->Prop),Inv X pins σ H s->RelV x v->r x H Q ->
  wpAny (model X.prog X.w) X.A (truthy v) (TP X pins σ Q) X.xe s
def tOp (r:R2) (ta tb:TE):TE:=fun σ H Q=>ta σ H fun x H1=>tb σ H1 fun y H2=>r x y H2 Q
def tUn (r:V->Hp->VK->Prop) (ta:TE):TE:=fun σ H Q=>ta σ H fun x H1=>r x H1 Q
def rI (C:Int->Int->Prop) (g:Int->Int->V):R2:=fun x y H Q=>∃ i j,x = .int i/\y = .int j/\C i j/\Q (g i j) H
def rI0 (g:Int->Int->V):R2:=fun x y H Q=>∃ i j,x = .int i/\y = .int j/\Q (g i j) H
def rU (g:Int->V):V->Hp->VK->Prop:=fun x H Q=>∃ i,x = .int i/\Q (g i) H
section
variable {X:Cx} {a b c:Expr} {ta tb tc:TE} {pos:Pos}
theorem binT (ha:PE X a ta) (hb:PE X b tb) {pins:List (Addr×Obj)} {s:Shared} {σ:St} {H:Hp} {R:V->V->Hp->Prop} (I:Inv X pins σ H s)
  (h:ta σ H fun x H1=>tb σ H1 fun y H2=>R x y H2) {Q:Value->Shared->Prop} {f:Value->Value->Sem Value}
  (hf:∀ v u s2 x y H2,Inv X pins σ H2 s2->RelV x v->RelV y u->R x y H2->wpAny (model X.prog X.w) X.A (f v u) Q X.xe s2) :
  wpAny (model X.prog X.w) X.A (eval a X.env) (fun v s₁=>wpAny (model X.prog X.w) X.A (eval b X.env) (fun u s₂=>wpAny (model X.prog X.w) X.A (f v u) Q X.xe s₂) X.xe s₁) X.xe s:=by
 refine thn (ha pins s σ H _ I h) fun v s1 ⟨x,H1,I1,r1,q1⟩=>?_
 refine thn (hb pins s1 σ H1 _ I1 q1) fun u s2 ⟨y,H2,I2,r2,q2⟩=>?_
 exact hf v u s2 x y H2 I2 r1 r2 q2
theorem yh3 {op:Operator} {r:R2} (ho:OpR X (binaryOp op) r) (ha:PE X a ta) (hb:PE X b tb):PE X (.BinOp a op b pos) (tOp r ta tb):=by
 intro pins s σ H Q I h
 exact wpAny_BinOp (binT ha hb I h fun v u s2 x y H2 I2 rx ry q=>ho pins s2 σ H2 x y v u Q I2 rx ry q)
theorem yh4 {op:UnaryOp} {r:V->Hp->VK->Prop} (ho:UnR X (unaryOp op) r) (ha:PE X a ta):PE X (.UnaryOp op a pos) (tUn r ta):=by
 intro pins s σ H Q I h
 exact UnaryOp_ (thn (ha pins s σ H _ I h) fun v s1 ⟨x,H1,I1,r1,q1⟩=>ho pins s1 σ H1 x v Q I1 r1 q1)
theorem opI {f:Value->Value->Sem Value} {C:Int->Int->Prop} {g:Int->Int->Int}
  (rule:∀ (i j:Int) (t u:Tok) (s:Shared) (Q:Value->Shared->Prop) (E:Value->Shared->Prop),C i j->Q (.int (g i j) s.toks) { s with toks:=s.toks+1 }->wpAny (model X.prog X.w) X.A (f (.int i t) (.int j u)) Q E s) :
  OpR X f (rI C fun i j=>.int (g i j)):=by
 intro pins s σ H x y v u Q I rx ry h
 obtain ⟨i,j,rfl,rfl,hc,q⟩:=h
 obtain ⟨t,rfl⟩:=rx
 obtain ⟨t',rfl⟩:=ry
 exact rule i j t t' s _ _ hc ⟨.int (g i j),H,I.tok _,⟨_,rfl⟩,q⟩
theorem opI0 {f:Value->Value->Sem Value} {g:Int->Int->Int}
  (rule:∀ (i j:Int) (t u:Tok) (s:Shared) (Q:Value->Shared->Prop) (E:Value->Shared->Prop),Q (.int (g i j) s.toks) { s with toks:=s.toks+1 }->wpAny (model X.prog X.w) X.A (f (.int i t) (.int j u)) Q E s) :
  OpR X f (rI0 fun i j=>.int (g i j)):=by
 intro pins s σ H x y v u Q I rx ry h
 obtain ⟨i,j,rfl,rfl,q⟩:=h
 obtain ⟨t,rfl⟩:=rx
 obtain ⟨t',rfl⟩:=ry
 exact rule i j t t' s _ _ ⟨.int (g i j),H,I.tok _,⟨_,rfl⟩,q⟩
theorem opB0 {f:Value->Value->Sem Value} {g:Int->Int->Bool}
  (rule:∀ (i j:Int) (t u:Tok) (s:Shared) (Q:Value->Shared->Prop) (E:Value->Shared->Prop),Q (.bool (g i j)) s->wpAny (model X.prog X.w) X.A (f (.int i t) (.int j u)) Q E s) :
  OpR X f (rI0 fun i j=>.bl (g i j)):=by
 intro pins s σ H x y v u Q I rx ry h
 obtain ⟨i,j,rfl,rfl,q⟩:=h
 obtain ⟨t,rfl⟩:=rx
 obtain ⟨t',rfl⟩:=ry
 exact rule i j t t' s _ _ ⟨.bl (g i j),H,I,rfl,q⟩
def CPow (i j:Int):Prop:=0<=j/\j<=1000000/\i.natAbs<2 ^ 64
def CMul (i j:Int):Prop:=(-(2 ^ 64)<i/\i<2 ^ 64)\/(-(2 ^ 64)<j/\j<2 ^ 64)
theorem CMul.ok {i j:Int} (h:CMul i j):IntMulOk i j:=by
 rcases h with ⟨h1,h2⟩ | ⟨h1,h2⟩
 ·exact .of_left (intBits_le_64 h1 h2)
 ·exact .of_right (intBits_le_64 h1 h2)
theorem op_add:OpR X (binaryOp .Add) (rI0 fun i j=>.int (i+j)):=opI0 fun _ _ _ _ _ _ _ q=>add_int q
theorem ygM:OpR X (binaryOp .Sub) (rI0 fun i j=>.int (i-j)):=opI0 fun _ _ _ _ _ _ _ q=>sub_int q
theorem ygN:OpR X (binaryOp .Mod) (rI (fun _ j=>0<j) fun i j=>.int (i % j)):=opI fun i j _ _ _ _ _ hc q=>by
 have h1:(0:Int)<j:=hc
 exact mod_int' (by omega) (by rw [Int.fmod_eq_emod_of_nonneg i (by omega)];exact q)
theorem ygO:OpR X (binaryOp .Pow) (rI CPow fun i j=>.int (i ^ j.toNat)):=opI fun _ _ _ _ _ _ _ hc q=>pow_int_small hc.1 hc.2.1 hc.2.2 q
theorem unI {f:Value->Sem Value} {g:Int->Int}
  (rule:∀ (i:Int) (t:Tok) (s:Shared) (Q:Value->Shared->Prop) (E:Value->Shared->Prop),Q (.int (g i) s.toks) { s with toks:=s.toks+1 }->wpAny (model X.prog X.w) X.A (f (.int i t)) Q E s) :
  UnR X f (rU fun i=>.int (g i)):=by
 intro pins s σ H x v Q I rx h
 obtain ⟨i,rfl,q⟩:=h
 obtain ⟨t,rfl⟩:=rx
 exact rule i t s _ _ ⟨.int (g i),H,I.tok _,⟨_,rfl⟩,q⟩
theorem ygP:UnR X (unaryOp .USub) (rU fun i=>.int (-i)):=unI fun _ _ _ _ _ q=>neg_int q
end
def scal:V->V->Bool
 | .non,.non=>true | .non,.int _=>true | .int _,.non=>true | .non,.bl _=>true | .bl _,.non=>true | .non,.str _=>true | .str _,.non=>true
 | .int _,.int _=>true | .bl _,.bl _=>true | .str _,.str _=>true | .byt _,.byt _=>true
 | .int _,.str _=>true | .str _,.int _=>true | .bl _,.str _=>true | .str _,.bl _=>true
 | _,_=>false
def rEq:R2:=fun x y H Q=>scal x y=true/\Q (.bl (decide (x=y))) H
def rNe:R2:=fun x y H Q=>scal x y=true/\Q (.bl (!decide (x=y))) H
theorem ze9 {i j:Int}:decide (V.int i=V.int j)=(i == j):=by
 rw [Bool.eq_iff_iff]
 simp
theorem yfq {i j:Bool}:decide (V.bl i=V.bl j)=(i == j):=by
 rw [Bool.eq_iff_iff]
 simp
theorem zfa {i j:Str}:decide (V.str i=V.str j)=(i == j):=by
 rw [Bool.eq_iff_iff]
 simp
theorem zfb {i j:Array UInt8}:decide (V.byt i=V.byt j)=(i.toList == j.toList):=by
 rw [Bool.eq_iff_iff]
 cases i
 cases j
 simp
section
variable {X:Cx} {a b c:Expr} {ta tb tc:TE} {pos:Pos}
theorem yaP {pins:List (Addr×Obj)} {σ:St} {H:Hp} {s:Shared} {Q:VK} {k k':Bool} (I:Inv X pins σ H s) (q:Q (.bl k) H) (e:k=k'):EP X pins σ Q (.bool k') s:=by
 subst e
 exact ⟨.bl k,H,I,rfl,q⟩
theorem op_eq:OpR X (compareOp .Eq) rEq:=by
 intro pins s σ H x y v u Q I rx ry h
 obtain ⟨hs,q⟩:=h
 cases x with
 | non =>
  cases rx
  cases y with
  | non=>cases ry;exact PySem.EqNone.eq_none_none (yaP I q (by simp))
  | bl j=>cases ry;exact PySem.EqNone.eq_none_bool (yaP I q (by simp))
  | int j=>obtain ⟨t',rfl⟩:=ry;exact PySem.EqNone.eq_none_int (yaP I q (by simp))
  | str j=>obtain ⟨t',rfl⟩:=ry;exact PySem.EqNone.eq_none_str (yaP I q (by simp))
  | _=>exact absurd (show false=true from hs) Bool.false_ne_true
 | bl i =>
  cases rx
  cases y with
  | non=>cases ry;exact PySem.EqNone.eq_bool_none (yaP I q (by simp))
  | bl j=>cases ry;exact eq_bool (yaP I q yfq)
  | str j=>obtain ⟨t',rfl⟩:=ry;exact PySem.EqMixed.eq_bool_str (yaP I q (by simp))
  | _=>exact absurd (show false=true from hs) Bool.false_ne_true
 | int i =>
  obtain ⟨t,rfl⟩:=rx
  cases y with
  | non=>cases ry;exact PySem.EqNone.eq_int_none (yaP I q (by simp))
  | int j=>obtain ⟨t',rfl⟩:=ry;exact eq_int (yaP I q ze9)
  | str j=>obtain ⟨t',rfl⟩:=ry;exact PySem.EqMixed.eq_int_str (yaP I q (by simp))
  | _=>exact absurd (show false=true from hs) Bool.false_ne_true
 | str i =>
  obtain ⟨t,rfl⟩:=rx
  cases y with
  | non=>cases ry;exact PySem.EqNone.eq_str_none (yaP I q (by simp))
  | bl j=>cases ry;exact PySem.EqMixed.eq_str_bool (yaP I q (by simp))
  | int j=>obtain ⟨t',rfl⟩:=ry;exact PySem.EqMixed.eq_str_int (yaP I q (by simp))
  | str j=>obtain ⟨t',rfl⟩:=ry;exact eq_str (yaP I q zfa)
  | _=>exact absurd (show false=true from hs) Bool.false_ne_true
 | byt i =>
  obtain ⟨t,rfl⟩:=rx
  cases y with
  | byt j=>obtain ⟨t',rfl⟩:=ry;exact PySem.W.eq_bytes (yaP I q zfb)
  | _=>exact absurd (show false=true from hs) Bool.false_ne_true
 | _=>cases y<;>exact absurd (show false=true from hs) Bool.false_ne_true
theorem op_ne:OpR X (compareOp .NotEq) rNe:=by
 intro pins s σ H x y v u Q I rx ry h
 obtain ⟨hs,q⟩:=h
 cases x with
 | non =>
  cases rx
  cases y with
  | non=>cases ry;exact PySem.EqNone.ne_none_none (yaP I q (by simp))
  | bl j=>cases ry;exact PySem.EqNone.ne_none_bool (yaP I q (by simp))
  | int j=>obtain ⟨t',rfl⟩:=ry;exact PySem.EqNone.ne_none_int (yaP I q (by simp))
  | str j=>obtain ⟨t',rfl⟩:=ry;exact PySem.EqNone.ne_none_str (yaP I q (by simp))
  | _=>exact absurd (show false=true from hs) Bool.false_ne_true
 | bl i =>
  cases rx
  cases y with
  | non=>cases ry;exact PySem.EqNone.ne_bool_none (yaP I q (by simp))
  | bl j=>cases ry;exact ne_bool (yaP I q (congrArg not yfq))
  | str j=>obtain ⟨t',rfl⟩:=ry;exact PySem.EqMixed.ne_bool_str (yaP I q (by simp))
  | _=>exact absurd (show false=true from hs) Bool.false_ne_true
 | int i =>
  obtain ⟨t,rfl⟩:=rx
  cases y with
  | non=>cases ry;exact PySem.EqNone.ne_int_none (yaP I q (by simp))
  | int j=>obtain ⟨t',rfl⟩:=ry;exact ne_int (yaP I q (congrArg not ze9))
  | str j=>obtain ⟨t',rfl⟩:=ry;exact PySem.EqMixed.ne_int_str (yaP I q (by simp))
  | _=>exact absurd (show false=true from hs) Bool.false_ne_true
 | str i =>
  obtain ⟨t,rfl⟩:=rx
  cases y with
  | non=>cases ry;exact PySem.EqNone.ne_str_none (yaP I q (by simp))
  | bl j=>cases ry;exact PySem.EqMixed.ne_str_bool (yaP I q (by simp))
  | int j=>obtain ⟨t',rfl⟩:=ry;exact PySem.EqMixed.ne_str_int (yaP I q (by simp))
  | str j=>obtain ⟨t',rfl⟩:=ry;exact ne_str (yaP I q (congrArg not zfa))
  | _=>exact absurd (show false=true from hs) Bool.false_ne_true
 | byt i =>
  obtain ⟨t,rfl⟩:=rx
  cases y with
  | byt j=>obtain ⟨t',rfl⟩:=ry;exact PySem.W.ne_bytes (yaP I q (congrArg not zfb))
  | _=>exact absurd (show false=true from hs) Bool.false_ne_true
 | _=>cases y<;>exact absurd (show false=true from hs) Bool.false_ne_true
theorem op_lt:OpR X (compareOp .Lt) (rI0 fun i j=>.bl (decide (i<j))):=opB0 fun _ _ _ _ _ _ _ q=>lt_int q
theorem op_le:OpR X (compareOp .LtE) (rI0 fun i j=>.bl (decide (i<=j))):=opB0 fun _ _ _ _ _ _ _ q=>le_int q
theorem yh5:OpR X (compareOp .Gt) (rI0 fun i j=>.bl (decide (j<i))):=opB0 fun _ _ _ _ _ _ _ q=>gt_int q
theorem yh6:OpR X (compareOp .GtE) (rI0 fun i j=>.bl (decide (j<=i))):=opB0 fun _ _ _ _ _ _ _ q=>ge_int q
theorem zgE:OpR X (compareOp .Lt) (fun x y H Q=>∃ i j,x = .str i/\y = .str j/\Q (.bl (decide (i.cps.toList<j.cps.toList))) H):=by
 intro pins s σ H x y v u Q I rx ry h
 obtain ⟨i,j,rfl,rfl,q⟩:=h
 obtain ⟨t,rfl⟩:=rx
 obtain ⟨t',rfl⟩:=ry
 exact lt_str (yaP I q rfl)
theorem ygQ:OpR X (compareOp .Is) (fun x y H Q=>y = .non/\Q (.bl (decide (x = .non))) H):=by
 intro pins s σ H x y v u Q I rx ry h
 obtain ⟨rfl,q⟩:=h
 cases ry
 refine is_none_gen (yaP I q ?_)
 cases x<;>first
  | (cases rx;rfl)
  | (obtain ⟨t,rfl⟩:=rx;rfl)
theorem zis:OpR X (compareOp .IsNot) (fun x y H Q=>y = .non/\Q (.bl (!decide (x = .non))) H):=by
 intro pins s σ H x y v u Q I rx ry h
 obtain ⟨rfl,q⟩:=h
 cases ry
 refine isnot_none_gen (yaP I q ?_)
 cases x<;>first
  | (cases rx;rfl)
  | (obtain ⟨t,rfl⟩:=rx;rfl)
theorem OpR.or {f:Value->Value->Sem Value} {r r':R2} (h:OpR X f r) (h':OpR X f r'):OpR X f (fun x y H Q=>r x y H Q\/r' x y H Q):=by
 intro pins s σ H x y v u Q I rx ry q
 rcases q with q | q
 ·exact h pins s σ H x y v u Q I rx ry q
 ·exact h' pins s σ H x y v u Q I rx ry q
theorem yai (b:Expr) {op:CmpOp} (h:op ≠ .In:=by decide) (h2:op ≠ .NotIn:=by decide):behindInMarks op b=false:=by
 have e1:(op == CmpOp.In)=false:=by cases op<;>first | rfl | exact absurd rfl h
 have e2:(op == CmpOp.NotIn)=false:=by cases op<;>first | rfl | exact absurd rfl h2
 cases b<;>simp [behindInMarks,e1,e2]
theorem zit {op:CmpOp} {r:R2} (ho:OpR X (compareOp op) r) (ha:PE X a ta) (hb:PE X b tb) (hm:behindInMarks op b=false):PE X (.Compare a [op] [b] pos) (tOp r ta tb):=by
 intro pins s σ H Q I h
 exact wpAny_Compare1 (binT ha hb I h fun v u s2 x y H2 I2 rx ry q=>ho pins s2 σ H2 x y v u Q I2 rx ry q) hm
def yf4 (t:TE):TT:=fun σ H Q=>t σ H fun x H' => ∃ k,x = .bl k/\Q k H'
theorem ziu {op:CmpOp} {r:R2} (ho:OpR X (compareOp op) r) (ha:PE X a ta) (hb:PE X b tb) (hm:behindInMarks op b=false):PT X (.Compare a [op] [b] pos) (yf4 (tOp r ta tb)):=by
 intro pins s σ H Q I h
 refine wpAny_isTrue_Compare1 (thn (ha pins s σ H _ I h) fun v s1 ⟨x,H1,I1,r1,q1⟩=>thn (hb pins s1 σ H1 _ I1 q1) fun u s2 ⟨y,H2,I2,r2,q2⟩ =>
  thn (ho pins s2 σ H2 x y v u _ I2 r1 r2 q2) fun c s3 ⟨z,H3,I3,r3,k,e,q3⟩=>?_) hm
 subst e
 cases r3
 exact wpAny_truthy_bool ⟨H3,I3,q3⟩
def yeU (r r':R2) (ta tb tc:TE):TE:=fun σ H Q=>ta σ H fun x H1=>tb σ H1 fun y H2=>r x y H2 fun z H3=>∃ k,z = .bl k /\
 (if k=true then tc σ H3 fun w' H4=>r' y w' H4 Q else Q (.bl false) H3)
theorem zho {op op':CmpOp} {r r':R2} (ho:OpR X (compareOp op) r) (ho':OpR X (compareOp op') r') (ha:PE X a ta) (hb:PE X b tb) (hc:PE X c tc)
  (hm:lastMarks [op,op'] [b,c]=false:=by with_unfolding_all rfl):PE X (.Compare a [op,op'] [b,c] pos) (yeU r r' ta tb tc):=by
 intro pins s σ H Q I h
 refine Compare_chain (thn (ha pins s σ H _ I h) fun v s1 ⟨x,H1,I1,r1,q1⟩=>chain_link (thn (hb pins s1 σ H1 _ I1 q1) fun u s2 ⟨y,H2,I2,r2,q2⟩ =>
  thn (ho pins s2 σ H2 x y v u _ I2 r1 r2 q2) fun d s3 ⟨z,H3,I3,r3,k,e,q3⟩=>?_)) hm
 subst e
 cases r3
 refine wpAny_truthy_bool ?_
 cases k with
 | false=>exact ite_ff ⟨.bl false,H3,I3,rfl,q3⟩
 | true=>exact ite_tt (chain_last (thn (hc pins s3 σ H3 _ I3 q3) fun w' s4 ⟨z',H4,I4,r4,q4⟩=>ho' pins s4 σ H4 y z' u w' Q I4 r2 r4 q4))
theorem zhp {op op':CmpOp} {r r':R2} (ho:OpR X (compareOp op) r) (ho':OpR X (compareOp op') r') (ha:PE X a ta) (hb:PE X b tb) (hc:PE X c tc)
  (hm:lastMarks [op,op'] [b,c]=false:=by with_unfolding_all rfl):PT X (.Compare a [op,op'] [b,c] pos) (yf4 (yeU r r' ta tb tc)):=by
 intro pins s σ H Q I h
 refine isTrue_chain (thn (ha pins s σ H _ I h) fun v s1 ⟨x,H1,I1,r1,q1⟩=>test_link (thn (hb pins s1 σ H1 _ I1 q1) fun u s2 ⟨y,H2,I2,r2,q2⟩ =>
  thn (ho pins s2 σ H2 x y v u _ I2 r1 r2 q2) fun d s3 ⟨z,H3,I3,r3,k,e,q3⟩=>?_)) hm
 subst e
 cases r3
 refine wpAny_truthy_bool ?_
 cases k with
 | false =>
  obtain ⟨k',e',q'⟩:=q3
  cases e'
  exact ite_ff ⟨H3,I3,q'⟩
 | true =>
  refine ite_tt (test_last (thn (hc pins s3 σ H3 _ I3 q3) fun w' s4 ⟨z',H4,I4,r4,q4⟩=>thn (ho' pins s4 σ H4 y z' u w' _ I4 r2 r4 q4) fun d' s5 ⟨z2,H5,I5,r5,k2,e2,q5⟩=>?_))
  subst e2
  cases r5
  exact wpAny_truthy_bool ⟨H5,I5,q5⟩
def TruV (K:PySem.W.Frag) (x:V) (H:Hp) (k:Bool):Prop :=
 match x with
 | .non=>k=false
 | .bl b=>k=b
 | .int i=>k=(i != 0)
 | .str y=>y.length<=sizeLine/\k=((y.length:Int) != 0)
 | .byt y=>y.size<=sizeLine/\k=((y.size:Int) != 0)
 | .ref p=>(∃ xs,SqL K H p xs/\k = !xs.isEmpty)\/(∃ xs,SqT K H p xs/\k = !xs.isEmpty)\/∃ kvs,H p=some (.dK kvs)/\k = !kvs.isEmpty
 | _=>False
theorem zf9 {κ:Type} {kvs:List (κ×V)} {vs:List (κ×Value)} (r:KV kvs vs):(!vs.isEmpty) = !kvs.isEmpty:=by
 cases r<;>rfl
theorem zdc {xs:List V} {its:List Value} (r:Vals xs its):(!its.toArray.isEmpty) = !xs.isEmpty:=by
 cases r<;>simp
theorem ydX:(sizeLine:Nat)<2 ^ 63:=by rw [sizeLine_eq];decide
theorem ygR:TruR X (fun x H Q=>∃ k,TruV X.K x H k/\Q k H):=by
 intro pins s σ H x v Q I rx h
 obtain ⟨k,e,q⟩:=h
 have hl:=ydX
 have hs:sizeLine=16777216:=sizeLine_eq
 cases x with
 | non =>
  cases rx
  have e':k=false:=e
  subst e'
  exact truthy_none ⟨H,I,q⟩
 | bl b =>
  cases rx
  have e':k=b:=e
  subst e'
  exact wpAny_truthy_bool ⟨H,I,q⟩
 | int i =>
  obtain ⟨t,rfl⟩:=rx
  have e':k=(i != 0):=e
  subst e'
  exact PySem.P.truthy_int ⟨H,I,q⟩
 | str y =>
  obtain ⟨t,rfl⟩:=rx
  obtain ⟨hy,e'⟩:y.length<=sizeLine/\k=((y.length:Int) != 0):=e
  subst e'
  exact PySem.P.truthy_str (by omega) ⟨H,I.tok _,q⟩
 | byt y =>
  obtain ⟨t,rfl⟩:=rx
  obtain ⟨hy,e'⟩:y.size<=sizeLine/\k=((y.size:Int) != 0):=e
  subst e'
  exact PySem.W.truthy_bytes (by omega) ⟨H,I.tok _,q⟩
 | ref p =>
  cases rx
  have e':(∃ xs,SqL X.K H p xs/\k = !xs.isEmpty)\/(∃ xs,SqT X.K H p xs/\k = !xs.isEmpty)\/∃ kvs,H p=some (.dK kvs)/\k = !kvs.isEmpty:=e
  rcases e' with ⟨xs,hx,e'⟩ | ⟨xs,hx,e'⟩ | ⟨kvs,hx,e'⟩
  ·subst e'
   obtain ⟨its,r,pl,hz⟩:=I.list hx
   have hlen:=r.length
   exact wpAny_truthy_list pl.isList (by simp only [List.size_toArray];omega) ⟨H,I.tok _,by rw [zdc r];exact q⟩
  ·subst e'
   obtain ⟨its,r,pl,hz⟩:=I.tuple hx
   have hlen:=r.length
   exact truthy_tuple pl (by simp only [List.size_toArray];omega) ⟨H,I.tok _,by rw [zdc r];exact q⟩
  ·subst e'
   obtain ⟨hz,hS,vs,r,m⟩:kvs.length<=sizeLine/\(p == sysModules)=false/\∃ vs,KV kvs vs/\s.heap.DictOf (ybF X.prog X.w) p vs:=I.hok p _ hx
   have hlen:kvs.length=vs.length:=Paired.length r
   exact wpAny_truthy_dict hS m (by omega) ⟨H,I.tok _,by rw [zf9 r];exact q⟩
 | _=>exact (show False from e).elim
theorem zhq (ha:PE X a ta) (he:∀ whole,isTrue a X.env whole=(do let v <- whole;standAt a.pos;holding [v] (truthy v))) :
  PT X a (fun σ H Q=>ta σ H fun x H' => ∃ k,TruV X.K x H' k/\Q k H'):=by
 intro pins s σ H Q I h
 exact isTrue_plain (thn (ha pins s σ H _ I h) fun v s1 ⟨x,H1,I1,r1,q1⟩=>ygR pins s1 σ H1 x v Q I1 r1 q1) (he _)
theorem zga:OpR X (binaryOp .Add) (fun x y H Q=>∃ i j,x = .str i/\y = .str j/\i.length+j.length<=sizeLine/\Q (.str (i++j)) H):=by
 intro pins s σ H x y v u Q I rx ry h
 obtain ⟨i,j,rfl,rfl,hz,q⟩:=h
 obtain ⟨t,rfl⟩:=rx
 obtain ⟨t',rfl⟩:=ry
 exact add_str (fun t' tk=>⟨.str (i++j),H,I.tok _,⟨_,rfl⟩,q⟩) hz
theorem ydq {x:V} {us:List Value} (r:Vals [x] us):∃ u,us=[u]/\RelV x u:=by
 cases r with
 | cons r1 r2=>cases r2;exact ⟨_,rfl,r1⟩
theorem yeK {x y:V} {us:List Value} (r:Vals [x,y] us):∃ u w',us=[u,w']/\RelV x u/\RelV y w' := by
 cases r with
 | cons r1 r2 =>
  cases r2 with
  | cons r3 r4=>cases r4;exact ⟨_,_,rfl,r1,r3⟩
theorem zhr:CallR X (.builtin "abs") (fun xs H Q=>∃ i,xs=[.int i]/\Q (.int (if i<0 then -i else i)) H):=by
 intro pins s σ H xs us Q I r h
 obtain ⟨i,rfl,q⟩:=h
 obtain ⟨u,rfl,t,rfl⟩:=ydq r
 exact call_abs_int fun u tk=>⟨.int (if i<0 then -i else i),H,I.tok _,⟨_,rfl⟩,q⟩
theorem zgF (hc:X.calm=true):CallR X (.builtin "max") (fun xs H Q=>∃ i j,xs=[.int i,.int j]/\Q (.int (if j > i then j else i)) H):=by
 intro pins s σ H xs us Q I r h
 obtain ⟨i,j,rfl,q⟩:=h
 obtain ⟨u,w',rfl,⟨t,rfl⟩,⟨t',rfl⟩⟩:=yeK r
 refine max_two_ints (I.ok.hd hc) fun h' tk k=>⟨_,H,I.kept k,?_,q⟩
 by_cases hj:j > i
 ·rw [if_pos hj,if_pos hj];exact ⟨_,rfl⟩
 ·rw [if_neg hj,if_neg hj];exact ⟨_,rfl⟩
theorem zgG (hc:X.calm=true):CallR X (.builtin "min") (fun xs H Q=>∃ i j,xs=[.int i,.int j]/\Q (.int (if j<i then j else i)) H):=by
 intro pins s σ H xs us Q I r h
 obtain ⟨i,j,rfl,q⟩:=h
 obtain ⟨u,w',rfl,⟨t,rfl⟩,⟨t',rfl⟩⟩:=yeK r
 refine min_two_ints (I.ok.hd hc) fun h' tk k=>⟨_,H,I.kept k,?_,q⟩
 by_cases hj:j<i
 ·rw [if_pos hj,if_pos hj];exact ⟨_,rfl⟩
 ·rw [if_neg hj,if_neg hj];exact ⟨_,rfl⟩
theorem zgH:CallR X (.type "int") (fun xs H Q=>(∃ i,xs=[.int i]/\Q (.int i) H)\/∃ k,xs=[.bl k]/\Q (.int (if k then 1 else 0)) H):=by
 intro pins s σ H xs us Q I r h
 rcases h with ⟨i,rfl,q⟩ | ⟨k,rfl,q⟩
 ·obtain ⟨u,rfl,t,rfl⟩:=ydq r
  exact call_int_int ⟨.int i,H,I,⟨_,rfl⟩,q⟩
 ·obtain ⟨u,rfl,r1⟩:=ydq r
  cases r1
  exact call_int_bool ⟨.int (if k then 1 else 0),H,I.tok _,⟨_,rfl⟩,q⟩
end
end L2
namespace L2
open PySem PySem.Spec PyProof.Rows
structure ObjM (h:Heap) (x dx C:Addr) (mA:Str->Option Value):Prop where
 obj:h.get? x=some (PySem.W.instObj C dx)
 ns:h.Ns1 dx mA
 ne:dx≠x
theorem zgI {h:Heap} {dx:Addr} {mA:Str->Option Value} (n:h.Ns1 dx mA):∃ od,h.get? dx=some od/\∀ name,PySem.W.lookIn name od=some (mA name):=by
 obtain ⟨o,es,ep,ho,hd,hk,_,hm⟩:=n
 refine ⟨o,ho,fun name=>?_⟩
 have e:=hm name
 unfold nsFind findBy at e
 rw [<- Array.find?_toList] at e
 unfold PySem.W.lookIn
 rw [hd]
 dsimp only
 split
 ·rename_i y q
  rw [q] at e
  exact congrArg some e
 ·rename_i q
  rw [q] at e
  have a:es.toList.any (·.refKey)=false:=by
   rw [List.any_eq_false]
   intro y hy
   obtain ⟨z,t,hkey⟩:=hk y (Array.mem_toList_iff.mp hy)
   simp [DictEntry.refKey,hkey]
  have a' : ¬ es.toList.any (·.refKey)=true:=by rw [a];exact Bool.false_ne_true
  rw [if_neg a']
  exact congrArg some e
theorem ObjM.look {h:Heap} {x dx C:Addr} {mA:Str->Option Value} (I:ObjM h x dx C mA):∃ od,PySem.W.InstAt h x (PySem.W.instObj C dx) C (some od)/\∀ name,PySem.W.lookIn name od=some (mA name) :=
 let ⟨od,ho,hl⟩:=zgI I.ns
 ⟨od,⟨I.obj,rfl,rfl,ho⟩,hl⟩
section
variable {prog:Program} {w:World} {A:Around} {E:Value->Shared->Prop} {s:Shared} {K:PySem.W.Frag} {x dx C f:Addr} {mA:Str->Option Value} {name:Str} {v:Value}
theorem ziv {expr:Bool} {Q:Value->Shared->Prop} (X:K.In s.heap) (I:ObjM s.heap x dx C mA) (hg:PySem.W.plainGet K C name=true) (hh:PySem.W.hasDictIn K C=true)
  (ha:PySem.W.findIn K (.ref C) name=some none) (hv:mA name=some v) (hv':PySem.W.handedIn v=true) (h:Q v { s with toks:=s.toks+1 }) :
  wpAny (model prog w) A (getAttr (.ref x) name expr) Q E s:=by
 obtain ⟨od,J,hl⟩:=I.look
 exact PySem.W.get_value X J (PySem.W.plainGet_of hg).1 (PySem.W.findObj_own hh ha rfl (by rw [hl,hv])) hv' h
theorem zhs {pl:Sem Bool} {Q:Value×List Value->Shared->Prop} (X:K.In s.heap) (I:ObjM s.heap x dx C mA) (hg:PySem.W.plainGet K C name=true)
  (hf:PySem.W.findIn K (.ref C) name=some (some (.ref f))) (ht:PySem.W.isFn K (.ref f)=true) (hv:mA name=none) (h:Q (.ref f,[.ref x]) s) :
  wpAny (model prog w) A (getMethod (.ref x) name pl) Q E s:=by
 obtain ⟨od,J,hl⟩:=I.look
 exact PySem.W.method_fn X J (PySem.W.plainGet_of hg).1 (PySem.W.plainGet_of hg).2 hf (beq_iff_eq.mp ht) (by show (PySem.W.lookIn name od).map (·.isSome)=some false;rw [hl,hv];rfl) h
theorem ziw {ns:List Str} {Q:Unit->Shared->Prop} (X:K.In s.heap) (I:ObjM s.heap x dx C mA)
  (hs:PySem.W.findIn K (.ref C) "__setattr__" = some (some (.builtin "object.__setattr__"))) (hp:PySem.W.plainOver K C=true) (ht:PySem.W.takerIn K C name=some none) (hh:PySem.W.hasDictIn K C=true)
  (hw:PySem.Within mA ns) (hsz:ns.length<=sizeLine)
  (h:∀ h',ObjM h' x dx C (fun y=>if y=name then some v else mA y)->Heap.SameBut dx s.heap h'->Q () { s with heap:=h',toks:=s.toks+2 }) :
  wpAny (model prog w) A (setAttr (.ref x) name v) Q E s:=by
 obtain ⟨od,J,hl⟩:=I.look
 refine PySem.W.set_plain X J hs (PySem.W.osa_open (s:={ s with toks:=s.toks+1 }) (r:=none) X J hp ht fun b=>?_)
 obtain ⟨cd,hc,hd'⟩:=PySem.W.any_some hh
 have hx:s.heap.get? x=some ⟨.ref C,some dx,.plain,#[]⟩:=I.obj
 refine wpAny_bind (wpAny_pure (wpAny_bind (wpAny_bind (wpAny_loadPart hx (wpAny_bind (PySem.W.Looks.here (s:={ s with toks:=s.toks+1 }) (PySem.W.looks_clsIn X hc) ?_))))))
 rw [hd']
 refine wpAny_pure (a:=some dx) (wpAny_bind (wpAny_pure (wpAny_bind ?_)))
 refine wpAny_nsSet1 (s:={ s with toks:=s.toks+1 }) I.ns fun h' hn2 hs2=>?_
 obtain ⟨oD,esD,epD,hoD,hdD,hcD⟩:=hn2.count (PySem.Within.cons name v hw)
 refine wpAny_bind (wpAny_lookBehind hoD (by rw [hdD];exact pastItsLine_dict (Nat.le_trans hcD (by rw [List.length_cons];omega))) ?_)
 exact wpAny_pure (h _ ⟨(hs2.2 _ (Ne.symm I.ne)).trans I.obj,hn2,I.ne⟩ hs2)
theorem zht {R:Result->Shared->Prop} {vs:List Value} {kw:List (Str×Value)} (X:K.In s.heap) (hm:PySem.W.makesIn K C=true)
  (hi:PySem.W.findIn K (.ref C) "__init__" = some (some (.ref f))) (hf:PySem.W.typeIn K (.ref f)=some (.type "function"))
  (h:codeAny (model prog w) (A.under (.builtin "type.__call__" ⟨.ref C::vs,kw⟩)) (.call (.ref f) ⟨.ref (s.heap.objs.size+1)::vs,kw⟩) (PySem.W.InitBack (s.heap.objs.size+1) R)
   { s with heap:=(s.heap.push PySem.W.emptyDict).push (PySem.W.instObj C s.heap.objs.size) }) :
  codeAny (model prog w) A (.call (.ref C) ⟨vs,kw⟩) R s:=by
 obtain ⟨hh,g,d,t,os⟩:=s
 exact PySem.W.make_core (PySem.W.makes_of X hm) (PySem.W.looks_findIn X hi) (fun self=>PySem.W.bind_fn X self hf) (.inl rfl) h
end
def putF (f:Str) (v:V):List (Str×V)->List (Str×V)
 | []=>[(f,v)]
 | (g,x)::r=>if g=f then (g,v)::r else (g,x)::putF f v r
theorem zbg (f g:Str) (v:V):∀ fs:List (Str×V),(putF f v fs).lookup g=if g=f then some v else fs.lookup g
 | []=>by
  show List.lookup g [(f,v)]=_
  by_cases h:g=f
  ·have hb:(g == f)=true:=beq_iff_eq.mpr h
   simp only [List.lookup,hb,if_pos h]
  ·have hb:(g == f)=false:=beq_eq_false_iff_ne.mpr h
   simp only [List.lookup,hb,if_neg h]
 | (k,x)::r=>by
  have ih:=zbg f g v r
  rw [show putF f v ((k,x)::r)=(if k=f then (k,v)::r else (k,x)::putF f v r) from rfl]
  by_cases hk:k=f
  ·rw [if_pos hk]
   by_cases h:g=k
   ·have hb:(g == k)=true:=beq_iff_eq.mpr h
    simp only [List.lookup,hb,if_pos (h.trans hk)]
   ·have hb:(g == k)=false:=beq_eq_false_iff_ne.mpr h
    simp only [List.lookup,hb,if_neg (fun e:g=f=>h (e.trans hk.symm))]
  ·rw [if_neg hk]
   by_cases h:g=k
   ·have hb:(g == k)=true:=beq_iff_eq.mpr h
    simp only [List.lookup,hb,if_neg (fun e:g=f=>hk (h.symm.trans e))]
   ·have hb:(g == k)=false:=beq_eq_false_iff_ne.mpr h
    simp only [List.lookup,hb]
    exact ih
theorem zcg (f:Str) (v:V):∀ fs:List (Str×V),f∈(putF f v fs).map (·.1)/\∀ g,g∈fs.map (·.1)->g∈(putF f v fs).map (·.1)
 | []=>⟨by simp [putF],fun g h=>by simp at h⟩
 | (k,x)::r=>by
  obtain ⟨i1,i2⟩:=zcg f v r
  rw [show putF f v ((k,x)::r)=(if k=f then (k,v)::r else (k,x)::putF f v r) from rfl]
  by_cases hk:k=f
  ·rw [if_pos hk]
   subst hk
   exact ⟨by simp,fun g h=>by simpa using h⟩
  ·rw [if_neg hk]
   refine ⟨?_,fun g h=>?_⟩
   ·rw [List.map_cons]
    exact List.mem_cons_of_mem _ i1
   ·rw [List.map_cons] at h ⊢
    rcases List.mem_cons.mp h with e | e
    ·exact List.mem_cons.mpr (.inl e)
    ·exact List.mem_cons_of_mem _ (i2 g e)
theorem zcN (f:Str) (v:V):∀ fs:List (Str×V),(putF f v fs).length<=fs.length+1
 | []=>by simp [putF]
 | (k,x)::r=>by
  have ih:=zcN f v r
  rw [show putF f v ((k,x)::r)=(if k=f then (k,v)::r else (k,x)::putF f v r) from rfl]
  by_cases hk:k=f
  ·rw [if_pos hk,List.length_cons,List.length_cons];omega
  ·rw [if_neg hk,List.length_cons,List.length_cons];omega
theorem RelO.some_of {v:V} {o:Option Value} (r:RelO (some v) o):∃ u,o=some u/\RelV v u:=by
 cases o with
 | none=>exact (show False from r).elim
 | some u=>exact ⟨u,rfl,r⟩
theorem RelO.none_of {o:Option Value} (r:RelO none o):o=none:=by
 cases o with
 | none=>rfl
 | some u=>exact (show False from r).elim
theorem zgJ {v:V} {u:Value} (r:RelV v u):PySem.W.handedIn u=true:=by
 cases v with
 | non=>cases (show u=Value.none from r);rfl
 | bl b=>cases (show u=Value.bool b from r);rfl
 | int i=>obtain ⟨t,e⟩:=(show ∃ t,u=Value.int i t from r);cases e;rfl
 | str x=>obtain ⟨t,e⟩:=(show ∃ t,u=Value.str x t from r);cases e;rfl
 | byt b=>obtain ⟨t,e⟩:=(show ∃ t,u=Value.bytes b t from r);cases e;rfl
 | flt b=>obtain ⟨t,e⟩:=(show ∃ t,u=Value.float b t from r);cases e;rfl
 | ref a=>cases (show u=Value.ref a from r);rfl
 | ty n=>cases (show u=Value.type n from r);rfl
section
variable {P:Program} {w:World} {H H':Hp} {h h':Heap} {a C dx:Addr} {fs fs':List (Str×V)}
theorem zcz (hok:HOk P w H h) (e:H a=some (.ins C dx fs)):∃ mA,ObjM h a dx C mA/\(∀ f,RelO (fs.lookup f) (mA f))/\PySem.Within mA (fs.map (·.1))/\fs.length<=1000/\H dx=some (.own a):=by
 obtain ⟨d,z,ne,ob,mA,n,r,q⟩:=(show ObjOk P w H h a (.ins C dx fs) from hok a _ e)
 exact ⟨mA,⟨ob,n,ne⟩,r,q,z,d⟩
end
structure Cls (K:PySem.W.Frag) (C:Addr):Prop where
 pg:PySem.W.plainGet K C Str.empty=true
 hd:PySem.W.hasDictIn K C=true
 po:PySem.W.plainOver K C=true
 sa:PySem.W.findIn K (.ref C) "__setattr__" = some (some (.builtin "object.__setattr__"))
theorem Cls.get {K:PySem.W.Frag} {C:Addr} (c:Cls K C) (f:Str):PySem.W.plainGet K C f=true:=c.pg
def NoAttr (K:PySem.W.Frag) (C:Addr) (f:Str):Prop:=PySem.W.findIn K (.ref C) f=some none
theorem NoAttr.taker {K:PySem.W.Frag} {C:Addr} {f:Str} (n:NoAttr K C f):PySem.W.takerIn K C f=some none:=by
 unfold PySem.W.takerIn
 rw [show PySem.W.findIn K (.ref C) f=some none from n]
 rfl
structure Meth (K:PySem.W.Frag) (C:Addr) (m:Str) (f:Addr):Prop where
 at_:PySem.W.findIn K (.ref C) m=some (some (.ref f))
 fn:PySem.W.isFn K (.ref f)=true
 kp:PySem.W.keepIn K (.ref f)=true
section
variable {X:Cx} {pins:List (Addr×Obj)} {σ:St} {H:Hp} {s:Shared} {a C dx:Addr} {fs:List (Str×V)} {f:Str} {v:V} {A:Around} {E:Value->Shared->Prop}
theorem zgb {b:Bool} {Q:Value->Shared->Prop} (I:Inv X pins σ H s) (e:H a=some (.ins C dx fs)) (c:Cls X.K C) (n:NoAttr X.K C f) (l:fs.lookup f=some v)
  (h:∀ u s',Inv X pins σ H s'->RelV v u->Q u s'):wpAny (model X.prog X.w) A (getAttr (.ref a) f b) Q E s:=by
 obtain ⟨mA,O,r,_,_,_⟩:=zcz I.hok e
 obtain ⟨u,hu,ru⟩:=RelO.some_of (v:=v) (o:=mA f) (by rw [<- l];exact r f)
 exact ziv I.kIn O (c.get f) c.hd n hu (zgJ ru) (h u _ (I.tok _) ru)
theorem zdd {m:Str} {g:Addr} {pl:Sem Bool} {Q:Value×List Value->Shared->Prop} (I:Inv X pins σ H s) (e:H a=some (.ins C dx fs)) (c:Cls X.K C) (k:Meth X.K C m g) (l:fs.lookup m=none)
  (h:Q (.ref g,[.ref a]) s):wpAny (model X.prog X.w) A (getMethod (.ref a) m pl) Q E s:=by
 obtain ⟨mA,O,r,_,_,_⟩:=zcz I.hok e
 have hn:mA m=none:=RelO.none_of (by rw [<- l];exact r m)
 exact zhs I.kIn O (c.get m) k.at_ k.fn hn h
theorem zgc {y:V} {u:Value} {Q:Unit->Shared->Prop} (I:Inv X pins σ H s) (e:H a=some (.ins C dx fs)) (c:Cls X.K C) (n:NoAttr X.K C f) (hl:fs.length<1000) (ry:RelV y u)
  (h:∀ s',Inv X pins σ (upd H a (.ins C dx (putF f y fs))) s'->Q () s'):wpAny (model X.prog X.w) A (setAttr (.ref a) f u) Q E s:=by
 obtain ⟨mA,O,r,wi,_,ho⟩:=zcz I.hok e
 have hz:(fs.map (·.1)).length<=sizeLine:=by rw [List.length_map,sizeLine_eq];omega
 refine ziw I.kIn O c.sa c.po n.taker c.hd wi hz fun h' O' sb=>h _ ?_
 have hd:∃ o,h'.get? dx=some o:=let ⟨o,_,_,e',_⟩:=O'.ns;⟨o,e'⟩
 refine I.write (x:=a) (e:=dx) (by rw [e];exact True.intro) (.inr ho) (fun b q hb z=>(sb.2 b hb).trans z) hd ?_
 refine ⟨by rw [yaT O.ne];exact ho,?_,O.ne,O'.obj,_,O'.ns,fun g=>?_,fun g hg=>?_⟩
 ·have:=zcN f y fs;omega
 ·show RelO ((putF f y fs).lookup g) (if g=f then some u else mA g)
  rw [zbg]
  by_cases q:g=f
  ·rw [if_pos q,if_pos q];exact ry
  ·rw [if_neg q,if_neg q];exact r g
 ·by_cases q:g=f
  ·rw [q];exact (zcg f y fs).1
  ·refine (zcg f y fs).2 g (wi g fun z=>hg ?_)
   show (if g=f then some u else mA g)=none
   rw [if_neg q];exact z
theorem Inv.made (I:Inv X pins σ H s):Inv X pins σ (upd (upd H s.heap.objs.size (.own (s.heap.objs.size+1))) (s.heap.objs.size+1) (.ins C s.heap.objs.size []))
  { s with heap:=(s.heap.push PySem.W.emptyDict).push (PySem.W.instObj C s.heap.objs.size) }:=by
 have e1:(s.heap.push PySem.W.emptyDict).get? s.heap.objs.size=some PySem.W.emptyDict:=Heap.get?_push_size s.heap rfl
 have e2:((s.heap.push PySem.W.emptyDict).push (PySem.W.instObj C s.heap.objs.size)).get? (s.heap.objs.size+1)=some (PySem.W.instObj C s.heap.objs.size):=by
  have:=Heap.get?_push_size (s.heap.push PySem.W.emptyDict) (o:=PySem.W.instObj C s.heap.objs.size) rfl
  rwa [Heap.size_push] at this
 have e3:(s.heap.push PySem.W.emptyDict).Ns s.heap.objs.size (fun _=>none):=⟨PySem.W.emptyDict,#[],_,e1,rfl,(fun e he=>absurd he (by simp)),fun _=>rfl⟩
 have I1:=I.laid (a:=s.heap.objs.size) (o:=.own (s.heap.objs.size+1)) (h' := s.heap.push PySem.W.emptyDict) (t' := s.toks) (fun b u q=>Heap.get?_push_of_some _ q) (Nat.le_refl _) ⟨_,e1⟩
 refine I1.laid (a:=s.heap.objs.size+1) (o:=.ins C s.heap.objs.size []) (t' := s.toks) (fun b u q=>Heap.get?_push_of_some _ q) (Nat.le_of_eq (Heap.size_push _ _)) ?_
 have ne:s.heap.objs.size≠s.heap.objs.size+1:=Nat.ne_of_lt (Nat.lt_succ_self _)
 refine ⟨by rw [yaT ne,zay],Nat.zero_le _,ne,e2,fun _=>none,(Heap.Ns1.of_empty e3).at fun o q=>Heap.get?_push_of_some _ q,fun _=>True.intro,fun y hy=>absurd rfl hy⟩
theorem zix {prog:Program} {w:World} {env:Env} {e:Expr} {f:Str} {pos:Pos} {s:Shared} {Q:Value->Shared->Prop} (hb:attributeBase e f env (eval e env)=eval e env)
  (h:wpAny (model prog w) A (eval e env) (fun o s₁=>wpAny (model prog w) A (getAttr o f true) Q E s₁) E s):wpAny (model prog w) A (eval (.Attribute e f pos) env) Q E s :=
 Attribute_any_ h (by rw [arm_eval_Attribute,hb])
end
def tFld (K:PySem.W.Frag) (ta:TE) (f:Str):TE:=fun σ H Q=>ta σ H fun x H1=>∃ a C dx fs v,x = .ref a/\H1 a=some (.ins C dx fs)/\Cls K C/\NoAttr K C f/\fs.lookup f=some v/\Q v H1
def sFld (K:PySem.W.Frag) (ta tv:TE) (f:Str):TS:=fun D σ H=>tv σ H fun y H1=>ta σ H1 fun x H2=>∃ a C dx fs,x = .ref a/\H2 a=some (.ins C dx fs)/\Cls K C/\NoAttr K C f/\fs.length<1000 /\
 D.nx σ (upd H2 a (.ins C dx (putF f y fs)))
section
variable {X:Cx} {o e value:Expr} {f:Str} {pos pos' tpos:Pos} {ta tv:TE}
theorem ygS (he:PE X e ta) (hb:attributeBase e f X.env (eval e X.env)=eval e X.env):PE X (.Attribute e f pos) (tFld X.K ta f):=by
 intro pins s σ H Q I h
 refine zix hb (thn (he pins s σ H _ I h) fun u s1 ⟨x,H1,I1,rx,a,C,dx,fs,v,ex,ea,c,n,l,q⟩=>?_)
 subst ex
 obtain rfl:u=Value.ref a:=rx
 exact zgb I1 ea c n l fun u' s2 I2 ru=>⟨v,H1,I2,ru,q⟩
theorem ygT (ha:PE X o ta) (hv:PE X value tv) (hs:swapsWith value (some (.Attribute o f pos')) pos.line X.env=pure false):PS X (.Assign [.Attribute o f pos'] value pos) (sFld X.K ta tv f):=by
 intro pins s σ H D I h
 refine plainObj_wpAny_Assign_Attribute (thn (hv pins s σ H _ I h) fun u s1 ⟨y,H1,I1,ry,q⟩=>thn (ha pins s1 σ H1 _ I1 q) fun ov s2 ⟨x,H2,I2,rx,a,C,dx,fs,ex,ea,c,n,l,q2⟩=>?_) hs
 subst ex
 obtain rfl:ov=Value.ref a:=rx
 exact zgc I2 ea c n l ry fun s3 I3=>⟨σ,_,I3,q2⟩
end
section
variable {X:Cx} {pins:List (Addr×Obj)} {σ:St} {H:Hp} {s:Shared} {A:Around} {E:Value->Shared->Prop} {Q:Value->Shared->Prop} {c:Value} {b:Bool}
inductive TyOf (K:PySem.W.Frag) (H:Hp):V->Value->Prop where
 | non:TyOf K H .non (.type "NoneType")
 | bl (x:Bool):TyOf K H (.bl x) (.type "bool")
 | int (i:Int):TyOf K H (.int i) (.type "int")
 | str (x:Str):TyOf K H (.str x) (.type "str")
 | flt (x:UInt64):TyOf K H (.flt x) (.type "float")
 | lst {a:Addr} {xs:List V} (e:H a=some (.lst xs)):TyOf K H (.ref a) (.type "list")
 | frz {a:Addr} {o:Obj} {xs:List V} (e:H a=some (.frz o (.lst xs))):TyOf K H (.ref a) (.type "list")
 | tup {a:Addr} {xs:List V} (e:H a=some (.tup xs)):TyOf K H (.ref a) (.type "tuple")
 | dK {a:Addr} {kvs:List (Key×V)} (e:H a=some (.dK kvs)):TyOf K H (.ref a) (.type "dict")
 | dT {a:Addr} {kvs:List (List Key×V)} (e:H a=some (.dT kvs)):TyOf K H (.ref a) (.type "dict")
 | ins {a C dx:Addr} {fs:List (Str×V)} (e:H a=some (.ins C dx fs)) (cl:Cls K C) (ha:PySem.W.findIn K (.ref C) "__class__" = some (some (.builtin "object.__class__")))
   (hn:PySem.W.specialIn K (.builtin "object.__class__") "__get__" = some (some (.builtin "getset_descriptor.__get__"))) (htk:PySem.W.takesIn K (.builtin "object.__class__")=some true)
   (hm:PySem.W.mroIn K C (.type "object")=some true):TyOf K H (.ref a) (.ref C)
theorem zgK {x:V} {u t:Value} (I:Inv X pins σ H s) (rx:RelV x u) (ty:TyOf X.K H x t) (e:PySem.W.kitOne X.K t c=some b) (h:∀ tk,Q (.bool b) { s with toks:=tk }) :
  wpAny (model X.prog X.w) A (call (.builtin "isinstance") [u,c]) Q E s:=by
 cases ty with
 | non=>cases (show u=Value.none from rx);exact PySem.W.kia_one PySem.W.kitx_none I.kIn True.intro e (fun z=>nomatch z) h
 | bl y=>cases (show u=Value.bool y from rx);exact PySem.W.kia_one PySem.W.kitx_bool I.kIn True.intro e (fun z=>nomatch z) h
 | int i=>obtain ⟨t,q⟩:=(show ∃ t,u=Value.int i t from rx);cases q;exact PySem.W.kia_one PySem.W.kitx_int I.kIn True.intro e (fun z=>nomatch z) h
 | str y=>obtain ⟨t,q⟩:=(show ∃ t,u=Value.str y t from rx);cases q;exact PySem.W.kia_one PySem.W.kitx_str I.kIn True.intro e (fun z=>nomatch z) h
 | flt y=>obtain ⟨t,q⟩:=(show ∃ t,u=Value.float y t from rx);cases q;exact PySem.W.kia_one PySem.W.kitx_float I.kIn True.intro e (fun z=>nomatch z) h
 | @lst a xs ea =>
  cases (show u=Value.ref a from rx)
  obtain ⟨_,_,n,_,h1⟩:=(show ObjOk X.prog X.w H s.heap a (.lst xs) from I.hok a _ ea)
  exact PySem.W.kia_one PySem.W.kitx_list I.kIn ⟨_,h1,rfl⟩ e (fun z=>nomatch z) h
 | @frz a ob xs ea =>
  cases (show u=Value.ref a from rx)
  obtain ⟨_,_,_,n,_,h1⟩:=(show ObjOk X.prog X.w H s.heap a (.frz ob (.lst xs)) from I.hok a _ ea)
  exact PySem.W.kia_one PySem.W.kitx_list I.kIn ⟨_,h1,rfl⟩ e (fun z=>nomatch z) h
 | @tup a xs ea =>
  cases (show u=Value.ref a from rx)
  obtain ⟨_,_,_,p⟩:=(show ObjOk X.prog X.w H s.heap a (.tup xs) from I.hok a _ ea)
  obtain ⟨o,h1,h2,_⟩:=p
  exact PySem.W.kia_one PySem.W.kitx_tuple I.kIn ⟨o,h1,h2⟩ e (fun z=>nomatch z) h
 | @dK a kvs ea =>
  cases (show u=Value.ref a from rx)
  obtain ⟨_,_,vs,_,p⟩:=(show ObjOk X.prog X.w H s.heap a (.dK kvs) from I.hok a _ ea)
  obtain ⟨o,es,ep,h1,h2,_⟩:=p
  exact PySem.W.kia_one PySem.W.kitx_dict I.kIn ⟨o,h1,h2.1⟩ e (fun z=>nomatch z) h
 | @dT a kvs ea =>
  cases (show u=Value.ref a from rx)
  obtain ⟨_,_,xs,_,o,es,ep,h1,h2,_⟩:=(show ObjOk X.prog X.w H s.heap a (.dT kvs) from I.hok a _ ea)
  exact PySem.W.kia_one PySem.W.kitx_dict I.kIn ⟨o,h1,h2.1⟩ e (fun z=>nomatch z) h
 | @ins a C dx fs ea cl ha hn htk hm =>
  cases (show u=Value.ref a from rx)
  obtain ⟨mA,O,_⟩:=zcz I.hok ea
  obtain ⟨od,J,_⟩:=O.look
  exact PySem.W.kia_one (PySem.W.kitx_own (cl.get _) cl.hd ha hn htk hm) I.kIn J e (fun z=>nomatch z) h
end
end L2
namespace L2
open PySem PySem.Spec PyProof.Rows
structure Room (k:Nat) (A:Around):Prop where
 hd:A.handled=none
 dp:A.depth+3*k+5<recursionLimit
 un:A.units+16*k+200<cLine
theorem Room.mono {j k:Nat} {A:Around} (r:Room k A) (h:j<=k):Room j A:=⟨r.hd,by have:=r.dp;omega,by have:=r.un;omega⟩
theorem Room.deeper {k:Nat} {A:Around} (r:Room (k+1) A) (env:Env):Room k (A.deeper env) :=
 ⟨r.hd,by have:=r.dp;show A.depth+1+3*k+5<_;omega,by have:=r.un;show A.units+3+16*k+200<_;omega⟩
theorem zgd {A:Around} {C:Addr} {us:List Value} {kw:List (Str×Value)}:(A.under (.builtin "type.__call__" ⟨.ref C::us,kw⟩)).depth=A.depth+1:=by
 first | rfl | simp [Around.under,Code.weight,Code.isCreation,Code.isGuard,Code.isCaller,Code.frames,Code.isFrame,guardIds]
theorem zge {A:Around} {C:Addr} {us:List Value} {kw:List (Str×Value)}:(A.under (.builtin "type.__call__" ⟨.ref C::us,kw⟩)).units=A.units+1:=by
 first | rfl | simp [Around.under,Code.cUnits,Code.frames,Code.isFrame]
theorem Room.make {k:Nat} {A:Around} (r:Room (k+1) A) (C:Addr) (us:List Value) (kw:List (Str×Value)):Room k (A.under (.builtin "type.__call__" ⟨.ref C::us,kw⟩)) :=
 ⟨r.hd,by have:=r.dp;rw [zgd];omega,by have:=r.un;rw [zge];omega⟩
theorem Room.depth {k:Nat} {A:Around} (r:Room k A):A.depth<recursionLimit:=by have:=r.dp;omega
def tNil:TA:=fun _ H Q=>Q [] H
def yh7 (ta:TE) (tr:TA):TA:=fun σ H Q=>ta σ H fun x H1=>tr σ H1 fun xs H2=>Q (x::xs) H2
section
variable {X:Cx} {e:Expr} {es:List Expr} {te:TE} {t:TA} {pos:Pos}
theorem yfr:PA X [] tNil:=fun _ _ _ _ H Q I h=>Calls.spliced_nil ⟨[],H,I,.nil,h⟩
theorem zdo (ha:PE X e te) (hr:PA X es t) (hs:starEach (e::es) X.env=(false,eval e X.env)::starEach es X.env:=by rfl):PA X (e::es) (yh7 te t):=by
 intro pos pins s σ H Q I h
 rw [hs]
 show wpAny _ _ (spliced ((false,eval e X.env)::backTo pos (starEach es X.env))) _ _ s
 refine Calls.spliced_cons (thn (ha pins s σ H _ I h) fun u s1 ⟨x,H1,I1,r1,q1⟩=>?_)
 exact thn (hr pos pins s1 σ H1 _ I1 q1) fun us s2 ⟨xs,H2,I2,r2,q2⟩=>⟨x::xs,H2,I2,.cons r1 r2,q2⟩
def tTup (t:TA):TE:=fun σ H Q=>t σ H fun xs H1=>xs.length<=sizeLine/\∀ p,H1 p=none->Q (.ref p) (upd H1 p (.tup xs))
def tLst (t:TA):TE:=fun σ H Q=>t σ H fun xs H1=>xs.length<=sizeLine/\∀ p,H1 p=none->Q (.ref p) (upd H1 p (.lst xs))
theorem ygU {x1} (h:PA X es t):PE X (.Tuple es x1 pos) (tTup t):=by
 intro pins s σ H Q I hq
 refine wpAny_Tuple_spliced (thn (h pos pins s σ H _ I hq) fun us s1 ⟨xs,H1,I1,r,z,q⟩=>⟨by rw [<- r.length];exact z,?_⟩)
 have hf:H1 s1.heap.objs.size=none:=I1.hok.fresh (Nat.le_refl _)
 refine ⟨.ref s1.heap.objs.size,upd H1 s1.heap.objs.size (.tup xs),I1.laid (t' := s1.toks) (fun b u e=>Heap.get?_push_of_some _ e) (Nat.le_refl _) ?_,rfl,q _ hf⟩
 exact ⟨z,us,r,⟨_,Heap.get?_push_size _ rfl,rfl,_,rfl⟩⟩
theorem yfs (h:PA X es t):PE X (.List es pos) (tLst t):=by
 intro pins s σ H Q I hq
 refine wpAny_List_spliced (thn (h pos pins s σ H _ I hq) fun us s1 ⟨xs,H1,I1,r,z,q⟩=>⟨by rw [<- r.length];exact z,?_⟩)
 have hf:H1 s1.heap.objs.size=none:=I1.hok.fresh (Nat.le_refl _)
 refine ⟨.ref s1.heap.objs.size,upd H1 s1.heap.objs.size (.lst xs),I1.laid (t' := s1.toks) (fun b u e=>Heap.get?_push_of_some _ e) (Nat.le_refl _) ?_,rfl,q _ hf⟩
 exact ⟨z,us,0,r,Heap.get?_push_size _ rfl⟩
end
abbrev Sp:=List V->Hp->VK->XK->Prop
abbrev CXT:=List Env->Hp->Shared->XK->Value->Shared->Prop
structure Env0 (P:Program) (w:World) (K:PySem.W.Frag) (mg:Str->Option Value) (base:Heap) (A:Around) (outer:List Env) (s:Shared) (H:Hp):Prop where
 frames:A.frames=some outer
 mod:Mod K mg base
 bs:∀ b o,base.get? b=some o->s.heap.get? b=some o/\H b=none
 bsz:base.objs.size<=s.heap.objs.size
 funs:s.heap.FunFrames base outer
 frf:∀ b∈frs outer,H b=none
 hok:HOk P w H s.heap
 bare:AllBare s.gens
def CE (outer:List Env) (P:Program) (w:World) (H:Hp) (s:Shared) (Q:VK) (u:Value) (s':Shared):Prop :=
 ∃ v H',s'.os=s.os/\AllBare s'.gens/\Un (frs outer) [] H H' s.heap s'.heap/\HOk P w H' s'.heap/\RelV v u/\Q v H'
def CR (CX:CXT) (outer:List Env) (P:Program) (w:World) (H:Hp) (s:Shared) (Q:VK) (E:XK) (r:Result) (s':Shared):Prop :=
 match r with
 | .ok (.ret u)=>CE outer P w H s Q u s'
 | .ok _=>False
 | .error e=>CX outer H s E e s'
structure FnOk (P:Program) (w:World) (K:PySem.W.Frag) (mg:Str->Option Value) (base:Heap) (CX:CXT) (k:Nat) (f:Addr) (fd:FuncData) (ps:List Str) (sp:Sp):Prop where
 len:∀ vs H Q E,sp vs H Q E->vs.length=ps.length
 run:∀ (A:Around) (outer:List Env) (s:Shared) (H:Hp) (args:Args) (us:List Value) (vs:List V) (Q:VK) (E:XK),Room k A->Env0 P w K mg base A outer s H->BindsTo s fd args (ps.zip us)->Vals vs us->sp vs H Q E ->
  codeAny (model P w) A (.call (.ref f) args) (CR CX outer P w H s Q E) s
theorem FnOk.imp {P:Program} {w:World} {K:PySem.W.Frag} {mg:Str->Option Value} {base:Heap} {CX:CXT} {k:Nat} {f:Addr} {fd:FuncData} {ps:List Str} {sp sp':Sp} (F:FnOk P w K mg base CX k f fd ps sp)
  (h:∀ vs H Q E,sp' vs H Q E->sp vs H Q E):FnOk P w K mg base CX k f fd ps sp' :=
 ⟨fun vs H Q E q=>F.len vs H Q E (h _ _ _ _ q),fun A outer s H args us vs Q E hr he hb hv hs=>F.run A outer s H args us vs Q E hr he hb hv (h _ _ _ _ hs)⟩
theorem Env0.make {P:Program} {w:World} {K:PySem.W.Frag} {mg:Str->Option Value} {base:Heap} {A:Around} {outer:List Env} {s:Shared} {H:Hp} (e:Env0 P w K mg base A outer s H) (C:Addr) (us:List Value) (kw:List (Str×Value)) :
  Env0 P w K mg base (A.under (.builtin "type.__call__" ⟨.ref C::us,kw⟩)) outer s H:=⟨by first | exact e.frames | (simpa [Around.under,Code.envs,Code.isFrame,pushEnvs] using e.frames),e.mod,e.bs,e.bsz,e.funs,e.frf,e.hok,e.bare⟩
section
variable {X:Cx} {pins:List (Addr×Obj)} {σ:St} {H:Hp} {s s':Shared}
theorem Inv.env0 (I:Inv X pins σ H s):Env0 X.prog X.w X.K X.mg X.base X.A X.stack s H :=
 ⟨I.ok.frames,I.ok.mod,I.bs,Nat.le_trans I.ok.bsz I.sz,I.stack,I.stkFree,I.hok,I.bare⟩
theorem Inv.after {Q:VK} {u:Value} (I:Inv X pins σ H s) (h:CE X.stack X.prog X.w H s Q u s'):EP X pins σ Q u s' := by
 obtain ⟨v,H',os,bare,un,hok,r,q⟩:=h
 obtain ⟨hh,g,d,t,os'⟩:=s'
 obtain rfl:os'=s.os:=os
 exact ⟨v,H',I.call (h' := hh) (g' := g) (d' := d) (t' := t) (ch:=[]) un hok bare (fun b z=>absurd z (by simp)),r,q⟩
end
def Binds (K:PySem.W.Frag) (fd:FuncData) (ps:List Str) (ds:List Value):Prop :=
 ∀ (s:Shared) (us:List Value),K.In s.heap->(us++ds).length=ps.length->BindsTo s fd ⟨us,[]⟩ (ps.zip (us++ds))
theorem Binds.all {K:PySem.W.Frag} {fd:FuncData} {ps:List Str} (h:∀ us:List Value,us.length=ps.length->bindArgs fd ⟨us,[]⟩=pure (ps.zip us)):Binds K fd ps []:=fun s us _ hl=>by
 rw [List.append_nil] at hl ⊢
 exact .of_eq (h us hl)
def ygV (CX:CXT) (X:Cx) (E:XK):Prop:=∀ (pins:List (Addr×Obj)) (σ:St) (H:Hp) (s:Shared) (e:Value) (s':Shared),Inv X pins σ H s->CX X.stack H s E e s'->X.xe e s'
section
variable {X:Cx} {CX:CXT} {k:Nat} {f C:Addr} {fd:FuncData} {ps:List Str} {sp:Sp} {dvs:List V} {ds:List Value} {E:XK} {x m:Str} {p pos apos:Pos} {e o:Expr} {es:List Expr} {ta:TE} {t:TA}
structure Mk (K:PySem.W.Frag) (C f:Addr):Prop where
 makes:PySem.W.makesIn K C=true
 init:PySem.W.findIn K (.ref C) "__init__" = some (some (.ref f))
 fn:PySem.W.isFn K (.ref f)=true
 kp:PySem.W.keepIn K (.ref C)=true
end
section
variable {X:Cx} {CX:CXT} {k:Nat} {f C:Addr} {fd:FuncData} {ps ks:List Str} {sp:Sp} {E:XK} {x m:Str} {p pos apos kpos:Pos} {e o:Expr} {es:List Expr} {kws:List Keyword} {te ta:TE} {t tk:TA} {nm:Option Str}
variable {g:List Value->List Value->List Value} {gV:List V->List V->List V}
end
structure FnScope (N P:List Str) (sc:Scope):Prop where
 kind:sc.kind = .function
 co:sc.isCoroutine=false
 gen:sc.isGenerator=false
 nd:N.Nodup
 pre:N.take P.length=P
 par:∀ x∈P,sc.names.lookup x=some .local\/sc.names.lookup x=some .cell
 nofree:∀ y∈sc.names,y.2 ≠ .free
theorem zdH {kindOf:Str->Option NameKind} {x:Str}:∀ {binds:List (Str×Value)} {m:Str->Option Value},(∀ v,(x,v)∉binds)->bindL kindOf binds m x=m x
 | [],_,_=>rfl
 | (n,v)::r,m,h=>by
  unfold bindL
  rw [zdH fun w hw=>h w (List.mem_cons_of_mem _ hw)]
  split
  ·have:x≠n:=by rintro rfl;exact h v List.mem_cons_self
   simp [this]
  ·rfl
theorem zdI {kindOf:Str->Option NameKind} {x:Str}:∀ {binds:List (Str×Value)} {m:Str->Option Value},(∀ v,(x,v)∉binds)->bindC kindOf binds m x=m x
 | [],_,_=>rfl
 | (n,v)::r,m,h=>by
  unfold bindC
  rw [zdI fun w hw=>h w (List.mem_cons_of_mem _ hw)]
  split
  ·rfl
  ·have:x≠n:=by rintro rfl;exact h v List.mem_cons_self
   simp [this]
theorem zdJ {kindOf:Str->Option NameKind} {x:Str} {v:Value}:∀ {P:List Str} {vs:List Value} {i:Nat} {m:Str->Option Value},P.Nodup->P[i]? = some x->vs[i]? = some v->kindOf x=some .local ->
  bindL kindOf (P.zip vs) m x=some v
 | [],_,_,_,_,h,_,_=>by simp at h
 | _::_,[],_,_,_,_,h,_=>by simp at h
 | p::P,w::vs,0,m,nd,h1,h2,hk=>by
  simp at h1 h2;subst h1;subst h2
  show bindL kindOf ((p,w)::P.zip vs) m p=_
  unfold bindL
  rw [zdH fun v hv=>(List.nodup_cons.mp nd).1 (List.of_mem_zip hv).1,if_pos hk]
  simp
 | p::P,w::vs,i+1,m,nd,h1,h2,hk=>by
  show bindL kindOf ((p,w)::P.zip vs) m x=_
  unfold bindL
  exact zdJ (i:=i) (List.nodup_cons.mp nd).2 (by simpa using h1) (by simpa using h2) hk
theorem zdK {kindOf:Str->Option NameKind} {x:Str} {v:Value}:∀ {P:List Str} {vs:List Value} {i:Nat} {m:Str->Option Value},P.Nodup->P[i]? = some x->vs[i]? = some v->kindOf x≠some .local ->
  bindC kindOf (P.zip vs) m x=some v
 | [],_,_,_,_,h,_,_=>by simp at h
 | _::_,[],_,_,_,_,h,_=>by simp at h
 | p::P,w::vs,0,m,nd,h1,h2,hk=>by
  simp at h1 h2;subst h1;subst h2
  show bindC kindOf ((p,w)::P.zip vs) m p=_
  unfold bindC
  rw [zdI fun v hv=>(List.nodup_cons.mp nd).1 (List.of_mem_zip hv).1,if_neg hk]
  simp
 | p::P,w::vs,i+1,m,nd,h1,h2,hk=>by
  show bindC kindOf ((p,w)::P.zip vs) m x=_
  unfold bindC
  exact zdK (i:=i) (List.nodup_cons.mp nd).2 (by simpa using h1) (by simpa using h2) hk
def start (N:List Str) (vs:List V):St:=vs.map some++List.replicate (N.length-vs.length) none
def cxOf (CX:CXT) (P:Program) (w:World) (K:PySem.W.Frag) (mg:Str->Option Value) (base:Heap) (N:List Str) (qual:Str) (scope:Scope) (f:Addr) (cd:Value) (A:Around) (outer:List Env) (s:Shared) (H:Hp) (E:XK):Cx where
 prog:=P
 w:=w
 K:=K
 mg:=mg
 base:=base
 A:=A.deeper (envOfC qual scope s.heap.objs.size f cd)
 N:=N
 s₀:=s
 H₀:=H
 env:=envOfC qual scope s.heap.objs.size f cd
 outer:=outer
 stack:=envOfC qual scope s.heap.objs.size f cd::outer
 ex:=[]
 calm:=true
 fn:=fun _=>true
 pn:=[]
 xe:=fun e s' => wpAny (model P w) (A.deeper (envOfC qual scope s.heap.objs.size f cd)) (leaving (envOfC qual scope s.heap.objs.size f cd) e) (fun _ s'' => CX outer H s E e s'') (fun e' s'' => CX outer H s E e' s'') s'
theorem zed {sc:Scope} {n:Nat} {x:Str} (h:sc.names.lookup x=some .cell):∃ c,(cellsFrom n sc.names []).lookup x=some c:=by
 have q:=PySem.W.cellsFrom_some sc.names n [] (.inl h)
 exact Option.isSome_iff_exists.mp q
theorem zgL {CX:CXT} {P:Program} {w:World} {K:PySem.W.Frag} {mg:Str->Option Value} {base:Heap} {N ps:List Str} {qual:Str} {scope:Scope} {f:Addr} {cd:Value} {A:Around} {outer:List Env} {s s1:Shared} {H:Hp} {E:XK} {us:List Value} {vs:List V}
  (S:FnScope N ps scope) (hd:A.handled=none) (e0:Env0 P w K mg base A outer s H) (hl:vs.length=ps.length) (r:Vals vs us)
  (x:InCallC s s.heap.objs.size (bindL (envOfC qual scope s.heap.objs.size f cd).kindOf (ps.zip us) fun _=>none) (cellsFrom (s.heap.objs.size+1) scope.names []) (bindC (envOfC qual scope s.heap.objs.size f cd).kindOf (ps.zip us) fun _=>none) s1) :
  Inv (cxOf CX P w K mg base N qual scope f cd A outer s H E) [] (start N vs) H s1:=by
 have hpl:ps.length<=N.length:=by have:=congrArg List.length S.pre;rw [List.length_take] at this;omega
 obtain ⟨h1,tk,rfl,hk⟩:=x.done
 have noA:∀ b:Addr,b∉(cxOf CX P w K mg base N qual scope f cd A outer s H E).ex:=fun b z=>absurd (show b∈([]:List Addr) from z) (by simp)
 refine ⟨⟨e0.mod,S.kind,rfl,rfl,Nat.le_refl _,fun y z c h1 h2=>?_,fun y hy=>?_,fun y c _ h=>?_,fun _=>hd,Around.frames_deeper e0.frames,.inr ⟨rfl,rfl⟩,fun b z=>absurd z (noA b),e0.bs,e0.bsz,fun b _ _=>noA b,fun b z=>absurd z (noA b),e0.funs,e0.frf⟩,
  rfl,e0.bare,Un.kept hk,⟨_,x.toInCall.ns,fun i y v h1 h2 h3=>?_⟩,fun y c h=>⟨_,x.cell y c h⟩,e0.hok.fresh (Nat.le_refl _),fun y c h=>?_,fun p hp=>absurd (show p∈([]:List (Addr×Obj)) from hp) (by simp),e0.hok.kept hk,?_⟩
 ·exact name_of_addr x.apart (PySem.mem_of_lookup h1) (PySem.mem_of_lookup h2)
 ·have hy:scope.names.lookup y=some .cell\/scope.names.lookup y=some .free:=hy
  rcases hy with hy | hy
  ·exact zed hy
  ·exact absurd rfl (S.nofree _ (PySem.mem_of_lookup hy))
 ·exact Nat.le_of_lt (x.above y c (PySem.mem_of_lookup h))
 ·have hi:i<vs.length:=by
   unfold start at h2
   by_cases hi:i<vs.length
   ·exact hi
   ·rw [List.getElem?_append_right (by simpa using hi)] at h2
    rw [List.getElem?_replicate] at h2
    split at h2<;>cases h2
  have ha:vs[i]? = some v:=by
   unfold start at h2
   rw [List.getElem?_append_left (by simpa using hi),List.getElem?_map] at h2
   cases e:vs[i]? with
   | none=>rw [e] at h2;cases h2
   | some a=>rw [e] at h2;cases h2;rfl
  obtain ⟨u,hu,rv⟩:=r.get ha
  have hp:ps[i]? = some y:=by
   rw [<- S.pre,List.getElem?_take_of_lt (by omega)];exact h1
  have ndP:ps.Nodup:=by rw [<- S.pre];exact S.nd.sublist (List.take_sublist _ _)
  refine ⟨u,rv,?_⟩
  rcases S.par y (List.mem_of_getElem? hp) with k | k
  ·exact .inl ⟨k,zdJ ndP hp hu k⟩
  ·obtain ⟨c,e⟩:=zed (n:=s.heap.objs.size+1) k
   refine .inr ⟨.inl k,c,e,?_⟩
   have q:=x.cell y c e
   rw [zdK ndP hp hu (by show scope.names.lookup y≠_;rw [k];decide)] at q
   exact q
 ·exact e0.hok.fresh (Nat.le_of_lt (x.above y c (PySem.mem_of_lookup h)))
 ·unfold start
  show _=N.length
  rw [List.length_append,List.length_map,List.length_replicate]
  omega
theorem yh8 {CX:CXT} {P:Program} {w:World} {K:PySem.W.Frag} {mg:Str->Option Value} {base:Heap} {k:Nat} {f:Addr} {name qual:Str} {params:Arguments} {body:List Stmt} {scope:Scope} {dV kV doc pm cdv ct oc:Value} {an od:Option Addr}
  {osl:Array (Option Value)} {N ps:List Str} {sp:Sp} (lk:K.lookup f=some ⟨oc,od,.func (PySem.W.fnOf name qual params body scope dV kV doc pm an cdv ct),osl⟩) (hcd:PySem.W.codeIn K cdv qual=true) (S:FnScope N ps scope)
  (len:∀ vs H Q E,sp vs H Q E->vs.length=ps.length)
  (hbody:∀ (A:Around) (outer:List Env) (s:Shared) (H:Hp) (vs:List V) (Q:VK) (E:XK),Room k (A.deeper (envOfC qual scope s.heap.objs.size f cdv))->sp vs H Q E ->
   ∃ t,PSs (cxOf CX P w K mg base N qual scope f cdv A outer s H E) body t/\t { nx:=fun _ H' => Q .non H',rt:=Q } (start N vs) H) :
  FnOk P w K mg base CX (k+1) f (PySem.W.fnOf name qual params body scope dV kV doc pm an cdv ct) ps sp:=by
 refine ⟨len,fun A outer s H args us vs Q E hr e0 hb r hsp=>?_⟩
 have hl:=len _ _ _ _ hsp
 have KX:K.In s.heap:=e0.mod.kin.keeps fun b o e=>(e0.bs b o e).1
 have lim:s.heap.NoLimit:=e0.mod.nolimit.keeps fun b o e=>(e0.bs b o e).1
 have hkind:∀ y∈ps.zip us,scope.names.lookup y.1=some .local\/(scope.names.lookup y.1=some .cell/\((cellsFrom (s.heap.objs.size+1) scope.names []).lookup y.1).isSome=true):=fun ⟨n,v⟩ hy=>by
  rcases S.par n (List.of_mem_zip hy).1 with q | q
  ·exact .inl q
  ·exact .inr ⟨q,PySem.W.cellsFrom_some _ _ _ (.inl q)⟩
 refine codeAny_call_function hr.depth (KX _ _ lk) rfl S.co S.gen rfl (PySem.W.codeRec_of KX hcd) (hb _ _ _ _ ?_)
 refine wpAny_newFunctionEnv_cells S.kind hkind fun env he s1 x=>?_
 subst he
 refine ⟨lim.keeps x.toInCall.keep,codeAny_func ?_⟩
 obtain ⟨t,ht,hq⟩:=hbody A outer s H vs Q E (hr.deeper _) hsp
 have I:Inv (cxOf CX P w K mg base N qual scope f cdv A outer s H E) [] (start N vs) H s1:=zgL S hr.hd e0 hl r x
 refine wpAny_mono (ht [] s1 (start N vs) H _ I hq) (fun fl s' hs=>?_) fun e s' hs=>hs
 have fin:∀ {σ':St} {H':Hp} {v:V} {u:Value},Inv (cxOf CX P w K mg base N qual scope f cdv A outer s H E) [] σ' H' s'->RelV v u->Q v H'->CE outer P w H s Q u s' :=
  fun {σ' H' v u} J rv q=>⟨v,H',J.os,J.bare,J.base,J.hok,rv,q⟩
 cases fl with
 | ret u =>
  obtain ⟨v,σ',H',J,rv,q⟩:=hs
  exact fin J rv q
 | next =>
  obtain ⟨σ',H',J,q⟩:=hs
  exact fin (v:=V.non) (u:=Value.none) J rfl q
 | brk =>
  obtain ⟨_,_,_,q⟩:=hs
  exact False.elim q
 | cont =>
  obtain ⟨_,_,_,q⟩:=hs
  exact False.elim q
end L2
namespace L2
open PySem PySem.Spec PyProof.Rows
section
variable {X:Cx} {x:Str} {p pos:Pos} {e:Expr} {es:List Expr} {t:TA} {id T:String} {r:List V->Hp->VK->Prop}
def tCB (r:List V->Hp->VK->Prop) (t:TA):TE:=fun σ H Q=>t σ H fun vs H1=>r vs H1 Q
theorem zee (hc:CallR X (.builtin id) r) (hg:Gl X x) (hm:X.mg x=none) (hv:bootBuiltins x=some (.builtin id)) (ha:PA X (e::es) t) (hn:x ≠ "__name__" := by decide) (hdb:(x == ("__debug__" : Str))=false:=by decide)
  (he:starEach (e::es) X.env=(false,eval e X.env)::starEach es X.env:=by rfl) (hpl:(backTo pos (starEach es X.env)).any (·.1)=false:=by rfl):PE X (.Call (.Name x p) (e::es) [] pos) (tCB r t):=by
 intro pins s σ H Q I h
 refine wpAny_Call_Name_kw (yd4 I hg hm hv ?_ hn hdb)
 exact PyProof.Rows.callWith_builtin1 (thn (ha pos pins s σ H _ I h) fun us s1 ⟨vs,H1,I1,r1,q1⟩=>hc pins s1 σ H1 vs us Q I1 r1 q1) he hpl
theorem zgM (hc:CallR X (.type T) r) (hg:Gl X x) (hm:X.mg x=none) (hv:bootBuiltins x=some (.type T)) (ha:PA X (e::es) t) (hn:x ≠ "__name__" := by decide) (hdb:(x == ("__debug__" : Str))=false:=by decide)
  (he:starEach (e::es) X.env=(false,eval e X.env)::starEach es X.env:=by rfl) (hpl:(backTo pos (starEach es X.env)).any (·.1)=false:=by rfl):PE X (.Call (.Name x p) (e::es) [] pos) (tCB r t):=by
 intro pins s σ H Q I h
 refine wpAny_Call_Name_kw (yd4 I hg hm hv ?_ hn hdb)
 exact PyProof.Rows.callWith_type1 (thn (ha pos pins s σ H _ I h) fun us s1 ⟨vs,H1,I1,r1,q1⟩=>hc pins s1 σ H1 vs us Q I1 r1 q1) he hpl
end
end L2
namespace HT
open PySem PyProof.Rows
section
open PySem.SeqAt
open PySem.AutoSeq1 (wpAny_loadPart')
open PySem.MeetsSeq PySem.MeetsSeq2 PySem.MeetsSeq3
end
section
variable {prog:Program} {w:World} {A:Around} {E:Value->Shared->Prop} {s:Shared}
theorem cat_tup {t b:Addr} {vs ws:List Value} {Q:Value->Shared->Prop} (ht:IsTup s.heap t vs.toArray) (hb:IsTup s.heap b ws.toArray) (hv:vs≠[])
  (h1:ws=[]->Q (.ref t) s) (h2:ws≠[]->Q (.ref s.heap.objs.size) { s with heap:=s.heap.push { cls:=.type "tuple",data:=.seq (vs++ws).toArray } })
  (hsz:vs.length+ws.length<=sizeLine):wpAny (model prog w) A (binaryOp .Add (.ref t) (.ref b)) Q E s:=by
 obtain ⟨⟨cls,dd,data,sl⟩,ho,hc,n,hd⟩:=id ht
 obtain ⟨⟨cls2,dd2,data2,sl2⟩,ho2,hc2,n2,hd2⟩:=id hb
 simp only at hc hd hc2 hd2
 subst hc hd hc2 hd2
 have e:vs.toArray++ws.toArray=(vs++ws).toArray:=by simp
 by_cases hw:ws=[]
 ·exact concat_meets ⟨_,ho,rfl⟩ ⟨_,ho2,rfl⟩ noFill_tuple_add seq_tuple_add PySem.F.slot_tuple_add PySem.F.entry_tuple_add (PySem.F.args_tuple_add_2 _ _)
   (tuple_addW1 t b vs.toArray ws.toArray n n2 dd dd2 sl sl2 (by simpa using hv) (by simp [hw])) ⟨ho,ho2,h1 hw⟩
 ·refine concat_meets ⟨_,ho,rfl⟩ ⟨_,ho2,rfl⟩ noFill_tuple_add seq_tuple_add PySem.F.slot_tuple_add PySem.F.entry_tuple_add (PySem.F.args_tuple_add_2 _ _)
   (tuple_addW2 t b vs.toArray ws.toArray n n2 dd dd2 sl sl2 (by simpa using hv) (by simpa using hw) (by rw [List.size_toArray,List.size_toArray];exact hsz)) ⟨ho,ho2,?_⟩
  rw [e]
  exact h2 hw
def sIx (n d:Nat):Option Int->Nat
 | none=>d
 | some v=>if v<0 then (v+(n:Int)).toNat else min v.toNat n
theorem sIx_none (n d:Nat):sIx n d none=d:=rfl
theorem sIx_nat (n d k:Nat):sIx n d (some (k:Int))=min k n:=by
 show (if (k:Int)<0 then ((k:Int)+(n:Int)).toNat else min (k:Int).toNat n)=min k n
 rw [if_neg (by omega),Int.toNat_natCast]
theorem sIx_le (n d:Nat) (hd:d<=n) (o:Option Int):sIx n d o<=n:=by
 cases o with
 | none=>exact hd
 | some v =>
  show (if v<0 then (v+(n:Int)).toNat else min v.toNat n)<=n
  by_cases hv:v<0
  ·rw [if_pos hv];omega
  ·rw [if_neg hv];exact Nat.min_le_right _ _
theorem zfc (v:Int) (n d:Nat):(if v<0 then max (v+(n:Int)) 0 else min v (n:Int))=((sIx n d (some v):Nat):Int):=by
 show (if v<0 then max (v+(n:Int)) 0 else min v (n:Int))=(((if v<0 then (v+(n:Int)).toNat else min v.toNat n):Nat):Int)
 by_cases hv:v<0
 ·simp only [if_pos hv];omega
 ·simp only [if_neg hv];omega
theorem zgf (lo hi:Option Int) (n:Nat):Builtin.Slice.sliceAdjust lo hi 1 (n:Int)=(((sIx n 0 lo:Nat):Int),((sIx n n hi:Nat):Int)):=by
 have h1 : ¬ ((1:Int)<0):=by omega
 unfold Builtin.Slice.sliceAdjust
 simp only [h1,if_false]
 refine Prod.ext ?_ ?_
 ·cases lo with
  | none=>rfl
  | some v=>exact zfc v n 0
 ·cases hi with
  | none=>rfl
  | some v=>exact zfc v n n
theorem zgg (i j:Nat):Builtin.Slice.slicePlaces (i:Int) (j:Int) 1=j-i:=by
 unfold Builtin.Slice.slicePlaces
 have h1:(1:Int) > 0:=by omega
 simp only [h1,if_true,Int.ediv_one]
 split<;>omega
theorem zde {v:Value} {o:Option Int} {Q:Option Int->Shared->Prop} (p:IsPart v o) (h:Q o s):wpAny (model prog w) A (Builtin.Slice.slicePartIndex v) Q E s:=by
 cases p with
 | none=>exact slicePart_none h
 | int i t=>exact slicePart_int h
theorem zcY {sl:Addr} {vl vu:Value} {lo hi:Option Int} {n:Nat} {Q:Int×Int×Nat->Shared->Prop} (hs:s.heap.IsSliceOf sl vl vu .none) (pl:IsPart vl lo) (pu:IsPart vu hi)
  (h:Q (((sIx n 0 lo:Nat):Int),1,sIx n n hi-sIx n 0 lo) s):wpAny (model prog w) A (Builtin.Slice.sliceApplied (.ref sl) (pure (n:Int))) Q E s:=by
 obtain ⟨os,hos,hcs,hds⟩:=id hs
 unfold Builtin.Slice.sliceApplied Builtin.Slice.sliceFields
 refine wpAny_bind (wpAny_bind (wpAny_field hos hds (x:=vl) rfl (wpAny_bind (wpAny_field hos hds (x:=vu) rfl (wpAny_bind (wpAny_field hos hds (x:=.none) rfl (wpAny_pure ?_)))))))
 refine wpAny_bind (slicePart_none ?_)
 show wpAny _ _ (if ((1:Int) == 0)=true then _ else _) _ _ s
 rw [if_neg (by decide)]
 refine wpAny_bind (zde pl (wpAny_bind (zde pu (wpAny_bind (wpAny_pure ?_)))))
 show wpAny _ _ (match Builtin.Slice.sliceAdjust lo hi 1 (n:Int) with | (lo,hi)=>pure (lo,(1:Int),Builtin.Slice.slicePlaces lo hi 1)) _ _ s
 rw [zgf lo hi n]
 show wpAny _ _ (pure (((sIx n 0 lo:Nat):Int),(1:Int),Builtin.Slice.slicePlaces ((sIx n 0 lo:Nat):Int) ((sIx n n hi:Nat):Int) 1)) _ _ s
 rw [zgg]
 exact wpAny_pure h
theorem zhu (xs:Array Value) (i k:Nat):((List.range k).filterMap fun (m:Nat)=>xs[((i:Int)+(m:Int)*1).toNat]?).toArray=((xs.toList.drop i).take k).toArray:=by
 have e:(fun (m:Nat)=>xs[((i:Int)+(m:Int)*1).toNat]?)=fun m=>xs[i+m]? := by
  funext m
  have:((i:Int)+(m:Int)*1).toNat=i+m:=by omega
  rw [this]
 rw [e]
 have:=pick_run xs i k
 rw [List.filterMap_map] at this
 have e2:((fun x=>xs[x]?) ∘ fun x=>i+x)=fun m=>xs[i+m]? := rfl
 rw [e2] at this
 rw [this]
theorem getItem_tuple_cut {t sl:Addr} {items:Array Value} {vl vu:Value} {lo hi:Option Int} {Q:Value->Shared->Prop} (ht:IsTup s.heap t items) (hs:s.heap.IsSliceOf sl vl vu .none) (pl:IsPart vl lo) (pu:IsPart vu hi)
  (hw : ¬ (sIx items.size 0 lo=0/\sIx items.size items.size hi=items.size))
  (h:Q (.ref s.heap.objs.size) { s with heap:=s.heap.push { cls:=.type "tuple",data:=.seq ((items.toList.drop (sIx items.size 0 lo)).take (sIx items.size items.size hi-sIx items.size 0 lo)).toArray } })
  (hsz:items.size<=sizeLine):wpAny (model prog w) A (getItem (.ref t) (.ref sl)) Q E s:=by
 have htake:sizeOk (.seq ((items.toList.drop (sIx items.size 0 lo)).take (sIx items.size items.size hi-sIx items.size 0 lo)).toArray):=by
  show ((items.toList.drop (sIx items.size 0 lo)).take (sIx items.size items.size hi-sIx items.size 0 lo)).toArray.size<=sizeLine
  rw [List.size_toArray,List.length_take,List.length_drop,Array.length_toList]
  omega
 have hj:sIx items.size items.size hi<=items.size:=sIx_le _ _ (Nat.le_refl _) hi
 obtain ⟨os,hos,hcs,hds⟩:=id hs
 have hTs:s.TypeIs (.ref sl) "slice" := ⟨os,hos,hcs⟩
 unfold getItem
 try with_reducible refine wpAny_holding ?_
 first | refine wpAny_bind (wpAny_pure ?_) | skip
 refine wpAny_bind (wpAny_sequenceKey ht.typeIs (by decide) ?_)
 refine wpAny_bind (wpAny_callSpecial?_slot (name:=Str.ofString "__getitem__") ht.typeIs PyProof.Rows.slot_tuple_getitem
  (wpAny_call_entry PyProof.Rows.slot_tuple_getitem ht.typeIs entry_tuple_getitem ?_ (args_tuple_getitem _ _)))
 show wpAny _ _ (Builtin.Tuple.tupleItemsOf (.ref t) >>= _) _ _ s
 refine wpAny_bind (tupleItemsOf_ ht ?_)
 refine wpAny_bind (wpAny_typeOf hTs ?_)
 rw [if_pos (by decide)]
 refine wpAny_bind (zcY hs pl pu ?_)
 have hno : ¬ ((((sIx items.size 0 lo:Nat):Int) == 0 && (1:Int) == 1 && (sIx items.size items.size hi-sIx items.size 0 lo) == items.size)=true):=by
  intro q
  rw [Bool.and_eq_true,Bool.and_eq_true] at q
  have q1:((sIx items.size 0 lo:Nat):Int)=0:=eq_of_beq q.1.1
  have q2:sIx items.size items.size hi-sIx items.size 0 lo=items.size:=eq_of_beq q.2
  exact hw ⟨by omega,by omega⟩
 show wpAny _ _ (if (((sIx items.size 0 lo:Nat):Int) == 0 && (1:Int) == 1 && (sIx items.size items.size hi-sIx items.size 0 lo) == items.size)=true then _ else _) _ _ s
 rw [if_neg hno,zhu]
 first
  | exact wpAny_bind (m:=Builtin.Tuple.tupleExact _) (wpAny_newObj_type (wpAny_pure ⟨_,rfl,wpAny_pure h⟩) htake)
  | exact wpAny_bind (m:=Builtin.Tuple.tupleExact _) (wpAny_newObj_type (wpAny_bind (wpAny_pure (wpAny_pure ⟨_,rfl,wpAny_pure h⟩))) htake)
  | exact wpAny_bind (wpAny_bind (m:=Builtin.Tuple.tupleExact _) (wpAny_newObj_type (wpAny_pure (wpAny_pure ⟨_,rfl,wpAny_pure h⟩)) htake))
  | exact wpAny_bind (wpAny_bind (m:=Builtin.Tuple.tupleExact _) (wpAny_newObj_type (wpAny_pure ⟨_,rfl,wpAny_pure h⟩) htake))
end
end HT
namespace L2
open PySem PySem.Spec PyProof.Rows
abbrev TO:=St->Hp->(Option Int->Hp->Prop)->Prop
def PO (X:Cx) (e:Option Expr) (t:TO):Prop :=
 ∀ (pins:List (Addr×Obj)) (s:Shared) (σ:St) (H:Hp) (Q:Option Int->Hp->Prop),Inv X pins σ H s->t σ H Q ->
  wpAny (model X.prog X.w) X.A (evalPart e X.env) (fun u s' => ∃ o H',Inv X pins σ H' s'/\IsPart u o/\Q o H') X.xe s
def yfc:TO:=fun _ H Q=>Q none H
def yf5 (t:TE):TO:=fun σ H Q=>t σ H fun x H1=>∃ i,x = .int i/\Q (some i) H1
section
variable {X:Cx} {e:Expr} {te:TE} {lo hi:Option Expr} {tl th:TO} {pos p2:Pos}
theorem ziy:PO X none yfc:=by
 intro pins s σ H Q I h
 rw [evalPart_none]
 exact wpAny_pure ⟨none,H,I,.none,h⟩
theorem ziz (h:PE X e te):PO X (some e) (yf5 te):=by
 intro pins s σ H Q I hw
 rw [evalPart_some]
 refine thn (h pins s σ H _ I hw) fun u s1 ⟨x,H1,I1,r1,q1⟩=>?_
 obtain ⟨i,rfl,q⟩:=q1
 obtain ⟨t,rfl⟩:=r1
 exact ⟨some i,H1,I1,.int i t,q⟩
def SlR (X:Cx) (r:V->Option Int->Option Int->Hp->VK->Prop):Prop :=
 ∀ (pins:List (Addr×Obj)) (s:Shared) (σ:St) (H:Hp) (x:V) (v vl vu:Value) (lo hi:Option Int) (sl:Addr) (Q:VK),Inv X pins σ H s->RelV x v->s.heap.IsSliceOf sl vl vu .none->IsPart vl lo->IsPart vu hi->r x lo hi H Q ->
  ∃ T id,typeLookup (.type T) "__getitem__" = pure (some (.builtin id))/\s.TypeIs v T/\wpAny (model X.prog X.w) X.A (getItem v (.ref sl)) (EP X pins σ Q) X.xe s
theorem SlR.or {r r':V->Option Int->Option Int->Hp->VK->Prop} (h:SlR X r) (h':SlR X r'):SlR X (fun x lo hi H Q=>r x lo hi H Q\/r' x lo hi H Q):=by
 intro pins s σ H x v vl vu lo hi sl Q I rx hs pl pu q
 rcases q with q | q
 ·exact h pins s σ H x v vl vu lo hi sl Q I rx hs pl pu q
 ·exact h' pins s σ H x v vl vu lo hi sl Q I rx hs pl pu q
def tSl (r:V->Option Int->Option Int->Hp->VK->Prop) (te:TE) (tl th:TO):TE:=fun σ H Q=>te σ H fun x H1=>tl σ H1 fun l H2=>th σ H2 fun u H3=>r x l u H3 Q
theorem zhv {r:V->Option Int->Option Int->Hp->VK->Prop} (hr:SlR X r) (he:PE X e te) (hl:PO X lo tl) (hu:PO X hi th):PE X (.Subscript e (.Slice lo hi none p2) pos) (tSl r te tl th):=by
 intro pins s σ H Q I h
 refine Subscript_ (thn (he pins s σ H _ I h) fun v s1 ⟨x,H1,I1,r1,q1⟩=>?_)
 refine wpAny_Slice (thn (hl pins s1 σ H1 _ I1 q1) fun vl s2 ⟨l,H2,I2,pl,q2⟩=>thn (hu pins s2 σ H2 _ I2 q2) fun vu s3 ⟨u,H3,I3,pu,q3⟩=>?_)
 rw [evalPart_none]
 refine wpAny_pure ?_
 have I4:Inv X pins σ H3 { s3 with heap:=s3.heap.push { cls:=.type "slice",data:=.fields #[vl,vu,.none] } }:=I3.kept (t' := s3.toks) fun b ob q=>Heap.get?_push_of_some _ q
 obtain ⟨T,id,hT,ht,hg⟩:=hr pins { s3 with heap:=s3.heap.push { cls:=.type "slice",data:=.fields #[vl,vu,.none] } } σ H3 x v vl vu l u s3.heap.objs.size Q I4 r1 (Heap.IsSliceOf.new ..) pl pu q3
 show wpAny (model X.prog X.w) X.A (subscriptTail e (.Slice lo hi none p2) v (.ref s3.heap.objs.size)) (EP X pins σ Q) X.xe { s3 with heap:=s3.heap.push { cls:=.type "slice",data:=.fields #[vl,vu,.none] } }
 exact tail_any (ops:=[.ref s3.heap.objs.size,v]) ht hT hg (by with_unfolding_all rfl)
def cutV (xs:List V) (lo hi:Option Int):List V:=(xs.drop (HT.sIx xs.length 0 lo)).take (HT.sIx xs.length xs.length hi-HT.sIx xs.length 0 lo)
theorem zcO (xs:List V) (lo hi:Option Int):(cutV xs lo hi).length<=xs.length:=by
 unfold cutV
 rw [List.length_take,List.length_drop]
 omega
def rSlT (K:PySem.W.Frag):V->Option Int->Option Int->Hp->VK->Prop:=fun x lo hi H Q=>∃ a xs,x = .ref a/\SqT K H a xs /\
 ¬ (HT.sIx xs.length 0 lo=0/\HT.sIx xs.length xs.length hi=xs.length)/\∀ p,H p=none->Q (.ref p) (upd H p (.tup (cutV xs lo hi)))
theorem sl_tup:SlR X (rSlT X.K):=by
 intro pins s σ H x v vl vu lo hi sl Q I rx hs pl pu h
 obtain ⟨a,xs,rfl,hx,hw,q⟩:=h
 cases rx
 obtain ⟨its,r,ht,hz⟩:=I.tuple hx
 have hlen:its.toArray.size=xs.length:=by rw [List.size_toArray];exact r.length.symm
 refine ⟨"tuple",_,PyProof.Rows.slot_tuple_getitem.lookup,ht.typeIs,?_⟩
 refine HT.getItem_tuple_cut ht hs pl pu (by rw [hlen];exact hw) ?_ (by rw [hlen];exact hz)
 rw [hlen]
 refine ⟨.ref s.heap.objs.size,_,I.laid (t' := s.toks) (o:=.tup (cutV xs lo hi)) (fun b ob q=>Heap.get?_push_of_some _ q) (Nat.le_refl _) ?_,rfl,q _ (I.hok.fresh (Nat.le_refl _))⟩
 exact ⟨Nat.le_trans (zcO xs lo hi) hz,_,(r.drop (HT.sIx xs.length 0 lo)).take (HT.sIx xs.length xs.length hi-HT.sIx xs.length 0 lo),IsTup.new _ _⟩
def yh9 (K:PySem.W.Frag):R2:=fun x y H Q=>∃ a b xs ys,x = .ref a/\y = .ref b/\SqT K H a xs/\SqT K H b ys/\xs≠[]/\xs.length+ys.length<=sizeLine /\
 (ys=[]->Q (.ref a) H)/\(ys≠[]->∀ p,H p=none->Q (.ref p) (upd H p (.tup (xs++ys))))
theorem Vals.nil_iff {xs:List V} {us:List Value} (r:Vals xs us):us=[] ↔ xs=[]:=by
 cases r with
 | nil=>simp
 | cons _ _=>simp
theorem ziA:OpR X (binaryOp .Add) (yh9 X.K):=by
 intro pins s σ H x y v u Q I rx ry h
 obtain ⟨a,b,xs,ys,rfl,rfl,ha,hb,hx,hz,q1,q2⟩:=h
 cases rx
 cases ry
 obtain ⟨its,r1,p1,_⟩:=I.tuple ha
 obtain ⟨its2,r2,p2,_⟩:=I.tuple hb
 refine HT.cat_tup p1 p2 (fun z=>hx (r1.nil_iff.mp z)) (fun z=>⟨.ref a,H,I,rfl,q1 (r2.nil_iff.mp z)⟩) (fun z=>?_) (by rw [<- r1.length,<- r2.length];exact hz)
 refine ⟨.ref s.heap.objs.size,_,I.laid (t' := s.toks) (o:=.tup (xs++ys)) (fun b ob q=>Heap.get?_push_of_some _ q) (Nat.le_refl _) ?_,rfl,q2 (fun w=>z (r2.nil_iff.mpr w)) _ (I.hok.fresh (Nat.le_refl _))⟩
 exact ⟨by rw [List.length_append];exact hz,_,r1.append r2,IsTup.new _ _⟩
end
end L2
namespace L2
open PySem PySem.Spec PyProof.Rows
def ixN (n:Nat) (i:Int):Option Nat:=if 0<=i then (if i<n then some i.toNat else none) else if -(n:Int)<=i then some (i+n).toNat else none
def atI {α:Type} (xs:List α) (i:Int):Option α:=(ixN xs.length i).bind fun j=>xs[j]?
theorem zfd {n:Nat} {i:Int} {j:Nat} (h:ixN n i=some j):seqIndex? i n=some j/\j<n /\ -(n:Int)<=i/\i<n:=by
 unfold ixN at h
 by_cases h0:0<=i
 ·rw [if_pos h0] at h
  by_cases h1:i<n
  ·rw [if_pos h1] at h
   have e:i.toNat=j:=Option.some.inj h
   exact ⟨by rw [seqIndex_of h0 h1,e],by omega,by omega,h1⟩
  ·rw [if_neg h1] at h;cases h
 ·rw [if_neg h0] at h
  by_cases h1 : -(n:Int)<=i
  ·rw [if_pos h1] at h
   have e:(i+n).toNat=j:=Option.some.inj h
   exact ⟨by rw [seqIndex_neg (by omega) h1,e],by omega,h1,by omega⟩
  ·rw [if_neg h1] at h;cases h
theorem zcA {α:Type} {xs:List α} {i:Int} {v:α} (h:atI xs i=some v):∃ j,seqIndex? i xs.length=some j/\xs[j]? = some v/\j<xs.length /\ -(xs.length:Int)<=i/\i<xs.length:=by
 unfold atI at h
 cases e:ixN xs.length i with
 | none=>rw [e] at h;cases h
 | some j =>
  rw [e] at h
  obtain ⟨h1,h2,h3,h4⟩:=zfd e
  exact ⟨j,h1,h,h2,h3,h4⟩
theorem zdp {α:Type} {xs:List α} {j:Nat} {v:α} (h:xs[j]? = some v):atI xs (j:Int)=some v:=by
 have hj:j<xs.length:=(List.getElem?_eq_some_iff.mp h).1
 have e:ixN xs.length (j:Int)=some j:=by
  unfold ixN
  rw [if_pos (by omega),if_pos (by omega)];simp
 unfold atI;rw [e];exact h
theorem zhw {α:Type} (xs:List α) (v:α):atI (xs++[v]) (-1)=some v:=by
 have hl:(xs++[v]).length=xs.length+1:=by simp
 have e:ixN (xs++[v]).length (-1)=some xs.length:=by
  unfold ixN
  rw [hl,if_neg (by decide),if_pos (by omega)]
  congr 1
  omega
 unfold atI
 rw [e]
 show (xs++[v])[xs.length]? = some v
 simp
def yfd (b:Expr):Prop:=∀ o i,subscripted b false o i=operate [o,i] (getItem o i)
def IxR (X:Cx) (r:R2):Prop :=
 ∀ (value slice:Expr) (pins:List (Addr×Obj)) (s:Shared) (σ:St) (H:Hp) (x y:V) (v u:Value) (Q:VK),Inv X pins σ H s->RelV x v->RelV y u->r x y H Q ->
  subscripted slice false v u=operate [v,u] (getItem v u)->wpAny (model X.prog X.w) X.A (subscriptTail value slice v u) (EP X pins σ Q) X.xe s
def MtR (X:Cx) (id:String) (r:V->List V->Hp->VK->Prop):Prop :=
 ∀ (pins:List (Addr×Obj)) (s:Shared) (σ:St) (H:Hp) (x:V) (xs:List V) (v:Value) (us:List Value) (Q:VK),Inv X pins σ H s->RelV x v->Vals xs us->r x xs H Q ->
  wpAny (model X.prog X.w) X.A (call (.builtin id) (v::us)) (EP X pins σ Q) X.xe s
section
variable {X:Cx} {a b:Expr} {ta tb:TE} {pos:Pos}
theorem IxR.or {r r':R2} (h:IxR X r) (h':IxR X r'):IxR X (fun x y H Q=>r x y H Q\/r' x y H Q):=by
 intro value slice pins s σ H x y v u Q I rx ry q hs
 rcases q with q | q
 ·exact h value slice pins s σ H x y v u Q I rx ry q hs
 ·exact h' value slice pins s σ H x y v u Q I rx ry q hs
theorem yia {r:R2} (hr:IxR X r) (ha:PE X a ta) (hb:PE X b tb) (hs:yfd b):PE X (.Subscript a b pos) (tOp r ta tb):=by
 intro pins s σ H Q I h
 exact Subscript_ (binT ha hb I h fun v u s2 x y H2 I2 rx ry q=>hr a b pins s2 σ H2 x y v u Q I2 rx ry q (hs _ _))
def rIxL (K:PySem.W.Frag):R2:=fun x y H Q=>∃ p xs i v,x = .ref p/\y = .int i/\SqL K H p xs/\atI xs i=some v/\Q v H
def rIxT (K:PySem.W.Frag):R2:=fun x y H Q=>∃ p xs i v,x = .ref p/\y = .int i/\SqT K H p xs/\atI xs i=some v/\Q v H
def rIxS:R2:=fun x y H Q=>∃ z i c,x = .str z/\y = .int i/\z.length<=sizeLine/\atI z.cps.toList i=some c/\Q (.str ⟨#[c]⟩) H
theorem ziB:IxR X (rIxL X.K):=by
 intro value slice pins s σ H x y v u Q I rx ry h hs
 obtain ⟨p,xs,i,z,rfl,rfl,hq,he,q⟩:=h
 cases rx
 obtain ⟨t,rfl⟩:=ry
 obtain ⟨its,r,pl,hz⟩:=I.list hq
 obtain ⟨j,h1,h2,h3,h4,h5⟩:=zcA he
 obtain ⟨w,ew,rw'⟩:=r.get h2
 have hl:=r.length
 have hn:=ydX
 have fin:EP X pins σ Q w s:=⟨z,H,I,rw',q⟩
 by_cases h0:0<=i
 ·have hj:i.toNat=j:=by
   rw [seqIndex_of h0 h5] at h1
   exact Option.some.inj h1
  exact item_listR pl.isList h0 (by omega) (by rw [hj];simpa using ew) fin hs
 ·have hj:(i+(its.toArray.size:Int)).toNat=j:=by
   rw [seqIndex_neg (by omega) h4] at h1
   rw [List.size_toArray,<- hl]
   exact Option.some.inj h1
  exact subscriptTail_builtinR (x:=w) pl.isList.typeIs slot_list_getitem.lookup
   (wpAny_getItem_list_neg (Q:=fun r s' => r=w/\EP X pins σ Q r s') pl.isList (by omega) (by rw [List.size_toArray]<;>omega) (by omega) (by rw [hj];simpa using ew) ⟨rfl,fin⟩) hs
theorem ix_tup:IxR X (rIxT X.K):=by
 intro value slice pins s σ H x y v u Q I rx ry h hs
 obtain ⟨p,xs,i,z,rfl,rfl,hq,he,q⟩:=h
 cases rx
 obtain ⟨t,rfl⟩:=ry
 obtain ⟨its,r,pl,hz⟩:=I.tuple hq
 obtain ⟨j,h1,h2,h3,h4,h5⟩:=zcA he
 obtain ⟨w,ew,rw'⟩:=r.get h2
 have hl:=r.length
 have hn:=ydX
 have fin:EP X pins σ Q w s:=⟨z,H,I,rw',q⟩
 exact subscriptTail_builtinR (x:=w) pl.typeIs slot_tuple_getitem.lookup
  (getItem_tuple (j:=j) (Q:=fun r s' => r=w/\EP X pins σ Q r s') pl (by omega) (by omega) (by rw [List.size_toArray,<- hl];exact h1) (by simpa using ew) ⟨rfl,fin⟩) hs
theorem ygW:IxR X rIxS:=by
 intro value slice pins s σ H x y v u Q I rx ry h hs
 obtain ⟨z,i,c,rfl,rfl,hz,he,q⟩:=h
 obtain ⟨t,rfl⟩:=rx
 obtain ⟨t',rfl⟩:=ry
 obtain ⟨j,h1,h2,h3,h4,h5⟩:=zcA he
 have hl:z.cps.toList.length=z.length:=by simp [Str.length]
 rw [hl] at h1 h4 h5
 have hn:=ydX
 exact tail_any (typeIs_str s z t) slot_str_getitem.lookup (getItem_str (c:=c) (by
  have e1:decide (i < -(2 ^ 63:Int))=false:=decide_eq_false (by omega)
  have e2:decide (i ≥ 2 ^ 63)=false:=decide_eq_false (by omega)
  rw [e1,e2,Bool.or_false]) (by rw [h1];simpa using h2) ⟨.str ⟨#[c]⟩,H,I.tok _,⟨_,rfl⟩,q⟩) hs
def rIx (K:PySem.W.Frag):R2:=fun x y H Q=>rIxL K x y H Q\/rIxT K x y H Q\/rIxS x y H Q
theorem ygX:IxR X (rIx X.K):=ziB.or (ix_tup.or ygW)
theorem zgh (its:List Value) (n j:Nat) (u:Value):Obj.mapSeq (·.setIfInBounds j u) { cls:=.type "list",data:=.seq its.toArray n }={ cls:=.type "list",data:=.seq (its.set j u).toArray n }:=by
 simp [Obj.mapSeq]
theorem Inv.lst {pins:List (Addr×Obj)} {σ:St} {H:Hp} {s:Shared} {p:Addr} {xs:List V} (I:Inv X pins σ H s) (h:H p=some (.lst xs)) :
  ∃ (its:List Value) (n:Nat),Vals xs its/\s.heap.get? p=some { cls:=.type "list",data:=.seq its.toArray n }/\xs.length<=sizeLine:=by
 obtain ⟨z,its,n,r,e⟩:=I.hok p _ h
 exact ⟨its,n,r,e,z⟩
theorem Inv.lstUpd {pins:List (Addr×Obj)} {σ:St} {H:Hp} {s:Shared} {p:Addr} {xs ys:List V} {its its':List Value} {n n':Nat} {f:Obj->Obj} (I:Inv X pins σ H s) (h:H p=some (.lst xs))
  (ho:s.heap.get? p=some { cls:=.type "list",data:=.seq its.toArray n }) (hf:f { cls:=.type "list",data:=.seq its.toArray n }={ cls:=.type "list",data:=.seq its'.toArray n' }) (r:Vals ys its') (hz:ys.length<=sizeLine) (t:Nat) :
  Inv X pins σ (upd H p (.lst ys)) { s with heap:=s.heap.update p f,toks:=t }:=by
 have e:(s.heap.update p f).get? p=some { cls:=.type "list",data:=.seq its'.toArray n' }:=by
  rw [Heap.get?_update_self f ho (by rw [hf]<;>rfl),hf]
 refine I.write (x:=p) (e:=p) (by rw [h];trivial) (.inl rfl) (fun b u hb q=>(Heap.get?_update_other _ _ (Ne.symm hb)).trans q) ⟨_,e⟩ ?_
 exact ⟨hz,its',n',r,e⟩
def yib:V->V->V->Hp->(Hp->Prop)->Prop:=fun o i v H Q=>∃ p xs k j,o = .ref p/\i = .int k/\H p=some (.lst xs)/\ixN xs.length k=some j/\Q (upd H p (.lst (xs.set j v)))
theorem zhx:PSet X yib:=by
 intro pins s σ H o i v ov iv u Q I ro ri rv h
 obtain ⟨p,xs,k,j,rfl,rfl,hp,hj,q⟩:=h
 cases ro
 obtain ⟨t,rfl⟩:=ri
 obtain ⟨its,n,r,ho,hz⟩:=I.lst hp
 obtain ⟨h1,h2,h3,h4⟩:=zfd hj
 have hl:=r.length
 have hn:=ydX
 have I':Inv X pins σ (upd H p (.lst (xs.set j v))) { s with heap:=s.heap.update p (Obj.mapSeq (·.setIfInBounds j u)) } :=
  I.lstUpd hp ho (zgh its n j u) (r.set rv j) (by rw [List.length_set];exact hz) s.toks
 by_cases h0:0<=k
 ·have hk:k.toNat=j:=by
   rw [seqIndex_of h0 h4] at h1
   exact Option.some.inj h1
  exact PySem.W.ki_setAt ho h0 (by omega) (by rw [List.size_toArray,<- hl];exact h4) (by rw [hk];exact ⟨_,I',q⟩)
 ·have hk:(k+(its.toArray.size:Int)).toNat=j:=by
   rw [seqIndex_neg (by omega) h3] at h1
   rw [List.size_toArray,<- hl]
   exact Option.some.inj h1
  exact PySem.W.ki_setBack ho (by omega) (by rw [List.size_toArray,<- hl];exact h3) (by omega) (by rw [hk];exact ⟨_,I',q⟩)
theorem zef (lo hi:Option Int) (n:Nat):(sliceBounds lo hi none n).1=((HT.sIx n 0 lo:Nat):Int)/\(sliceBounds lo hi none n).2.1=((HT.sIx n n hi:Nat):Int)/\(sliceBounds lo hi none n).2.2=1:=by
 refine ⟨?_,?_,rfl⟩
 ·cases lo with
  | none=>simp [sliceBounds,HT.sIx]
  | some i =>
   simp only [sliceBounds,HT.sIx,Option.getD_none,show (1:Int) > 0 by decide,if_true]
   by_cases h:i<0
   ·simp only [h,if_true]<;>omega
   ·simp only [h,if_false]<;>omega
 ·cases hi with
  | none=>simp [sliceBounds,HT.sIx]
  | some i =>
   simp only [sliceBounds,HT.sIx,Option.getD_none,show (1:Int) > 0 by decide,if_true]
   by_cases h:i<0
   ·simp only [h,if_true]<;>omega
   ·simp only [h,if_false]<;>omega
theorem zd3 (its:List Value) (lo hi:Option Int):slicePick its.toArray lo hi none=((its.drop (HT.sIx its.length 0 lo)).take (HT.sIx its.length its.length hi-HT.sIx its.length 0 lo)).toArray:=by
 obtain ⟨h1,h2,h3⟩:=zef lo hi its.toArray.size
 unfold slicePick
 rw [h1,h2,h3]
 simp only [sliceRange_one,pick_run,List.size_toArray]<;>rfl
def rSlL (K:PySem.W.Frag):V->Option Int->Option Int->Hp->VK->Prop:=fun x lo hi H Q=>∃ a xs,x = .ref a/\SqL K H a xs/\∀ p,H p=none->Q (.ref p) (upd H p (.lst (cutV xs lo hi)))
theorem ziC:SlR X (rSlL X.K):=by
 intro pins s σ H x v vl vu lo hi sl Q I rx hs pl pu h
 obtain ⟨a,xs,rfl,hx,q⟩:=h
 cases rx
 obtain ⟨its,r,ht,hz⟩:=I.list hx
 have hlen:=r.length
 refine ⟨"list",_,slot_list_getitem.lookup,ht.isList.typeIs,?_⟩
 refine wpAny_getItem_list_slice ht.isList hs pl pu .none (by simp) ?_ (by rw [List.size_toArray]<;>omega)
 rw [zd3,<- hlen]
 refine ⟨.ref s.heap.objs.size,_,I.laid (t' := s.toks) (o:=.lst (cutV xs lo hi)) (fun b ob q=>Heap.get?_push_of_some _ q) (Nat.le_refl _) ?_,rfl,q _ (I.hok.fresh (Nat.le_refl _))⟩
 exact ⟨Nat.le_trans (zcO xs lo hi) hz,_,0,(r.drop (HT.sIx xs.length 0 lo)).take (HT.sIx xs.length xs.length hi-HT.sIx xs.length 0 lo),Heap.get?_push_size _ rfl⟩
theorem zeg:OpR X (compareOp .NotIn) (fun x y H Q=>∃ i j,x = .str i/\y = .str j/\Q (.bl (!(!(Builtin.Str.occurrences j i 0 j.length 1).isEmpty))) H):=by
 intro pins s σ H x y v u Q I rx ry h
 obtain ⟨i,j,rfl,rfl,q⟩:=h
 obtain ⟨t,rfl⟩:=rx
 obtain ⟨t',rfl⟩:=ry
 exact notIn_str ⟨.bl _,H,I,rfl,q⟩
theorem zeh:CallR X (.builtin "len") (fun xs H Q=>∃ p ys,xs=[.ref p]/\(SqL X.K H p ys\/SqT X.K H p ys)/\Q (.int ys.length) H):=by
 intro pins s σ H xs us Q I r h
 obtain ⟨p,ys,rfl,hq,q⟩:=h
 obtain ⟨u,rfl,rx⟩:=ydq r
 cases rx
 have hn:=ydX
 rcases hq with hq | hq
 ·obtain ⟨its,r',pl,hz⟩:=I.list hq
  have hlen:=r'.length
  exact Calls.call_len_list pl.isList (by simp only [List.size_toArray]<;>omega) ⟨.int ys.length,H,I.tok _,⟨s.toks+1,by rw [List.size_toArray,hlen]⟩,q⟩
 ·obtain ⟨its,r',pl,hz⟩:=I.tuple hq
  have hlen:=r'.length
  exact len_tuple pl (by simp only [List.size_toArray]<;>omega) ⟨.int ys.length,H,I.tok _,⟨s.toks+1,by rw [List.size_toArray,hlen]⟩,q⟩
theorem zei:CallR X (.builtin "len") (fun xs H Q=>∃ z,xs=[.str z]/\z.length<=sizeLine/\Q (.int z.length) H):=by
 intro pins s σ H xs us Q I r h
 obtain ⟨z,rfl,hz,q⟩:=h
 obtain ⟨u,rfl,t,rfl⟩:=ydq r
 have hn:=ydX
 exact len_str (by omega) ⟨.int z.length,H,I.tok _,⟨_,rfl⟩,q⟩
theorem CallR.or {f:Value} {r r':List V->Hp->VK->Prop} (h:CallR X f r) (h':CallR X f r'):CallR X f (fun xs H Q=>r xs H Q\/r' xs H Q):=by
 intro pins s σ H xs us Q I rs q
 rcases q with q | q
 ·exact h pins s σ H xs us Q I rs q
 ·exact h' pins s σ H xs us Q I rs q
theorem zch:CallR X (.type "list") (fun xs H Q=>∃ p ys,xs=[.ref p]/\(SqL X.K H p ys\/SqT X.K H p ys)/\∀ l,H l=none->Q (.ref l) (upd H l (.lst ys))):=by
 intro pins s σ H xs us Q I r h
 obtain ⟨p,ys,rfl,hq,q⟩:=h
 obtain ⟨u,rfl,rx⟩:=ydq r
 cases rx
 have fin:∀ (its:List Value),Vals ys its->ys.length<=sizeLine->∀ (h':Heap) (c':Nat),(∀ b o',s.heap.get? b=some o'->h'.get? b=some o') ->
   h'.get? s.heap.objs.size=some { cls:=.type "list",dict:=none,data:=.seq its.toArray c',slots:=#[] }->EP X pins σ Q (.ref s.heap.objs.size) { s with heap:=h' }:=fun its r' hz h' c' kp e =>
  ⟨.ref s.heap.objs.size,_,I.laid (t' := s.toks) kp (Nat.le_refl _) (show ObjOk X.prog X.w _ h' _ (.lst ys) from ⟨hz,its,c',r',e⟩),rfl,q _ (I.hok.fresh (Nat.le_refl _))⟩
 rcases hq with hq | hq
 ·obtain ⟨its,r',pl,hz⟩:=I.list hq
  have hlen:=r'.length
  obtain ⟨o,ho,hc,n,hd⟩:=pl.isList
  exact call_list_seq p (.inl rfl) ho hc hd (fun h' c' kp e=>fin its r' hz h' c' kp e) (by simp only [List.size_toArray]<;>omega)
 ·obtain ⟨its,r',pl,hz⟩:=I.tuple hq
  have hlen:=r'.length
  obtain ⟨o,ho,hc,n,hd⟩:=pl
  exact call_list_seq p (.inr rfl) ho hc hd (fun h' c' kp e=>fin its r' hz h' c' kp e) (by simp only [List.size_toArray]<;>omega)
def tyV (K:PySem.W.Frag) (T:String) (x:V) (H:Hp):Prop:=match x with
 | .str _=>T = "str"
 | .int _=>T = "int"
 | .ref p=>(T = "list" /\ ∃ xs,SqL K H p xs)\/(T = "tuple" /\ ∃ o,K.lookup p=some o/\o.cls = .type "tuple" /\ o.dict=none) \/
   (T = "dict" /\ ((∃ kvs,H p=some (.dK kvs))\/∃ kvs,H p=some (.dT kvs)))\/(T = "set" /\ ∃ S n,H p=some (.set S n))
 | _=>False
theorem yft {pins:List (Addr×Obj)} {σ:St} {H:Hp} {s:Shared} {T:String} {x:V} {v:Value} (I:Inv X pins σ H s) (r:RelV x v) (ty:tyV X.K T x H) :
  s.TypeIs v T/\∀ a,v = .ref a->∃ ob,s.heap.get? a=some ob/\ob.dict=none:=by
 cases x with
 | str z =>
  obtain ⟨t,rfl⟩:=r
  cases (show T = "str" from ty)
  exact ⟨typeIs_str s z t,fun _ e=>nomatch e⟩
 | int i =>
  obtain ⟨t,rfl⟩:=r
  cases (show T = "int" from ty)
  exact ⟨typeIs_int s i t,fun _ e=>nomatch e⟩
 | ref p =>
  cases r
  rcases ty with ⟨rfl,xs,hq⟩ | ⟨rfl,o,hk,hc,hd⟩ | ⟨rfl,hk⟩ | ⟨rfl,S,n,hk⟩
  ·obtain ⟨its,_,pl,_⟩:=I.list hq
   refine ⟨pl.isList.typeIs,fun a e=>?_⟩
   cases e
   obtain ⟨o,n,e,c,hd,_⟩:=pl
   exact ⟨o,e,hd⟩
  ·refine ⟨⟨o,I.kIn p o hk,hc⟩,fun a e=>?_⟩
   cases e
   exact ⟨o,I.kIn _ o hk,hd⟩
  ·have z:∃ o,s.heap.get? p=some o/\o.ExactDict:=by
    rcases hk with ⟨kvs,hk⟩ | ⟨kvs,hk⟩
    ·obtain ⟨_,_,_,_,o,_,_,e,ex,_⟩:=I.hok p _ hk
     exact ⟨o,e,ex⟩
    ·obtain ⟨_,_,_,_,o,_,_,e,ex,_⟩:=I.hok p _ hk
     exact ⟨o,e,ex⟩
   obtain ⟨o,e,ex⟩:=z
   refine ⟨⟨o,e,ex.1⟩,fun a e2=>?_⟩
   cases e2
   exact ⟨o,e,ex.2.1⟩
  ·obtain ⟨o,_,_,_,e,ex,_⟩:=I.hok p _ hk
   refine ⟨⟨o,e,ex.1⟩,fun a e2=>?_⟩
   cases e2
   exact ⟨o,e,ex.2.1⟩
 | _=>exact False.elim ty
def tBM0 (K:PySem.W.Frag) (T:String) (r:V->List V->Hp->VK->Prop) (to:TE):TE:=fun σ H Q=>to σ H fun x H1=>tyV K T x H1/\r x [] H1 Q
def tBM (K:PySem.W.Frag) (T:String) (r:V->List V->Hp->VK->Prop) (to:TE) (t:TA):TE:=fun σ H Q=>to σ H fun x H1=>tyV K T x H1/\t σ H1 fun xs H2=>r x xs H2 Q
variable {o e:Expr} {es:List Expr} {to:TE} {t:TA} {name:Str} {apos cpos:Pos} {T id:String} {r:V->List V->Hp->VK->Prop}
theorem ygY (pa:PlainAttrs T) (slot:Slot T name id) (hty:typeOf (.builtin id)=pure (.type "method_descriptor")) (hm:MtR X id r) (ho:PE X o to)
  (hbase:attributeBase o name X.env (eval o X.env)=eval o X.env:=by rfl) (hline:(apos.endLine == cpos.line)=true:=by rfl):PE X (.Call (.Attribute o name apos) [] [] cpos) (tBM0 X.K T r to):=by
 intro pins s σ H Q I h
 refine wpAny_Call_method0_late hbase hline (thn (ho pins s σ H _ I h) fun v s1 ⟨x,H1,I1,r1,ty,q1⟩=>?_)
 obtain ⟨h1,h2⟩:=yft I1 r1 ty
 exact ⟨T,id,pa,slot,hty,h1,h2,Calls.callWith_builtin rfl (PySem.evalArgs_none (hm pins s1 σ H1 x [] v [] Q I1 r1 .nil q1))⟩
theorem yic (pa:PlainAttrs T) (slot:Slot T name id) (hty:typeOf (.builtin id)=pure (.type "method_descriptor")) (hm:MtR X id r) (ho:PE X o to) (ha:PA X (e::es) t)
  (hbase:attributeBase o name X.env (eval o X.env)=eval o X.env:=by rfl)
  (hfew:((backTo cpos (starEach (e::es) X.env)).all (fun x=>!x.1) && (backToKw cpos (keywordEach [] X.env)).all (fun x=>x.1.isSome)
   && decide ((e::es).length+([]:List Keyword).length+(if ([]:List Keyword).isEmpty then 0 else 1)<30))=true:=by rfl)
  (hline:(apos.endLine == cpos.line)=true:=by rfl) (hs:starEach (e::es) X.env=(false,eval e X.env)::starEach es X.env:=by rfl) (hplain:(backTo cpos (starEach es X.env)).any (·.1)=false:=by rfl) :
  PE X (.Call (.Attribute o name apos) (e::es) [] cpos) (tBM X.K T r to t):=by
 intro pins s σ H Q I h
 refine wpAny_Call_method_late hbase hfew hline rfl (thn (ho pins s σ H _ I h) fun v s1 ⟨x,H1,I1,r1,ty,q1⟩=>?_)
 obtain ⟨h1,h2⟩:=yft I1 r1 ty
 refine ⟨T,id,pa,slot,hty,h1,h2,?_⟩
 have hA:=ha cpos pins s1 σ H1 _ I1 q1
 rw [hs] at hA ⊢
 refine Calls.callWith_builtin (by show (false || (backTo cpos (starEach es X.env)).any (·.1))=false;rw [hplain]<;>rfl) (Calls.evalArgs_plain ?_)
 exact thn hA fun us s2 ⟨vs,H2,I2,r2,q2⟩=>hm pins s2 σ H2 x vs v us Q I2 r1 r2 q2
end
end L2
namespace L2
open PySem PySem.Spec PyProof.Rows
def MtM (X:Cx) (id:String) (r:V->List V->Hp->VK->Prop):Prop :=
 ∀ (pins:List (Addr×Obj)) (s:Shared) (σ:St) (H:Hp) (x:V) (xs:List V) (v:Value) (us:List Value) (Q:VK),Inv X pins σ H s->RelV x v->Vals xs us->r x xs H Q ->
  wpAny (model X.prog X.w) X.A (call (.builtin id) (v::us)) (EP X pins σ Q) X.xe s
theorem Vals.one:∀ {x:V} {us:List Value},Vals [x] us->∃ u,us=[u]/\RelV x u
 | _,_,.cons r .nil=>⟨_,rfl,r⟩
theorem Vals.zero:∀ {us:List Value},Vals [] us->us=[]
 | _,.nil=>rfl
theorem Vals.dropLast {xs:List V} {us:List Value} (h:Vals xs us):Vals xs.dropLast us.dropLast:=by
 induction h with
 | nil=>exact .nil
 | cons r t ih =>
  cases t with
  | nil=>exact .nil
  | cons q t' => exact .cons r ih
theorem Vals.eraseIdx:∀ {xs:List V} {us:List Value} (i:Nat),Vals xs us->Vals (xs.eraseIdx i) (us.eraseIdx i)
 | _,_,_,.nil=>.nil
 | _,_,0,.cons _ t=>t
 | _,_,i+1,.cons r t=>.cons r (Vals.eraseIdx i t)
theorem Vals.reverse {xs:List V} {us:List Value} (h:Vals xs us):Vals xs.reverse us.reverse:=by
 induction h with
 | nil=>exact .nil
 | cons r t ih=>rw [List.reverse_cons,List.reverse_cons];exact Vals.append ih (.cons r .nil)
theorem zgi {α:Type} (l:List α):l.eraseIdx (l.length-1)=l.dropLast:=by
 induction l with
 | nil=>rfl
 | cons a r ih =>
  cases r with
  | nil=>rfl
  | cons b r =>
   have e:(a::b::r).length-1=((b::r).length-1)+1:=by
    have h1:(a::b::r).length=r.length+2:=rfl
    have h2:(b::r).length=r.length+1:=rfl
    omega
   rw [e,List.eraseIdx_cons_succ,ih]
   all_goals rfl
theorem zdL {α:Type}:∀ (l:List α) (i:Nat),(l.eraseIdx i).length<=l.length
 | [],_=>Nat.le_refl _
 | _::_,0=>Nat.le_succ _
 | _::r,i+1=>Nat.succ_le_succ (zdL r i)
section
variable {X:Cx} {pins:List (Addr×Obj)} {σ:St} {H:Hp} {s:Shared} {l b:Addr} {xs ys zs:List V}
theorem Inv.lset {its its':List Value} {n:Nat} {f:Array Value->Array Value} {t':Nat} (I:Inv X pins σ H s) (hH:H l=some (.lst xs))
  (e:s.heap.get? l=some { cls:=.type "list",data:=.seq its.toArray n }) (hf:f its.toArray=its'.toArray) (hv:Vals ys its') (hz:ys.length<=sizeLine) :
  Inv X pins σ (upd H l (.lst ys)) { s with heap:=s.heap.update l (Obj.mapSeq f),toks:=t' }:=by
 have q:=PySem.IsL.update e f
 rw [hf] at q
 refine I.write (x:=l) (e:=l) (by rw [hH];exact trivial) (.inl rfl) (fun b' u hb hu=>(Heap.get?_update_other s.heap (Obj.mapSeq f) (Ne.symm hb)).trans hu) ⟨_,q⟩ ?_
 exact ⟨hz,its',_,hv,q⟩
theorem Inv.lnew {its:List Value} {t':Nat} (I:Inv X pins σ H s) (hv:Vals ys its) (hz:ys.length<=sizeLine) :
  Inv X pins σ (upd H s.heap.objs.size (.lst ys)) { s with heap:=s.heap.push { cls:=.type "list",data:=.seq its.toArray },toks:=t' } :=
 I.laid (fun _ _ q=>Heap.get?_push_of_some _ q) (Nat.le_refl _) ⟨hz,its,0,hv,Heap.get?_push_size _ rfl⟩
theorem Inv.fresh (I:Inv X pins σ H s):H s.heap.objs.size=none:=I.hok.fresh (Nat.le_refl _)
theorem Inv.lstM (I:Inv X pins σ H s) (hH:H l=some (.lst xs)):xs.length<=sizeLine/\∃ (its:List Value) (n:Nat),Vals xs its/\xs.length=its.length/\s.heap.get? l=some { cls:=.type "list",data:=.seq its.toArray n }:=by
 obtain ⟨z,its,n,r,e⟩:=I.hok l _ hH
 exact ⟨z,its,n,r,r.length,e⟩
theorem zhy {n:Nat} (h:n<=sizeLine):Builtin.List.listTooLong n=false:=by
 unfold Builtin.List.listTooLong
 exact decide_eq_false (by omega)
end
section
variable {X:Cx}
def ygp:V->List V->Hp->VK->Prop:=fun x vs H Q=>∃ l xs y,x = .ref l/\vs=[y]/\H l=some (.lst xs)/\xs.length<sizeLine/\Q .non (upd H l (.lst (xs++[y])))
theorem zdM:MtM X "list.append" ygp:=by
 intro pins s σ H x vs v us Q I rx rv h
 obtain ⟨l,xs,y,rfl,rfl,hH,hz,q⟩:=h
 cases rx
 obtain ⟨u,rfl,ru⟩:=rv.one
 obtain ⟨z,its,n,r,hl,e⟩:=I.lstM hH
 refine call_meets F.slot_list_append ⟨_,e,rfl⟩ F.entry_list_append (F.args_list_append_2 _ _) (PySem.list_append l its.toArray n u (by rw [List.size_toArray];omega)) ⟨e,?_⟩
 refine ⟨.non,_,I.lset (its' := its++[u]) hH e (by simp) (r.append (.cons ru .nil)) ?_,rfl,q⟩
 rw [List.length_append,List.length_singleton]
 omega
def ygq:V->List V->Hp->VK->Prop:=fun x vs H Q=>∃ l b xs zs,x = .ref l/\vs=[.ref b]/\H l=some (.lst xs)/\H b=some (.lst zs)/\xs.length+zs.length<=sizeLine/\Q .non (upd H l (.lst (xs++zs)))
theorem zgN:MtM X "list.extend" ygq:=by
 intro pins s σ H x vs v us Q I rx rv h
 obtain ⟨l,b,xs,zs,rfl,rfl,hH,hB,hz,q⟩:=h
 cases rx
 obtain ⟨u,rfl,ru⟩:=rv.one
 cases ru
 obtain ⟨z,its,n,r,hl,e⟩:=I.lstM hH
 obtain ⟨z2,its2,n2,r2,hl2,e2⟩:=I.lstM hB
 have hsz:its.toArray.size+its2.toArray.size<=sizeLine:=by rw [List.size_toArray,List.size_toArray];omega
 have hlong : ¬ (!its.toArray.isEmpty && Builtin.List.listTooLong (its.toArray.size+its2.toArray.size))=true:=by
  rw [zhy hsz,Bool.and_false]
  exact Bool.false_ne_true
 refine call_meets F.slot_list_extend ⟨_,e,rfl⟩ F.entry_list_extend (F.args_list_extend_2 _ _)
  (AutoSeq1.list_extend_list_list_0 l its.toArray n b its2.toArray n2 hlong (by rw [List.size_toArray];omega) (by omega)) ⟨e,e2,?_⟩
 refine ⟨.non,_,I.lset (its' := its++its2) hH e (by simp) (r.append r2) ?_,rfl,q⟩
 rw [List.length_append]
 omega
def rPop:V->List V->Hp->VK->Prop:=fun x vs H Q=>∃ l xs y,x = .ref l/\vs=[]/\H l=some (.lst xs)/\xs[xs.length-1]? = some y/\Q y (upd H l (.lst xs.dropLast))
theorem ygZ:MtM X "list.pop" rPop:=by
 intro pins s σ H x vs v us Q I rx rv h
 obtain ⟨l,xs,y,rfl,rfl,hH,hy,q⟩:=h
 cases rx
 have hus:=rv.zero
 subst hus
 obtain ⟨z,its,n,r,hl,e⟩:=I.lstM hH
 obtain ⟨u,hu,ru⟩:=r.get hy
 have hy':its.toArray[its.toArray.size-1]? = some u:=by
  show its.toArray[its.length-1]? = some u
  rw [<- Array.getElem?_toList,<- hl]
  exact hu
 refine call_meets F.slot_list_pop ⟨_,e,rfl⟩ F.entry_list_pop (F.args_list_pop_1 _) (MeetsSeq.list_pop_last l its.toArray n u hy' (by rw [List.size_toArray];omega)) ⟨e,?_⟩
 refine ⟨y,_,I.lset (its' := its.dropLast) hH e ?_ r.dropLast ?_,ru,q⟩
 ·show its.toArray.eraseIdxIfInBounds (its.toArray.size-1)=its.dropLast.toArray
  rw [List.size_toArray,List.eraseIdxIfInBounds_toArray,zgi]
 ·rw [List.length_dropLast]
  omega
def yg0:V->List V->Hp->VK->Prop:=fun x vs H Q=>∃ l xs i k y,x = .ref l/\vs=[.int i]/\H l=some (.lst xs) /\ -(2 ^ 63)<=i/\i<2 ^ 63/\seqIndex? i xs.length=some k/\xs[k]? = some y/\Q y (upd H l (.lst (xs.eraseIdx k)))
theorem zhz:MtM X "list.pop" yg0:=by
 intro pins s σ H x vs v us Q I rx rv h
 obtain ⟨l,xs,i,k,y,rfl,rfl,hH,h1,h2,hk,hy,q⟩:=h
 cases rx
 obtain ⟨u,rfl,ru⟩:=rv.one
 obtain ⟨t,rfl⟩:=ru
 obtain ⟨z,its,n,r,hl,e⟩:=I.lstM hH
 obtain ⟨w,hw,rw'⟩:=r.get hy
 refine call_meets F.slot_list_pop ⟨_,e,rfl⟩ F.entry_list_pop (F.args_list_pop_2 _ _)
  (MeetsSeq.list_pop_at l its.toArray n i t k w (fitsIndex_both h1 h2) (by rw [List.size_toArray,<- hl];exact hk) (by rw [<- Array.getElem?_toList];exact hw) (by rw [List.size_toArray];omega)) ⟨e,?_⟩
 refine ⟨y,_,I.lset (its' := its.eraseIdx k) hH e ?_ (r.eraseIdx k) ?_,rw',q⟩
 ·show its.toArray.eraseIdxIfInBounds k=(its.eraseIdx k).toArray
  rw [List.eraseIdxIfInBounds_toArray]
 ·have:=zdL xs k
  omega
def yf0:V->List V->Hp->VK->Prop:=fun x vs H Q=>∃ l xs,x = .ref l/\vs=[]/\H l=some (.lst xs)/\Q .non (upd H l (.lst xs.reverse))
theorem zgj:MtM X "list.reverse" yf0:=by
 intro pins s σ H x vs v us Q I rx rv h
 obtain ⟨l,xs,rfl,rfl,hH,q⟩:=h
 cases rx
 have hus:=rv.zero
 subst hus
 obtain ⟨z,its,n,r,hl,e⟩:=I.lstM hH
 refine call_meets F.slot_list_reverse ⟨_,e,rfl⟩ F.entry_list_reverse (F.args_list_reverse_1 _) (AutoSeq1.list_reverse_list_0 l its.toArray n (by rw [List.size_toArray];omega)) ⟨e,?_⟩
 refine ⟨.non,_,I.lset (its' := its.reverse) hH e (by simp) r.reverse ?_,rfl,q⟩
 rw [List.length_reverse]
 omega
end
section
variable {prog:Program} {w:World} {A:Around} {E:Value->Shared->Prop} {s:Shared}
end
section
variable {X:Cx}
end
end L2
namespace L2
open PySem PySem.Spec PyProof.Rows
section
variable {κ:Type} [DecidableEq κ]
def valV (kvs:List (κ×V)) (k:κ):Option V:=(kvs.find? fun kv=>decide (kv.1=k)).map (·.2)
def putK (kvs:List (κ×V)) (k:κ) (v:V):List (κ×V) :=
 if (kvs.any fun kv=>decide (kv.1=k))=true then kvs.map (fun kv=>if kv.1=k then (kv.1,v) else kv) else kvs++[(k,v)]
theorem zbQ {p:κ×V} {r:List (κ×V)} {k:κ} (e:p.1=k):valV (p::r) k=some p.2:=by simp [valV,List.find?_cons,e]
theorem zbp {p:κ×V} {r:List (κ×V)} {k:κ} (e : ¬ p.1=k):valV (p::r) k=valV r k:=by simp [valV,List.find?_cons,e]
theorem zcZ (k:κ):∀ kvs:List (κ×V),(kvs.any fun kv=>decide (kv.1=k))=(valV kvs k).isSome
 | []=>rfl
 | p::r=>by
  rw [List.any_cons]
  by_cases e:p.1=k
  ·simp only [zbQ e,decide_eq_true e,Bool.true_or,Option.isSome_some]
  ·rw [zbp e,decide_eq_false e,Bool.false_or];exact zcZ k r
theorem zcP (kvs:List (κ×V)) (k:κ) (v:V):(putK kvs k v).length<=kvs.length+1:=by
 unfold putK
 split
 ·rw [List.length_map];omega
 ·rw [List.length_append,List.length_cons,List.length_nil];omega
theorem RelO.isSome_eq {o:Option V} {u:Option Value} (r:RelO o u):o.isSome=u.isSome:=by
 cases o with
 | none=>cases u with
  | none=>rfl
  | some _=>exact (show False from r).elim
 | some _=>cases u with
  | none=>exact (show False from r).elim
  | some _=>rfl
theorem KV.val {kvs:List (κ×V)} {vs:List (κ×Value)} (r:KV kvs vs) (k:κ):RelO (valV kvs k) (valueAt vs k):=by
 unfold KV at r
 induction r with
 | nil=>exact True.intro
 | @cons p q ps qs h t ih =>
  obtain ⟨h1,h2⟩:=h
  by_cases e:p.1=k
  ·have e':q.1=k:=h1.symm.trans e
   have b:valueAt (q::qs) k=some q.2:=by simp [valueAt,List.find?_cons,e']
   rw [zbQ e,b];exact h2
  ·have e' : ¬ q.1=k:=fun z=>e (h1.trans z)
   have b:valueAt (q::qs) k=valueAt qs k:=by simp [valueAt,List.find?_cons,e']
   rw [zbp e,b];exact ih
theorem KV.any {kvs:List (κ×V)} {vs:List (κ×Value)} (r:KV kvs vs) (k:κ):(kvs.any fun kv=>decide (kv.1=k))=vs.any fun kv=>decide (kv.1=k):=by
 unfold KV at r
 induction r with
 | nil=>rfl
 | cons h t ih=>rw [List.any_cons,List.any_cons,ih,h.1]
theorem KV.repl {kvs:List (κ×V)} {vs:List (κ×Value)} (r:KV kvs vs) (k:κ) {y:V} {u:Value} (ry:RelV y u) :
  KV (kvs.map fun kv=>if kv.1=k then (kv.1,y) else kv) (vs.map fun kv=>if kv.1=k then (kv.1,u) else kv):=by
 unfold KV at r ⊢
 induction r with
 | nil=>exact .nil
 | @cons p q ps qs h t ih =>
  rw [List.map_cons,List.map_cons]
  refine .cons ?_ ih
  obtain ⟨h1,h2⟩:=h
  by_cases e:p.1=k
  ·rw [if_pos e,if_pos (h1.symm.trans e)];exact ⟨h1,ry⟩
  ·rw [if_neg e,if_neg (fun z=>e (h1.trans z))];exact ⟨h1,h2⟩
theorem KV.put {kvs:List (κ×V)} {vs:List (κ×Value)} (r:KV kvs vs) (k:κ) {y:V} {u:Value} (ry:RelV y u):KV (putK kvs k y) (stored vs k u):=by
 unfold putK stored
 rw [r.any k]
 by_cases e:(vs.any fun kv=>decide (kv.1=k))=true
 ·rw [if_pos e,if_pos e];exact r.repl k ry
 ·rw [if_neg e,if_neg e];exact Paired.snoc r ⟨rfl,ry⟩
theorem KV.length {kvs:List (κ×V)} {vs:List (κ×Value)} (r:KV kvs vs):kvs.length=vs.length:=Paired.length r
end
theorem yff {P:Program} {w:World} {k:Key} {u:Value} (r:RelV (kV k) u):(ybF P w).is k u=true:=by
 cases k with
 | inl i=>obtain ⟨t,e⟩:=(show ∃ t,u=Value.int i t from r);subst e;exact zcL P w i t
 | inr x=>obtain ⟨t,e⟩:=(show ∃ t,u=Value.str x t from r);subst e;exact zcM P w x t
theorem yg1 {P:Program} {w:World} {y:V} {k:Key} {u:Value} (e:kOf y=some k) (r:RelV y u):(ybF P w).is k u=true:=by
 cases y with
 | int i=>cases e;obtain ⟨t,e⟩:=(show ∃ t,u=Value.int i t from r);subst e;exact zcL P w i t
 | str x=>cases e;obtain ⟨t,e⟩:=(show ∃ t,u=Value.str x t from r);subst e;exact zcM P w x t
 | bl b=>cases e;cases (show u=Value.bool b from r);exact decide_eq_true rfl
 | _=>cases e
theorem zdN {P:Program} {w:World}:∀ {ys:List V} {ks:List Key} {us:List Value},ys.map kOf=ks.map some->Vals ys us->ItemsAre (ybF P w) ks us
 | [],[],_,_,r=>by cases r;exact .nil
 | [],_::_,_,e,_=>by simp at e
 | _::_,[],_,e,_=>by simp at e
 | y::ys,k::ks,_,e,r=>by
  rw [List.map_cons,List.map_cons] at e
  injection e with e1 e2
  cases r with
  | cons h t=>exact .cons (yg1 e1 h) (zdN e2 t)
def KTup (H:Hp) (b:Addr) (k:List Key):Prop:=∃ ys,H b=some (.tup ys)/\ys.map kOf=k.map some
theorem KTup.of {H:Hp} {b:Addr} {k:List Key} (e:H b=some (.tup (k.map kV))):KTup H b k:=⟨_,e,by rw [List.map_map];exact List.map_congr_left fun x _=>ygv x⟩
abbrev KT (H:Hp):List (List Key×V)->List (List Key×Addr×Value)->Prop:=Paired fun p q=>p.1=q.1/\(∃ ys,H q.2.1=some (.tup ys)/\ys.map kOf=p.1.map some)/\RelV p.2 q.2.2
theorem KT.val {H:Hp} {kvs:List (List Key×V)} {xs:List (List Key×Addr×Value)} (r:KT H kvs xs) (k:List Key):RelO (valV kvs k) ((atKey xs k).map (·.2)):=by
 induction r with
 | nil=>exact True.intro
 | @cons p q ps qs h t ih =>
  obtain ⟨h1,_,h2⟩:=h
  by_cases e:p.1=k
  ·have e':q.1=k:=h1.symm.trans e
   have b:atKey (q::qs) k=some q.2:=by simp [atKey,List.find?_cons,e']
   rw [zbQ e,b];exact h2
  ·have e' : ¬ q.1=k:=fun z=>e (h1.trans z)
   have b:atKey (q::qs) k=atKey qs k:=by simp [atKey,List.find?_cons,e']
   rw [zbp e,b];exact ih
theorem KT.repl {H:Hp} {kvs:List (List Key×V)} {xs:List (List Key×Addr×Value)} (r:KT H kvs xs) (k:List Key) {y:V} {u:Value} (ry:RelV y u) :
  KT H (kvs.map fun kv=>if kv.1=k then (kv.1,y) else kv) (xs.map (putAt k u)):=by
 induction r with
 | nil=>exact .nil
 | @cons p q ps qs h t ih =>
  rw [List.map_cons,List.map_cons]
  refine .cons ?_ ih
  obtain ⟨h1,h2,h3⟩:=h
  unfold putAt
  by_cases e:p.1=k
  ·rw [if_pos e,if_pos (h1.symm.trans e)];exact ⟨h1,h2,ry⟩
  ·rw [if_neg e,if_neg (fun z=>e (h1.trans z))];exact ⟨h1,h2,h3⟩
theorem KT.put {H:Hp} {kvs:List (List Key×V)} {xs:List (List Key×Addr×Value)} (r:KT H kvs xs) (k:List Key) {b:Addr} {y:V} {u:Value} (hb:KTup H b k) (ry:RelV y u) :
  KT H (putK kvs k y) (storedH xs k b u):=by
 have e:(kvs.any fun kv=>decide (kv.1=k))=(atKey xs k).isSome:=by
  rw [zcZ,(r.val k).isSome_eq,Option.isSome_map]
 unfold putK storedH
 rw [e]
 by_cases q:(atKey xs k).isSome=true
 ·rw [if_pos q,if_pos q];exact r.repl k ry
 ·rw [if_neg q,if_neg q];exact Paired.snoc r ⟨rfl,hb,ry⟩
theorem KT.keeps {H H':Hp} {kvs:List (List Key×V)} {xs:List (List Key×Addr×Value)} (r:KT H kvs xs) (ht:∀ b ys,H b=some (.tup ys)->H' b=some (.tup ys)):KT H' kvs xs :=
 Paired.mapP r fun _ _ z=>⟨z.1,z.2.1.imp fun _ e=>⟨ht _ _ e.1,e.2⟩,z.2.2⟩
section
variable {P:Program} {w:World} {H:Hp} {h:Heap} {a:Addr}
theorem yf6 {u:HO} (ok:HOk P w H h) (e:Rd H a u):ObjOk P w H h a u:=e.ok ok
theorem yes {kvs:List (Key×V)} (ok:HOk P w H h) (e:Rd H a (.dK kvs)):kvs.length<=sizeLine/\(a == sysModules)=false/\∃ vs,KV kvs vs/\h.DictOf (ybF P w) a vs :=
 show ObjOk P w H h a (.dK kvs) from yf6 ok e
theorem yid {kvs:List (Key×V)} (ok:HOk P w H h) (e:H a=some (.dK kvs)):kvs.length<=sizeLine/\(a == sysModules)=false/\∃ vs,KV kvs vs/\h.DictOf (ybF P w) a vs:=yes ok (.inl e)
theorem yet {ks:List Key} (ok:HOk P w H h) (e:KTup H a ks):(tupleKind (ybF P w)).is h ks a:=by
 obtain ⟨ys,e,ek⟩:=e
 obtain ⟨_,its,r,o,h1,h2,n,h3⟩:=(show ObjOk P w H h a (.tup ys) from ok a _ e)
 exact ⟨o,its.toArray,n,h1,h2,h3,by simpa using zdN ek r⟩
theorem yeL {kvs:List (List Key×V)} (ok:HOk P w H h) (e:Rd H a (.dT kvs)):kvs.length<=sizeLine/\(a == sysModules)=false /\
  ∃ xs,KT H kvs xs/\h.DictOfH (tupleKind (ybF P w)) a xs:=by
 obtain ⟨z,y,xs,r,o,es,ep,h1,h2,h3,h4,h5⟩:=(show ObjOk P w H h a (.dT kvs) from yf6 ok e)
 refine ⟨z,y,xs,r,o,es,ep,h1,h2,h3,h4,fun x hx=>?_,h5⟩
 have all:∀ {l:List (List Key×V)} {m:List (List Key×Addr×Value)},KT H l m->∀ x∈m,(tupleKind (ybF P w)).is h x.1 x.2.1:=by
  intro l m q
  induction q with
  | nil=>intro x hx;exact nomatch hx
  | @cons p q ps qs hq t ih =>
   intro x hx
   rcases List.mem_cons.mp hx with e | hx
   ·subst e
    exact yet ok (by rw [<- hq.1];exact hq.2.1)
   ·exact ih x hx
 exact all r x hx
theorem yie {kvs:List (List Key×V)} (ok:HOk P w H h) (e:H a=some (.dT kvs)):kvs.length<=sizeLine/\(a == sysModules)=false /\
  ∃ xs,KT H kvs xs/\h.DictOfH (tupleKind (ybF P w)) a xs:=yeL ok (.inl e)
end
def DGet (H:Hp) (a:Addr) (y:V) (r:Option V):Prop :=
 (∃ kvs k,Rd H a (.dK kvs)/\y=kV k/\r=valV kvs k)\/∃ kvs k b,Rd H a (.dT kvs)/\y = .ref b/\KTup H b k/\r=valV kvs k
def DPut (H:Hp) (a:Addr) (y v:V) (H':Hp):Prop :=
 (∃ kvs k,H a=some (.dK kvs)/\y=kV k/\kvs.length<sizeLine/\H'=upd H a (.dK (putK kvs k v))) \/
 ∃ kvs k b,H a=some (.dT kvs)/\y = .ref b/\KTup H b k/\kvs.length<sizeLine/\H'=upd H a (.dT (putK kvs k v))
theorem DGet.k {H:Hp} {a:Addr} {kvs:List (Key×V)} {k:Key} (e:H a=some (.dK kvs)):DGet H a (kV k) (valV kvs k):=.inl ⟨kvs,k,.inl e,rfl,rfl⟩
theorem DGet.t {H:Hp} {a b:Addr} {kvs:List (List Key×V)} {k:List Key} (e:H a=some (.dT kvs)) (eb:KTup H b k):DGet H a (.ref b) (valV kvs k):=.inr ⟨kvs,k,b,.inl e,rfl,eb,rfl⟩
theorem DPut.k {H:Hp} {a:Addr} {kvs:List (Key×V)} {k:Key} {v:V} (e:H a=some (.dK kvs)) (hl:kvs.length<sizeLine):DPut H a (kV k) v (upd H a (.dK (putK kvs k v))):=.inl ⟨kvs,k,e,rfl,hl,rfl⟩
theorem DPut.t {H:Hp} {a b:Addr} {kvs:List (List Key×V)} {k:List Key} {v:V} (e:H a=some (.dT kvs)) (eb:KTup H b k) (hl:kvs.length<sizeLine) :
  DPut H a (.ref b) v (upd H a (.dT (putK kvs k v))):=.inr ⟨kvs,k,b,e,rfl,eb,hl,rfl⟩
section
variable {X:Cx} {pins:List (Addr×Obj)} {σ:St} {H:Hp} {s:Shared} {a:Addr} {y v:V} {u r:Value} {o:Option V} {A:Around} {E:Value->Shared->Prop}
theorem Inv.big (I:Inv X pins σ H s):sysModules<s.heap.objs.size:=by
 have h:mainGlobals<s.heap.objs.size:=(I.mod.glob.keeps I.bk).lt
 exact Nat.lt_trans (by decide) h
theorem zgO {Q:Value->Shared->Prop} (hu:A.units+1<cLine) (I:Inv X pins σ H s) (g:DGet H a y (some v)) (ry:RelV y u) (h:∀ w' s',Inv X pins σ H s'->RelV v w'->Q w' s') :
  wpAny (model X.prog X.w) A (getItem (.ref a) u) Q E s:=by
 rcases g with ⟨kvs,k,e,ey,l⟩ | ⟨kvs,k,b,e,ey,eb,l⟩
 ·subst ey
  obtain ⟨z,hd,vs,rel,dd⟩:=yes I.hok e
  obtain ⟨w',hw,rw'⟩:=RelO.some_of (v:=v) (o:=valueAt vs k) (by rw [l];exact rel.val k)
  exact wpAny_getItem_of (yff ry) dd.mapOf hw (h w' _ (I.tok _) rw')
 ·subst ey
  cases (show u=Value.ref b from ry)
  obtain ⟨z,hd,xs,rel,dd⟩:=yeL I.hok e
  obtain ⟨w',hw,rw'⟩:=RelO.some_of (v:=v) (o:=(atKey xs k).map (·.2)) (by rw [l];exact rel.val k)
  obtain ⟨p,hp,hp2⟩:=Option.map_eq_some_iff.mp hw
  refine wpAny_getItem_heap (tupleKind_room_in1 hu) (yet I.hok eb) dd hp ?_
  rw [hp2]
  exact h w' _ (I.tok _) rw'
theorem ziD {Q:Value->Shared->Prop} (hu:A.units+1<cLine) (I:Inv X pins σ H s) (g:DGet H a y o) (ry:RelV y u) (h:∀ s',Inv X pins σ H s'->Q (.bool (!o.isSome)) s') :
  wpAny (model X.prog X.w) A (compareOp .NotIn u (.ref a)) Q E s:=by
 rcases g with ⟨kvs,k,e,ey,l⟩ | ⟨kvs,k,b,e,ey,eb,l⟩
 ·subst ey
  obtain ⟨z,hd,vs,rel,dd⟩:=yes I.hok e
  refine wpAny_notIn_of (yff ry) hd dd.mapOf ?_
  rw [<- (rel.val k).isSome_eq,<- l]
  exact h _ (I.tok _)
 ·subst ey
  cases (show u=Value.ref b from ry)
  obtain ⟨z,hd,xs,rel,dd⟩:=yeL I.hok e
  refine wpAny_notIn_heap (tupleKind_room_in1 hu) (yet I.hok eb) hd dd ?_
  have q:=(rel.val k).isSome_eq
  rw [Option.isSome_map] at q
  rw [<- q,<- l]
  exact h _ (I.tok _)
theorem zfe {h':Heap} {t':Nat} {ob:HO} (I:Inv X pins σ H s) (mu:Mut (H a)) (hs:Heap.SameBut a s.heap h') (he:∃ q,h'.get? a=some q) (new:ObjOk X.prog X.w (upd H a ob) h' a ob) :
  Inv X pins σ (upd H a ob) { s with heap:=h',toks:=t' } :=
 I.write (x:=a) (e:=a) mu (.inl rfl) (fun b q hb z=>(hs.2 b hb).trans z) he new
theorem yg2 {P:Program} {w:World} {H':Hp} {h':Heap} {kvs:List (Key×V)} {vs:List (Key×Value)} (z:kvs.length<=sizeLine) (hd:(a == sysModules)=false) (rel:KV kvs vs) (dd:h'.DictOf (ybF P w) a vs) :
  ObjOk P w H' h' a (.dK kvs):=⟨z,hd,vs,rel,dd⟩
theorem zgP {H':Hp} {Q:Unit->Shared->Prop} (hu:A.units+1<cLine) (I:Inv X pins σ H s) (g:DPut H a y v H') (ry:RelV y u) (rv:RelV v r) (h:∀ s',Inv X pins σ H' s'->Q () s') :
  wpAny (model X.prog X.w) A (setItem (.ref a) u r) Q E s:=by
 rcases g with ⟨kvs,k,e,ey,l,eH⟩ | ⟨kvs,k,b,e,ey,eb,l,eH⟩
 ·subst ey eH
  obtain ⟨z,hd,vs,rel,dd⟩:=yid I.hok e
  have hz:vs.length<=sizeLine:=by rw [<- rel.length];exact z
  have hl:(putK kvs k v).length<=sizeLine:=by have:=zcP kvs k v;omega
  refine wpAny_setItem_pairs (hsz:=hz) (yff ry) dd fun h' dd' hs=>h _ ?_
  have he:∃ q,h'.get? a=some q:=let ⟨q,_,_,hq,_⟩:=dd';⟨q,hq⟩
  exact zfe I (by rw [e];exact True.intro) hs he (yg2 hl hd (rel.put k rv) dd')
 ·subst ey eH
  cases (show u=Value.ref b from ry)
  obtain ⟨z,hd,xs,rel,dd⟩:=yie I.hok e
  have hz:xs.length<=sizeLine:=by rw [<- Paired.length rel];exact z
  have hl:(putK kvs k v).length<=sizeLine:=by have:=zcP kvs k v;omega
  refine wpAny_setItem_heap (hsz:=hz) (tupleKind_room_in1 hu) (yet I.hok eb) dd fun h' dd' hs=>h _ ?_
  obtain ⟨q,es,ep,hq,h2,h3,h4,_,h5⟩:=dd'
  refine zfe I (by rw [e];exact True.intro) hs ⟨q,hq⟩ ⟨hl,hd,_,(rel.put k eb rv).keeps fun c ys ec=>?_,q,es,ep,hq,h2,h3,h4,h5⟩
  rw [yaT (yhT ec e (fun z=>nomatch z))]
  exact ec
end
section
variable {X:Cx} {pins:List (Addr×Obj)} {σ:St} {H:Hp} {s:Shared} {a:Addr} {kvs:List (Key×V)} {k:Key} {u:Value} {A:Around} {E:Value->Shared->Prop}
theorem yif {Q:Value->Shared->Prop} (I:Inv X pins σ H s) (e:Rd H a (.dK kvs)) (h:∀ t s',Inv X pins σ H s'->Q (.int kvs.length t) s'):wpAny (model X.prog X.w) A (call (.builtin "len") [.ref a]) Q E s:=by
 obtain ⟨z,hd,vs,rel,dd⟩:=yes I.hok e
 refine call_len_dict hd dd (by rw [<- rel.length];rw [sizeLine_eq] at z;omega) ?_
 rw [<- rel.length]
 exact h _ _ (I.tok _)
end
def NoSl (i:Expr):Prop:=∀ ov iv,subscripted i false ov iv=operate [ov,iv] (getItem ov iv)
theorem ziE {prog:Program} {w:World} {A:Around} {E:Value->Shared->Prop} {s:Shared} {env:Env} {value slice:Expr} {pos:Pos} {T id:String} {Q:Value->Shared->Prop}
  (hl:typeLookup (.type T) "__getitem__" = pure (some (.builtin id))) (hs:NoSl slice)
  (h:wpAny (model prog w) A (eval value env) (fun o s₁=>wpAny (model prog w) A (eval slice env) (fun i s₂=>s₂.TypeIs o T/\wpAny (model prog w) A (getItem o i) Q E s₂) E s₁) E s) :
  wpAny (model prog w) A (eval (.Subscript value slice pos) env) Q E s:=by
 refine Subscript_ (wpAny_mono h (fun o s₁ h₁=>wpAny_mono h₁ (fun i s₂ h₂=>?_) fun _ _ x=>x) fun _ _ x=>x)
 obtain ⟨hT,h₂⟩:=h₂
 unfold subscriptTail
 refine wpAny_bind ?_
 rw [getitemInPython_of_ne hT.not_modules]
 refine wpAny_bind (wpAny_specialOf hT hl ?_)
 have fin:wpAny (model prog w) A (subscripted slice false o i) (fun r s₃=>wpAny (model prog w) A (letTemporaryGo value o r >>= fun _=>pure r) Q E s₃) E s₂:=by
  rw [hs o i]
  exact wpAny_operating (wpAny_mono h₂ (fun r s₃ h₃=>wpAny_bind (wpAny_letTemporaryGo (wpAny_pure h₃))) fun _ _ x=>x)
 first
  | exact wpAny_pure (wpAny_bind fin)
  | exact wpAny_bind (wpAny_pure (wpAny_bind fin))
  | exact wpAny_bind fin
theorem zeV {X:Cx} {pins:List (Addr×Obj)} {σ:St} {H:Hp} {s:Shared} {a:Addr} {y:V} {o:Option V} (I:Inv X pins σ H s) (g:DGet H a y o):s.TypeIs (.ref a) "dict" := by
 rcases g with ⟨kvs,k,e,_,_⟩ | ⟨kvs,k,b,e,_,_,_⟩
 ·obtain ⟨_,_,vs,_,dd⟩:=yes I.hok e
  exact dd.typeIs
 ·obtain ⟨_,_,xs,_,dd⟩:=yeL I.hok e
  exact dd.typeIs
def yig (td ty:TE):TE:=fun σ H Q=>td σ H fun x H1=>ty σ H1 fun y H2=>∃ a v,x = .ref a/\DGet H2 a y (some v)/\Q v H2
def yih (td ty tv:TE):TS:=fun D σ H=>tv σ H fun v H1=>td σ H1 fun x H2=>ty σ H2 fun y H3=>∃ a H4,x = .ref a/\DPut H3 a y v H4/\D.nx σ H4
section
variable {X:Cx} {o i e value:Expr} {pos pos' tpos:Pos} {td ty tv:TE}
theorem ziF (hu:X.A.units+1<cLine) (ho:PE X o td) (hi:PE X i ty) (hs:NoSl i):PE X (.Subscript o i pos) (yig td ty):=by
 intro pins s σ H Q I h
 refine ziE PySem.F.slot_dict_getitem.lookup hs (thn (ho pins s σ H _ I h) fun u s1 ⟨x,H1,I1,rx,q1⟩=>thn (hi pins s1 σ H1 _ I1 q1) fun iv s2 ⟨y,H2,I2,ry,a,v,ex,g,q2⟩=>?_)
 subst ex
 obtain rfl:u=Value.ref a:=rx
 exact ⟨zeV I2 g,zgO hu I2 g ry fun w' s3 I3 rw' => ⟨v,H2,I3,rw',q2⟩⟩
theorem ziG (hu:X.A.units+1<cLine) (ho:PE X o td) (hi:PE X i ty) (hv:PE X value tv) (hs:swapsWith value (some (.Subscript o i pos')) pos.line X.env=pure false) :
  PS X (.Assign [.Subscript o i pos'] value pos) (yih td ty tv):=by
 intro pins s σ H D I h
 refine wpAny_Assign_Subscript (thn (hv pins s σ H _ I h) fun r s1 ⟨v,H1,I1,rv,q1⟩=>thn (ho pins s1 σ H1 _ I1 q1) fun u s2 ⟨x,H2,I2,rx,q2⟩=>thn (hi pins s2 σ H2 _ I2 q2) fun iv s3 ⟨y,H3,I3,ry,a,H4,ex,g,q3⟩=>?_) hs
 subst ex
 obtain rfl:u=Value.ref a:=rx
 exact zgP hu I3 g ry rv fun s4 I4=>⟨σ,H4,I4,q3⟩
end
theorem zhA {P:Program} {w:World} {H:Hp} (h:Heap) (hb:sysModules<h.objs.size):ObjOk P w H (h.push { cls:=.type "dict",data:=.dict #[] }) h.objs.size (.dT []) :=
 ⟨Nat.zero_le _,beq_eq_false_iff_ne.mpr (Ne.symm (Nat.ne_of_lt hb)),[],.nil,_,#[],0,Heap.get?_push_size _ rfl,⟨rfl,rfl,rfl⟩,rfl,rfl,List.nodup_nil⟩
def yg3:TE:=fun _ H Q=>∀ p,H p=none->Q (.ref p) (upd H p (.dT []))
section
variable {X:Cx} {pos:Pos}
theorem zhB:PE X (.Dict [] [] pos) yg3:=fun pins s σ H Q I h =>
 wpAny_Dict_empty ⟨.ref s.heap.objs.size,_,I.laid (a:=s.heap.objs.size) (o:=.dT []) (t' := s.toks) (fun _ _ q=>Heap.get?_push_of_some _ q) (Nat.le_refl _) (zhA s.heap I.big),rfl,h _ (I.hok.fresh (Nat.le_refl _))⟩
end
section
variable {X:Cx} {pins:List (Addr×Obj)} {σ:St} {H:Hp} {s:Shared} {a:Addr} {y d:V} {u r:Value} {o:Option V} {A:Around} {E:Value->Shared->Prop}
end
section
variable {X:Cx} {o e f:Expr} {apos cpos:Pos} {td ty tx:TE}
end
section
variable {X:Cx} {pins:List (Addr×Obj)} {σ:St} {H:Hp} {s:Shared} {a:Addr} {kvs:List (Key×V)} {A:Around} {E:Value->Shared->Prop}
end
section
variable {X:Cx} {pins:List (Addr×Obj)} {σ:St} {H:Hp} {s:Shared} {a:Addr} {y:V} {u:Value} {A:Around} {E:Value->Shared->Prop}
end
end L2
namespace Att
open PySem PySem.W PySem.Calls PyProof.Rows
theorem zdf {P:Params} {h:Heap}:∀ (ns:List Int) (vs:List Value),WellAll P h vs (ns.map WData.int)->IntsAre vs ns:=by
 intro ns
 induction ns with
 | nil =>
  intro vs w
  rw [List.map_nil] at w
  cases w
  exact .nil
 | cons n ns ih =>
  intro vs w
  rw [List.map_cons] at w
  cases w with
  | cons a b =>
   cases a
   exact .cons _ _ (ih _ b)
theorem zgQ {l:OpenLaw} {n:Nat} (hn:l.most=some n) {P:Params} {h:Heap} {args:List WData} {vals:List Value}
  (hpre:l.row.toRowW.claim.pre args=true) (hwl:WellAll P h vals args) :
  ∃ a vs ns,vals=[Value.ref a]/\args=[WData.list (ns.map WData.int)]/\h.get? a=some { cls:=.type "list",data:=.seq vs.toArray }/\IntsAre vs ns/\ns.length<=n:=by
 have hsh:WShape.hasAll [] args [.list .int]=true:=(pre_splitW hpre).1
 have hc:l.pre.holds [] { args:=args }=true:=(pre_splitW hpre).2
 obtain ⟨d,r,rfl,h1,h2⟩:=hasAllW_cons hsh
 obtain rfl:=hasAllW_nil h2
 obtain ⟨xs,rfl,h3⟩:=hasW_list h1
 obtain ⟨ns,rfl⟩:=items_int h3
 have hlen:ns.length<=n:=by
  unfold OpenLaw.pre at hc
  have h4:(WTm.not (.lt (.lit (.int (n:Int))) (.len (.arg 0)))).holds [] { args:=[.list (ns.map .int)] }=true:=by
   have h4:=(holds_andW hc).1
   rw [hn] at h4
   exact h4
  have h5:=condW_of h4 (w_not (w_lt w_lit (w_len_list (w_arg rfl))))
  rw [List.length_map] at h5
  refine Nat.le_of_not_lt fun q=>?_
  have q':(n:Int)<((ns.length:Nat):Int):=by omega
  first
   | (rw [decide_eq_true q'] at h5;exact absurd h5 (by decide))
   | (simp at h5;omega)
 cases hwl with
 | cons w1 w2 =>
  cases w2
  cases w1 with
  | list ho hall=>exact ⟨_,_,ns,rfl,rfl,ho,zdf ns _ hall,hlen⟩
theorem zgR (l:OpenLaw) (args:List WData):l.row.toRowW.claim.post args (.bool true) args=true :=
 postW_of (r:=l.row.toRowW) (X:=(true == true))
  (show WShape.has [] (.bool true) .bool=true by first | rfl | decide | simp [WShape.has,WShape.arms,WShape.armsAll])
  (show (WTm.eq .res (.lit (.bool true))).value [] { args:=args,res:=some (.bool true),after:=args }=some (.bool (true == true)) from w_eq_bool (w_res rfl) w_lit) rfl
theorem attach_call {l:OpenLaw} {n:Nat} {q:Program} {loose:List Str} {XP:(Str->Option Value)->Heap->Prop} {YP:World->Heap->Prop} {d:DefRec}
  (hn:l.most=some n) (hdf:d.params.defaults=[])
  (call:∀ (w:World) (s₀ s₁:Shared) (mg mb:Str->Option Value) (fa:Addr) (o:Obj) (pm cd doc:Value) (a:Addr) (vs:List Value) (ns:List Int),
   Ground q loose [] XP w s₀ mg mb s₁.heap->YP w s₁.heap ->
   s₁.heap.get? fa=some o->o.data = .func (docDef d.name d.params d.body d.scope pm cd doc)->s₁.heap.CodeRec cd d.name->mg d.name=some (.ref fa) ->
   s₁.heap.get? a=some { cls:=.type "list",data:=.seq vs.toArray }->IntsAre vs ns->ns.length<=n->s₁.gens = #[] ->
   codeAny (model l.prog w) callerA (.call (.ref fa) ⟨[.ref a],[]⟩) (fun r s' => r = .ok (.ret (.bool true))/\OldK s₁.heap s'.heap/\s'.os=s₁.os/\AllBare s'.gens) s₁) :
  WalkO q loose XP YP l.row.toRowW d [] (fun f vs=>PySem.call f vs):=by
 intro w s₀ s₁ mg mb G Y fa o pm cd doc dV kV ho hd hcd hD hmg hg args vals as hpre hlay hrd hwl hlo
 obtain rfl:dV = .none:=Dflts.none hD hdf
 obtain rfl:kV = .none:=Dflts.noKw hD
 obtain ⟨a,vs,ns,rfl,rfl,hobj,hints,hlen⟩:=zgQ hn hpre hwl
 refine enter_call (codeAny_mono (call w s₀ s₁ mg mb fa o pm cd doc a vs ns G Y ho (fd_plain hd) hcd hmg hobj hints hlen hg) fun r s' hq=>?_)
 obtain ⟨rfl,h2,h3,h4⟩:=hq
 exact ⟨.inl ⟨.bool true,.bool true,[],rfl,fun _=>rfl,.bool true,zgR l _,fun _=>⟨List.Pairwise.nil,fun _ hm=>(nomatch hm)⟩⟩,h2,h3,h4⟩
section
variable {prog:Program} {w:World} {A:Around} {E:Value->Shared->Prop} {s:Shared} {K:Frag}
end
end Att
namespace L2
open PySem PySem.Spec PyProof.Rows
theorem zdO:∀ {vs:List Value} {ns:List Int},IntsAre vs ns->Vals (ns.map V.int) vs
 | _,_,.nil=>.nil
 | _,_,.cons n t h=>.cons ⟨t,rfl⟩ (zdO h)
def Only (H:Hp):Prop:=∀ b,H b=none\/∃ o xs,H b=some (.frz o (.lst xs))
theorem zhC {P:Program} {w:World} {K:PySem.W.Frag} {mg mb:Str->Option Value} {CX:CXT} {k:Nat} {fa a:Addr} {fd:FuncData} {x:Str} {sp:Sp} {s₁:Shared} {vs:List Value} {ns:List Int}
  (KX:K.In s₁.heap) (hns:s₁.heap.Ns mainGlobals mg) (hb:s₁.heap.Ns builtinsNs mb) (hbb:∀ x:Str,x ≠ "__name__" -> mb x=bootBuiltins x) (hlim:s₁.heap.NoLimit) (hg:s₁.gens = #[])
  (ha:s₁.heap.get? a=some { cls:=.type "list",data:=.seq vs.toArray }) (hi:IntsAre vs ns) (hl:ns.length<=sizeLine) (hr:Room k callerA)
  (F:∀ base:Heap,K.In base->base.Ns mainGlobals mg->FnOk P w K mg base CX k fa fd [x] sp) (hbind:∀ (s:Shared) (u:Value),BindsTo s fd ⟨[u],[]⟩ [(x,u)])
  (hsp:∀ H:Hp,Only H->SqL K H a (ns.map V.int)->sp [.ref a] H (fun v _=>v = .bl true) fun _ _ _=>False)
  (hCX:∀ H e s',CX [] H s₁ (fun _ _ _=>False) e s'->False) :
  codeAny (model P w) callerA (.call (.ref fa) ⟨[.ref a],[]⟩) (fun r s' => r = .ok (.ret (.bool true))/\OldK s₁.heap s'.heap/\s'.os=s₁.os/\AllBare s'.gens) s₁:=by
 have rv:=zdO hi
 have lenV:=hi.length
 have core:∀ H:Hp,Only H->SqL K H a (ns.map V.int)->HOk P w H s₁.heap->(∀ b,H b≠none->b=a)->(H a≠none->K.lookup a=none) ->
   codeAny (model P w) callerA (.call (.ref fa) ⟨[.ref a],[]⟩) (fun r s' => r = .ok (.ret (.bool true))/\OldK s₁.heap s'.heap/\s'.os=s₁.os/\AllBare s'.gens) s₁:=by
  intro H hO hS hok hA hK
  have base_of:∀ {b:Addr} {o:Obj},s₁.heap.get? b=some o->H b=none->(hidT s₁.heap H).get? b=some o:=fun e n=>zhj e n
  have noA:∀ {b:Addr} {o:Obj} {es:Array DictEntry} {ep:Nat},s₁.heap.get? b=some o->o.data = .dict es ep->H b=none:=fun {b o es ep} e d=>by
   cases q:H b with
   | none=>rfl
   | some u =>
    have e':b=a:=hA b (by rw [q];simp)
    subst e'
    rw [ha] at e;cases e
    have d':Data.seq vs.toArray _=Data.dict es ep:=d
    cases d'
  have nsK:∀ {b:Addr} {m:Str->Option Value},s₁.heap.Ns b m->(hidT s₁.heap H).Ns b m:=fun {b m} ⟨o,es,ep,e,d,r⟩=>⟨o,es,ep,base_of e (noA e d),d,r⟩
  have hKb:K.In (hidT s₁.heap H):=fun b o e=>base_of (KX b o e) (by
   cases q:H b with
   | none=>rfl
   | some u =>
    have e':b=a:=hA b (by rw [q];simp)
    subst e'
    rw [hK (by rw [q];simp)] at e;cases e)
  have hM:Mod K mg (hidT s₁.heap H):=⟨hKb,nsK hns,⟨mb,nsK hb,hbb⟩,let ⟨mc,h1,h2⟩:=hlim;⟨mc,nsK h1,h2⟩⟩
  have e0:Env0 P w K mg (hidT s₁.heap H) callerA [] s₁ H:=⟨rfl,hM,fun b o e=>zii e,Nat.le_of_eq (zgA _ _),trivial,fun b hb=>absurd (show b∈([]:List Addr) from hb) (by simp),hok,.of_eq hg⟩
  refine codeAny_mono ((F _ hKb (nsK hns)).run callerA [] s₁ H ⟨[.ref a],[]⟩ [.ref a] [.ref a] _ _ hr e0 (hbind s₁ (.ref a)) (.cons rfl .nil) (hsp H hO hS)) fun r s' h=>?_
  cases r with
  | error e=>exact (hCX H e s' h).elim
  | ok fl =>
   cases fl with
   | next=>exact False.elim h
   | brk=>exact False.elim h
   | cont=>exact False.elim h
   | ret u =>
    obtain ⟨v,H',os,bare,un,hok',r',q⟩:=h
    have q':v = .bl true:=q
    subst q'
    obtain rfl:u=Value.bool true:=r'
    refine ⟨rfl,OldK.of_keep fun b o e=>?_,os,bare⟩
    cases q:H b with
    | none=>exact un.keep b o e q (by intro z;exact absurd (show b∈([]:List Addr) from z) (by simp)) (by simp)
    | some u =>
     rcases hO b with z | ⟨ob,xs,z⟩
     ·rw [q] at z;cases z
     ·have z2:=un.frzs b ob _ z
      obtain ⟨e1,_⟩:=hok b _ z
      obtain ⟨e2,_⟩:=hok' b _ z2
      rw [e] at e1;cases e1
      exact e2
 cases hk:K.lookup a with
 | some o =>
  have e:=KX a o hk
  rw [ha] at e
  cases e
  refine core (fun _=>none) (fun _=>.inl rfl) (.inr ⟨_,vs.toArray,_,hk,rfl,rfl,rfl,by rw [List.size_toArray,lenV];exact hl,by simpa using rv⟩) (fun b u z=>by have z':(none:Option HO)=some u:=z;cases z') (fun b z=>absurd rfl z) fun z=>absurd rfl z
 | none =>
  refine core (fun b=>if b=a then some (.frz { cls:=.type "list",data:=.seq vs.toArray } (.lst (ns.map V.int))) else none) (fun b=>?_) (.inl (.inr ⟨{ cls:=.type "list",data:=.seq vs.toArray },if_pos rfl⟩)) (fun b u z=>?_) (fun b z=>?_) fun _=>hk
  ·by_cases hb:b=a
   ·exact .inr ⟨_,_,if_pos hb⟩
   ·exact .inl (if_neg hb)
  ·by_cases hb:b=a
   ·have z' := (if_pos hb).symm.trans z
    cases z'
    subst hb
    exact ⟨ha,by rw [List.length_map];exact hl,vs,_,rv,ha⟩
   ·have z' := (if_neg hb).symm.trans z
    cases z'
  ·by_cases hb:b=a
   ·exact hb
   ·exact absurd (if_neg hb) z
end L2
namespace L2
open PySem PySem.Spec PyProof.Rows
theorem walk_of {l:PySem.W.OpenLaw} {n k:Nat} {q:Program} {loose:List Str} {XP:(Str->Option Value)->Heap->Prop} {YP:World->Heap->Prop} {d:DefRec} {K:Params->PySem.W.Frag} {CX:World->CXT} {sp:World->Sp} {x:Str}
  (hn:l.most=some n) (hn2:n<=sizeLine) (hdf:d.params.defaults=[]) (hr:Room k callerA)
  (hY:∀ (w:World) (h:Heap),YP w h->(K w.params).In h)
  (F:∀ (w:World) (mg:Str->Option Value) (fa:Addr) (h:Heap),(K w.params).In h->h.Ns mainGlobals mg->mg d.name=some (.ref fa) ->
   ∃ fd:FuncData,(∀ (s:Shared) (u:Value),BindsTo s fd ⟨[u],[]⟩ [(x,u)]) /\
    ∀ base:Heap,(K w.params).In base->base.Ns mainGlobals mg->FnOk l.prog w (K w.params) mg base (CX w) k fa fd [x] (sp w))
  (hsp:∀ (w:World) (H:Hp) (a:Addr) (ns:List Int),ns.length<=n->Only H->SqL (K w.params) H a (ns.map V.int)->sp w [.ref a] H (fun v _=>v = .bl true) fun _ _ _=>False)
  (hCX:∀ (w:World) (H:Hp) (s:Shared) (e:Value) (s':Shared),CX w [] H s (fun _ _ _=>False) e s'->False) :
  PySem.W.WalkO q loose XP YP l.row.toRowW d [] (fun f vs=>PySem.call f vs):=by
 refine Att.attach_call hn hdf fun w s₀ s₁ mg mb fa o pm cd doc a vs ns G Y ho hd hcd hmg hobj hints hlen hg=>?_
 have KX:=hY w _ Y
 obtain ⟨fd,hb,hF⟩:=F w mg fa _ KX G.T.g hmg
 exact zhC KX G.T.g G.T.b G.T.builtins G.T.nolimit hg hobj hints (Nat.le_trans hlen hn2) hr hF hb (fun H hO hS=>hsp w H a ns hlen hO hS) fun H e s' => hCX w H s₁ e s'
end L2
namespace L2
open PySem PySem.Spec PyProof.Rows
def ybB (s:Stmt) (j:Nat):Stmt:=match s with
 | .ClassDef _ _ _ body _ _ _ _ _ _ _=>body.getD j (.Pass ⟨0,0,0,0⟩)
 | _=>.Pass ⟨0,0,0,0⟩
def yam (s:Stmt):Arguments:=match s with
 | .FunctionDef _ a _ _ _ _ _ _ _ _=>a
 | _=>{ posonlyargs:=[],args:=[],vararg:=none,kwonlyargs:=[],kw_defaults:=[],kwarg:=none,defaults:=[] }
def yal (s:Stmt):List Stmt:=match s with
 | .FunctionDef _ _ b _ _ _ _ _ _ _=>b
 | _=>[]
def yad (s:Stmt):Scope:=match s with
 | .FunctionDef _ _ _ _ _ _ sc _ _ _=>sc
 | _=>{ kind:=.function,names:=[],isGenerator:=false,isCoroutine:=false }
abbrev E0:XK:=fun _ _ _=>False
structure Fun (K:PySem.W.Frag) (x qual:Str) (st:Stmt) (f:Addr) (fd:FuncData):Prop where
 ex:∃ (oc:Value) (od:Option Addr) (kV doc pm:Value) (an:Option Addr) (cdv ct:Value) (osl:Array (Option Value)),
  fd=PySem.W.fnOf x qual (yam st) (yal st) (yad st) .none kV doc pm an cdv ct/\K.lookup f=some ⟨oc,od,.func fd,osl⟩/\PySem.W.codeIn K cdv qual=true
 kp:PySem.W.keepIn K (.ref f)=true
section
variable {P:Program} {w:World} {K:PySem.W.Frag} {mg:Str->Option Value} {base:Heap}
theorem Fun.binds {x qual:Str} {st:Stmt} {f:Addr} {fd:FuncData} {ps:List Str} (F:Fun K x qual st f fd)
  (h:∀ (kV doc pm:Value) (an:Option Addr) (cdv ct:Value) (us:List Value),us.length=ps.length->bindArgs (PySem.W.fnOf x qual (yam st) (yal st) (yad st) .none kV doc pm an cdv ct) ⟨us,[]⟩=pure (ps.zip us)):Binds K fd ps []:=by
 obtain ⟨oc,od,kV,doc,pm,an,cdv,ct,osl,rfl,lk,hcd⟩:=F.ex
 exact .all (h kV doc pm an cdv ct)
theorem yax {x qual:Str} {st:Stmt} {f:Addr} {oc:Value} {od an:Option Addr} {osl:Array (Option Value)} {kV doc pm cdv ct:Value} (l:K.lookup f=some ⟨oc,od,.func (PySem.W.fnOf x qual (yam st) (yal st) (yad st) .none kV doc pm an cdv ct),osl⟩)
  (c:PySem.W.codeIn K cdv qual=true) (k:PySem.W.keepIn K (.ref f)=true):Fun K x qual st f (PySem.W.fnOf x qual (yam st) (yal st) (yad st) .none kV doc pm an cdv ct):=⟨⟨oc,od,kV,doc,pm,an,cdv,ct,osl,rfl,l,c⟩,k⟩
end
section
variable {X:Cx}
theorem pv (i:Nat) {x:Str} {pos:Pos} (hN:X.N[i]? = some x:=by rfl) (hv:Vis X.env.scope x:=by first | exact Or.inl rfl | exact Or.inr (Or.inl rfl) | exact Or.inr (Or.inr rfl)) (hd:(x == ("__debug__" : Str))=false:=by decide)
  (hcd:(x == ("__classdict__" : Str))=false:=by decide):PE X (.Name x pos) (tVar i):=ygw hN hv hd hcd
theorem zgS:CallR X (.builtin "len") (fun xs H Q=>∃ a kvs,xs=[V.ref a]/\H a=some (.dK kvs)/\Q (.int kvs.length) H):=by
 intro pins s σ H xs us Q I r h
 obtain ⟨a,kvs,rfl,ha,q⟩:=h
 obtain ⟨u,rfl,ru⟩:=ydq r
 cases ru
 exact yif I (.inl ha) fun t s' I' => ⟨.int kvs.length,H,I',⟨t,rfl⟩,q⟩
end
section
variable {κ:Type} [DecidableEq κ]
end
end L2
set_option maxHeartbeats 4000000
namespace L2
open PySem PySem.Spec PyProof.Rows
section
variable {X:Cx} {pins:List (Addr×Obj)} {σ:St} {H:Hp} {s:Shared} {h':Heap}
theorem Inv.turnedL {t':Nat} {fp:List Addr} (I:Inv X pins σ H s) (k:∀ b o,b∉fp->s.heap.get? b=some o->h'.get? b=some o) (hf:∀ b∈fp,FpOk X pins H b) :
  Inv X pins σ H { s with heap:=h',toks:=t' }:=by
 have nit:∀ b u,H b=some u->b∉fp:=fun b u e z=>by
  have q:=(hf b z).1
  rw [q] at e
  cases e
 refine I.step (g' := s.gens) (d' := s.drawn) (ch:=fp) (fun b hb=>?_) (fun b o _ _ hc e _=>k b o hc e) (fun b o _ _ hc e _=>⟨o.slots,k b o hc e⟩) (fun _ _ _ _ n=>n)
  (fun b o hc e=>⟨o,k b o hc e⟩) (fun _ _ e=>e) (fun _ _ _ e=>e) (fun b ps e=>⟨#[],by rw [e];simp⟩) (fun m hm=>?_) (fun b u e=>?_) I.bare
 ·obtain ⟨_,f1,_,f3,f4,f5⟩:=hf b hb
  exact ⟨f3,f1,f4,f5⟩
 ·obtain ⟨o,es,ep,ho,r⟩:=hm
  exact ⟨o,es,ep,k _ o (fun z=>(hf _ z).2.1 rfl) ho,r⟩
 ·refine (I.hok b u e).stay (fun c v hc q=>k c v ?_ q) (fun _ q=>q) fun _ _ q=>q
  rcases hc with z | z
  ·rw [z];exact nit b u e
  ·exact nit c _ z
end
section
variable {X:Cx}
end
def Its (x:Str):It:=⟨fun i _=>i<x.cps.size,fun i H v H' => H'=H/\∃ c,x.cps[i]? = some c/\v = .str ⟨#[c]⟩,fun i _=>x.cps.size<=i⟩
theorem zgT {P:Program} {w:World} {A:Around} (hh:A.handled=none) (it:Addr) (x:Str) (t:Tok) :
  Walks P w A it [it] [it] x.cps.size (SignAt x) (fun i h=>h.IsStrIter it (strIterType x) x t i):=by
 cases ha:x.cps.all (· < 128) with
 | false =>
  have e:strIterType x = "str_iterator" := by simp [strIterType,ha]
  rw [e]
  exact Walks.strWide hh it x t
 | true =>
  have e:strIterType x = "str_ascii_iterator" := by simp [strIterType,ha]
  rw [e]
  exact Walks.strAscii hh it x t
theorem zhD {P:Program} {w:World} {K:PySem.W.Frag} {y:Str} {py:Pos} (it:Addr) (x:Str) (t:Tok):Turn P w K (.Name y py) (Its x) [it] it (fun i h=>h.IsStrIter it (strIterType x) x t i) where
 mem:=by simp
 obj:=fun i h st b hb=>by
  have e:b=it:=by simpa using hb
  subst e
  obtain ⟨o,e,c,d⟩:=st
  exact ⟨o,e,fun v z=>by rw [d] at z;cases z⟩
 keep:=fun i h h' st k=>by
  obtain ⟨o,e,r⟩:=st
  exact ⟨o,k it (by simp) o e,r⟩
 item:=by
  intro X hP hw hK hc i pins s σ H E I hf st hg
  subst hP hw hK
  refine (zgT (I.ok.hd hc) it x t).item i s _ _ hg st fun v h1 tk hv st1 kk=>?_
  obtain ⟨c,u,hcp,rfl⟩:=hv
  have I1:Inv X pins σ H { s with heap:=h1,toks:=tk }:=I.turnedL (fp:=[it]) kk hf
  exact ⟨_,rfl,wpAny_pure ⟨.str ⟨#[c]⟩,H,I1,⟨u,rfl⟩,⟨rfl,c,hcp,rfl⟩,st1,fun b hb=>(hf b hb).1⟩⟩
 done:=by
  intro X hP hw hK hc i pins s σ H E I hf st hg
  subst hP hw hK
  have hx:x.cps[i]? = none:=Array.getElem?_eq_none hg
  cases ha:x.cps.all (· < 128) with
  | false =>
   have e:strIterType x = "str_iterator" := by simp [strIterType,ha]
   rw [e] at st
   exact wpAny_pyNext_wide_end (I.ok.hd hc) st hx fun h' eb=>⟨rfl,I.turnedL (fp:=[it]) (t' := s.toks) (fun b o hb q=>eb b o (fun z=>hb (by simp [z])) q) hf⟩
  | true =>
   have e:strIterType x = "str_ascii_iterator" := by simp [strIterType,ha]
   rw [e] at st
   exact wpAny_pyNext_ascii_end (I.ok.hd hc) st hx fun h' eb=>⟨rfl,I.turnedL (fp:=[it]) (t' := s.toks) (fun b o hb q=>eb b o (fun z=>hb (by simp [z])) q) hf⟩
 self:=fun A i s Q E st h=>by
  cases ha:x.cps.all (· < 128) with
  | false =>
   have e:strIterType x = "str_iterator" := by simp [strIterType,ha]
   rw [e] at st
   exact wpAny_pyIter_striter_wide st h
  | true =>
   have e:strIterType x = "str_ascii_iterator" := by simp [strIterType,ha]
   rw [e] at st
   exact wpAny_pyIter_striter_ascii st h
section
variable {X:Cx}
def iStr (tl:TE):TI:=fun σ H R=>tl σ H fun x H1=>∃ t,x = .str t/\R (Its t) H1
theorem yg4 {l:Expr} {tl:TE} {y:Str} {py:Pos} (hl:PE X l tl):PI X (.Name y py) l (iStr tl):=by
 intro pins s σ H R I h
 refine thn (hl pins s σ H _ I h) fun v s1 ⟨x,H1,I1,r1,q1⟩=>?_
 obtain ⟨t,e,q⟩:=q1
 subst e
 obtain ⟨tk,rfl⟩:=r1
 refine wpAny_pyIter_strU ?_
 refine ⟨s1.heap.objs.size,[s1.heap.objs.size],_,_,H1,rfl,I1.kept (t' := s1.toks) fun b o e=>Heap.get?_push_of_some _ e,zhD _ t tk,⟨_,Heap.get?_push_size _ rfl,rfl,rfl⟩,fun b hb=>?_,q⟩
 have e:b=s1.heap.objs.size:=by simpa using hb
 subst e
 exact I1.fpOk (Nat.le_refl _) (I1.hok.fresh (Nat.le_refl _))
end
def yaZ (env:Env):List (Str×NameKind)->List (Str×Addr)->List (Str×Addr)
 | [],acc=>acc
 | (n,k)::r,acc=>yaZ env r (if k = .free then (n,(env.cells.lookup n).getD 0)::acc else acc)
theorem zgk {env:Env} {scope:Scope} (h:∀ y∈scope.names,y.2 = .free->(env.cells.lookup y.1).isSome=true):closureFor scope env=pure (yaZ env scope.names []):=by
 have all:∀ (l:List (Str×NameKind)) (acc:List (Str×Addr)),(∀ y∈l,y.2 = .free->(env.cells.lookup y.1).isSome=true) ->
   (forIn l acc fun (x:Str×NameKind) (cs:List (Str×Addr))=>if (x.2 == NameKind.free)=true then (do let a <- cellOf env x.1;pure (ForInStep.yield ((x.1,a)::cs))) else (pure (ForInStep.yield cs):Sem _))=pure (yaZ env l acc):=by
  intro l
  induction l with
  | nil=>intro acc _;rfl
  | cons y r ih =>
   intro acc hl
   obtain ⟨n,k⟩:=y
   rw [List.forIn_cons]
   have hr:=fun z hz=>hl z (List.mem_cons_of_mem _ hz)
   by_cases hk:k = .free
   ·subst hk
    obtain ⟨c,hc⟩:=Option.isSome_iff_exists.mp (hl (n,.free) List.mem_cons_self rfl)
    have e1:cellOf env n=pure c:=by
     simp only [cellOf]
     have hc':env.cells.lookup n=some c:=hc
     rw [hc']
    simp only [beq_self_eq_true,if_true,e1,pure_bind,yaZ]
    have hc':env.cells.lookup n=some c:=hc
    rw [hc']
    exact ih _ hr
   ·have hb:(k == NameKind.free)=false:=by simpa using hk
    simp only [hb,Bool.false_eq_true,if_false,pure_bind,yaZ,hk]
    exact ih _ hr
 unfold closureFor
 have q:=all scope.names [] h
 first
  | exact q
  | (simp only [bind_pure];exact q)
  | (rw [<- q];simp)
theorem zc0 {env:Env}:∀ {l:List (Str×NameKind)} {acc:List (Str×Addr)},(∀ y∈l,y.2 = .free->(env.cells.lookup y.1).isSome=true)->(∀ y c,acc.lookup y=some c->env.cells.lookup y=some c) ->
  ∀ y c,(yaZ env l acc).lookup y=some c->env.cells.lookup y=some c
 | [],_,_,h,y,c,e=>h y c e
 | (n,k)::r,acc,hl,h,y,c,e=>by
  refine zc0 (l:=r) (fun z hz=>hl z (List.mem_cons_of_mem _ hz)) ?_ y c e
  intro y c e
  by_cases hk:k = .free
  ·rw [if_pos hk] at e
   rw [List.lookup_cons] at e
   cases hy:y == n with
   | true =>
    rw [hy] at e
    have e':y=n:=by simpa using hy
    obtain ⟨c',hc'⟩:=Option.isSome_iff_exists.mp (hl (n,k) List.mem_cons_self hk)
    have hc'':env.cells.lookup n=some c' := hc'
    rw [hc''] at e
    rw [e',hc'']
    exact e
   | false =>
    rw [hy] at e
    exact h y c e
  ·rw [if_neg hk] at e
   exact h y c e
theorem zc1 {env:Env}:∀ {l:List (Str×NameKind)} {acc:List (Str×Addr)} {y:Str},(y,NameKind.free)∈l\/(acc.lookup y).isSome=true->((yaZ env l acc).lookup y).isSome=true
 | [],_,_,h=>by
  rcases h with h | h
  ·cases h
  ·exact h
 | (n,k)::r,acc,y,h=>by
  refine zc1 (l:=r) ?_
  rcases h with h | h
  ·rcases List.mem_cons.mp h with e | e
   ·right
    cases e
    rw [if_pos rfl,List.lookup_cons]
    simp
   ·exact .inl e
  ·right
   by_cases hk:k = .free
   ·rw [if_pos hk,List.lookup_cons]
    cases hy:y == n with
    | true=>rfl
    | false=>exact h
   ·rw [if_neg hk];exact h
theorem zaK {names:List (Str×NameKind)} {x:Str} {k:NameKind} (h:names.lookup x=some k):(x,k)∈names:=PySem.mem_of_lookup h
theorem zaX {env:Env} {x:Str} {k:NameKind}:∀ {names:List (Str×NameKind)},(names.map fun (n,k)=>if (k == NameKind.free && env.scope.kind == .function && env.kindOf n == some .cell) then (n,NameKind.cell) else (n,k)).lookup x=some k ->
  names.lookup x=some k\/(k = .cell/\names.lookup x=some .free)
 | [],h=>by simp at h
 | (n,kk)::r,h=>by
  have ih:=@zaX env x k r
  by_cases hc:(kk == NameKind.free && env.scope.kind == .function && env.kindOf n == some .cell)=true
  ·have hf:kk = .free:=by
    have q:=(Bool.and_eq_true _ _).mp ((Bool.and_eq_true _ _).mp hc).1
    simpa using q.1
   subst hf
   have h':List.lookup x ((n,NameKind.cell)::(r.map fun (n,k)=>if (k == NameKind.free && env.scope.kind == .function && env.kindOf n == some .cell) then (n,NameKind.cell) else (n,k)))=some k:=by
    have e:(fun (p:Str×NameKind)=>match p with | (n,k)=>if (k == NameKind.free && env.scope.kind == .function && env.kindOf n == some .cell)=true then (n,NameKind.cell) else (n,k)) (n,NameKind.free)=(n,NameKind.cell):=by
     show (if _ then _ else _)=_
     rw [if_pos hc]
    rw [List.map_cons] at h
    rw [<- e]
    exact h
   rw [List.lookup_cons] at h' ⊢
   cases hx:x == n with
   | true =>
    rw [hx] at h'
    right
    exact ⟨(Option.some.inj h').symm,rfl⟩
   | false =>
    rw [hx] at h'
    exact ih h'
  ·have h':List.lookup x ((n,kk)::(r.map fun (n,k)=>if (k == NameKind.free && env.scope.kind == .function && env.kindOf n == some .cell) then (n,NameKind.cell) else (n,k)))=some k:=by
    have e:(fun (p:Str×NameKind)=>match p with | (n,k)=>if (k == NameKind.free && env.scope.kind == .function && env.kindOf n == some .cell)=true then (n,NameKind.cell) else (n,k)) (n,kk)=(n,kk):=by
     show (if _ then _ else _)=_
     rw [if_neg hc]
    rw [List.map_cons] at h
    rw [<- e]
    exact h
   rw [List.lookup_cons] at h' ⊢
   cases hx:x == n with
   | true =>
    rw [hx] at h'
    exact .inl h'
   | false =>
    rw [hx] at h'
    exact ih h'
def ybd (X:Cx) (pins:List (Addr×Obj)) (x₁:Str) (jf:List (Nat×Str)) (scope:Scope) (cl:List (Str×Addr)) (s:Shared) (H:Hp) (fp:List Addr):Cx where
 prog:=X.prog
 w:=X.w
 K:=X.K
 mg:=X.mg
 base:=X.base
 A:=X.A
 N:=x₁::jf.map (·.2)
 s₀:=s
 H₀:=H
 env:=compEnvC scope cl s.heap.objs.size X.env
 outer:=X.stack
 stack:=X.stack
 ex:=fp
 fn:=fun _=>false
 calm:=X.calm
 pn:=X.pn++pins
 xe:=fun _ _=>False
def ybW (v:Option V) (js:List (Nat×Str)) (σ:St):St:=v::js.map fun j=>(σ[j.1]?).join
def PTs (X:Cx) (ifs:List Expr) (t:TT):Prop :=
 ∀ (pins:List (Addr×Obj)) (s:Shared) (σ:St) (H:Hp) (Q:Bool->Hp->Prop),Inv X pins σ H s->t σ H Q ->
  wpAny (model X.prog X.w) X.A (forIn ifs true fun c r=>if r=true then do let ok <- isTrue c X.env (eval c X.env);pure (ForInStep.yield ok) else pure (ForInStep.yield r)) (TP X pins σ Q) X.xe s
def tYes:TT:=fun _ H Q=>Q true H
theorem ziH {X:Cx}:PTs X [] tYes:=fun pins s σ H Q I h=>wpAny_tests_nil ⟨H,I,h⟩
def yej (jf:List (Nat×Str)) (wi:TI) (tc:TT) (te:TE):TE:=fun σ H Q=>wi σ H fun J H1=>∀ D,H1 D=none->∃ W:Nat->Nat->List V->Hp->Prop,(∃ m,W 0 m [] (upd H1 D (.lst []))) /\
 ∀ i m ys H2,W i m ys H2->H2 D=some (.lst ys)/\((J.stop i H2/\Q (.ref D) H2)\/(J.go i H2/\ys.length<sizeLine/\∀ x H3,J.yld i H2 x H3->tc (ybW (some x) jf σ) H3 fun b H5 =>
  if b=true then te (ybW (some x) jf σ) H5 fun v H6=>H6 D=some (.lst ys)/\∃ m',m'<m/\W (i+1) m' (ys++[v]) (upd H6 D (.lst (ys++[v]))) else ∃ m',m'<m/\W (i+1) m' ys H5))
section
variable {X:Cx} {pins:List (Addr×Obj)} {σ:St} {H:Hp} {s:Shared} {x₁:Str} {jf:List (Nat×Str)} {scope:Scope} {fp:List Addr}
theorem Inv.block {h1:Heap} {tk:Nat} (I:Inv X pins σ H s) (hf:∀ b∈fp,FpOk X pins H b) (hlt:∀ b∈fp,b<s.heap.objs.size) (hjf:∀ p∈jf,X.N[p.1]? = some p.2) (hjl:∀ p∈jf,scope.names.lookup p.2=some .free) (hkind:scope.kind = .function)
  (hcell:∀ y∈scope.names,y.2 ≠ .cell) (hfr:∀ y∈scope.names,y.2 = .free->X.env.kindOf y.1=some .cell\/X.env.kindOf y.1=some .free)
  (hn:h1.Ns s.heap.objs.size (fun _=>none)) (hk:∀ b o,s.heap.get? b=some o->h1.get? b=some o) :
  Inv (ybd X pins x₁ jf scope (yaZ X.env scope.names []) s H fp) [] (ybW none jf σ) H { s with heap:=h1,toks:=tk }:=by
 have hsome:∀ y∈scope.names,y.2 = .free->(X.env.cells.lookup y.1).isSome=true:=fun y hy hyf=>Option.isSome_iff_exists.mpr (I.ok.has y.1 (hfr y hy hyf))
 have sub:∀ y c,(yaZ X.env scope.names []).lookup y=some c->X.env.cells.lookup y=some c:=zc0 hsome (fun y c e=>by simp at e)
 have hsz:=I.sz
 have inE:∀ b,b∈(ybd X pins x₁ jf scope (yaZ X.env scope.names []) s H fp).ex->b∈fp:=fun b z=>z
 have stk:∀ b∈frs X.stack,b<s.heap.objs.size:=fun b hb=>by
  obtain ⟨_,o,ho,_⟩:=I.stack.mem hb
  exact Heap.lt_size ho
 refine ⟨⟨I.ok.mod,hkind,I.ok.glob,I.ok.blt,Nat.le_refl _,fun y z c e1 e2=>I.ok.inj y z c (sub y c e1) (sub z c e2),fun y hy=>?_,fun y c hfn _=>(by cases hfn),I.ok.hd,I.ok.frames,.inl rfl,fun b hb=>?_,fun b o e=>I.bs b o e,Nat.le_trans I.ok.bsz hsz,fun b o e z=>?_,fun b hb z=>?_,I.stack,I.stkFree⟩,
  rfl,I.bare,Un.kept hk,⟨_,hn,fun i y v e1 e2 e3=>?_⟩,fun y c e=>?_,I.hok.fresh (Nat.le_refl _),fun y c e=>I.freeC y c (sub y c e),fun p hp=>?_,I.hok.kept hk,?_⟩
 ·have hy':(relabel scope X.env).names.lookup y=some .cell\/(relabel scope X.env).names.lookup y=some .free:=hy
  have mem:(y,NameKind.free)∈scope.names:=by
   rcases hy' with q | q
   ·rcases zaX (env:=X.env) q with z | z
    ·exact absurd rfl (hcell _ (zaK z))
    ·exact zaK z.2
   ·rcases zaX (env:=X.env) q with z | z
    ·exact zaK z
    ·exact zaK z.2
  exact Option.isSome_iff_exists.mp (zc1 (.inl mem))
 ·exact ⟨Nat.ne_of_lt (hlt b hb),fun y c e=>(hf b hb).2.2.2.2.1 y c (sub y c e)⟩
 ·rcases (hf b z).2.2.2.1 with q | q
  ·exact I.ok.noex b o e q
  ·exact absurd (Nat.lt_of_lt_of_le (Heap.lt_size e) (Nat.le_trans I.ok.bsz q)) (Nat.lt_irrefl _)
 ·rcases List.mem_cons.mp (I.stkSub b z) with q | q
  ·exact (hf b hb).2.1 q
  ·exact (hf b hb).2.2.1 q
 ·have e1':(x₁::jf.map (·.2))[i]? = some y:=e1
  unfold ybW at e2
  cases i with
  | zero=>cases e2
  | succ i =>
   rw [List.getElem?_cons_succ,List.getElem?_map] at e1' e2
   cases q:jf[i]? with
   | none=>rw [q] at e2;cases e2
   | some p =>
    rw [q] at e1' e2
    have ey:p.2=y:=Option.some.inj e1'
    have ev:(σ[p.1]?).join=some v:=Option.some.inj e2
    have hp:p∈jf:=List.mem_of_getElem? q
    have eσ:σ[p.1]? = some (some v):=by
     cases z:σ[p.1]? with
     | none=>rw [z] at ev;cases ev
     | some r=>rw [z] at ev;rw [show r=some v from ev]
    have hfree:scope.names.lookup y=some .free:=by rw [<- ey];exact hjl p hp
    have mem:=zaK hfree
    have kX:=hfr _ mem rfl
    obtain ⟨m,hnX,hl⟩:=I.loc
    obtain ⟨u,ru,lk⟩:=hl p.1 y v (by rw [<- ey];exact hjf p hp) eσ (by
     rcases kX with z | z
     ·exact .inr (.inl z)
     ·exact .inr (.inr z))
    refine ⟨u,ru,.inr ⟨?_,?_⟩⟩
    ·have e3':Vis (relabel scope X.env) y:=e3
     rcases e3' with z | z | z
     ·exfalso
      rcases zaX (env:=X.env) z with q | q
      ·rw [hfree] at q;cases q
      ·cases q.1
     ·exact .inl z
     ·exact .inr z
    ·rcases lk with ⟨z,_⟩ | ⟨_,c,hc,hcell'⟩
     ·exfalso
      rcases kX with q | q
      ·rw [show X.env.kindOf y=some .cell from q] at z;cases z
      ·rw [show X.env.kindOf y=some .free from q] at z;cases z
     ·obtain ⟨c',hc'⟩:=Option.isSome_iff_exists.mp (zc1 (env:=X.env) (acc:=[]) (.inl mem))
      have e:=sub y c' hc'
      rw [hc] at e
      cases e
      obtain ⟨o,ho,hd⟩:=hcell'
      exact ⟨c,hc',o,hk c o ho,hd⟩
 ·obtain ⟨v,o,ho,hd⟩:=I.cell y c (sub y c e)
  exact ⟨v,o,hk c o ho,hd⟩
 ·have hp':p∈X.pn++pins:=by simpa [ybd] using hp
  obtain ⟨e,n,ne,nf,d⟩:=I.pin p hp'
  refine ⟨hk _ _ e,n,Nat.ne_of_lt (Heap.lt_size e),fun z=>?_,d⟩
  rcases List.mem_cons.mp (I.stkSub p.1 z) with q | q
  ·exact ne q
  ·exact nf q
 ·unfold ybW
  show _=(x₁::jf.map (·.2)).length
  rw [List.length_cons,List.length_cons,List.length_map,List.length_map]
end
theorem zej {prog:Program} {w:World} {A:Around} {R:Result->Shared->Prop} {s:Shared} {elt target iter:Expr} {ifs:List Expr} {scope:Scope} {pos:Pos} {it acc:Value} {env:Env} (I:Nat->Shared->Prop)
  (turn:∀ n s,I n s->wpAny (model prog w) A (pyNext it) (fun r s₁=>match r with
   | none=>R (.ok .next) s₁
   | some v=>wpAny (model prog w) A (letOwnedTupleGo target it v) (fun _ s₂=>wpAny (model prog w) A (assign target env v) (fun _ s₃ =>
     wpAny (model prog w) A (forIn ifs true fun c r=>if r=true then do let ok <- isTrue c env (eval c env);pure (ForInStep.yield ok) else pure (ForInStep.yield r)) (fun ok s₄ =>
      if ok=true then wpAny (model prog w) A (eval elt env) (fun x s₅=>wpAny (model prog w) A (call (.builtin "list.append") [acc,x]) (fun _ s₆=>∃ m,m<n/\I m s₆) (fun _ _=>False) s₅) (fun _ _=>False) s₄
      else ∃ m,m<n/\I m s₄) (fun _ _=>False) s₃) (fun _ _=>False) s₂) (fun _ _=>False) s₁) (fun _ _=>False) s)
  (n:Nat) (h:I n s):codeAny (model prog w) A (.compLoop (.ListComp elt [⟨target,iter,ifs,0⟩] scope pos) 0 it acc env) R s:=by
 refine codeAny_loop rfl I (fun n s hI=>?_) n h
 show wpAny _ A ((compTurn (.ListComp elt [⟨target,iter,ifs,0⟩] scope pos) 0 it acc env).onRaise (fun x=>do noteFrame x env;theTreesLotGoes x)) _ _ s
 refine wpAny_noted ?_
 rw [compTurn_list]
 refine wpAny_bind (wpAny_standAt (wpAny_bind (wpAny_mono (turn n s hI) (fun r s₁ h₁=>?_) fun _ _ z=>z.elim)))
 cases r with
 | none=>exact wpAny_pure h₁
 | some v =>
  refine wpAny_bind (wpAny_mono h₁ (fun _ s₂ h₂=>?_) fun _ _ z=>z.elim)
  refine wpAny_bind (wpAny_mono h₂ (fun _ s₃ h₃=>wpAny_bind (wpAny_mono h₃ (fun ok s₄ h₄=>?_) fun _ _ z=>z.elim)) fun _ _ z=>z.elim)
  cases ok with
  | false=>exact wpAny_pure ⟨rfl,h₄⟩
  | true =>
   exact wpAny_bind (wpAny_bind (wpAny_mono h₄ (fun x s₅ h₅=>wpAny_bind (wpAny_mono h₅ (fun _ s₆ h₆=>wpAny_pure (wpAny_pure ⟨rfl,h₆⟩)) fun _ _ z=>z.elim)) fun _ _ z=>z.elim))
section
variable {X:Cx} {x₁:Str} {px:Pos} {jf:List (Nat×Str)} {scope:Scope} {iter elt:Expr} {ifs:List Expr} {pos:Pos} {wi:TI} {tc:TT} {te:TE}
theorem zek (hcalm:X.calm=true) (hi:PI X (.Name x₁ px) iter wi) (hc:∀ pins cl s H fp,PTs (ybd X pins x₁ jf scope cl s H fp) ifs tc) (he:∀ pins cl s H fp,PE (ybd X pins x₁ jf scope cl s H fp) elt te)
  (hN:(x₁::jf.map (·.2)).Nodup) (hx:scope.names.lookup x₁=some .local) (hjf:∀ p∈jf,X.N[p.1]? = some p.2) (hjl:∀ p∈jf,scope.names.lookup p.2=some .free) (hkind:scope.kind = .function)
  (hcell:∀ y∈scope.names,y.2 ≠ .cell) (hfr:∀ y∈scope.names,y.2 = .free->X.env.kindOf y.1=some .cell\/X.env.kindOf y.1=some .free)
  (hnames:∀ y∈scope.names,y.2 = .local->scope.names.lookup y.1=some .local) {use:Option (Value->Sem Unit)} {Qf:Value->Shared->Prop} {cpos:Pos}
  {pins:List (Addr×Obj)} {σ:St} {H:Hp} {s:Shared} {Q:VK} (I:Inv X pins σ H s) (h:yej jf wi tc te σ H Q)
  (fin:∀ D C s6 H6 m6,Inv X pins σ H6 s6->Q (.ref D) H6->FpOk X pins H6 C->s6.heap.Ns C m6->compPost (model X.prog X.w) X.A X.xe use Qf (.ref D) C (.ok .next) s6) (hs:∀ x,foldedSetIterable iter X.env x=pure x) :
  wpAny (model X.prog X.w) X.A (comprehension (.ListComp elt [⟨.Name x₁ px,iter,ifs,0⟩] scope pos) scope X.env cpos (newList []) false (eval iter X.env) use) Qf X.xe s:=by
 have hsome:∀ y∈scope.names,y.2 = .free->(X.env.cells.lookup y.1).isSome=true:=fun y hy hyf=>Option.isSome_iff_exists.mpr (I.ok.has y.1 (hfr y hy hyf))
 refine wpAny_comprehension_free (use:=use) rfl hs (zgk hsome) hkind hnames (thn (hi pins s σ H _ I h) fun xv s1 h1=>thn h1 fun itv s2 h2=>?_)
 obtain ⟨it,fp,tn,J,H2,e,I2,T,st2,f2,h⟩:=h2
 subst e
 refine wpAny_newObj_type (wpAny_newFunctionEnv hcell (by intro y hy;simp at hy) (fun h₁ hns₁ hsb₁=>?_) hkind)
 have hD0:H2 s2.heap.objs.size=none:=I2.hok.fresh (Nat.le_refl _)
 obtain ⟨W,⟨m0,w0⟩,step⟩:=h s2.heap.objs.size hD0
 dsimp only at hns₁ hsb₁ ⊢
 have I3:Inv X pins σ (upd H2 s2.heap.objs.size (.lst [])) { s2 with heap:=s2.heap.push { cls:=.type "list",dict:=none,data:=.seq ([]:List Value).toArray } } :=
  I2.laid (t' := s2.toks) (fun b u q=>Heap.get?_push_of_some _ q) (Nat.le_refl _) ⟨Nat.zero_le _,[],0,.nil,Heap.get?_push_size _ rfl⟩
 generalize hH3:s2.heap.push { cls:=.type "list",dict:=none,data:=.seq ([]:List Value).toArray }=hp3 at hns₁ hsb₁ I3 ⊢
 have hsz3:hp3.objs.size=s2.heap.objs.size+1:=by rw [<- hH3,Heap.size_push]
 have k23:∀ b o,s2.heap.get? b=some o->hp3.get? b=some o:=fun b o q=>by rw [<- hH3];exact Heap.get?_push_of_some _ q
 have flt:∀ b∈fp,b<s2.heap.objs.size:=fun b hb=>by
  obtain ⟨o,q,_⟩:=T.obj 0 _ st2 b hb
  exact Heap.lt_size q
 have f3:∀ b∈fp,FpOk X pins (upd H2 s2.heap.objs.size (.lst [])) b:=fun b hb=>by
  obtain ⟨g0,g⟩:=f2 b hb
  exact ⟨by rw [yaT (Nat.ne_of_lt (flt b hb))];exact g0,g⟩
 have kC:∀ b o,hp3.get? b=some o->h₁.get? b=some o:=fun b o q=>(hsb₁.2 b (Nat.ne_of_lt (Heap.lt_size q))).trans (Heap.get?_push_of_some _ q)
 have B0:=I3.block (x₁:=x₁) (jf:=jf) (scope:=scope) (fp:=fp) (h1:=h₁) (tk:=s2.toks+([]:List (Str×Value)).length) f3 (fun b hb=>by show b<hp3.objs.size;rw [hsz3];exact Nat.lt_succ_of_lt (flt b hb)) hjf hjl hkind hcell hfr (by simpa using hns₁) kC
 have st4:tn 0 h₁:=T.keep _ _ _ st2 fun b _ o q=>kC b o (k23 b o q)
 have w0' := w0
 have stat:∀ {H':Hp},(∀ b∈fp,H' b=none)->∀ b∈fp,FpOk (ybd X pins x₁ jf scope (yaZ X.env scope.names []) { s2 with heap:=hp3 } (upd H2 s2.heap.objs.size (.lst [])) fp) [] H' b:=fun hn b hb=>by
  obtain ⟨_,g1,g2,g3,g4,g5⟩:=f2 b hb
  refine ⟨hn b hb,Nat.ne_of_lt (by show b<hp3.objs.size;rw [hsz3];exact Nat.lt_succ_of_lt (flt b hb)),fun z=>?_,.inl hb,fun y c q=>g4 y c (zc0 hsome (fun y c e=>by simp at e) y c q),fun p hp=>g5 p (by simpa [ybd] using hp)⟩
  rcases List.mem_cons.mp (I2.stkSub b z) with q | q
  ·exact g1 q
  ·exact g2 q
 have loop:codeAny (model X.prog X.w) X.A (.compLoop (.ListComp elt [⟨.Name x₁ px,iter,ifs,0⟩] scope pos) 0 (.ref it) (.ref s2.heap.objs.size) (compEnvC scope (yaZ X.env scope.names []) hp3.objs.size X.env))
   (compPost (model X.prog X.w) X.A X.xe use Qf (.ref s2.heap.objs.size) hp3.objs.size) { s2 with heap:=h₁,toks:=s2.toks+([]:List (Str×Value)).length }:=by
  refine zej (fun n s' => ∃ i ys H',Inv (ybd X pins x₁ jf scope (yaZ X.env scope.names []) { s2 with heap:=hp3 } (upd H2 s2.heap.objs.size (.lst [])) fp) [] (ybW none jf σ) H' s'/\tn i s'.heap/\(∀ b∈fp,H' b=none)/\W i n ys H') ?_ m0
   ⟨0,[],_,B0,st4,fun b hb=>(f3 b hb).1,w0⟩
  rintro n s5 ⟨i,ys,H5,I5,st5,fr5,w5⟩
  obtain ⟨hD5,alt⟩:=step i n ys H5 w5
  rcases alt with ⟨stop,q5⟩ | ⟨go,hlen,next⟩
  ·refine wpAny_mono (T.done (ybd X pins x₁ jf scope (yaZ X.env scope.names []) { s2 with heap:=hp3 } (upd H2 s2.heap.objs.size (.lst [])) fp) rfl rfl rfl hcalm i [] s5 _ H5 (fun _ _=>False) I5 (stat fr5) st5 stop) (fun r s6 ⟨hr,I6⟩=>?_) fun _ _ z=>z
   subst hr
   obtain ⟨m6,hn6,_⟩:=id I6.loc
   refine fin _ _ s6 H5 m6 ?_ q5 (I3.fpOk (Nat.le_refl _) I6.free) hn6
   refine I3.call' (ch:=fp) I6.os I6.base I6.hok I6.bare (fun b hb=>?_)
   obtain ⟨_,g1,g2,g3,g4,g5⟩:=f2 b hb
   exact ⟨g3,g1,g4,g5⟩
  ·refine wpAny_mono (T.item (ybd X pins x₁ jf scope (yaZ X.env scope.names []) { s2 with heap:=hp3 } (upd H2 s2.heap.objs.size (.lst [])) fp) rfl rfl rfl hcalm i [] s5 _ H5 (fun _ _=>False) I5 (stat fr5) st5 go) (fun r s6 ⟨u,hr,h6⟩=>?_) fun _ _ z=>z
   subst hr
   refine wpAny_mono h6 (fun _ s7 ⟨x,H7,I7,r7,y7,st7,fr7⟩=>?_) fun _ _ z=>z
   have I7' := I7.pinned (stat fr7) (T.obj _ _ st7)
   have hloc:Loc (ybd X pins x₁ jf scope (yaZ X.env scope.names []) { s2 with heap:=hp3 } (upd H2 s2.heap.objs.size (.lst [])) fp).env.scope x₁:=.inl (lookup_relabel_local hx)
   refine wpAny_assign_Name (zcX (i:=0) I7' hN rfl hloc r7 (fun s8 I8=>?_) (.inr (lookup_relabel_local hx)))
   have q8:=next x H7 y7
   have I8':Inv (ybd X pins x₁ jf scope (yaZ X.env scope.names []) { s2 with heap:=hp3 } (upd H2 s2.heap.objs.size (.lst [])) fp) ([]++ydp fp s7.heap) (ybW (some x) jf σ) H7 s8:=I8
   have again:∀ {s9:Shared} {H9:Hp} {zs:List V} {m':Nat},Inv (ybd X pins x₁ jf scope (yaZ X.env scope.names []) { s2 with heap:=hp3 } (upd H2 s2.heap.objs.size (.lst [])) fp) ([]++ydp fp s7.heap) (ybW (some x) jf σ) H9 s9->m'<n->W (i+1) m' zs H9 ->
     ∃ m,m<n/\∃ i ys H',Inv (ybd X pins x₁ jf scope (yaZ X.env scope.names []) { s2 with heap:=hp3 } (upd H2 s2.heap.objs.size (.lst [])) fp) [] (ybW none jf σ) H' s9/\tn i s9.heap/\(∀ b∈fp,H' b=none)/\W i m ys H' := fun {s9 H9 zs m'} I9 hm w9=>by
    refine ⟨m',hm,i+1,zs,H9,I9.unpinned.weak (by simp [ybW]) (fun j v e=>?_),T.keep _ _ _ st7 fun b hb o e=>(I9.pin (b,o) (List.mem_append_right _ (List.mem_append_right _ (zbm hb e)))).1,fun b hb=>?_,w9⟩
    ·cases j with
     | zero=>simp [ybW] at e
     | succ j=>simpa [ybW] using e
    ·obtain ⟨o,e,d⟩:=T.obj _ _ st7 b hb
     exact (I9.pin (b,o) (List.mem_append_right _ (List.mem_append_right _ (zbm hb e)))).2.1
   refine wpAny_mono (hc pins _ _ _ fp ([]++ydp fp s7.heap) s8 _ H7 _ I8' q8) (fun ok s9 ⟨H9,I9,q9⟩=>?_) fun _ _ z=>z
   cases ok with
   | false =>
    rw [if_neg Bool.false_ne_true] at q9 ⊢
    obtain ⟨m',hm,w9⟩:=q9
    exact again I9 hm w9
   | true =>
    rw [if_pos rfl] at q9 ⊢
    refine wpAny_mono (he pins _ _ _ fp ([]++ydp fp s7.heap) s9 _ H9 _ I9 q9) (fun y s10 ⟨v,H10,I10,r10,hD10,m',hm,w10⟩=>?_) fun _ _ z=>z
    refine wpAny_mono (zdM (X:=(ybd X pins x₁ jf scope (yaZ X.env scope.names []) { s2 with heap:=hp3 } (upd H2 s2.heap.objs.size (.lst [])) fp)) ([]++ydp fp s7.heap) s10 (ybW (some x) jf σ) H10 (.ref s2.heap.objs.size) [v] (.ref s2.heap.objs.size) [y] (fun _ H' => H'=upd H10 s2.heap.objs.size (.lst (ys++[v]))) I10 rfl (.cons r10 .nil) ⟨_,ys,v,rfl,rfl,hD10,hlen,rfl⟩)
     (fun _ s11 ⟨_,H11,I11,_,e11⟩=>?_) fun _ _ z=>z
    subst e11
    exact again I11 hm w10
 exact codeAny_compStart_list loop (T.self _ 0 _ _ _ st4 loop)
theorem zff (hcalm:X.calm=true) (hi:PI X (.Name x₁ px) iter wi) (hc:∀ pins cl s H fp,PTs (ybd X pins x₁ jf scope cl s H fp) ifs tc) (he:∀ pins cl s H fp,PE (ybd X pins x₁ jf scope cl s H fp) elt te)
  (hN:(x₁::jf.map (·.2)).Nodup) (hx:scope.names.lookup x₁=some .local) (hjf:∀ p∈jf,X.N[p.1]? = some p.2) (hjl:∀ p∈jf,scope.names.lookup p.2=some .free) (hkind:scope.kind = .function)
  (hcell:∀ y∈scope.names,y.2 ≠ .cell) (hfr:∀ y∈scope.names,y.2 = .free->X.env.kindOf y.1=some .cell\/X.env.kindOf y.1=some .free)
  (hnames:∀ y∈scope.names,y.2 = .local->scope.names.lookup y.1=some .local) (hs:∀ x,foldedSetIterable iter X.env x=pure x:=by intro _;rfl) :
  PE X (.ListComp elt [⟨.Name x₁ px,iter,ifs,0⟩] scope pos) (yej jf wi tc te):=by
 intro pins s σ H Q I h
 rw [eval_ListComp]
 refine zek hcalm hi hc he hN hx hjf hjl hkind hcell hfr hnames (use:=none) (Qf:=EP X pins σ Q) I h (fun D C s6 H6 m6 I6 q6 f6 n6=>?_) hs
 refine ⟨m6,n6,fun h' hs' => ⟨.ref D,H6,?_,rfl,q6⟩⟩
 exact I6.turnedL (fp:=[C]) (t' := s6.toks) (fun b o hb q=>(hs'.2 b (fun z=>hb (by simp [z]))).trans q) (fun b hb=>by
  have e:b=C:=by simpa using hb
  subst e
  exact f6)
theorem ziI {y:Str} {py spos:Pos} {i:Nat} (hcalm:X.calm=true) (hi:PI X (.Name x₁ px) iter wi) (hc:∀ pins cl s H fp,PTs (ybd X pins x₁ jf scope cl s H fp) ifs tc) (he:∀ pins cl s H fp,PE (ybd X pins x₁ jf scope cl s H fp) elt te)
  (hN:(x₁::jf.map (·.2)).Nodup) (hx:scope.names.lookup x₁=some .local) (hjf:∀ p∈jf,X.N[p.1]? = some p.2) (hjl:∀ p∈jf,scope.names.lookup p.2=some .free) (hkind:scope.kind = .function)
  (hcell:∀ y∈scope.names,y.2 ≠ .cell) (hfr:∀ y∈scope.names,y.2 = .free->X.env.kindOf y.1=some .cell\/X.env.kindOf y.1=some .free)
  (hnames:∀ y∈scope.names,y.2 = .local->scope.names.lookup y.1=some .local) (hNX:X.N.Nodup) (hi':X.N[i]? = some y) (hy:X.env.scope.names.lookup y=some .local)
  (hsw:swapsWith (.ListComp elt [⟨.Name x₁ px,iter,ifs,0⟩] scope pos) (some (.Name y py)) spos.line X.env=pure true) (hs:∀ x,foldedSetIterable iter X.env x=pure x:=by intro _;rfl) :
  PS X (.Assign [.Name y py] (.ListComp elt [⟨.Name x₁ px,iter,ifs,0⟩] scope pos) spos) (tAsg (yej jf wi tc te) (yeJ i)):=by
 intro pins s σ H D I h
 rw [exec_Assign_Name_used _ _ _ _ hsw]
 refine wpAny_bind (wpAny_standAt (wpAny_bind ?_))
 show wpAny _ X.A (do let _ <- comprehension (.ListComp elt [⟨.Name x₁ px,iter,ifs,0⟩] scope pos) scope X.env _ (newList []) false (eval iter X.env) (some (assign (.Name y py) X.env))) _ _ s
 refine wpAny_bind (wpAny_mono (zek (Qf:=fun _ s' => SP X pins D .next s') hcalm hi hc he hN hx hjf hjl hkind hcell hfr hnames (use:=some (assign (.Name y py) X.env)) I h (fun D' C s6 H6 m6 I6 q6 f6 n6=>?_) hs) (fun _ s' hq=>wpAny_pure (wpAny_pure hq)) fun _ _ e=>e)
 refine wpAny_assign_Name (zdG I6 hNX hi' (.inl hy) (v:=.ref D') rfl (fun s7 I7 ⟨a,hsa,ha⟩=>?_) (.inr hy))
 have ne:C≠a:=by
  rcases ha with z | z
  ·rw [z];exact f6.2.1
  ·exact fun q=>f6.2.2.2.2.1 y a z q.symm
 refine ⟨m6,n6.sameBut hsa ne,fun h' hs' => ⟨_,H6,?_,q6⟩⟩
 exact I7.turnedL (fp:=[C]) (t' := s7.toks) (fun b o hb q=>(hs'.2 b (fun z=>hb (by simp [z]))).trans q) (fun b hb=>by
  have e:b=C:=by simpa using hb
  subst e
  exact f6)
end
end L2
namespace L2
open PySem PySem.Spec PyProof.Rows
section
variable {X:Cx} {a b e:Expr} {ta tb:TE} {p p2 pos:Pos}
theorem zhE {c:V} {cv:Value} (rc:∀ u,RelV c u->u=cv) :
  CallR X (.builtin "isinstance") (fun xs H Q=>∃ x t r,xs=[x,c]/\TyOf X.K H x t/\PySem.W.kitOne X.K t cv=some r/\Q (.bl r) H):=by
 intro pins s σ H xs us Q I r h
 obtain ⟨x,t,k,rfl,ty,hk,q⟩:=h
 obtain ⟨u,w',rfl,rx,ry⟩:=yeK r
 obtain rfl:=rc _ ry
 exact zgK I rx ty hk fun tk=>⟨.bl k,H,I.tok _,rfl,q⟩
theorem yf7 (n:String):∀ u,RelV (.ty n) u->u=Value.type n:=fun _ r=>r
theorem zgU:OpR X (compareOp .LtE) (fun x y H Q=>∃ i j,x = .str i/\y = .str j/\Q (.bl (!decide (j.cps.toList<i.cps.toList))) H):=by
 intro pins s σ H x y v u Q I rx ry h
 obtain ⟨i,j,rfl,rfl,q⟩:=h
 obtain ⟨t,rfl⟩:=rx
 obtain ⟨t',rfl⟩:=ry
 exact PySem.P.le_str (yaP I q rfl)
theorem zel:MtR X "str.count" (fun x vs H Q=>∃ z y,x = .str z/\vs=[.str y]/\Q (.int ((Builtin.Str.occurrences z y 0 z.length (z.length+1)).length:Nat)) H):=by
 intro pins s σ H x vs v us Q I rx rv h
 obtain ⟨z,y,rfl,rfl,q⟩:=h
 obtain ⟨t,rfl⟩:=rx
 obtain ⟨u,rfl,t',rfl⟩:=ydq rv
 exact call_gives F.slot_str_count (typeIs_str s z t) F.entry_str_count (F.args_str_count_2 _ _) (gives_str_count z y t t') ⟨.int _,H,I.tok _,⟨_,rfl⟩,q⟩
theorem zhF (hc:X.calm=true):CallR X (.builtin "all") (fun xs H Q=>∃ (a:Addr) (bs:List Bool),xs=[.ref a]/\SqL X.K H a (bs.map V.bl)/\Q (.bl (bs.all id)) H):=by
 intro pins s σ H xs us Q I r h
 obtain ⟨l,bs,rfl,hq,q⟩:=h
 obtain ⟨u,rfl,rx⟩:=ydq r
 cases rx
 obtain ⟨its,rv,pl,hz⟩:=I.list hq
 have hlt:l<s.heap.objs.size:=by obtain ⟨_,_,e,_⟩:=pl;exact Heap.lt_size e
 have hlen:its.length=bs.length:=by rw [<- rv.length,List.length_map]
 refine call_all_walk (wpAny_pyIter_list pl.isList ?_)
 refine ⟨s.heap.objs.size,[s.heap.objs.size,l],[s.heap.objs.size],its.toArray.size,_,_,fun i=>(bs[i]?).getD true,rfl,Walks.list (A:=X.A.in1) (I.ok.hd hc) _ l (Nat.ne_of_lt hlt) its.toArray,
  ⟨⟨_,Heap.get?_push_size _ rfl,rfl,rfl⟩,pl.isList.push _⟩,fun i v s' Q' E' hP hQ=>?_,fun h' tk hk=>?_⟩
 ·have hP':its[i]? = some v:=by simpa using hP
  have hi:i<its.length:=(List.getElem?_eq_some_iff.mp hP').1
  have hb:(bs.map V.bl)[i]? = some (V.bl (bs[i]'(by omega))):=by rw [List.getElem?_map,List.getElem?_eq_getElem (by omega)];rfl
  obtain ⟨u,hu,ru⟩:=rv.get hb
  rw [hP'] at hu
  cases hu
  cases ru
  have e:(bs[i]?).getD true=bs[i]'(by omega):=by rw [List.getElem?_eq_getElem (by omega)];rfl
  have hQ2:Q' ((bs[i]?).getD true) s' := hQ
  rw [e] at hQ2
  exact wpAny_truthy_bool hQ2
 ·have e:((List.range its.toArray.size).all fun i=>(bs[i]?).getD true)=bs.all id:=by
   rw [List.size_toArray,hlen,Bool.eq_iff_iff,List.all_eq_true,List.all_eq_true]
   constructor
   ·intro z c hc'
    obtain ⟨i,hi,rfl⟩:=List.getElem_of_mem hc'
    have:=z i (List.mem_range.mpr hi)
    rw [List.getElem?_eq_getElem hi] at this
    exact this
   ·intro z i hi
    have hi' := List.mem_range.mp hi
    rw [List.getElem?_eq_getElem hi']
    exact z _ (List.getElem_mem hi')
  rw [e]
  refine ⟨.bl _,H,I.kept (t' := tk) fun b o q=>?_,rfl,q⟩
  exact hk b o (fun hm=>by rw [List.mem_singleton.mp hm] at q;exact Nat.lt_irrefl _ (Heap.lt_size q)) (Heap.get?_push_of_some _ q)
end
end L2
namespace L2
open PySem PySem.Spec PyProof.Rows
section
variable {X:Cx}
theorem zhG:OpR X (binaryOp .FloorDiv) (rI (fun _ j=>0<j/\j<2 ^ 200) fun i j=>.int (i / j)):=opI fun i j _ _ _ _ _ hc q=>by
 obtain ⟨h1,h2⟩:=hc
 refine floordiv_int (by omega) (by rw [Int.fdiv_eq_ediv_of_nonneg i (by omega)];exact q) (.inl (PyProof.noPylong_of_log2 ?_))
 have h3:j.natAbs<2 ^ 200:=by omega
 have h4:j.natAbs.log2<200:=(Nat.log2_lt (by omega)).mpr h3
 omega
theorem zhH:OpR X (binaryOp .Mult) (rI IntMulOk fun i j=>.int (i*j)):=opI fun _ _ _ _ _ _ _ hc q=>mul_int q hc
end
end L2
namespace L2
open PySem PySem.Spec PyProof.Rows
theorem yeV:bootBuiltins "int" = some (.type "int"):=by decide +kernel
theorem zdq:bootBuiltins "bool" = some (.type "bool"):=by decide +kernel
theorem ydN:bootBuiltins "str" = some (.type "str"):=by decide +kernel
end L2
namespace L2
open PySem PySem.Spec PyProof.Rows
theorem ObjOk.some {P:Program} {w:World} {H:Hp} {h:Heap} {a:Addr} {o:HO} (x:ObjOk P w H h a o):∃ ob,h.get? a=Option.some ob:=by
 cases o with
 | lst xs=>obtain ⟨_,_,_,_,e⟩:=x;exact ⟨_,e⟩
 | tup xs=>obtain ⟨_,_,_,o,e,_⟩:=x;exact ⟨o,e⟩
 | dK kvs=>obtain ⟨_,_,_,_,o,_,_,e,_⟩:=x;exact ⟨_,e⟩
 | dT kvs=>obtain ⟨_,_,_,_,o,_,_,e,_⟩:=x;exact ⟨_,e⟩
 | set S n=>obtain ⟨o,_,_,_,e,_⟩:=x;exact ⟨_,e⟩
 | ins C dx fs=>obtain ⟨_,_,_,e,_⟩:=x;exact ⟨_,e⟩
 | own y=>obtain ⟨_,e⟩:=x;exact ⟨_,e⟩
 | xd fs=>obtain ⟨_,⟨_,_,_,e,_⟩,_⟩:=x;exact ⟨_,e⟩
 | rng lo hi=>obtain ⟨_,_,_,e⟩:=x;exact ⟨_,e⟩
 | frz ob u=>obtain ⟨e,_⟩:=x;exact ⟨_,e⟩
 | tbl ps=>exact ⟨_,(show h.get? a=Option.some _ from x)⟩
 | met f y=>exact ⟨_,(show h.get? a=Option.some _ from x)⟩
 | ext φ=>obtain ⟨_,⟨_,e⟩,_⟩:=x;exact ⟨_,e⟩
def Firm (X:Cx) (pins:List (Addr×Obj)) (H:Hp) (h B:Heap):Prop :=
 ∀ b o,h.get? b=some o->b∉frs X.stack->((∃ u,H b=some u)\/(∃ o',X.s₀.heap.get? b=some o')\/∃ p∈X.pn++pins,p.1=b)->B.get? b=some o
section
variable {X:Cx} {pins:List (Addr×Obj)} {σ:St} {H:Hp} {s:Shared}
theorem Inv.nofr (I:Inv X pins σ H s) {b:Addr} {o:Obj} (e:X.s₀.heap.get? b=some o) (hb:b∉X.fs):b∉frs X.stack:=fun z=>by
 rcases List.mem_cons.mp (I.stkSub b z) with q | q
 ·exact Nat.ne_of_lt (Nat.lt_of_lt_of_le (Heap.lt_size e) I.ok.above) q
 ·exact hb q
theorem Inv.nofrT (I:Inv X pins σ H s) {b:Addr} {u:HO} (e:H b=some u):b∉frs X.stack:=fun z=>by
 have q:=I.stkFree b z
 rw [q] at e
 cases e
theorem Inv.nofrP (I:Inv X pins σ H s) {p:Addr×Obj} (hp:p∈X.pn++pins):p.1∉frs X.stack:=fun z=>by
 obtain ⟨_,_,ne,nf,_⟩:=I.pin p hp
 rcases List.mem_cons.mp (I.stkSub p.1 z) with q | q
 ·exact ne q
 ·exact nf q
theorem Inv.flown {B h':Heap} {t':Nat} (I:Inv X pins σ H s) (hex:X.ex=[]) (F:Firm X pins H s.heap B) (st:B.StaysIn h') (sm:s.heap.UpToSlots h'):Inv X pins σ H { s with heap:=h',toks:=t' }:=by
 have nx:∀ b,b∉X.ex:=fun b z=>by rw [hex] at z;cases z
 refine ⟨I.ok,I.os,I.bare,⟨fun b o e n hb hx=>?_,fun b o e n hb hx=>?_,I.base.free,fun b o e hx=>?_,I.base.tups,I.base.frzs,I.base.tbls⟩,?_,fun x c e=>?_,I.free,I.freeC,fun p hp=>?_,fun b u e=>?_,I.len⟩
 ·exact st b o (F b o (I.base.keep b o e n hb hx) (I.nofr e hb) (.inr (.inl ⟨o,e⟩)))
 ·obtain ⟨sl,q⟩:=I.base.slot b o e n hb hx
  obtain ⟨_,o',ho',hd⟩:=I.funs.mem hb
  rw [q] at ho'
  cases ho'
  obtain ⟨sl',q'⟩:=sm b _ q hd
  exact ⟨sl',q'⟩
 ·obtain ⟨o',q⟩:=I.base.there b o e hx
  by_cases hb:b∈X.fs
  ·obtain ⟨_,o'',ho'',hd⟩:=I.funs.mem hb
   rw [q] at ho''
   cases ho''
   obtain ⟨sl',q'⟩:=sm b _ q hd
   exact ⟨_,q'⟩
  ·exact ⟨o',st b o' (F b o' q (I.nofr e hb) (.inr (.inl ⟨o,e⟩)))⟩
 ·obtain ⟨m,hn,hl⟩:=I.loc
  refine ⟨m,sm.ns hn,fun i x v e1 e2 e3=>?_⟩
  obtain ⟨u,r,l⟩:=hl i x v e1 e2 e3
  refine ⟨u,r,?_⟩
  rcases l with l | ⟨k,c,e,o,ho,hd⟩
  ·exact .inl l
  ·obtain ⟨sl,q⟩:=sm c o ho fun vs z=>by rw [hd] at z;cases z
   exact .inr ⟨k,c,e,_,q,hd⟩
 ·obtain ⟨v,o,ho,hd⟩:=I.cell x c e
  obtain ⟨sl,q⟩:=sm c o ho fun vs z=>by rw [hd] at z;cases z
  exact ⟨v,_,q,hd⟩
 ·obtain ⟨e,n,ne,nf,d⟩:=I.pin p hp
  exact ⟨st _ _ (F _ _ e (I.nofrP hp) (.inr (.inr ⟨p,hp,rfl⟩))),n,ne,nf,d⟩
 ·refine (I.hok b u e).stay (fun c v hc q=>?_) (fun _ q=>q) fun _ _ q=>q
  rcases hc with z | z
  ·subst z
   exact st _ _ (F _ _ q (I.nofrT e) (.inl ⟨_,e⟩))
  ·exact st _ _ (F _ _ q (I.nofrT z) (.inl ⟨_,z⟩))
end
structure Arr (X:Cx) (pins:List (Addr×Obj)) (σ:St) (H:Hp) (a:Addr) (cls:Value) (s:Shared):Prop where
 inv:Inv X pins σ H s
 un:H a=none
 new:X.s₀.heap.get? a=none
 nl:a≠X.env.locals
 nc:∀ x c,X.env.cells.lookup x=some c->c≠a
 np:∀ p∈X.pn++pins,p.1≠a
 fly:∃ B a0,Firm X pins H s.heap B/\B.StaysIn s.heap/\B.get? a=none/\s.heap.FunFrames B X.stack /\
  ((∃ oe vs,s.heap.get? a=some oe/\oe.cls=cls/\oe.data = .fields vs/\vs[0]? = some a0/\vs[1]? = some .none)\/s.heap.TracedW B a cls a0)
def CXE (P:Program) (w:World):CXT:=fun outer H s E e s' => ∃ (a:Addr) (cls a0:Value) (H':Hp) (B:Heap),e = .ref a/\s'.os=s.os/\AllBare s'.gens/\Un (frs outer) [] H H' s.heap s'.heap/\HOk P w H' s'.heap /\
 Heap.FlyingW B outer a cls a0 s'.heap/\(∀ b o,s'.heap.get? b=some o->b∉frs outer->((∃ u,H' b=some u)\/∃ o',s.heap.get? b=some o')->B.get? b=some o)/\H' a=none/\s.heap.get? a=none/\E cls none H'
section
variable {X:Cx} {pins:List (Addr×Obj)} {σ:St} {H:Hp} {s:Shared}
theorem zhI {h':Heap} {e:Addr} {cls:Value} {args:List Value} {t':Nat} (I:Inv X pins σ H s) (hex:X.ex=[]) (hx:Heap.MadeExcOf s.heap h' e cls args):Arr X pins σ H e cls { s with heap:=h',toks:=t' }:=by
 have nx:∀ b,b∉X.ex:=fun b z=>by rw [hex] at z;cases z
 have none_of:∀ b o,s.heap.get? b=some o->b≠e:=fun b o q z=>by rw [z,hx.new] at q;cases q
 have eq_of:∀ b o o1,h'.get? b=some o->s.heap.get? b=some o1->o1=o:=fun b o o1 q q1=>by
  have z:=hx.keeps b o1 q1
  rw [q] at z
  exact (Option.some.inj z).symm
 obtain ⟨t,he,_,_⟩:=hx.there
 refine ⟨I.kept hx.keeps,?_,?_,fun z=>?_,fun x c q z=>?_,fun p hp z=>?_,PySem.W.hideAll s.heap (frs X.stack),.ref t,fun b o q nb alt=>?_,fun b o q=>hx.keeps b o (PySem.W.of_hideAll _ q),?_,?_,.inl ⟨_,_,he,rfl,rfl,rfl,rfl⟩⟩
 ·cases q:H e with
  | none=>rfl
  | some u =>
   obtain ⟨ob,z⟩:=(I.hok e u q).some
   exact absurd rfl (none_of e ob z)
 ·cases q:X.s₀.heap.get? e with
  | none=>rfl
  | some o =>
   obtain ⟨ob,z⟩:=I.base.there e o q (nx e)
   exact absurd rfl (none_of e ob z)
 ·obtain ⟨m,⟨o,_,_,ho,_⟩,_⟩:=I.loc
  exact none_of _ o ho z.symm
 ·obtain ⟨v,o,ho,_⟩:=I.cell x c q
  exact none_of _ o ho z
 ·exact none_of _ _ (I.pin p hp).1 z
 ·have there:∃ o1,s.heap.get? b=some o1:=by
   rcases alt with ⟨u,q'⟩ | ⟨o',q'⟩ | ⟨p,hp,rfl⟩
   ·exact (I.hok b u q').some
   ·exact I.base.there b o' q' (nx b)
   ·exact ⟨_,(I.pin p hp).1⟩
  obtain ⟨o1,q1⟩:=there
  rw [<- eq_of b o o1 q q1]
  exact PySem.W.hideAll_get _ q1 nb
 ·cases q:(PySem.W.hideAll s.heap (frs X.stack)).get? e with
  | none=>rfl
  | some o=>exact absurd rfl (none_of e o (PySem.W.of_hideAll _ q))
 ·refine (PySem.W.funFrames_hide I.stack fun env henv b hb=>List.mem_filterMap.mpr ⟨env,henv,hb⟩).of_keeps fun b o q _=>⟨o,hx.keeps b o q,rfl⟩
theorem zhJ {E:XK} {e:Value} {s':Shared} (I:Inv X pins σ H s) (hex:X.ex=[]) (h:CXE X.prog X.w X.stack H s E e s'):∃ a cls H',e = .ref a/\Arr X pins σ H' a cls s'/\E cls none H' := by
 obtain ⟨a,cls,a0,H',B,rfl,os,bare,un,hok,⟨f1,f2,f3,f4⟩,ext,na,ns,q⟩:=h
 have nx:∀ b,b∉X.ex:=fun b z=>by rw [hex] at z;cases z
 have none_of:∀ b o,s.heap.get? b=some o->b≠a:=fun b o q z=>by rw [z,ns] at q;cases q
 refine ⟨a,cls,H',rfl,⟨I.call' (ch:=[]) os un hok bare (fun b z=>absurd z (by simp)),na,?_,fun z=>?_,fun x c q z=>?_,fun p hp z=>?_,B,a0,fun b o q nb alt=>?_,f1,f2,f3,.inr f4⟩,q⟩
 ·cases q:X.s₀.heap.get? a with
  | none=>rfl
  | some o =>
   obtain ⟨ob,z⟩:=I.base.there a o q (nx a)
   exact absurd rfl (none_of a ob z)
 ·obtain ⟨m,⟨o,_,_,ho,_⟩,_⟩:=I.loc
  exact none_of _ o ho z.symm
 ·obtain ⟨v,o,ho,_⟩:=I.cell x c q
  exact none_of _ o ho z
 ·exact none_of _ _ (I.pin p hp).1 z
 ·refine ext b o q nb ?_
  rcases alt with ⟨u,q'⟩ | ⟨o',q'⟩ | ⟨p,hp,rfl⟩
  ·exact .inl ⟨u,q'⟩
  ·exact .inr (I.base.there b o' q' (nx b))
  ·exact .inr ⟨_,(I.pin p hp).1⟩
theorem Arr.land {a:Addr} {cls:Value} {Q:Unit->Shared->Prop} {E:Value->Shared->Prop} {M:Model} {A:Around} (R:Arr X pins σ H a cls s) (hex:X.ex=[]) (hfr:A.frames=some X.stack) {outer:List Env} (hst:X.stack=X.env::outer) (hf:X.env.frame=some X.env.locals)
  (hQ:∀ h' B a0,Firm X pins H s.heap B->Heap.FlyingW B X.stack a cls a0 h'->s.heap.UpToSlots h'->Inv X pins σ H { s with heap:=h' }->Q () { s with heap:=h' }) :
  wpAny M A (noteFrame (.ref a) X.env) (fun _ s₂=>wpAny M A (setFlight (.ref a) none) Q E s₂) E s:=by
 obtain ⟨B,a0,fm,st,hb,ff,alt⟩:=R.fly
 have after:∀ h4,Heap.HeldW B X.stack a cls a0 X.env.locals h4->s.heap.UpToSlots h4->wpAny M A (setFlight (.ref a) none) Q E { s with heap:=h4 }:=fun h4 hh sm=>by
  refine wpAny_landsW (s:={ s with heap:=h4 }) hh fun h5 fl sm5=>?_
  have sm':s.heap.UpToSlots h5:=sm.trans sm5
  exact hQ h5 B a0 fm fl sm' (R.inv.flown (t' := s.toks) hex fm fl.1 sm')
 rw [hst] at hfr
 rw [hst] at ff
 rcases alt with ⟨oe,vs,he,hc,hd,h0,h1⟩ | tr
 ·subst hc
  have hsz:1<vs.size:=(Array.getElem?_eq_some_iff.mp h1).1
  unfold noteFrame
  simp only [hf]
  refine wpAny_bind (wpAny_field he hd h1 ?_)
  rw [if_neg (by decide)]
  refine wpAny_entryW hfr ff hf he st hb hd hsz h0 fun h4 hN=>?_
  obtain ⟨k1,k2,k3,k4⟩:=hN
  exact after h4 (by rw [hst];exact ⟨k1,hb,k2,k3⟩) k4
 ·exact wpAny_looks_onW hfr hf ⟨st,hb,ff,tr⟩ fun h4 hh sm=>after h4 (by rw [hst];exact hh) sm
theorem zdP {P:Program} {w:World} {K:PySem.W.Frag} {mg:Str->Option Value} {base:Heap} {N:List Str} {qual:Str} {scope:Scope} {f:Addr} {cd:Value} {A:Around} {outer:List Env} {s0:Shared} {H0:Hp} {E:XK} {a:Addr} {cls:Value}
  (R:Arr (cxOf (CXE P w) P w K mg base N qual scope f cd A outer s0 H0 E) pins σ H a cls s) (q:E cls none H):(cxOf (CXE P w) P w K mg base N qual scope f cd A outer s0 H0 E).xe (.ref a) s:=by
 show wpAny _ _ (leaving _ _) _ _ s
 unfold leaving
 refine wpAny_bind (R.land (E:=fun e' s'' => CXE P w outer H0 s0 E e' s'') rfl R.inv.ok.frames rfl rfl fun h' B a0 fm fl sm I' => ?_)
 have I:=R.inv
 obtain ⟨k1,k2,⟨_,_,k3⟩,k4⟩:=fl
 refine ⟨a,cls,a0,H,B,rfl,I'.os,I'.bare,I'.base,I'.hok,⟨k1,k2,k3,k4⟩,fun b o e nb alt=>?_,R.un,R.new,q⟩
 have nstk:b∉frs (cxOf (CXE P w) P w K mg base N qual scope f cd A outer s0 H0 E).stack:=by
  rcases alt with ⟨u,z⟩ | ⟨o',z⟩
  ·exact I.nofrT z
  ·exact I.nofr z nb
 have there:∃ o1,s.heap.get? b=some o1:=by
  rcases alt with ⟨u,z⟩ | ⟨o',z⟩
  ·exact (I.hok b u z).some
  ·exact I.base.there b o' z (fun z=>absurd (show b∈([]:List Addr) from z) (by simp))
 obtain ⟨o1,q1⟩:=there
 have z:B.get? b=some o1:=fm b o1 q1 nstk (by
  rcases alt with ⟨u,z⟩ | ⟨o',z⟩
  ·exact .inl ⟨u,z⟩
  ·exact .inr (.inl ⟨o',z⟩))
 have z2:=k1 b o1 z
 rw [show (Heap.get? h' b)=some o from e] at z2
 cases z2
 exact z
end
def yeH (X:Cx) (Ex:St->XK):Prop:=∀ (pins:List (Addr×Obj)) (σ:St) (H:Hp) (s:Shared) (a:Addr) (cls:Value),Arr X pins σ H a cls s->Ex σ cls none H->X.xe (.ref a) s
def yd5 (CX:CXT) (X:Cx) (Ex:St->XK):Prop:=∀ (pins:List (Addr×Obj)) (σ:St) (H:Hp) (s:Shared) (e:Value) (s':Shared),Inv X pins σ H s->CX X.stack H s (Ex σ) e s'->X.xe e s'
section
variable {P:Program} {w:World} {K:PySem.W.Frag} {mg:Str->Option Value} {base:Heap} {N:List Str} {qual:Str} {scope:Scope} {f:Addr} {cd:Value} {A:Around} {outer:List Env} {s0:Shared} {H0:Hp} {E:XK}
theorem za5:yeH (cxOf (CXE P w) P w K mg base N qual scope f cd A outer s0 H0 E) (fun _=>E):=fun _ _ _ _ _ _ R q=>zdP R q
theorem ziJ:ygV (CXE P w) (cxOf (CXE P w) P w K mg base N qual scope f cd A outer s0 H0 E) E:=fun pins σ H s e s' I h=>by
 obtain ⟨a,cls,H',rfl,R,q⟩:=zhJ (X:=cxOf (CXE P w) P w K mg base N qual scope f cd A outer s0 H0 E) I rfl h
 exact zdP R q
end
section
variable {X:Cx} {x:Str} {C:Addr} {bm:List Value} {B newId initId:String} {np cpos pos:Pos} {e:Expr} {es:List Expr} {t:TA} {Ex:St->XK}
def yg5 (cls:Value) (Ex:St->XK) (t:TA):TS:=fun _ σ H=>t σ H fun vs H1=>vs.length<=1000/\Ex σ cls none H1
theorem zhK (O:OwnCls x C bm newId X.mg X.base) (FB:ExcBaseFacts B newId initId bm) (hc:X.calm=true) (hex:X.ex=[]) (hr:yeH X Ex) (hg:Gl X x) (ha:PA X (e::es) t)
  (hdb:(x == ("__debug__" : Str))=false:=by decide) (he:starEach (e::es) X.env=(false,eval e X.env)::starEach es X.env:=by rfl) (hpl:(backTo cpos (starEach es X.env)).any (·.1)=false:=by rfl) :
  PS X (.Raise (some (.Call (.Name x np) (e::es) [] cpos)) none pos) (yg5 (.ref C) Ex t):=by
 intro pins s σ H D I h
 obtain ⟨tl,NN,nm,q,bs,hdct,sn,sub,ab,col,dd,k0,k1,k2,k3,k5,mN,hC,hN,hni,T⟩:=O.obj
 refine wpAny_Raise_call_subT (C:=C) (nm:=nm) (q:=q) (N:=NN) (bs:=bs) (bm:=tl) (hdct:=hdct) (sn:=sn) (sub:=sub) (ab:=ab) (col:=col) (dd:=dd) (k0:=k0) (k1:=k1) (k2:=k2) (k3:=k3) (k5:=k5) FB (mN:=mN)
  (T.hasType FB.hasBase) (I.ok.hd hc) (by rw [he];show (false || (backTo cpos (starEach es X.env)).any (·.1))=false;rw [hpl];rfl) hni (zcy I hg O.bound ⟨rfl,?_⟩ hdb)
 have hA:=ha cpos pins s σ H _ I h
 rw [he] at hA ⊢
 refine Calls.evalArgs_plain (thn hA fun us s2 ⟨vs,H1,I1,r1,hl,q1⟩=>⟨rfl,?_,I1.bk _ _ hC,hN.keeps I1.bk,T.keeps I1.bk,fun h' a hm=>hr pins σ H1 _ a _ (zhI (t' := s2.toks) I1 hex hm) q1⟩)
 show us.length<=sizeLine
 rw [<- r1.length]
 exact Nat.le_trans hl (by decide)
end
section
variable {X:Cx} {CX:CXT} {k:Nat} {f C:Addr} {fd:FuncData} {ps:List Str} {sp:Sp} {dvs:List V} {ds:List Value} {Ex:St->XK} {x m:Str} {p pos apos:Pos} {e o:Expr} {es:List Expr} {ta:TE} {t:TA}
theorem zdr {pins:List (Addr×Obj)} {σ:St} {H:Hp} {s:Shared} {Q:VK} {us:List Value} {vs:List V} (F:FnOk X.prog X.w X.K X.mg X.base CX k f fd ps sp) (hr:Room k X.A) (hb:Binds X.K fd ps ds) (hd:Vals dvs ds) (hx:yd5 CX X Ex)
  (I:Inv X pins σ H s) (r:Vals vs us) (h:sp (vs++dvs) H Q (Ex σ)):wpAny (model X.prog X.w) X.A (call (.ref f) us) (EP X pins σ Q) X.xe s:=by
 have r2:Vals (vs++dvs) (us++ds):=r.append hd
 have hl:(us++ds).length=ps.length:=by rw [<- r2.length];exact F.len _ _ _ _ h
 refine wpAny_call (codeAny_mono (F.run X.A X.stack s H ⟨us,[]⟩ (us++ds) (vs++dvs) Q (Ex σ) hr I.env0 (hb s us I.kIn hl) r2 h) fun r s' hq=>?_)
 cases r with
 | error e=>exact hx pins σ H s e s' I hq
 | ok fl =>
  cases fl with
  | ret u=>exact I.after hq
  | next=>exact False.elim hq
  | brk=>exact False.elim hq
  | cont=>exact False.elim hq
def yg6 (sp:Sp) (dvs:List V) (Ex:St->XK) (t:TA):TE:=fun σ H Q=>t σ H fun vs H1=>sp (vs++dvs) H1 Q (Ex σ)
theorem zhL (F:FnOk X.prog X.w X.K X.mg X.base CX k f fd ps sp) (hr:Room k X.A) (hg:Gl X x) (hm:X.mg x=some (.ref f)) (hk:PySem.W.keepIn X.K (.ref f)=true) (hb:Binds X.K fd ps ds) (hd:Vals dvs ds) (hx:yd5 CX X Ex)
  (ha:PA X (e::es) t) (hdb:(x == ("__debug__" : Str))=false:=by decide) (he:starEach (e::es) X.env=(false,eval e X.env)::starEach es X.env:=by rfl) (hpl:(backTo pos (starEach es X.env)).any (·.1)=false:=by rfl) :
  PE X (.Call (.Name x p) (e::es) [] pos) (yg6 sp dvs Ex t):=by
 intro pins s σ H Q I h
 refine wpAny_Call_Name_kw (zcy I hg hm ?_ hdb)
 refine PySem.W.callWith_K (h₀:=X.base) I.ok.mod.kin hk (thn (ha pos pins s σ H _ I h) fun us s1 ⟨vs,H1,I1,r,q⟩=>⟨I1.kIn,?_⟩) he hpl
 exact zdr F hr hb hd hx I1 r q
def yfu (C:Addr) (m:Str) (sp:Sp) (dvs:List V) (Ex:St->XK) (ta:TE) (t:TA):TE:=fun σ H Q=>ta σ H fun x H1=>∃ a dx fs,x = .ref a/\H1 a=some (.ins C dx fs)/\fs.lookup m=none /\
 t σ H1 fun vs H2=>sp (x::(vs++dvs)) H2 Q (Ex σ)
theorem zhM {pl:Sem Bool} (he:PE X o ta) (c:Cls X.K C) (hm:Meth X.K C m f) (F:FnOk X.prog X.w X.K X.mg X.base CX k f fd ps sp) (hr:Room k X.A) (hb:Binds X.K fd ps ds) (hd:Vals dvs ds) (hx:yd5 CX X Ex) (ha:PA X (e::es) t)
  (hst:starEach (e::es) X.env=(false,eval e X.env)::starEach es X.env:=by rfl) (hpl:(backTo pos (starEach es X.env)).any (·.1)=false:=by rfl)
  (ht:eval (.Call (.Attribute o m apos) (e::es) [] pos) X.env=(do
   let ov <- eval o X.env
   standAt apos.atName
   let (f,first) <- holding [ov] (getMethod ov m pl)
   callWith pos f first (backTo pos (starEach (e::es) X.env)) (backToKw pos (keywordEach [] X.env))):=by rfl) :
  PE X (.Call (.Attribute o m apos) (e::es) [] pos) (yfu C m sp dvs Ex ta t):=by
 intro pins s σ H Q I h
 refine PySem.W.methodCall_KW (pl:=pl) (thn (he pins s σ H _ I h) fun u s1 ⟨x,H1,I1,rx,a,dx,fs,ex,ea,l,q⟩=>?_) ht
 subst ex
 obtain rfl:u=Value.ref a:=rx
 refine zdd I1 ea c hm l ?_
 refine PySem.W.callWith_K (first:=[.ref a]) (h₀:=X.base) I.ok.mod.kin hm.kp (thn (ha pos pins s1 σ H1 _ I1 q) fun us s2 ⟨vs,H2,I2,r,q2⟩=>⟨I2.kIn,?_⟩) hst hpl
 exact zdr (us:=.ref a::us) (vs:=.ref a::vs) F hr hb hd hx I2 (.cons rfl r) q2
end
def excO (a:Addr) (cls:Value):HO:=.ext fun h=>∃ ob vs,h.get? a=some ob/\ob.cls=cls/\ob.data = .fields vs
section
variable {X:Cx} {pins pins':List (Addr×Obj)} {σ:St} {H:Hp} {s:Shared} {xe:Value->Shared->Prop}
end
section
variable {X:Cx} {xc n:Str} {C:Addr} {i:Nat} {body suite:List Stmt} {b0:Stmt} {np hpos pos:Pos} {tb:(St->XK)->TS} {th:TS} {outer:List Env}
end
section
variable {P:Program} {w:World} {K:PySem.W.Frag} {mg:Str->Option Value} {base:Heap}
theorem Fun.okE {x qual:Str} {st:Stmt} {f:Addr} {fd:FuncData} {N ps:List Str} {k:Nat} {sp:Sp} (F:Fun K x qual st f fd) (S:FnScope N ps (yad st)) (len:∀ vs H Q E,sp vs H Q E->vs.length=ps.length)
  (hbody:∀ (cdv:Value) (A:Around) (outer:List Env) (s:Shared) (H:Hp) (vs:List V) (Q:VK) (E:XK),Room k (A.deeper (envOfC qual (yad st) s.heap.objs.size f cdv))->sp vs H Q E ->
   ∃ t,PSs (cxOf (CXE P w) P w K mg base N qual (yad st) f cdv A outer s H E) (yal st) t/\t { nx:=fun _ H' => Q .non H',rt:=Q } (start N vs) H):FnOk P w K mg base (CXE P w) (k+1) f fd ps sp:=by
 obtain ⟨oc,od,kV,doc,pm,an,cdv,ct,osl,rfl,lk,hcd⟩:=F.ex
 exact yh8 lk hcd S len fun A outer s H vs Q E hr hsp=>hbody cdv A outer s H vs Q E hr hsp
end
end L2
namespace L2
open PySem PySem.Spec PyProof.Rows
theorem zbq {K:PySem.W.Frag} {hp:Heap} {g:Str->Option Value} {nm:Str} {Ca:Addr} {bb:List Value} {nid:String} (Z:K.In hp) (hb:g nm=some (.ref Ca)) (ok:PySem.W.excIn K Ca bb nid=true):OwnCls nm Ca bb nid g hp:=by
 refine ⟨hb,?_⟩
 unfold PySem.W.excIn at ok
 split at ok
 ·rename_i dA cA sA hA
  split at ok
  ·rename_i D' tl w0 w1 w2 w3 bn w5 eM eS
   simp only [Bool.and_eq_true,beq_iff_eq,Bool.not_eq_true'] at ok
   obtain ⟨⟨⟨⟨⟨rfl,rfl⟩,e1⟩,e2⟩,e3⟩,e4⟩:=ok
   obtain ⟨f1,f2,f3,f4,f5,f6,f7,f8,f9,f10,f11⟩:=cA
   dsimp only at eM e1 e3 e4
   subst eM e1
   have eA:sA = #[w0,w1,w2,w3,some (.builtin bn),w5]:=by
    obtain ⟨ll⟩:=sA
    simp only at eS
    rw [eS]
   subst eA
   refine ⟨tl,f4,f1,f5,f2,f6,f7,f8,f9,f10,dA,w0,w1,w2,w3,w5,_,Z _ _ hA,.of_isNs (PySem.W.isNs_of_in Z e3),?_,PySem.W.tail_of_in Z e2⟩
   exact PySem.W.nsMap_none_of_in Z e3 e4
  ·cases ok
 ·cases ok
mutual
inductive DaV (K:PySem.W.Frag) (H:Hp):V->PyData->Prop
 | non:DaV K H .non .none
 | bl (b):DaV K H (.bl b) (.bool b)
 | int (i):DaV K H (.int i) (.int i)
 | str (x):DaV K H (.str x) (.str x)
 | lst {a xs ds}:SqL K H a xs->DaVs K H xs ds->DaV K H (.ref a) (.list ds)
 | tup {a xs ds}:SqT K H a xs->DaVs K H xs ds->DaV K H (.ref a) (.tuple ds)
inductive DaVs (K:PySem.W.Frag) (H:Hp):List V->List PyData->Prop
 | nil:DaVs K H [] []
 | cons {x xs d ds}:DaV K H x d->DaVs K H xs ds->DaVs K H (x::xs) (d::ds)
end
section
variable {X:Cx} {pins:List (Addr×Obj)} {σ:St} {H:Hp} {s:Shared}
mutual
theorem DaV.reads (I:Inv X pins σ H s):∀ {x:V} {d:PyData} {u:Value},DaV X.K H x d->RelV x u->∃ as,Reads s.heap u d as
 | _,_,_,.non,r=>by cases r;exact ⟨_,.none⟩
 | _,_,_,.bl b,r=>by cases r;exact ⟨_,.bool b⟩
 | _,_,_,.int i,r=>by obtain ⟨t,rfl⟩:=r;exact ⟨_,.int i t⟩
 | _,_,_,.str x,r=>by obtain ⟨t,rfl⟩:=r;exact ⟨_,.str x t⟩
 | _,_,_,.lst (a:=a) h1 h2,r=>by
  cases r
  obtain ⟨its,rv,⟨o,n,e1,e2,e3⟩,_⟩:=I.list h1
  obtain ⟨as,q⟩:=DaVs.reads I h2 rv
  exact ⟨_,.list (vs:=its.toArray) (n:=n) e1 (by first | exact e2.1 | exact e2) (by first | exact e2.2.2 | exact e2.2 | exact e3 | exact e3.2) (by simpa using q)⟩
 | _,_,_,.tup (a:=a) h1 h2,r=>by
  cases r
  obtain ⟨its,rv,⟨o,e1,e2,n,e3⟩,_⟩:=I.tuple h1
  obtain ⟨as,q⟩:=DaVs.reads I h2 rv
  exact ⟨_,.tuple (vs:=its.toArray) (n:=n) e1 e2 e3 (by simpa using q)⟩
theorem DaVs.reads (I:Inv X pins σ H s):∀ {xs:List V} {ds:List PyData} {us:List Value},DaVs X.K H xs ds->Vals xs us->∃ as,ReadsAll s.heap us ds as
 | _,_,_,.nil,r=>by cases r;exact ⟨_,.nil⟩
 | _,_,_,.cons h1 h2,r=>by
  cases r with
  | cons r1 r2 =>
   obtain ⟨as,q1⟩:=DaV.reads I h1 r1
   obtain ⟨bs,q2⟩:=DaVs.reads I h2 r2
   exact ⟨_,.cons q1 q2⟩
end
def rEqD (K:PySem.W.Frag):R2:=fun x y H Q=>∃ d e,DaV K H x d/\DaV K H y e/\d.canLay0=true/\e.canLay0=true/\d.depth<=60/\Q (.bl (PyData.eqv d e)) H
def rNeD (K:PySem.W.Frag):R2:=fun x y H Q=>∃ d e,DaV K H x d/\DaV K H y e/\d.canLay0=true/\e.canLay0=true/\d.depth<=60/\Q (.bl (!PyData.eqv d e)) H
theorem yfv (hu:X.A.units+64<cLine):OpR X (compareOp .Eq) (rEqD X.K):=by
 intro pins s σ H x y v u Q I rx ry h
 obtain ⟨d,e,h1,h2,c1,c2,dp,q⟩:=h
 obtain ⟨as,r1⟩:=h1.reads I rx
 obtain ⟨bs,r2⟩:=h2.reads I ry
 exact SeqAt.compareEq_reads r1 r2 c1 c2 (by have:=Nat.min_le_left d.depth e.depth;omega) ⟨.bl _,H,I,rfl,q⟩
theorem yfw (hu:X.A.units+64<cLine):OpR X (compareOp .NotEq) (rNeD X.K):=by
 intro pins s σ H x y v u Q I rx ry h
 obtain ⟨d,e,h1,h2,c1,c2,dp,q⟩:=h
 obtain ⟨as,r1⟩:=h1.reads I rx
 obtain ⟨bs,r2⟩:=h2.reads I ry
 exact SeqAt.compareNe_reads r1 r2 c1 c2 (by have:=Nat.min_le_left d.depth e.depth;omega) ⟨.bl _,H,I,rfl,q⟩
end
theorem hu64 {A:Around} {k:Nat} (hr:Room k A):A.units+64<cLine:=by
 have:=hr.un
 omega
def yii (K:PySem.W.Frag):R2:=fun x y H Q=>∃ l b xs zs,x = .ref l/\y = .ref b/\SqL K H l xs/\SqL K H b zs/\xs.length+zs.length<=sizeLine/\∀ p,H p=none->Q (.ref p) (upd H p (.lst (xs++zs)))
theorem ziK {X:Cx}:OpR X (binaryOp .Add) (yii X.K):=by
 intro pins s σ H x y v u Q I rx ry h
 obtain ⟨l,b,xs,zs,rfl,rfl,hH,hB,hz,q⟩:=h
 cases rx
 cases ry
 obtain ⟨its,r,⟨o,n,e1,e2,e3,e4⟩,z⟩:=I.list hH
 obtain ⟨its2,r2,⟨o2,n2,g1,g2,g3,g4⟩,z2⟩:=I.list hB
 obtain ⟨oc,od,oda,osl⟩:=o
 obtain ⟨oc2,od2,oda2,osl2⟩:=o2
 dsimp only at e2 e3 e4 g2 g3 g4
 subst e2 e3 e4 g2 g3 g4
 have l1:=r.length
 have l2:=r2.length
 refine concat_meets ⟨_,e1,rfl⟩ ⟨_,g1,rfl⟩ noFill_list_add seq_list_add PySem.F.slot_list_add PySem.F.entry_list_add (PySem.F.args_list_add_2 _ _) (list_addW l b its.toArray its2.toArray n n2 none none osl osl2 (by rw [List.size_toArray,List.size_toArray];omega)) ⟨e1,g1,?_⟩
 have ea:its.toArray++its2.toArray=(its++its2).toArray:=by simp
 rw [ea]
 exact ⟨.ref s.heap.objs.size,_,I.lnew (t' := s.toks) (r.append r2) (by rw [List.length_append];exact hz),rfl,q _ I.fresh⟩
end L2
namespace L2
open PySem PySem.Spec PyProof.Rows
section
variable {X:Cx} {pins:List (Addr×Obj)} {σ:St} {H:Hp} {s:Shared}
open Classical in
def isD (h:Heap) (d:PyData) (v:Value):Bool:=if q:∃ e as,e.canLay0=true/\Reads h v e as then PyData.eqv q.choose d else false
theorem yfx {h:Heap} {d e:PyData} {v:Value} {as:List Addr} (c:e.canLay0=true) (r:Reads h v e as):isD h d v=PyData.eqv e d:=by
 have q:∃ e as,e.canLay0=true/\Reads h v e as:=⟨e,as,c,r⟩
 unfold isD
 rw [dif_pos q]
 obtain ⟨as',c',r'⟩:=q.choose_spec
 have z:q.choose=e:=by first | exact (Reads.unique _ _ r' r).1 | exact (Reads.unique r' r).1 | exact Reads.unique _ _ _ _ _ c' r' r | exact PySem.SeqAt.Reads.unique _ _ _ _ _ c' r' r | exact PySem.Reads.unique _ _ _ _ _ c' r' r
 rw [z]
theorem zfg (I:Inv X pins σ H s):∀ {xs:List V} {ds:List PyData} {us:List Value},DaVs X.K H xs ds->Vals xs us->us.length=ds.length/\∀ (j:Nat) u d,us[j]? = some u->ds[j]? = some d->∃ as,Reads s.heap u d as
 | _,_,_,.nil,r=>by cases r;exact ⟨rfl,fun j u d e=>by cases e⟩
 | _,_,_,.cons h1 h2,r=>by
  cases r with
  | cons r1 r2 =>
   obtain ⟨l,q⟩:=zfg I h2 r2
   refine ⟨by rw [List.length_cons,List.length_cons,l],fun j u d e1 e2=>?_⟩
   cases j with
   | zero=>cases e1;cases e2;exact h1.reads I r1
   | succ j=>exact q j u d e1 e2
theorem zfh {h:Heap} {d:PyData}:∀ {us:List Value} {ds:List PyData},us.length=ds.length->(∀ (j:Nat) u e,us[j]? = some u->ds[j]? = some e->isD h d u=PyData.eqv e d)->us.any (isD h d)=ds.any fun e=>PyData.eqv e d
 | [],[],_,_=>rfl
 | u::us,e::ds,hl,hh=>by
  rw [List.any_cons,List.any_cons,hh 0 u e rfl rfl,zfh (us:=us) (ds:=ds) (Nat.succ.inj hl) fun j u' e' a b=>hh (j+1) u' e' a b]
end
end L2
namespace L2
open PySem PySem.Spec PyProof.Rows
section
variable {X:Cx} {tg:Expr}
theorem zcQ (ns:List Int):∀ k,k<=ns.length->preSum (fun i=>(ns[i]?).getD 0) k=(ns.take k).sum
 | 0,_=>by simp [preSum]
 | k+1,h=>by
  show preSum _ k+(ns[k]?).getD 0=_
  rw [zcQ ns k (by omega),List.take_succ,List.sum_append]
  congr 1
  rw [List.getElem?_eq_getElem (by omega)]
  simp
theorem zhN (hc:X.calm=true):CallR X (.builtin "sum") (fun xs H Q=>∃ (a:Addr) (ns:List Int),xs=[.ref a]/\SqL X.K H a (ns.map V.int)/\Q (.int ns.sum) H):=by
 intro pins s σ H xs us Q I r h
 obtain ⟨l,bs,rfl,hq,q⟩:=h
 obtain ⟨u,rfl,rx⟩:=ydq r
 cases rx
 obtain ⟨its,rv,pl,hz⟩:=I.list hq
 have hlt:l<s.heap.objs.size:=by obtain ⟨_,_,e,_⟩:=pl;exact Heap.lt_size e
 have hlen:its.length=bs.length:=by rw [<- rv.length,List.length_map]
 refine call_sum_walkAnyS (wpAny_pyIter_list pl.isList ?_)
 refine ⟨s.heap.objs.size,[s.heap.objs.size,l],[s.heap.objs.size],_,its.toArray.size,_,_,fun i=>(bs[i]?).getD 0,rfl,(Walks.list (prog:=X.prog) (w:=X.w) (A:=X.A.in1) (I.ok.hd hc) s.heap.objs.size l (Nat.ne_of_lt hlt) its.toArray).toS,
  ⟨⟨_,Heap.get?_push_size _ rfl,rfl,rfl⟩,pl.isList.push _⟩,fun b hb=>?_,fun i v hP=>?_,fun s' t' hm=>?_⟩
 ·rcases List.mem_cons.mp hb with rfl | hb
  ·exact Heap.lt_size (Heap.get?_push_size _ rfl)
  ·obtain rfl:=List.mem_singleton.mp hb
   obtain ⟨_,_,e,_⟩:=pl
   exact Heap.lt_size (Heap.get?_push_of_some _ e)
 ·have hP':its[i]? = some v:=by simpa using hP
  have hi:i<its.length:=(List.getElem?_eq_some_iff.mp hP').1
  have hb:(bs.map V.int)[i]? = some (V.int (bs[i]'(by omega))):=by rw [List.getElem?_map,List.getElem?_eq_getElem (by omega)];rfl
  obtain ⟨u,hu,ru⟩:=rv.get hb
  rw [hP'] at hu
  cases hu
  obtain ⟨t,rfl⟩:=ru
  refine ⟨t,?_⟩
  show Value.int _ t=Value.int ((bs[i]?).getD 0) t
  rw [List.getElem?_eq_getElem (by omega)];rfl
 ·obtain ⟨h',g',d',tk',os'⟩:=s'
  have e1:g'=s.gens:=hm.gens
  have e2:d'=s.drawn:=hm.drawn
  have e3:os'=s.os:=hm.os
  subst e1 e2 e3
  have e:preSum (fun i=>(bs[i]?).getD 0) its.toArray.size=bs.sum:=by
   rw [List.size_toArray,hlen,zcQ bs _ (Nat.le_refl _),List.take_of_length_le (Nat.le_refl _)]
  rw [e]
  refine ⟨.int _,H,I.kept (t' := tk') fun b o q=>?_,⟨_,rfl⟩,q⟩
  exact hm.heap b o (fun hb=>by rw [List.mem_singleton.mp hb] at q;exact Nat.lt_irrefl _ (Heap.lt_size q)) (Heap.get?_push_of_some _ q)
def Itr3 (lo c:Int) (n:Nat):It:=⟨fun i _=>i<n,fun i H x H' => H'=H/\x = .int (lo+i*c),fun i _=>n<=i⟩
theorem zeW {P:Program} {w:World} {K:PySem.W.Frag} {tg:Expr} (it:Addr) (lo c:Int) (n:Nat):Turn P w K tg (Itr3 lo c n) [it] it (fun i h=>IsRangeIter h it (lo+(i:Nat)*c) ((n:Int)-(i:Nat)) c) where
 mem:=by simp
 obj:=fun i h st b hb=>by
  have e:b=it:=by simpa using hb
  subst e
  exact ⟨_,st,fun v z=>by
   have z':Data.fields _=Data.cell v:=z
   cases z'⟩
 keep:=fun i h h' st k=>k it (by simp) _ st
 item:=by
  intro X hP hw hK hc i pins s σ H E I hf st hg
  subst hP hw hK
  obtain ⟨f0,f1,f2,f3,f4,f5⟩:=hf it (by simp)
  have W:=Walks.range (prog:=X.prog) (w:=X.w) (I.ok.hd hc) it lo c n
  refine W.item i s _ _ hg st fun v h' tk hv st' kk=>?_
  obtain ⟨t,rfl⟩:=hv
  have I1:Inv X pins σ H { s with heap:=h',toks:=tk }:=I.turned (fun b o hb e=>kk b o (by simpa using hb) e) f0 f1 f3 f4 f5
  exact ⟨_,rfl,yer (s:={ s with heap:=h',toks:=tk }) (n := "range_iterator") st' rfl rfl (by decide) ⟨.int (lo+i*c),H,I1,⟨t,rfl⟩,⟨rfl,rfl⟩,st',fun b hb=>(hf b hb).1⟩⟩
 done:=by
  intro X hP hw hK hc i pins s σ H E I hf st hg
  subst hP hw hK
  obtain ⟨f0,f1,f2,f3,f4,f5⟩:=hf it (by simp)
  exact wpAny_pyNext_range_end (I.ok.hd hc) st (by have:n<=i:=hg;omega) fun h' eb=>⟨rfl,I.turned (t' := s.toks) (fun b o hb e=>eb b o hb e) f0 f1 f3 f4 f5⟩
 self:=fun _ _ _ _ _ st h=>wpAny_pyIter_rangeiter st h
theorem zgV {a b c:Int} (hc:0<c):Builtin.Range.rangeSize a b c=(((if a<b then (b-a-1) / c+1 else 0:Int).toNat:Nat):Int):=by
 unfold Builtin.Range.rangeSize
 rw [if_pos hc]
 split
 ·have:0<=(b-a-1) / c:=Int.ediv_nonneg (by omega) (by omega)
  omega
 ·rfl
theorem zbF {x:Int} (h:x.natAbs<2 ^ 42):Builtin.Range.rangeFitsLong x=true:=by
 have h2:x.natAbs<4398046511104:=h
 simp only [Builtin.Range.rangeFitsLong,Bool.and_eq_true,decide_eq_true_eq]
 omega
theorem zgW {a b c:Int} (ha:a.natAbs<2 ^ 40) (hb:b.natAbs<2 ^ 40) (hc:0<c):(Builtin.Range.rangeSize a b c).natAbs<2 ^ 42:=by
 have ha2:a.natAbs<1099511627776:=ha
 have hb2:b.natAbs<1099511627776:=hb
 show _<4398046511104
 unfold Builtin.Range.rangeSize
 rw [if_pos hc]
 split
 ·have h1:0<=(b-a-1) / c:=Int.ediv_nonneg (by omega) (by omega)
  have h2:(b-a-1) / c<=b-a-1:=Int.ediv_le_self _ (by omega)
  generalize (b-a-1) / c=d at *
  omega
 ·decide
theorem zgl {a b c:Int} (ha:a.natAbs<2 ^ 40) (hb:b.natAbs<2 ^ 40) (hc:0<c) (hc':c<2 ^ 20):Builtin.Range.small a b c=true:=by
 have l:(2:Nat) ^ 40<2 ^ 42:=by decide
 unfold Builtin.Range.small
 rw [zbF (Nat.lt_trans ha l),zbF (Nat.lt_trans hb l),zbF (x:=c) (by have h2:c<1048576:=hc';show _<4398046511104;omega),zbF (zgW ha hb hc),if_pos hc,zbF (x:=b+(c-1)) (by have h2:c<1048576:=hc';have h3:b.natAbs<1099511627776:=hb;show _<4398046511104;omega)]
 simp
def yij (ta:TA):TI:=fun σ H R=>ta σ H fun vs H1=>∃ i j c:Int,vs=[.int i,.int j,.int c]/\(i.natAbs<2 ^ 40/\j.natAbs<2 ^ 40/\0<c/\c<2 ^ 20)/\R (Itr3 i c (if i<j then (j-i-1) / c+1 else 0:Int).toNat) H1
theorem zgX {pins:List (Addr×Obj)} {σ:St} {H:Hp} {s:Shared} {R:It->Hp->Prop} {E:Value->Shared->Prop} {lo hi c:Int} {t u v:Tok} {tk:Nat} (I:Inv X pins σ H s) (h1:lo.natAbs<2 ^ 40) (h2:hi.natAbs<2 ^ 40) (h3:0<c) (h4:c<2 ^ 20)
  (q:R (Itr3 lo c (if lo<hi then (hi-lo-1) / c+1 else 0:Int).toNat) H):wpAny (model X.prog X.w) X.A (pyIter (.ref s.heap.objs.size)) (PIE X pins σ tg R) E { s with heap:=s.heap.push { cls:=.type "range",data:=.fields #[.int lo t,.int hi u,.int c v] },toks:=tk }:=by
 refine wpAny_pyIter_range (IsRange.new ..) (zgl h1 h2 h3 h4) ?_
 have I1:Inv X pins σ H { s with heap:=s.heap.push { cls:=.type "range",data:=.fields #[.int lo t,.int hi u,.int c v] },toks:=tk }:=I.kept fun b o e=>Heap.get?_push_of_some _ e
 refine ⟨(s.heap.push { cls:=.type "range",data:=.fields #[.int lo t,.int hi u,.int c v] }).objs.size,[(s.heap.push { cls:=.type "range",data:=.fields #[.int lo t,.int hi u,.int c v] }).objs.size],_,_,H,rfl,
  I1.kept (t' := tk) fun b o e=>Heap.get?_push_of_some _ e,zeW _ lo c (if lo<hi then (hi-lo-1) / c+1 else 0:Int).toNat,?_,fun b hb=>?_,q⟩
 ·have e1:lo+((0:Nat):Int)*c=lo:=by simp
  have e2:(((if lo<hi then (hi-lo-1) / c+1 else 0:Int).toNat:Nat):Int)-((0:Nat):Int)=Builtin.Range.rangeSize lo hi c:=by rw [zgV h3];omega
  show IsRangeIter _ _ (lo+((0:Nat):Int)*c) ((((if lo<hi then (hi-lo-1) / c+1 else 0:Int).toNat:Nat):Int)-((0:Nat):Int)) c
  rw [e1,e2]
  exact Heap.get?_push_size _ rfl
 ·have e:b=(s.heap.push { cls:=.type "range",data:=.fields #[.int lo t,.int hi u,.int c v] }).objs.size:=by simpa using hb
  subst e
  exact I1.fpOk (Nat.le_refl _) (I1.hok.fresh (Nat.le_refl _))
theorem zgY {a b c:Expr} {ta:TA} {p pos:Pos} (hg:Gl X "range") (hm:X.mg "range" = none) (ha:PA X [a,b,c] ta) (hs:starEach [a,b,c] X.env=[(false,eval a X.env),(false,eval b X.env),(false,eval c X.env)]:=by rfl) (hs2:starEach [b,c] X.env=[(false,eval b X.env),(false,eval c X.env)]:=by rfl) :
  PI X tg (.Call (.Name "range" p) [a,b,c] [] pos) (yij ta):=by
 intro pins s σ H R I h
 refine Call_ (yd4 I hg hm boot_range (PyProof.Rows.callWith_type1 (thn (ha pos pins s σ H _ I h) fun us s1 ⟨vs,H1,I1,r1,q1⟩=>?_) (by rw [hs,hs2]) (by rw [hs2];rfl)))
 obtain ⟨i,j,c,e,⟨q1,q2,q3,q4⟩,q⟩:=q1
 subst e
 cases r1 with
 | cons r rr =>
  cases rr with
  | cons r' rr =>
   cases rr with
   | cons r'' rr =>
    cases rr
    obtain ⟨t,rfl⟩:=r
    obtain ⟨t',rfl⟩:=r'
    obtain ⟨t'',rfl⟩:=r''
    exact call_range_3 (by omega) (zgX I1 q1 q2 q3 q4 q) (.inl (PyProof.noPylong_small (by omega)))
end
end L2
namespace L2
open PySem PySem.Spec PyProof.Rows
open PySem.Builtin PySem.Builtin.Str
section
variable {X:Cx}
def cutS (z:Str) (lo hi:Option Int):Str:=⟨((z.cps.toList.drop (HT.sIx z.cps.toList.length 0 lo)).take (HT.sIx z.cps.toList.length z.cps.toList.length hi-HT.sIx z.cps.toList.length 0 lo)).toArray⟩
theorem zbw (n d:Nat) (i:Int):max 0 (min (if i<0 then i+(n:Int) else i) (n:Int))=((HT.sIx n d (some i):Nat):Int):=by
 show max 0 (min (if i<0 then i+(n:Int) else i) (n:Int))=(((if i<0 then (i+(n:Int)).toNat else min i.toNat n):Nat):Int)
 split<;>omega
theorem zbR {a b:Int} {A B:Nat} (ha:a=A) (hb:b=B):sliceRange a b 1=(List.range (B-A)).map fun k=>A+k:=by
 subst ha hb
 unfold sliceRange
 simp only [show (1:Int) > 0 by decide,if_true]
 have:(if (A:Int)<(B:Int) then ((B:Int)-A+1-1) / 1 else 0).toNat=B-A:=by
  split<;>(try simp only [Int.ediv_one])<;>omega
 rw [this]
 apply List.map_congr_left
 intro k _
 omega
theorem zhO (xs:List Nat) (i k:Nat):(List.range k).filterMap (fun m=>xs[i+m]?)=(xs.drop i).take k:=by
 induction k generalizing i with
 | zero=>simp
 | succ k ih =>
  rw [List.range_succ_eq_map,List.filterMap_cons,List.filterMap_map]
  have e:((fun m=>xs[i+m]?) ∘ Nat.succ)=fun m=>xs[(i+1)+m]? := by
   funext m;show xs[i+(m+1)]? = _;congr 1;omega
  rw [e,ih (i+1)]
  cases h:xs[i]? with
  | none =>
   have hl:xs.length<=i:=List.getElem?_eq_none_iff.mp h
   simp only [Nat.add_zero,h]
   rw [List.drop_of_length_le (by omega),List.drop_of_length_le hl];simp
  | some v =>
   have hi:=(List.getElem?_eq_some_iff.mp h).1
   simp only [Nat.add_zero,h]
   rw [List.drop_eq_getElem_cons hi,List.take_succ_cons]
   congr 1
   exact (Option.some.inj ((List.getElem?_eq_getElem hi).symm.trans h)).symm
theorem zgm (n:Nat) (lo hi:Option Int):strSliceIndices lo hi 1 n=(List.range (HT.sIx n n hi-HT.sIx n 0 lo)).map fun k=>HT.sIx n 0 lo+k:=by
 cases lo with
 | none =>
  cases hi with
  | none=>exact zbR rfl rfl
  | some j=>exact zbR rfl (zbw n n j)
 | some i =>
  cases hi with
  | none=>exact zbR (zbw n 0 i) rfl
  | some j=>exact zbR (zbw n 0 i) (zbw n n j)
theorem zhP (z:Str) (lo hi:Option Int):Txt.slice z lo hi=cutS z lo hi:=by
 have hz:z.length=z.cps.toList.length:=by simp [Str.length]
 unfold Txt.slice cutS
 rw [hz,zgm,List.filterMap_map]
 have e:((fun x=>z.cps[x]?) ∘ fun k=>HT.sIx z.cps.toList.length 0 lo+k)=fun m=>z.cps.toList[HT.sIx z.cps.toList.length 0 lo+m]? := by
  funext m;simp
 rw [e,zhO]
 split
 ·rename_i hc
  simp only [beq_self_eq_true,Bool.true_and,beq_iff_eq,List.length_map,List.length_range] at hc
  have h1:HT.sIx z.cps.toList.length z.cps.toList.length hi<=z.cps.toList.length:=HT.sIx_le _ _ (Nat.le_refl _) _
  have h2:HT.sIx z.cps.toList.length 0 lo=0\/z.cps.toList.length=0:=by omega
  rw [hc]
  rcases h2 with h2 | h2
  ·rw [h2,List.drop_zero,List.take_of_length_le (Nat.le_refl _)]
  ·have:z.cps.toList=[]:=List.eq_nil_of_length_eq_zero h2
   have h3:z.cps = #[]:=by simpa using this
   simp [h3]
   cases z;simp_all
 ·rfl
theorem zdg {v:Value} {o:Option Int} (p:IsPart v o):∃ l:Option (Int×Tok),v=partValue l/\l.map (·.1)=o:=by
 cases p with
 | none=>exact ⟨none,rfl,rfl⟩
 | int i t=>exact ⟨some (i,t),rfl,rfl⟩
theorem yg7:SlR X (fun x lo hi H Q=>∃ z,x = .str z/\z.length<=sizeLine/\Q (.str (cutS z lo hi)) H):=by
 intro pins s σ H x v vl vu lo hi sl Q I rx hs pl pu h
 obtain ⟨z,rfl,hz,q⟩:=h
 obtain ⟨t,rfl⟩:=rx
 obtain ⟨l,rfl,rfl⟩:=zdg pl
 obtain ⟨u,rfl,rfl⟩:=zdg pu
 refine ⟨"str",_,F.slot_str_getitem.lookup,typeIs_str _ _ _,?_⟩
 refine wpAny_getItem_str_slice (l:=l) (u:=u) (st:=none) hs rfl ?_
 refine post_val_or_str ⟨Nat.le_trans (Txt.slice_le z (l.map (·.1)) (u.map (·.1))) hz,fun t' k=>?_⟩
 have e:=zhP z (l.map (·.1)) (u.map (·.1))
 refine ⟨.str (cutS z (l.map (·.1)) (u.map (·.1))),H,I.tok _,⟨t',?_⟩,q⟩
 rw [<- e];rfl
theorem ziL:OpR X (compareOp .IsNot) (fun x y H Q=>∃ a b,x = .bl a/\y = .bl b/\Q (.bl (!(a == b))) H):=by
 intro pins s σ H x y v u Q I rx ry h
 obtain ⟨a,b,rfl,rfl,q⟩:=h
 cases rx
 cases ry
 refine wpAny_isNot_plain rfl (yaP I q ?_)
 cases a<;>cases b<;>rfl
end
end L2
namespace L2
open PySem PySem.Spec PyProof.Rows
open PySem.Builtin PySem.Builtin.Str
theorem zd4:bootBuiltins "reversed" = some (.type "reversed"):=by decide +kernel
def Itv (K:PySem.W.Frag) (a:Addr) (n:Nat):It :=
 ⟨fun i H=>∃ xs x,SqL K H a xs/\xs.length=n/\i<n/\xs[n-1-i]? = some x,fun i H x H' => H'=H/\∀ xs,SqL K H a xs->xs[n-1-i]? = some x,fun i _=>n<=i⟩
theorem zhQ {P:Program} {w:World} {K:PySem.W.Frag} {tg:Expr} (a it:Addr) (n:Nat):Turn P w K tg (Itv K a n) [it] it (fun i h=>i<=n/\h.IsRevIter it a ((n:Int)-1-(i:Int))) where
 mem:=by simp
 obj:=fun i h st b hb=>by
  have e:b=it:=by simpa using hb
  subst e
  obtain ⟨_,o,e,c,d⟩:=st
  exact ⟨o,e,fun v z=>by rw [d] at z;cases z⟩
 keep:=fun i h h' st k=>⟨st.1,st.2.at fun o e=>k it (by simp) o e⟩
 item:=by
  intro X hP hw hK hc i pins s σ H E I hf st hg
  subst hP hw hK
  obtain ⟨xs,x,hq,hn,hi,hx⟩:=hg
  obtain ⟨its,rv,p,hz⟩:=I.list hq
  obtain ⟨u,hu,ru⟩:=rv.get hx
  obtain ⟨f0,f1,f2,f3,f4,f5⟩:=hf it (by simp)
  have e:(n:Int)-1-(i:Int)=((n-1-i:Nat):Int):=by omega
  have st2:=st.2
  rw [e] at st2
  refine wpAny_pyNext_rev_item st2 p.isList (x:=u) (by simpa using hu) fun h' st' sb=>?_
  have I1:Inv X pins σ H { s with heap:=h' }:=I.turned (t' := s.toks) (fun b o hb e=>(sb.2 b hb).trans e) f0 f1 f3 f4 f5
  have e2:((n-1-i:Nat):Int)-1=(n:Int)-1-((i+1:Nat):Int):=by omega
  rw [e2] at st'
  obtain ⟨o,eo,c,d⟩:=id st'
  exact ⟨u,rfl,yer (s:={ s with heap:=h' }) eo c d (by decide) ⟨x,H,I1,ru,⟨rfl,fun ys hy=>by rw [I.list_inj hy hq];exact hx⟩,⟨hi,st'⟩,fun b hb=>(hf b hb).1⟩⟩
 done:=by
  intro X hP hw hK hc i pins s σ H E I hf st hg
  subst hP hw hK
  obtain ⟨f0,f1,f2,f3,f4,f5⟩:=hf it (by simp)
  have hg':n<=i:=hg
  have e:(n:Int)-1-(i:Int) = -1:=by have:=st.1;omega
  have st2:=st.2
  rw [e] at st2
  exact wpAny_pyNext_rev_end (I.ok.hd hc) st2 fun h' eb=>⟨rfl,I.turned (t' := s.toks) (fun b o hb e=>eb b o hb e) f0 f1 f3 f4 f5⟩
 self:=fun _ _ _ _ _ st h=>wpAny_pyIter_revIter st.2 h
def iRev (K:PySem.W.Frag) (ta:TA):TI:=fun σ H R=>ta σ H fun vs H1=>∃ a xs,vs=[.ref a]/\SqL K H1 a xs/\R (Itv K a xs.length) H1
section
variable {X:Cx} {tg:Expr}
theorem yg8 {a:Expr} {ta:TA} {p pos:Pos} (hg:Gl X "reversed") (hm:X.mg "reversed" = none) (ha:PA X [a] ta) (hs:starEach [a] X.env=[(false,eval a X.env)]:=by rfl):PI X tg (.Call (.Name "reversed" p) [a] [] pos) (iRev X.K ta):=by
 intro pins s σ H R I h
 refine Call_ (yd4 I hg hm zd4 (PyProof.Rows.callWith_type1 (thn (ha pos pins s σ H _ I h) fun us s1 ⟨vs,H1,I1,r1,q1⟩=>?_) hs rfl))
 obtain ⟨a,xs,rfl,hq,q⟩:=q1
 obtain ⟨u,rfl,rx⟩:=ydq r1
 cases rx
 obtain ⟨its,rv,pl,hz⟩:=I1.list hq
 have hl:=rv.length
 refine call_reversed_list pl.isList ?_
 have it:(s1.heap.push (revObj a ((its.toArray.size:Int)-1))).IsRevIter s1.heap.objs.size a ((xs.length:Int)-1-((0:Nat):Int)):=by
  have e:(xs.length:Int)-1-((0:Nat):Int)=(its.toArray.size:Int)-1:=by rw [List.size_toArray,<- hl];omega
  rw [e]
  exact ⟨_,Heap.get?_push_size _ rfl,rfl,rfl⟩
 have I2:Inv X pins σ H1 { s1 with heap:=s1.heap.push (revObj a ((its.toArray.size:Int)-1)) }:=I1.kept (t' := s1.toks) fun b o e=>Heap.get?_push_of_some _ e
 refine wpAny_pyIter_revIter it ?_
 refine ⟨s1.heap.objs.size,[s1.heap.objs.size],_,_,H1,rfl,I2,zhQ a s1.heap.objs.size xs.length,⟨Nat.zero_le _,it⟩,fun b hb=>?_,q⟩
 have e:b=s1.heap.objs.size:=by simpa using hb
 subst e
 exact I1.fpOk (Nat.le_refl _) (I1.hok.fresh (Nat.le_refl _))
theorem zhR:MtR X "str.upper" (fun x vs H Q=>∃ z,x = .str z/\vs=[]/\(Txt.upper z).length<=sizeLine/\Q (.str (Txt.upper z)) H):=by
 intro pins s σ H x vs v us Q I rx rv h
 obtain ⟨z,rfl,rfl,hl,q⟩:=h
 obtain ⟨t,rfl⟩:=rx
 cases rv
 exact call_gives F.slot_str_upper (typeIs_str s z t) F.entry_str_upper (F.args_str_upper_1 _) (gives_str_upper z t (decide_eq_false (Nat.not_lt.mpr hl))) ⟨hl,.str _,H,I.tok _,⟨_,rfl⟩,q⟩
end
end L2
namespace Sm
open PySem L2
inductive AV where
 | non | bl (b:Bool) | int (i:Int) | str (x:Str)
 | tup (xs:List AV)
 | fl (xs:List AV)
 | ref (n:Nat)
 | exc (c:Nat)
 deriving Inhabited
inductive AO where
 | lst (xs:List AV)
 | dct (t:Bool) (kvs:List (AV×AV))
 | ins (c:Nat) (fs:List (Option AV))
abbrev AH:=List AO
abbrev En:=List (Option AV)
inductive Out (α:Type) where
 | ok (a:α) (h:AH)
 | ex (c:Nat) (h:AH)
 | bad
@[simp] def Out.bind {α β:Type} (o:Out α) (f:α->AH->Out β):Out β :=
 match o with
 | .ok a h=>f a h
 | .ex c h=>.ex c h
 | .bad=>.bad
inductive OutS where
 | nx (e:En) (h:AH)
 | rt (v:AV) (h:AH)
 | bk (e:En) (h:AH)
 | ct (e:En) (h:AH)
 | ex (c:Nat) (e:En) (h:AH)
 | bad
abbrev SE:=En->AH->Out AV
abbrev SB:=En->AH->Out Bool
abbrev SL:=En->AH->Out (List AV)
abbrev SS:=En->AH->OutS
abbrev Fn:=List AV->AH->Out AV
@[simp] def Out.go {α:Type} (o:Out α) (e:En) (f:α->AH->OutS):OutS :=
 match o with
 | .ok a h=>f a h
 | .ex c h=>.ex c e h
 | .bad=>.bad
structure Tb where
 K:PySem.W.Frag
 cls:Nat->Option Addr
 exc:Nat->Option Addr
 fields:Nat->List Str
 nd:∀ c,(fields c).Nodup
 few:∀ c,(fields c).length<=500
def KL (K:PySem.W.Frag) (a:Addr) (xs:List V):Prop:=∃ (o:Obj) (its:Array Value) (n:Nat),K.lookup a=some o/\o.cls = .type "list" /\ o.dict=none/\o.data = .seq its n/\its.size<=sizeLine/\Vals xs its.toList
structure Ix where
 refs:List Addr
 priv:List Addr
def Ix.all (ι:Ix):List Addr:=ι.refs++ι.priv
mutual
inductive RV (T:Tb) (ι:Ix) (H:Hp):AV->V->Prop
 | non:RV T ι H .non .non
 | bl (b:Bool):RV T ι H (.bl b) (.bl b)
 | int (i:Int):RV T ι H (.int i) (.int i)
 | str {x:Str} (n:x.length<=sizeLine) (o:x.cps.all (· < 0x110000)=true):RV T ι H (.str x) (.str x)
 | tup {xs:List AV} {us:List V} {a:Addr} (n:a∉ι.all) (h:H a=some (.tup us)) (r:RVs T ι H xs us):RV T ι H (.tup xs) (.ref a)
 | fl {xs:List AV} {us:List V} {a:Addr} (n:a∉ι.all) (h:Rd H a (.lst us)) (r:RVs T ι H xs us):RV T ι H (.fl xs) (.ref a)
 | kfl {xs:List AV} {us:List V} {a:Addr} (h:KL T.K a us) (r:RVs T ι H xs us):RV T ι H (.fl xs) (.ref a)
 | ref {k:Nat} {a:Addr} (h:ι.refs[k]? = some a):RV T ι H (.ref k) (.ref a)
 | exc {c:Nat} {C a:Addr} (n:a∉ι.all) (h:T.exc c=some C) (q:H a=some (excO a (.ref C))):RV T ι H (.exc c) (.ref a)
inductive RVs (T:Tb) (ι:Ix) (H:Hp):List AV->List V->Prop
 | nil:RVs T ι H [] []
 | cons {x:AV} {u:V} {xs:List AV} {us:List V} (r:RV T ι H x u) (rs:RVs T ι H xs us):RVs T ι H (x::xs) (u::us)
end
structure Grow (ι:Ix) (H:Hp) (ι':Ix) (H':Hp):Prop where
 pre:∃ n,ι'.refs=ι.refs++n/\∀ a∈n,H a=none
 priv:ι'.priv=ι.priv
 keep:∀ a o,a∉ι.refs->H a=some o->H' a=some o
 live:∀ a∈ι.all,H' a≠none
theorem zem:∀ {l:List Addr} {i j:Nat} {a:Addr},l.Nodup->l[i]? = some a->l[j]? = some a->i=j
 | [],_,_,_,_,e,_=>by simp at e
 | x::l,0,0,_,_,_,_=>rfl
 | x::l,0,j+1,a,n,e,f=>by
  simp at e f;subst e
  exact absurd (List.mem_of_getElem? f) (List.nodup_cons.mp n).1
 | x::l,i+1,0,a,n,e,f=>by
  simp at e f;subst f
  exact absurd (List.mem_of_getElem? e) (List.nodup_cons.mp n).1
 | x::l,i+1,j+1,a,n,e,f=>by
  simp at e f
  rw [zem (List.nodup_cons.mp n).2 e f]
theorem Ix.nr {ι:Ix} {a:Addr} (h:a∉ι.all):a∉ι.refs:=fun z=>h (List.mem_append_left _ z)
theorem Ix.np {ι:Ix} {a:Addr} (h:a∉ι.all):a∉ι.priv:=fun z=>h (List.mem_append_right _ z)
theorem Grow.refl {ι:Ix} {H:Hp} (l:∀ a∈ι.all,H a≠none):Grow ι H ι H:=⟨⟨[],by simp,by simp⟩,rfl,fun _ _ _ e=>e,l⟩
theorem Grow.at {ι ι':Ix} {H H':Hp} (g:Grow ι H ι' H') {k:Nat} {a:Addr} (h:ι.refs[k]? = some a):ι'.refs[k]? = some a:=by
 obtain ⟨n,e,_⟩:=g.pre
 rw [e,List.getElem?_append_left (List.getElem?_eq_some_iff.mp h).1]
 exact h
theorem Grow.outR {ι ι':Ix} {H H':Hp} (g:Grow ι H ι' H') {a:Addr} {o:HO} (n:a∉ι.refs) (e:H a=some o):a∉ι'.refs:=fun z=>by
 obtain ⟨m,e',hm⟩:=g.pre
 rw [e'] at z
 rcases List.mem_append.mp z with z | z
 ·exact n z
 ·rw [hm a z] at e;cases e
theorem Grow.out {ι ι':Ix} {H H':Hp} (g:Grow ι H ι' H') {a:Addr} {o:HO} (n:a∉ι.all) (e:H a=some o):a∉ι'.all:=fun z=>by
 rcases List.mem_append.mp z with z | z
 ·exact g.outR (Ix.nr n) e z
 ·rw [g.priv] at z;exact Ix.np n z
theorem Grow.trans {ι ι' ι'':Ix} {H H' H'':Hp} (g:Grow ι H ι' H') (k:Grow ι' H' ι'' H''):Grow ι H ι'' H'' := by
 obtain ⟨n,e1,hn⟩:=g.pre
 obtain ⟨m,e2,hm⟩:=k.pre
 refine ⟨⟨n++m,by rw [e2,e1];simp,fun a ha=>?_⟩,k.priv.trans g.priv,fun a o na e=>k.keep a o (g.outR na e) (g.keep a o na e),fun a ha=>k.live a ?_⟩
 ·rcases List.mem_append.mp ha with z | z
  ·exact hn a z
  ·have q:=hm a z
   by_cases hi:a∈ι.refs
   ·exact absurd q (g.live a (List.mem_append_left _ hi))
   ·cases e:H a with
    | none=>rfl
    | some o=>rw [g.keep a o hi e] at q;cases q
 ·rcases List.mem_append.mp ha with z | z
  ·exact List.mem_append_left _ (by rw [e1];exact List.mem_append_left _ z)
  ·exact List.mem_append_right _ (by rw [g.priv];exact z)
structure Ext (ι:Ix) (H:Hp) (ι':Ix) (H':Hp):Prop where
 at_:∀ {k:Nat} {a:Addr},ι.refs[k]? = some a->ι'.refs[k]? = some a
 keep:∀ a o,a∉ι.all->H a=some o->H' a=some o
 out:∀ a o,a∉ι.all->H a=some o->a∉ι'.all
theorem Grow.ext {ι ι':Ix} {H H':Hp} (g:Grow ι H ι' H'):Ext ι H ι' H' := ⟨g.at,fun a o n e=>g.keep a o (Ix.nr n) e,fun a o n e=>g.out n e⟩
theorem Ext.trans {ι ι' ι'':Ix} {H H' H'':Hp} (g:Ext ι H ι' H') (k:Ext ι' H' ι'' H''):Ext ι H ι'' H'' :=
 ⟨fun e=>k.at_ (g.at_ e),fun a o n e=>k.keep a o (g.out a o n e) (g.keep a o n e),fun a o n e=>k.out a o (g.out a o n e) (g.keep a o n e)⟩
theorem zfi {ι ι':Ix} {H H':Hp} (g:Ext ι H ι' H') {a:Addr} {u:HO} (n:a∉ι.all) (r:Rd H a u):Rd H' a u:=by
 rcases r with r | ⟨o,r⟩
 ·exact .inl (g.keep a _ n r)
 ·exact .inr ⟨o,g.keep a _ n r⟩
theorem yg9 {ι ι':Ix} {H H':Hp} (g:Ext ι H ι' H') {a:Addr} {u:HO} (n:a∉ι.all) (r:Rd H a u):a∉ι'.all:=by
 rcases r with r | ⟨o,r⟩
 ·exact g.out _ _ n r
 ·exact g.out _ _ n r
mutual
theorem RV.ext {T:Tb} {ι ι':Ix} {H H':Hp} (g:Ext ι H ι' H'):∀ {x:AV} {u:V},RV T ι H x u->RV T ι' H' x u
 | _,_,.non=>.non
 | _,_,.bl b=>.bl b
 | _,_,.int i=>.int i
 | _,_,.str n o=>.str n o
 | _,_,.tup n h r=>.tup (g.out _ _ n h) (g.keep _ _ n h) (RVs.ext g r)
 | _,_,.fl n h r=>.fl (yg9 g n h) (zfi g n h) (RVs.ext g r)
 | _,_,.kfl h r=>.kfl h (RVs.ext g r)
 | _,_,.ref h=>.ref (g.at_ h)
 | _,_,.exc n h q=>.exc (g.out _ _ n q) h (g.keep _ _ n q)
theorem RVs.ext {T:Tb} {ι ι':Ix} {H H':Hp} (g:Ext ι H ι' H'):∀ {xs:List AV} {us:List V},RVs T ι H xs us->RVs T ι' H' xs us
 | _,_,.nil=>.nil
 | _,_,.cons r rs=>.cons (RV.ext g r) (RVs.ext g rs)
end
theorem RV.mono {T:Tb} {ι ι':Ix} {H H':Hp} (g:Grow ι H ι' H') {x:AV} {u:V} (r:RV T ι H x u):RV T ι' H' x u:=r.ext g.ext
theorem RVs.mono {T:Tb} {ι ι':Ix} {H H':Hp} (g:Grow ι H ι' H') {xs:List AV} {us:List V} (r:RVs T ι H xs us):RVs T ι' H' xs us:=r.ext g.ext
section
variable {T:Tb} {ι:Ix} {H:Hp}
theorem RVs.length:∀ {xs:List AV} {us:List V},RVs T ι H xs us->xs.length=us.length
 | _,_,.nil=>rfl
 | _,_,.cons _ rs=>by simp [RVs.length rs]
theorem RVs.get:∀ {xs:List AV} {us:List V} {i:Nat} {x:AV},RVs T ι H xs us->xs[i]? = some x->∃ u,us[i]? = some u/\RV T ι H x u
 | _,_,_,_,.nil,e=>by simp at e
 | _,_,0,_,.cons r _,e=>by simp at e;subst e;exact ⟨_,rfl,r⟩
 | _,_,i+1,x,.cons _ t,e=>by
  obtain ⟨u,h1,h2⟩:=RVs.get (i:=i) (x:=x) t (by simpa using e)
  exact ⟨u,by simpa using h1,h2⟩
theorem RVs.append:∀ {xs ys:List AV} {us ws:List V},RVs T ι H xs us->RVs T ι H ys ws->RVs T ι H (xs++ys) (us++ws)
 | _,_,_,_,.nil,s=>s
 | _,_,_,_,.cons r t,s=>.cons r (RVs.append t s)
theorem RVs.set {x:AV} {u:V} (r:RV T ι H x u):∀ {xs:List AV} {us:List V} (i:Nat),RVs T ι H xs us->RVs T ι H (xs.set i x) (us.set i u)
 | _,_,_,.nil=>.nil
 | _,_,0,.cons _ t=>.cons r t
 | _,_,i+1,.cons q t=>.cons q (RVs.set r i t)
theorem RVs.take:∀ {xs:List AV} {us:List V} (n:Nat),RVs T ι H xs us->RVs T ι H (xs.take n) (us.take n)
 | _,_,0,_=>by simpa using RVs.nil
 | _,_,_+1,.nil=>.nil
 | _,_,n+1,.cons r t=>.cons r (RVs.take n t)
theorem RVs.drop:∀ {xs:List AV} {us:List V} (n:Nat),RVs T ι H xs us->RVs T ι H (xs.drop n) (us.drop n)
 | _,_,0,r=>r
 | _,_,_+1,.nil=>.nil
 | _,_,n+1,.cons _ t=>RVs.drop n t
theorem RVs.reverse:∀ {xs:List AV} {us:List V},RVs T ι H xs us->RVs T ι H xs.reverse us.reverse
 | _,_,.nil=>.nil
 | _,_,.cons r t=>by simpa using (RVs.reverse t).append (.cons r .nil)
end
def kA:Key->AV
 | .inl i=>.int i
 | .inr x=>.str x
def OR (T:Tb) (ι:Ix) (H:Hp):AO->HO->Prop
 | .lst xs,o=>∃ us,o = .lst us/\RVs T ι H xs us
 | .dct false kvs,o=>∃ kus:List (Key×V),o = .dK kus/\Paired (fun (p:AV×AV) (q:Key×V)=>p.1=kA q.1/\RV T ι H p.2 q.2) kvs kus
 | .dct true kvs,o=>∃ kus:List (List Key×V),o = .dT kus/\Paired (fun (p:AV×AV) (q:List Key×V)=>p.1 = .tup (q.1.map kA)/\RV T ι H p.2 q.2) kvs kus
 | .ins c fs,o=>∃ C dx fus,T.cls c=some C/\o = .ins C dx fus/\(fus.map (·.1)).Nodup/\(∀ p∈fus,p.1∈T.fields c)/\fs.length=(T.fields c).length /\
   ∀ (i:Nat) (v:AV),fs[i]? = some (some v)->∃ f u,(T.fields c)[i]? = some f/\fus.lookup f=some u/\RV T ι H v u
theorem OR.mono {T:Tb} {ι ι':Ix} {H H':Hp} (g:Grow ι H ι' H') {o:AO} {u:HO} (h:OR T ι H o u):OR T ι' H' o u:=by
 cases o with
 | lst xs=>obtain ⟨us,e,r⟩:=h;exact ⟨us,e,r.mono g⟩
 | dct t kvs =>
  cases t with
  | false=>obtain ⟨us,e,r⟩:=h;exact ⟨us,e,Paired.mapP r fun _ _ ⟨a,b⟩=>⟨a,b.mono g⟩⟩
  | true=>obtain ⟨us,e,r⟩:=h;exact ⟨us,e,Paired.mapP r fun _ _ ⟨a,b⟩=>⟨a,b.mono g⟩⟩
 | ins c fs =>
  obtain ⟨C,dx,fus,a,b,n,w,l,r⟩:=h
  refine ⟨C,dx,fus,a,b,n,w,l,fun i v e=>?_⟩
  obtain ⟨f,u,e1,e2,q⟩:=r i v e
  exact ⟨f,u,e1,e2,q.mono g⟩
structure Sim (T:Tb) (ι:Ix) (h:AH) (H:Hp):Prop where
 len:ι.refs.length=h.length
 nd:ι.refs.Nodup
 plive:∀ a∈ι.priv,H a≠none
 obj:∀ (i:Nat) (o:AO) (a:Addr),h[i]? = some o->ι.refs[i]? = some a->∃ u,H a=some u/\OR T ι H o u
section
variable {T:Tb} {ι:Ix} {h:AH} {H:Hp}
theorem Sim.live (S:Sim T ι h H):∀ a∈ι.all,H a≠none:=fun a ha z=>by
 rcases List.mem_append.mp ha with ha | ha
 ·obtain ⟨i,hi⟩:=List.mem_iff_getElem?.mp ha
  have hl:i<h.length:=by rw [<- S.len];exact (List.getElem?_eq_some_iff.mp hi).1
  obtain ⟨u,e,_⟩:=S.obj i h[i] a (by simp [hl]) hi
  rw [z] at e;cases e
 ·exact S.plive a ha z
theorem Sim.refl (S:Sim T ι h H):Grow ι H ι H:=.refl S.live
theorem Sim.fresh (S:Sim T ι h H) {p:Addr} (n:H p=none):p∉ι.all:=fun z=>S.live p z n
theorem Sim.still (S:Sim T ι h H) {H':Hp} (g:Grow ι H ι H') (k:∀ a∈ι.refs,H' a=H a):Sim T ι h H' :=
 ⟨S.len,S.nd,fun a ha=>g.live a (List.mem_append_right _ ha),fun i o a e1 e2=>by
  obtain ⟨u,e,r⟩:=S.obj i o a e1 e2
  exact ⟨u,by rw [k a (List.mem_of_getElem? e2)];exact e,r.mono g⟩⟩
theorem Sim.growNew (S:Sim T ι h H) {p:Addr} {o:HO} (n:H p=none):Grow ι H ι (upd H p o) :=
 ⟨⟨[],by simp,by simp⟩,rfl,fun a u _ e=>by rw [yaT (zav e n)];exact e,fun a ha=>by
  rw [yaT (show a≠p from fun z=>S.fresh n (z▸ha))];exact S.live a ha⟩
theorem Sim.new (S:Sim T ι h H) {p:Addr} {o:HO} (n:H p=none):Sim T ι h (upd H p o) :=
 S.still (S.growNew n) fun a ha=>yaT fun z=>S.fresh n (z▸List.mem_append_left _ ha)
def Ix.add (ι:Ix) (p:Addr):Ix:=⟨ι.refs++[p],ι.priv⟩
theorem Sim.growAdd (S:Sim T ι h H) {p:Addr} {u:HO} (n:H p=none):Grow ι H (ι.add p) (upd H p u) :=
 ⟨⟨[p],rfl,fun a ha=>by have e:a=p:=(by simpa using ha);rw [e];exact n⟩,rfl,(S.growNew n).keep,(S.growNew n).live⟩
theorem Sim.add (S:Sim T ι h H) {p:Addr} {u:HO} {o:AO} (n:H p=none) (r:OR T (ι.add p) (upd H p u) o u):Sim T (ι.add p) (h++[o]) (upd H p u):=by
 refine ⟨by simp [Ix.add,S.len],?_,fun a ha=>(S.growNew n).live a (List.mem_append_right _ ha),fun i o' a e1 e2=>?_⟩
 ·show (ι.refs++[p]).Nodup
  rw [List.nodup_append]
  exact ⟨S.nd,by simp,fun a ha b hb z=>by have e:b=p:=(by simpa using hb);subst e;subst z;exact S.fresh n (List.mem_append_left _ ha)⟩
 ·replace e2:(ι.refs++[p])[i]? = some a:=e2
  by_cases hi:i<h.length
  ·rw [List.getElem?_append_left hi] at e1
   rw [List.getElem?_append_left (by rw [S.len];exact hi)] at e2
   obtain ⟨v,e,q⟩:=S.obj i o' a e1 e2
   exact ⟨v,by rw [yaT (zav e n)];exact e,q.mono (S.growAdd n)⟩
  ·have e3:i=h.length:=by
    have:=(List.getElem?_eq_some_iff.mp e1).1
    simp at this;omega
   subst e3
   rw [List.getElem?_append_right (Nat.le_refl _)] at e1
   rw [List.getElem?_append_right (by rw [S.len];exact Nat.le_refl _),S.len] at e2
   simp at e1 e2
   subst e1 e2
   exact ⟨u,zay,r⟩
theorem Sim.addAt (S:Sim T ι h H) {p:Addr}:(ι.add p).refs[h.length]? = some p:=by
 show (ι.refs++[p])[h.length]? = some p
 rw [<- S.len];simp
theorem Sim.growSet (S:Sim T ι h H) {i:Nat} {a:Addr} {u:HO} (e:ι.refs[i]? = some a):Grow ι H ι (upd H a u) :=
 ⟨⟨[],by simp,by simp⟩,rfl,fun b o nb q=>by rw [yaT (show b≠a from fun z=>nb (by rw [z];exact List.mem_of_getElem? e))];exact q,fun b hb=>by
  by_cases z:b=a
  ·subst z;rw [zay];simp
  ·rw [yaT z];exact S.live b hb⟩
theorem Sim.set (S:Sim T ι h H) {i:Nat} {a:Addr} {u:HO} {o:AO} (e:ι.refs[i]? = some a) (r:OR T ι (upd H a u) o u):Sim T ι (h.set i o) (upd H a u):=by
 refine ⟨by simp [S.len],S.nd,fun b hb=>(S.growSet e).live b (List.mem_append_right _ hb),fun j o' b e1 e2=>?_⟩
 by_cases hj:j=i
 ·subst hj
  rw [e] at e2;cases e2
  have hl:j<h.length:=by rw [<- S.len];exact (List.getElem?_eq_some_iff.mp e).1
  rw [List.getElem?_set_self hl] at e1;cases e1
  exact ⟨u,zay,r⟩
 ·rw [List.getElem?_set_ne (Ne.symm hj)] at e1
  obtain ⟨v,q,r'⟩:=S.obj j o' b e1 e2
  have ne:b≠a:=fun z=>hj (by
   subst z
   exact zem S.nd e2 e)
  exact ⟨v,by rw [yaT ne];exact q,r'.mono (S.growSet e)⟩
end
def Ix.hide (ι:Ix) (D:Addr):Ix:=⟨ι.refs,D::ι.priv⟩
theorem Ix.hide_all {ι:Ix} {D a:Addr}:a∉(ι.hide D).all ↔ a∉ι.all/\a≠D:=by
 unfold Ix.all Ix.hide
 simp only [List.mem_append,List.mem_cons]
 constructor
 ·intro h;exact ⟨fun z=>h (z.elim .inl fun z=>.inr (.inr z)),fun z=>h (.inr (.inl z))⟩
 ·rintro ⟨h1,h2⟩ (z | z | z)
  ·exact h1 (.inl z)
  ·exact h2 z
  ·exact h1 (.inr z)
section
variable {T:Tb} {ι:Ix} {H:Hp} {D:Addr}
theorem Ext.hide {o:HO} (hn:H D=none):Ext ι H (ι.hide D) (upd H D o):=⟨fun e=>e,fun a u n e=>by rw [yaT (zav e hn)];exact e,fun a u n e=>Ix.hide_all.mpr ⟨n,zav e hn⟩⟩
theorem Ext.poke {o:HO}:Ext (ι.hide D) H (ι.hide D) (upd H D o):=⟨fun e=>e,fun a u n e=>by rw [yaT (Ix.hide_all.mp n).2];exact e,fun a u n e=>n⟩
theorem Ext.show:Ext (ι.hide D) H ι H:=⟨fun e=>e,fun a u n e=>e,fun a u n e=>(Ix.hide_all.mp n).1⟩
theorem Ext.adopt:Ext (ι.hide D) H (ι.add D) H:=⟨fun {k a} e=>by
 show (ι.refs++[D])[k]? = some a
 replace e:ι.refs[k]? = some a:=e
 rw [List.getElem?_append_left (List.getElem?_eq_some_iff.mp e).1];exact e,fun a u n e=>e,fun a u n e z=>by
 rcases List.mem_append.mp z with z | z
 ·replace z:a∈ι.refs++[D]:=z
  rcases List.mem_append.mp z with z | z
  ·exact (Ix.hide_all.mp n).1 (List.mem_append_left _ z)
  ·exact (Ix.hide_all.mp n).2 (by simpa using z)
 ·exact (Ix.hide_all.mp n).1 (List.mem_append_right _ z)⟩
theorem OR.ext {ι ι':Ix} {H H':Hp} (g:Ext ι H ι' H') {o:AO} {u:HO} (h:OR T ι H o u):OR T ι' H' o u:=by
 cases o with
 | lst xs=>obtain ⟨us,e,r⟩:=h;exact ⟨us,e,r.ext g⟩
 | dct t kvs =>
  cases t with
  | false=>obtain ⟨us,e,r⟩:=h;exact ⟨us,e,Paired.mapP r fun _ _ ⟨a,b⟩=>⟨a,b.ext g⟩⟩
  | true=>obtain ⟨us,e,r⟩:=h;exact ⟨us,e,Paired.mapP r fun _ _ ⟨a,b⟩=>⟨a,b.ext g⟩⟩
 | ins c fs =>
  obtain ⟨C,dx,fus,a,b,n,w,l,r⟩:=h
  refine ⟨C,dx,fus,a,b,n,w,l,fun i v e=>?_⟩
  obtain ⟨f,u,e1,e2,q⟩:=r i v e
  exact ⟨f,u,e1,e2,q.ext g⟩
theorem Sim.hide {h:AH} {o:HO} (S:Sim T ι h H) (hn:H D=none):Sim T (ι.hide D) h (upd H D o) :=
 ⟨S.len,S.nd,fun a ha=>by
  rcases List.mem_cons.mp ha with rfl | ha
  ·rw [zay];simp
  ·rw [yaT (show a≠D from fun z=>S.plive a ha (z▸hn))];exact S.plive a ha,fun i o' a e1 e2=>by
  obtain ⟨u,e,r⟩:=S.obj i o' a e1 e2
  exact ⟨u,by rw [yaT (zav e hn)];exact e,r.ext (Ext.hide hn)⟩⟩
theorem Sim.poke {h:AH} {o:HO} (S:Sim T (ι.hide D) h H) (hr:D∉ι.refs):Sim T (ι.hide D) h (upd H D o) :=
 ⟨S.len,S.nd,fun a ha=>by
  by_cases z:a=D
  ·subst z;rw [zay];simp
  ·rw [yaT z];exact S.plive a ha,fun i o' a e1 e2=>by
  obtain ⟨u,e,r⟩:=S.obj i o' a e1 e2
  have ne:a≠D:=fun z=>hr (z▸List.mem_of_getElem? e2)
  exact ⟨u,by rw [yaT ne];exact e,r.ext Ext.poke⟩⟩
theorem Sim.show {h:AH} (S:Sim T (ι.hide D) h H):Sim T ι h H :=
 ⟨S.len,S.nd,fun a ha=>S.plive a (List.mem_cons_of_mem _ ha),fun i o' a e1 e2=>by
  obtain ⟨u,e,r⟩:=S.obj i o' a e1 e2
  exact ⟨u,e,r.ext Ext.show⟩⟩
theorem Sim.adopt {h:AH} {u:HO} {o:AO} (S:Sim T (ι.hide D) h H) (hr:D∉ι.refs) (e:H D=some u) (r:OR T (ι.add D) H o u):Sim T (ι.add D) (h++[o]) H:=by
 have hlen:ι.refs.length=h.length:=S.len
 refine ⟨by simp [Ix.add,hlen],?_,fun a ha=>S.plive a (List.mem_cons_of_mem _ ha),fun i o' a e1 e2=>?_⟩
 ·show (ι.refs++[D]).Nodup
  rw [List.nodup_append]
  exact ⟨S.nd,by simp,fun a ha b hb z=>by have e:b=D:=(by simpa using hb);subst e;subst z;exact hr ha⟩
 ·replace e2:(ι.refs++[D])[i]? = some a:=e2
  by_cases hi:i<h.length
  ·rw [List.getElem?_append_left hi] at e1
   rw [List.getElem?_append_left (by rw [hlen];exact hi)] at e2
   obtain ⟨v,e,q⟩:=S.obj i o' a e1 e2
   exact ⟨v,e,q.ext Ext.adopt⟩
  ·have e3:i=h.length:=by
    have:=(List.getElem?_eq_some_iff.mp e1).1
    simp at this;omega
   subst e3
   rw [List.getElem?_append_right (Nat.le_refl _)] at e1
   rw [List.getElem?_append_right (by rw [hlen];exact Nat.le_refl _),hlen] at e2
   simp at e1 e2
   subst e1 e2
   exact ⟨u,e,r⟩
end
def ER (T:Tb) (ι:Ix) (H:Hp) (e:En) (σ:St):Prop:=e.length=σ.length/\∀ (i:Nat) (v:AV),e[i]? = some (some v)->∃ u,σ[i]? = some (some u)/\RV T ι H v u
theorem ER.mono {T:Tb} {ι ι':Ix} {H H':Hp} {e:En} {σ:St} (r:ER T ι H e σ) (g:Grow ι H ι' H'):ER T ι' H' e σ :=
 ⟨r.1,fun i v q=>let ⟨u,a,b⟩:=r.2 i v q;⟨u,a,b.mono g⟩⟩
theorem ER.ext {T:Tb} {ι ι':Ix} {H H':Hp} {e:En} {σ:St} (r:ER T ι H e σ) (g:Ext ι H ι' H'):ER T ι' H' e σ :=
 ⟨r.1,fun i v q=>let ⟨u,a,b⟩:=r.2 i v q;⟨u,a,b.ext g⟩⟩
theorem ER.set {T:Tb} {ι:Ix} {H:Hp} {e:En} {σ:St} (r:ER T ι H e σ) {v:AV} {u:V} (q:RV T ι H v u) (i:Nat):ER T ι H (e.set i (some v)) (σ.set i (some u)):=by
 refine ⟨by simp [r.1],fun j w z=>?_⟩
 by_cases hj:j=i
 ·subst hj
  by_cases hl:j<e.length
  ·rw [List.getElem?_set_self hl] at z;cases z
   exact ⟨u,by rw [List.getElem?_set_self (by rw [<- r.1];exact hl)],q⟩
  ·rw [List.getElem?_eq_none (by simpa using hl)] at z;cases z
 ·rw [List.getElem?_set_ne (Ne.symm hj)] at z ⊢
  exact r.2 j w z
def Post {α β:Type} (T:Tb) (ι:Ix) (H:Hp) (E:XK) (R:Ix->Hp->α->β->Prop) (o:Out α) (Q:β->Hp->Prop):Prop :=
 match o with
 | .ok v h' => ∀ ι' H' u,Grow ι H ι' H'->Sim T ι' h' H'->R ι' H' v u->Q u H'
 | .ex c h' => ∀ ι' H' C,Grow ι H ι' H'->Sim T ι' h' H'->T.exc c=some C->E (.ref C) none H'
 | .bad=>False
def PostS (T:Tb) (ι:Ix) (H:Hp) (E:St->XK) (o:OutS) (D:Ends):Prop :=
 match o with
 | .nx e h' => ∀ ι' H' σ',Grow ι H ι' H'->Sim T ι' h' H'->ER T ι' H' e σ'->D.nx σ' H'
 | .bk e h' => ∀ ι' H' σ',Grow ι H ι' H'->Sim T ι' h' H'->ER T ι' H' e σ'->D.bk σ' H'
 | .ct e h' => ∀ ι' H' σ',Grow ι H ι' H'->Sim T ι' h' H'->ER T ι' H' e σ'->D.ct σ' H'
 | .rt v h' => ∀ ι' H' u,Grow ι H ι' H'->Sim T ι' h' H'->RV T ι' H' v u->D.rt u H'
 | .ex c e h' => ∀ ι' H' σ' C,Grow ι H ι' H'->Sim T ι' h' H'->ER T ι' H' e σ'->T.exc c=some C->E σ' (.ref C) none H'
 | .bad=>False
abbrev REq {α:Type}:Ix->Hp->α->α->Prop:=fun _ _ a b=>a=b
section
variable {T:Tb} {ι ι':Ix} {h:AH} {H H':Hp} {α β γ δ:Type} {E:XK} {R:Ix->Hp->α->β->Prop} {R':Ix->Hp->γ->δ->Prop}
theorem Post.shift {o:Out α} {Q:β->Hp->Prop} (p:Post T ι H E R o Q) (g:Grow ι H ι' H'):Post T ι' H' E R o Q:=by
 cases o with
 | ok v h' => exact fun i2 H2 u g2=>p i2 H2 u (g.trans g2)
 | ex c h' => exact fun i2 H2 C g2=>p i2 H2 C (g.trans g2)
 | bad=>exact p
theorem Post.bind {o:Out α} {f:α->AH->Out γ} {Q:δ->Hp->Prop} {Q1:β->Hp->Prop} (p:Post T ι H E R' (o.bind f) Q)
  (k:∀ v h' ι' H' u,Grow ι H ι' H'->Sim T ι' h' H'->R ι' H' v u->Post T ι' H' E R' (f v h') Q->Q1 u H'):Post T ι H E R o Q1:=by
 cases o with
 | ok v h' => exact fun i2 H2 u g S r=>k v h' i2 H2 u g S r (Post.shift p g)
 | ex c h' => exact p
 | bad=>exact p
theorem Post.now {v:α} {u:β} {Q:β->Hp->Prop} (p:Post T ι H E R (.ok v h) Q) (S:Sim T ι h H) (r:R ι H v u):Q u H:=p ι H u S.refl S r
theorem PostS.shift {E:St->XK} {o:OutS} {D:Ends} (p:PostS T ι H E o D) (g:Grow ι H ι' H'):PostS T ι' H' E o D:=by
 cases o with
 | nx e h' => exact fun i2 H2 u g2=>p i2 H2 u (g.trans g2)
 | bk e h' => exact fun i2 H2 u g2=>p i2 H2 u (g.trans g2)
 | ct e h' => exact fun i2 H2 u g2=>p i2 H2 u (g.trans g2)
 | rt v h' => exact fun i2 H2 u g2=>p i2 H2 u (g.trans g2)
 | ex c e h' => exact fun i2 H2 u C g2=>p i2 H2 u C (g.trans g2)
 | bad=>exact p
theorem PostS.go {E:St->XK} {o:Out α} {en:En} {σ:St} {f:α->AH->OutS} {D:Ends} {Q1:β->Hp->Prop} (p:PostS T ι H E (o.go en f) D) (er:ER T ι H en σ)
  (k:∀ v h' ι' H' u,Grow ι H ι' H'->Sim T ι' h' H'->R ι' H' v u->PostS T ι' H' E (f v h') D->Q1 u H'):Post T ι H (E σ) R o Q1:=by
 cases o with
 | ok v h' => exact fun i2 H2 u g S r=>k v h' i2 H2 u g S r (PostS.shift p g)
 | ex c h' => exact fun i2 H2 C g S e=>p i2 H2 σ C g S (er.mono g) e
 | bad=>exact p
end
def tE (T:Tb) (E:St->XK) (a:SE):TE:=fun σ H Q=>∃ ι h en,Sim T ι h H/\ER T ι H en σ/\Post T ι H (E σ) (RV T) (a en h) Q
def tT (T:Tb) (E:St->XK) (a:SB):TT:=fun σ H Q=>∃ ι h en,Sim T ι h H/\ER T ι H en σ/\Post T ι H (E σ) REq (a en h) Q
def tA (T:Tb) (E:St->XK) (a:SL):TA:=fun σ H Q=>∃ ι h en,Sim T ι h H/\ER T ι H en σ/\Post T ι H (E σ) (RVs T) (a en h) Q
def tS (T:Tb) (E:St->XK) (b:SS):TS:=fun D σ H=>∃ ι h en,Sim T ι h H/\ER T ι H en σ/\PostS T ι H E (b en h) D
abbrev PEA (T:Tb) (E:St->XK) (X:Cx) (e:Expr) (a:SE):Prop:=PE X e (tE T E a)
abbrev PTA (T:Tb) (E:St->XK) (X:Cx) (e:Expr) (a:SB):Prop:=PT X e (tT T E a)
abbrev PWA (T:Tb) (E:St->XK) (X:Cx) (e:Expr) (a:SB):Prop:=PW X e (tT T E a)
abbrev PAA (T:Tb) (E:St->XK) (X:Cx) (es:List Expr) (a:SL):Prop:=PA X es (tA T E a)
abbrev PSA (T:Tb) (E:St->XK) (X:Cx) (st:Stmt) (b:SS):Prop:=PS X st (tS T E b)
abbrev PSsA (T:Tb) (E:St->XK) (X:Cx) (sts:List Stmt) (b:SS):Prop:=PSs X sts (tS T E b)
theorem ya0 {X:Cx} {e:Expr} {t t':TE} (h:PE X e t) (k:∀ σ H Q,t' σ H Q->t σ H Q):PE X e t' := fun pins s σ H Q I q=>h pins s σ H Q I (k σ H Q q)
theorem yeu {X:Cx} {e:Expr} {t t':TT} (h:PT X e t) (k:∀ σ H Q,t' σ H Q->t σ H Q):PT X e t' := fun pins s σ H Q I q=>h pins s σ H Q I (k σ H Q q)
theorem yfy {X:Cx} {e:Expr} {t t':TT} (h:PW X e t) (k:∀ σ H Q,t' σ H Q->t σ H Q):PW X e t' := fun w pins s σ H Q I q=>h w pins s σ H Q I (k σ H Q q)
theorem yfz {X:Cx} {e:List Expr} {t t':TA} (h:PA X e t) (k:∀ σ H Q,t' σ H Q->t σ H Q):PA X e t' := fun p pins s σ H Q I q=>h p pins s σ H Q I (k σ H Q q)
theorem ycV {X:Cx} {e:Stmt} {t t':TS} (h:PS X e t) (k:∀ D σ H,t' D σ H->t D σ H):PS X e t' := fun pins s σ H D I q=>h pins s σ H D I (k D σ H q)
theorem zfj {X:Cx} {e:List Stmt} {t t':TS} (h:PSs X e t) (k:∀ D σ H,t' D σ H->t D σ H):PSs X e t' := fun pins s σ H D I q=>h pins s σ H D I (k D σ H q)
theorem yeW {X:Cx} {st:Stmt} {t:TS} (h:PS X.nox st t):PS X st t:=fun pins s σ H D I hw=>by
 refine wpAny_mono (h pins s σ H D (I.wish _) hw) (fun f s' q=>SP.unwish q) fun _ _ z=>z.elim
end Sm
namespace Sm
open PySem L2
instance:DecidableEq AV:=fun _ _=>Classical.propDecidable _
@[simp] def sVar (i:Nat):SE:=fun en h=>match en[i]? with
 | some (some v)=>.ok v h
 | _=>.bad
@[simp] def sLit (v:AV):SE:=fun _ h=>.ok v h
abbrev F1:=AV->AH->Out AV
abbrev F2:=AV->AV->AH->Out AV
@[simp] def sOp1 (f:F1) (a:SE):SE:=fun en h=>(a en h).bind f
@[simp] def sOp2 (f:F2) (a b:SE):SE:=fun en h=>(a en h).bind fun x h1=>(b en h1).bind fun y h2=>f x y h2
@[simp] def sNil:SL:=fun _ h=>.ok [] h
@[simp] def yab (a:SE) (r:SL):SL:=fun en h=>(a en h).bind fun x h1=>(r en h1).bind fun xs h2=>.ok (x::xs) h2
@[simp] def yah (F:Fn) (as:SL):SE:=fun en h=>(as en h).bind F
@[simp] def sTup (as:SL):SE:=fun en h=>(as en h).bind fun xs h1=>if xs.length<=1000 then .ok (.tup xs) h1 else .bad
@[simp] def sLst (as:SL):SE:=fun en h=>(as en h).bind fun xs h1=>if xs.length<=1000 then .ok (.fl xs) h1 else .bad
@[simp] def ybN (as:SL):SE:=fun en h=>(as en h).bind fun xs h1=>if xs.length<=1000 then .ok (.ref h1.length) (h1++[.lst xs]) else .bad
@[simp] def yf8 (t:Bool):SE:=fun _ h=>.ok (.ref h.length) (h++[.dct t []])
@[simp] def yiK (v:AV) (h:AH):Option (List AV):=match v with
 | .tup xs=>some xs
 | .fl xs=>some xs
 | .ref n=>match h[n]? with
  | some (.lst xs)=>some xs
  | _=>none
 | _=>none
@[simp] def ydi (v:AV) (h:AH):Option (List AV):=match v with
 | .fl xs=>some xs
 | .ref n=>match h[n]? with
  | some (.lst xs)=>some xs
  | _=>none
 | _=>none
@[simp] def fAdd:F2:=fun x y h=>match x,y with
 | .int i,.int j=>.ok (.int (i+j)) h
 | .str i,.str j=>if i.length+j.length<=sizeLine then .ok (.str (i++j)) h else .bad
 | .tup xs,.tup ys=>if xs≠[]/\xs.length+ys.length<=sizeLine then .ok (.tup (xs++ys)) h else .bad
 | x,y=>match ydi x h,ydi y h with
  | some xs,some ys=>if xs.length+ys.length<=sizeLine then .ok (.fl (xs++ys)) h else .bad
  | _,_=>.bad
@[simp] def fSub:F2:=fun x y h=>match x,y with
 | .int i,.int j=>.ok (.int (i-j)) h
 | _,_=>.bad
@[simp] def fMul:F2:=fun x y h=>match x,y with
 | .int i,.int j=>if (i.natAbs<2 ^ 64\/j.natAbs<2 ^ 64)\/(i.natAbs<2 ^ 4000/\j.natAbs<2 ^ 4000) then .ok (.int (i*j)) h else .bad
 | _,_=>.bad
@[simp] def fDiv:F2:=fun x y h=>match x,y with
 | .int i,.int j=>if 0<j/\j.natAbs<2 ^ 200 then .ok (.int (i / j)) h else .bad
 | _,_=>.bad
@[simp] def fMod:F2:=fun x y h=>match x,y with
 | .int i,.int j=>if 0<j then .ok (.int (i % j)) h else .bad
 | _,_=>.bad
@[simp] def fPow:F2:=fun x y h=>match x,y with
 | .int i,.int j=>if 0<=j/\j<=1000000/\i.natAbs<2 ^ 64 then .ok (.int (i ^ j.toNat)) h else .bad
 | _,_=>.bad
@[simp] def fNeg:F1:=fun x h=>match x with
 | .int i=>.ok (.int (-i)) h
 | _=>.bad
def toDs (f:AV->Option PyData):List AV->Option (List PyData)
 | []=>some []
 | x::xs=>match f x,toDs f xs with
  | some d,some ds=>some (d::ds)
  | _,_=>none
def toD:Nat->AH->AV->Option PyData
 | 0,_,v=>match v with
  | .non=>some .none
  | .bl b=>some (.bool b)
  | .int i=>some (.int i)
  | .str x=>some (.str x)
  | _=>none
 | n+1,h,v=>match v with
  | .non=>some .none
  | .bl b=>some (.bool b)
  | .int i=>some (.int i)
  | .str x=>some (.str x)
  | .tup xs=>(toDs (toD n h) xs).map .tuple
  | .fl xs=>(toDs (toD n h) xs).map .list
  | .ref k=>match h[k]? with
   | some (.lst xs)=>(toDs (toD n h) xs).map .list
   | _=>none
  | .exc _=>none
@[simp] def eqA (x y:AV) (h:AH):Option Bool:=match x,y with
 | .int i,.int j=>some (decide (i=j))
 | .str i,.str j=>some (decide (i=j))
 | .bl i,.bl j=>some (decide (i=j))
 | .non,.non=>some true
 | x,y=>match toD 8 h x,toD 8 h y with
  | some d,some e=>some (PyData.eqv d e)
  | _,_=>none
@[simp] def fEq:F2:=fun x y h=>match eqA x y h with
 | some b=>.ok (.bl b) h
 | none=>.bad
@[simp] def fNe:F2:=fun x y h=>match eqA x y h with
 | some b=>.ok (.bl (!b)) h
 | none=>.bad
@[simp] def fLt:F2:=fun x y h=>match x,y with
 | .int i,.int j=>.ok (.bl (decide (i<j))) h
 | .str i,.str j=>.ok (.bl (decide (i.cps.toList<j.cps.toList))) h
 | _,_=>.bad
@[simp] def fLe:F2:=fun x y h=>match x,y with
 | .int i,.int j=>.ok (.bl (decide (i<=j))) h
 | .str i,.str j=>.ok (.bl (!decide (j.cps.toList<i.cps.toList))) h
 | _,_=>.bad
@[simp] def fGt:F2:=fun x y h=>match x,y with
 | .int i,.int j=>.ok (.bl (decide (j<i))) h
 | _,_=>.bad
@[simp] def fGe:F2:=fun x y h=>match x,y with
 | .int i,.int j=>.ok (.bl (decide (j<=i))) h
 | _,_=>.bad
@[simp] def fIsN:F2:=fun x y h=>match y with
 | .non=>.ok (.bl (decide (x = .non))) h
 | _=>.bad
@[simp] def ycq:F2:=fun x y h=>match y with
 | .non=>.ok (.bl (!decide (x = .non))) h
 | _=>.bad
@[simp] def truA (v:AV) (h:AH):Option Bool:=match v with
 | .non=>some false
 | .bl b=>some b
 | .int i=>some (i != 0)
 | .str y=>some ((y.length:Int) != 0)
 | .tup xs=>some (!xs.isEmpty)
 | .fl xs=>some (!xs.isEmpty)
 | .ref n=>match h[n]? with
  | some (.lst xs)=>some (!xs.isEmpty)
  | some (.dct false kvs)=>some (!kvs.isEmpty)
  | _=>none
 | _=>none
@[simp] def ybJ (a:SE):SB:=fun en h=>(a en h).bind fun v h1=>match truA v h1 with
 | some b=>.ok b h1
 | none=>.bad
@[simp] def yas (a:SE):SB:=fun en h=>(a en h).bind fun v h1=>match v with
 | .bl b=>.ok b h1
 | _=>.bad
@[simp] def sAnd (a b:SB):SB:=fun en h=>(a en h).bind fun x h1=>if x=true then b en h1 else .ok false h1
@[simp] def sOr (a b:SB):SB:=fun en h=>(a en h).bind fun x h1=>if x=true then .ok true h1 else b en h1
@[simp] def sNot (a:SB):SB:=fun en h=>(a en h).bind fun x h1=>.ok (!x) h1
@[simp] def ydQ (a b:SE):SE:=fun en h=>(a en h).bind fun v h1=>match v with
 | .bl k=>if k=true then b en h1 else .ok (.bl false) h1
 | _=>.bad
@[simp] def sOrV (a b:SE):SE:=fun en h=>(a en h).bind fun v h1=>match v with
 | .bl k=>if k=true then .ok (.bl true) h1 else b en h1
 | _=>.bad
@[simp] def yf9 (a:SE):SE:=fun en h=>(a en h).bind fun v h1=>match v with
 | .bl b=>.ok (.bl (!b)) h1
 | _=>.bad
@[simp] def sIfE (c:SB) (a b:SE):SE:=fun en h=>(c en h).bind fun x h1=>if x=true then a en h1 else b en h1
@[simp] def ydc (f f':F2) (a b c:SE):SE:=fun en h=>(a en h).bind fun x h1=>(b en h1).bind fun y h2=>(f x y h2).bind fun z h3=>match z with
 | .bl k=>if k=true then (c en h3).bind fun w h4=>f' y w h4 else .ok (.bl false) h3
 | _=>.bad
@[simp] def yaD:SS:=fun en h=>.nx en h
@[simp] def sSeq (a b:SS):SS:=fun en h=>match a en h with
 | .nx e h' => b e h'
 | o=>o
@[simp] def yaL (a:SE):SS:=fun en h=>(a en h).go en fun _ h' => .nx en h'
@[simp] def sRet (a:SE):SS:=fun en h=>(a en h).go en fun v h' => .rt v h'
@[simp] def sIf (c:SB) (a b:SS):SS:=fun en h=>(c en h).go en fun x h' => if x=true then a en h' else b en h'
@[simp] def sSet (i:Nat) (a:SE):SS:=fun en h=>(a en h).go en fun v h' => .nx (en.set i (some v)) h'
def yaz (c:SB) (b:SS):Nat->SS
 | 0=>fun _ _=>.bad
 | n+1=>fun en h=>match c en h with
  | .ok true h1=>(match b en h1 with
   | .nx e2 h2=>yaz c b n e2 h2
   | .ct e2 h2=>yaz c b n e2 h2
   | .bk e2 h2=>.nx e2 h2
   | .rt v h2=>.rt v h2
   | _=>.bad)
  | .ok false h1=>.nx en h1
  | _=>.bad
abbrev SI:=En->AH->Out (List AV×Option Nat)
@[simp] def ybO (w:Option Nat) (xs:List AV) (h:AH):Bool:=match w with
 | none=>true
 | some n=>match h[n]? with
  | some (.lst ys)=>decide (ys=xs)
  | _=>false
inductive Tg where
 | nm (i:Nat)
 | tup (is:List Nat)
@[simp] def yfA:List Nat->List AV->En->Option En
 | [],[],en=>some en
 | i::is,x::xs,en=>yfA is xs (en.set i (some x))
 | _,_,_=>none
@[simp] def setT (t:Tg) (v:AV) (en:En):Option En:=match t,v with
 | .nm i,v=>some (en.set i (some v))
 | .tup is,.tup xs=>yfA is xs en
 | _,_=>none
def ya8 (w:Option Nat) (all:List AV) (t:Tg) (b:SS):List AV->SS
 | []=>fun en h=>if ybO w all h=true then .nx en h else .bad
 | x::xs=>fun en h=>if ybO w all h=true then
   (match setT t x en with
   | some e1=>(match b e1 h with
    | .nx e2 h2=>ya8 w all t b xs e2 h2
    | .ct e2 h2=>ya8 w all t b xs e2 h2
    | .bk e2 h2=>.nx e2 h2
    | .rt v h2=>.rt v h2
    | _=>.bad)
   | none=>.bad) else .bad
@[simp] def sFor (it:SI) (t:Tg) (b:SS):SS:=fun en h=>match it en h with
 | .ok (xs,w) h1=>ya8 w xs t b xs en h1
 | _=>.bad
@[simp] def iVal (a:SE):SI:=fun en h=>(a en h).bind fun v h1=>match v with
 | .fl xs=>.ok (xs,none) h1
 | .tup xs=>.ok (xs,none) h1
 | .str z=>.ok (z.cps.toList.map (fun c=>.str ⟨#[c]⟩),none) h1
 | .ref n=>match h1[n]? with
  | some (.lst xs)=>.ok (xs,some n) h1
  | _=>.bad
 | _=>.bad
def ybb (lo:Int):Nat->List AV
 | 0=>[]
 | n+1=>.int lo::ybb (lo+1) n
@[simp] def yb2 (a:SE):SI:=fun en h=>(a en h).bind fun v h1=>match v with
 | .int j=>if j.natAbs<2 ^ 62 then .ok (ybb 0 j.toNat,none) h1 else .bad
 | _=>.bad
def yeX (k:Nat):List AV->List AV
 | []=>[]
 | x::xs=>.tup [.int k,x]::yeX (k+1) xs
@[simp] def yiL (a:SE):SI:=fun en h=>(a en h).bind fun v h1=>match v with
 | .fl xs=>.ok (yeX 0 xs,none) h1
 | _=>.bad
def ya2 (js:List Nat) (en:En) (w:Option Nat) (all:List AV) (c:SB) (e:SE):List AV->List AV->AH->Out (List AV)
 | [],ys,h=>if ybO w all h=true then .ok ys h else .bad
 | x::xs,ys,h=>if ybO w all h=true/\ys.length<sizeLine then
   (match c (some x::js.map fun j=>(en[j]?).join) h with
   | .ok true h1=>(match e (some x::js.map fun j=>(en[j]?).join) h1 with
    | .ok v h2=>ya2 js en w all c e xs (ys++[v]) h2
    | _=>.bad)
   | .ok false h1=>ya2 js en w all c e xs ys h1
   | _=>.bad) else .bad
@[simp] def sYes:SB:=fun _ h=>.ok true h
@[simp] def ycC (js:List Nat) (it:SI) (c:SB) (e:SE):SE:=fun en h=>match it en h with
 | .ok (xs,w) h1=>(match ya2 js en w xs c e xs [] h1 with
  | .ok ys h2=>.ok (.fl ys) h2
  | _=>.bad)
 | _=>.bad
@[simp] def ycW (js:List Nat) (it:SI) (c:SB) (e:SE):SE:=fun en h=>match it en h with
 | .ok (xs,w) h1=>(match ya2 js en w xs c e xs [] h1 with
  | .ok ys h2=>.ok (.ref h2.length) (h2++[.lst ys])
  | _=>.bad)
 | _=>.bad
@[simp] def mkFn (n m:Nat) (b:SS):Fn:=fun args h =>
 if args.length=n then
  match b (args.map some++List.replicate (m-n) none) h with
  | .nx _ h' => .ok .non h'
  | .rt v h' => .ok v h'
  | .ex c _ h' => .ex c h'
  | _=>.bad
 else .bad
@[simp] def yaq (c:Nat) (F:Fn) (o:SE) (as:SL):SE:=fun en h=>(o en h).bind fun x h1=>match x with
 | .ref n=>match h1[n]? with
  | some (.ins c' _)=>if c'=c then (as en h1).bind fun xs h2=>F (x::xs) h2 else .bad
  | _=>.bad
 | _=>.bad
@[simp] def yeM (c k:Nat) (F:Fn) (as:SL):SE:=fun en h=>(as en h).bind fun xs h1=>match F (.ref h1.length::xs) (h1++[.ins c (List.replicate k none)]) with
 | .ok .non h2=>.ok (.ref h1.length) h2
 | .ex c h2=>.ex c h2
 | _=>.bad
@[simp] def sFld (c i:Nat) (o:SE):SE:=fun en h=>(o en h).bind fun x h1=>match x with
 | .ref n=>match h1[n]? with
  | some (.ins c' fs)=>if c'=c then (match fs[i]? with | some (some v)=>.ok v h1 | _=>.bad) else .bad
  | _=>.bad
 | _=>.bad
@[simp] def ycZ (c i:Nat) (o v:SE):SS:=fun en h=>(v en h).go en fun y h1=>(o en h1).go en fun x h2=>match x with
 | .ref n=>match h2[n]? with
  | some (.ins c' fs)=>if c'=c then .nx en (h2.set n (.ins c (fs.set i (some y)))) else .bad
  | _=>.bad
 | _=>.bad
@[simp] def ydr (c:Nat) (as:SL):SS:=fun en h=>(as en h).go en fun xs h1=>if xs.length<=1000 then .ex c en h1 else .bad
@[simp] def keyOf? (v:AV):Option Key:=match v with
 | .int i=>some (.inl i)
 | .str x=>some (.inr x)
 | _=>none
@[simp] def keysOf? : List AV->Option (List Key)
 | []=>some []
 | v::r=>match keyOf? v,keysOf? r with
  | some k,some ks=>some (k::ks)
  | _,_=>none
@[simp] def ydR (t:Bool) (v:AV):Bool:=match t,v with
 | false,v=>(keyOf? v).isSome
 | true,.tup xs=>(keysOf? xs).isSome
 | true,_=>false
def valA (kvs:List (AV×AV)) (k:AV):Option AV:=(kvs.find? fun p=>decide (p.1=k)).map (·.2)
def putA (kvs:List (AV×AV)) (k v:AV):List (AV×AV) :=
 if kvs.any (fun p=>decide (p.1=k)) then kvs.map fun p=>if p.1=k then (p.1,v) else p else kvs++[(k,v)]
@[simp] def fIx:F2:=fun x y h=>match x,y with
 | .str z,.int i=>match atI z.cps.toList i with
  | some c=>.ok (.str ⟨#[c]⟩) h
  | none=>.bad
 | .tup xs,.int i=>match atI xs i with
  | some v=>.ok v h
  | none=>.bad
 | .fl xs,.int i=>match atI xs i with
  | some v=>.ok v h
  | none=>.bad
 | .ref n,y=>match h[n]? with
  | some (.lst xs)=>match y with
   | .int i=>match atI xs i with
    | some v=>.ok v h
    | none=>.bad
   | _=>.bad
  | some (.dct t kvs)=>if ydR t y then (match valA kvs y with | some v=>.ok v h | none=>.bad) else .bad
  | _=>.bad
 | _,_=>.bad
@[simp] def ycG (o i v:SE):SS:=fun en h=>(v en h).go en fun z h1=>(o en h1).go en fun x h2=>(i en h2).go en fun y h3=>match x with
 | .ref n=>match h3[n]? with
  | some (.lst xs)=>match y with
   | .int k=>match ixN xs.length k with
    | some j=>.nx en (h3.set n (.lst (xs.set j z)))
    | none=>.bad
   | _=>.bad
  | some (.dct t kvs)=>if ydR t y=true/\kvs.length<sizeLine then .nx en (h3.set n (.dct t (putA kvs y z))) else .bad
  | _=>.bad
 | _=>.bad
@[simp] def inA (x y:AV) (h:AH):Option Bool:=match x,y with
 | .str i,.str j=>some (!(Builtin.Str.occurrences j i 0 j.length 1).isEmpty)
 | x,.ref n=>match h[n]? with
  | some (.dct t kvs)=>if ydR t x then some (valA kvs x).isSome else none
  | some (.lst xs)=>match toD 8 h x,toDs (toD 8 h) xs with
   | some d,some ds=>some (ds.any fun e=>PyData.eqv e d)
   | _,_=>none
  | _=>none
 | x,.fl xs=>match toD 8 h x,toDs (toD 8 h) xs with
  | some d,some ds=>some (ds.any fun e=>PyData.eqv e d)
  | _,_=>none
 | x,.tup xs=>match toD 8 h x,toDs (toD 8 h) xs with
  | some d,some ds=>some (ds.any fun e=>PyData.eqv e d)
  | _,_=>none
 | _,_=>none
@[simp] def yeY:F2:=fun x y h=>match inA x y h with
 | some b=>.ok (.bl (!b)) h
 | none=>.bad
@[simp] def fLen:Fn:=fun args h=>match args with
 | [.str x]=>.ok (.int x.length) h
 | [.tup xs]=>.ok (.int xs.length) h
 | [.fl xs]=>.ok (.int xs.length) h
 | [.ref n]=>match h[n]? with
  | some (.lst xs)=>.ok (.int xs.length) h
  | some (.dct false kvs)=>.ok (.int kvs.length) h
  | _=>.bad
 | _=>.bad
@[simp] def fAbs:Fn:=fun args h=>match args with
 | [.int i]=>.ok (.int (if i<0 then -i else i)) h
 | _=>.bad
@[simp] def yfg:Fn:=fun args h=>match args with
 | [.int i,.int j]=>.ok (.int (if j > i then j else i)) h
 | _=>.bad
@[simp] def yds:Fn:=fun args h=>match args with
 | [.int i,.int j]=>.ok (.int (if j<i then j else i)) h
 | _=>.bad
@[simp] def yd6:List AV->Option (List Bool)
 | []=>some []
 | .bl b::r=>(yd6 r).map (b :: ·)
 | _::_=>none
@[simp] def fAll:Fn:=fun args h=>match args with
 | [.fl xs]=>match yd6 xs with
  | some bs=>.ok (.bl (bs.all id)) h
  | none=>.bad
 | _=>.bad
@[simp] def fInt:Fn:=fun args h=>match args with
 | [.int i]=>.ok (.int i) h
 | [.bl k]=>.ok (.int (if k then 1 else 0)) h
 | _=>.bad
@[simp] def yek:Fn:=fun args h=>match args with
 | [.tup xs]=>.ok (.fl xs) h
 | [.fl xs]=>.ok (.fl xs) h
 | [.ref n]=>match h[n]? with
  | some (.lst xs)=>.ok (.fl xs) h
  | _=>.bad
 | _=>.bad
@[simp] def yb9:Fn:=fun args h=>match args with
 | [.tup xs]=>.ok (.ref h.length) (h++[.lst xs])
 | [.fl xs]=>.ok (.ref h.length) (h++[.lst xs])
 | [.ref n]=>match h[n]? with
  | some (.lst xs)=>.ok (.ref h.length) (h++[.lst xs])
  | _=>.bad
 | _=>.bad
@[simp] def tyN (v:AV) (h:AH):Option String:=match v with
 | .non=>some "NoneType"
 | .bl _=>some "bool"
 | .int _=>some "int"
 | .str _=>some "str"
 | .tup _=>some "tuple"
 | .fl _=>some "list"
 | .ref n=>match h[n]? with
  | some (.lst _)=>some "list"
  | some (.dct _ _)=>some "dict"
  | _=>none
 | .exc _=>none
@[simp] def sIsB (t:String) (a:SE):SE:=fun en h=>(a en h).bind fun v h1=>match tyN v h1 with
 | some n=>.ok (.bl (n == t || (t == "int" && n == "bool"))) h1
 | none=>.bad
abbrev FM:=AV->List AV->AH->Out AV
@[simp] def yan (v:AV) (h:AH):Bool:=(ydi v h).isSome
@[simp] def yeN (v:AV) (_:AH):Bool:=match v with
 | .str _=>true
 | _=>false
@[simp] def sBM (chk:AV->AH->Bool) (f:FM) (o:SE) (as:SL):SE:=fun en h=>(o en h).bind fun x h1=>if chk x h1=true then (as en h1).bind fun xs h2=>f x xs h2 else .bad
@[simp] def sBM0 (chk:AV->AH->Bool) (f:FM) (o:SE):SE:=fun en h=>(o en h).bind fun x h1=>if chk x h1=true then f x [] h1 else .bad
@[simp] def yat:FM:=fun x vs h=>match x,vs with
 | .ref n,[y]=>match h[n]? with
  | some (.lst xs)=>if xs.length<sizeLine then .ok .non (h.set n (.lst (xs++[y]))) else .bad
  | _=>.bad
 | _,_=>.bad
@[simp] def mPop:FM:=fun x vs h=>match x,vs with
 | .ref n,[]=>match h[n]? with
  | some (.lst xs)=>match xs[xs.length-1]? with
   | some y=>.ok y (h.set n (.lst xs.dropLast))
   | none=>.bad
  | _=>.bad
 | _,_=>.bad
@[simp] def yeI:FM:=fun x vs h=>match x,vs with
 | .str z,[.str y]=>.ok (.int ((Builtin.Str.occurrences z y 0 z.length (z.length+1)).length:Nat)) h
 | _,_=>.bad
def cutA {α:Type} (xs:List α) (lo hi:Option Int):List α:=(xs.drop (HT.sIx xs.length 0 lo)).take (HT.sIx xs.length xs.length hi-HT.sIx xs.length 0 lo)
end Sm
namespace Sm
open PySem L2
structure CA (T:Tb) (E:St->XK) (X:Cx):Prop where
 hK:X.K=T.K
 pass:yd5 (CXE X.prog X.w) X E
abbrev EN:St->XK:=fun _=>E0
theorem CA.nox {T:Tb} {E:St->XK} {X:Cx} (c:CA T E X):CA T EN X.nox:=⟨c.hK,fun _ _ _ _ _ _ _ h=>by
 obtain ⟨_,_,_,_,_,_,_,_,_,_,_,_,_,_,q⟩:=h
 exact q.elim⟩
theorem CA.never {T:Tb} {X:Cx} (hK:X.K=T.K):CA T EN X:=⟨hK,fun _ _ _ _ _ _ _ h=>by
 obtain ⟨_,_,_,_,_,_,_,_,_,_,_,_,_,_,q⟩:=h
 exact q.elim⟩
section
variable {T:Tb} {ι:Ix} {h:AH} {H:Hp}
theorem ybK {x:AV} {u:V} {xs:List AV} (S:Sim T ι h H) (r:RV T ι H x u) (e:ydi x h=some xs):∃ a us,u = .ref a/\SqL T.K H a us/\RVs T ι H xs us:=by
 unfold ydi at e
 cases r with
 | fl n q r=>cases e;exact ⟨_,_,rfl,.inl q,r⟩
 | kfl q r=>cases e;exact ⟨_,_,rfl,.inr q,r⟩
 | @ref k a q =>
  dsimp only at e
  split at e
  ·rename_i ys hk
   cases e
   obtain ⟨u,e1,us,rfl,r⟩:=S.obj k _ a hk q
   exact ⟨a,us,rfl,.inl (.inl e1),r⟩
  ·cases e
 | _=>cases e
theorem ydO {u:V} {xs:List AV} (r:RV T ι H (.tup xs) u):∃ a us,u = .ref a/\SqT T.K H a us/\RVs T ι H xs us:=by
 cases r with
 | tup n q r=>exact ⟨_,_,rfl,.of q,r⟩
theorem ybv {u:V} {x:Str} (r:RV T ι H (.str x) u):u = .str x/\x.length<=sizeLine/\x.cps.all (· < 0x110000)=true:=by
 cases r with
 | str n o=>exact ⟨rfl,n,o⟩
theorem yaF {u:V} {i:Int} (r:RV T ι H (.int i) u):u = .int i:=by cases r;rfl
theorem yc0 {u:V} {i:Bool} (r:RV T ι H (.bl i) u):u = .bl i:=by cases r;rfl
theorem yee {u:V} (r:RV T ι H .non u):u = .non:=by cases r;rfl
theorem ydY {us:List V} {xs:List AV} {p:Addr} {E:XK} {Q:VK} (S:Sim T ι h H) (r:RVs T ι H xs us) (n:H p=none) (q:Post T ι H E (RV T) (.ok (.fl xs) h) Q):Q (.ref p) (upd H p (.lst us)) :=
 q ι _ _ (S.growNew n) (S.new n) (.fl (S.fresh n) (.inl zay) (r.mono (S.growNew n)))
theorem zds {us:List V} {xs:List AV} {p:Addr} {E:XK} {Q:VK} (S:Sim T ι h H) (r:RVs T ι H xs us) (n:H p=none) (q:Post T ι H E (RV T) (.ok (.tup xs) h) Q):Q (.ref p) (upd H p (.tup us)) :=
 q ι _ _ (S.growNew n) (S.new n) (.tup (S.fresh n) zay (r.mono (S.growNew n)))
theorem zcB {us:List V} {xs:List AV} {p:Addr} {E:XK} {Q:VK} (S:Sim T ι h H) (r:RVs T ι H xs us) (n:H p=none) (q:Post T ι H E (RV T) (.ok (.ref h.length) (h++[.lst xs])) Q):Q (.ref p) (upd H p (.lst us)) :=
 q _ _ _ (S.growAdd n) (S.add n ⟨us,rfl,r.mono (S.growAdd n)⟩) (.ref S.addAt)
end
section
variable {T:Tb} {E:St->XK} {X:Cx} {pos:Pos}
theorem yaa (i:Nat) {x:Str} {p:Pos} (hN:X.N[i]? = some x:=by rfl) (hv:Vis X.env.scope x:=by first | exact Or.inl rfl | exact Or.inr (Or.inl rfl) | exact Or.inr (Or.inr rfl)) (hd:(x == ("__debug__" : Str))=false:=by decide)
  (hcd:(x == ("__classdict__" : Str))=false:=by decide):PEA T E X (.Name x p) (sVar i) :=
 ya0 (pv i hN hv hd hcd) fun σ H Q ⟨ι,h,en,S,er,q⟩=>by
  unfold sVar at q
  split at q
  ·rename_i v hv
   obtain ⟨u,e,r⟩:=er.2 i v hv
   exact ⟨u,e,q.now S r⟩
  ·exact q.elim
theorem yag {i j p}:PEA T E X (.Constant (.int i) j p) (sLit (.int i)):=ya0 ygx fun σ H Q ⟨ι,h,en,S,er,q⟩=>q.now S (.int i)
theorem r_bl {i j p}:PEA T E X (.Constant (.bool i) j p) (sLit (.bl i)):=ya0 yhU fun σ H Q ⟨ι,h,en,S,er,q⟩=>q.now S (.bl i)
theorem ydS {j p}:PEA T E X (.Constant .none j p) (sLit .non):=ya0 ygy fun σ H Q ⟨ι,h,en,S,er,q⟩=>q.now S .non
theorem ya1 {x j p} (n:x.length<=sizeLine:=by decide +kernel) (o:x.cps.all (· < 0x110000)=true:=by decide +kernel):PEA T E X (.Constant (.str x) j p) (sLit (.str x)):=ya0 ygz fun σ H Q ⟨ι,h,en,S,er,q⟩=>q.now S (.str n o)
theorem ziM {x:Str} {i:Int} {t:Tok} {p:Pos} (hg:Gl X x) (hm:X.mg x=some (.int i t)) (hd:(x == ("__debug__" : Str))=false:=by decide):PEA T E X (.Name x p) (sLit (.int i)) :=
 ya0 (zij (v:=.int i) hg hm ⟨t,rfl⟩ hd) fun σ H Q ⟨ι,h,en,S,er,q⟩=>q.now S (.int i)
def OpS (T:Tb) (f:F2) (r:R2):Prop:=∀ (ι:Ix) (h:AH) (H:Hp) (x y:AV) (u w:V) (E:XK) (Q:VK),Sim T ι h H->RV T ι H x u->RV T ι H y w->Post T ι H E (RV T) (f x y h) Q->r u w H Q
def Op (T:Tb) (X:Cx) (g:Value->Value->Sem Value) (f:F2):Prop:=∃ r,OpR X g r/\OpS T f r
variable {a b c:Expr} {sa sb sc:SE}
theorem two {f:F2} {r:R2} (hs:OpS T f r) {σ:St} {H:Hp} {Q:VK} (q:tE T E (sOp2 f sa sb) σ H Q):tOp r (tE T E sa) (tE T E sb) σ H Q:=by
 obtain ⟨ι,h,en,S,er,q⟩:=q
 refine ⟨ι,h,en,S,er,q.bind fun x h1 ι1 H1 u g1 S1 r1 q1=>⟨ι1,h1,en,S1,er.mono g1,q1.bind fun y h2 ι2 H2 w g2 S2 r2 q2=>?_⟩⟩
 exact hs ι2 h2 H2 x y u w _ Q S2 (r1.mono g2) r2 q2
theorem yav {op:Operator} {f:F2} (ho:Op T X (binaryOp op) f) (ha:PEA T E X a sa) (hb:PEA T E X b sb):PEA T E X (.BinOp a op b pos) (sOp2 f sa sb):=by
 obtain ⟨r,h1,h2⟩:=ho
 exact ya0 (yh3 h1 ha hb) fun σ H Q q=>two h2 q
theorem ziN {i j:Str} (hi:i.cps.all (· < 0x110000)=true) (hj:j.cps.all (· < 0x110000)=true):(i++j).cps.all (· < 0x110000)=true:=by
 show (i.cps++j.cps).all _=true
 rw [Array.all_append,hi,hj];rfl
theorem zeX (i j:Str):(i++j).length=i.length+j.length:=by
 show (i.cps++j.cps).size=_
 rw [Array.size_append];rfl
theorem ya7 (hK:X.K=T.K):Op T X (binaryOp .Add) fAdd:=by
 refine ⟨_,op_add.or (zga.or (ziA.or ziK)),fun ι h H x y u w E Q S rx ry p=>?_⟩
 unfold fAdd at p
 split at p
 ·rw [yaF rx,yaF ry]
  exact .inl ⟨_,_,rfl,rfl,p.now S (.int _)⟩
 ·split at p
  ·rename_i hz
   obtain ⟨rfl,_,o1⟩:=ybv rx
   obtain ⟨rfl,_,o2⟩:=ybv ry
   exact .inr (.inl ⟨_,_,rfl,rfl,hz,p.now S (.str (by rw [zeX];exact hz) (ziN o1 o2))⟩)
  ·exact p.elim
 ·split at p
  ·rename_i hz
   obtain ⟨a,us,rfl,q1,r1⟩:=ydO rx
   obtain ⟨b,ws,rfl,q2,r2⟩:=ydO ry
   refine .inr (.inr (.inl ⟨a,b,us,ws,rfl,rfl,hK▸q1,hK▸q2,fun z=>hz.1 ?_,by rw [<- r1.length,<- r2.length];exact hz.2,fun z=>?_,fun _ l n=>zds S (r1.append r2) n p⟩))
   ·subst z;cases r1;rfl
   ·subst z;cases r2
    rw [List.append_nil] at p
    exact p.now S rx
  ·exact p.elim
 ·split at p
  ·split at p
   ·rename_i e1 e2 hz
    obtain ⟨a,us,rfl,q1,r1⟩:=ybK S rx e1
    obtain ⟨b,ws,rfl,q2,r2⟩:=ybK S ry e2
    exact .inr (.inr (.inr ⟨a,b,us,ws,rfl,rfl,hK▸q1,hK▸q2,by rw [<- r1.length,<- r2.length];exact hz,fun l n=>ydY S (r1.append r2) n p⟩))
   ·exact p.elim
  ·exact p.elim
theorem yev:Op T X (binaryOp .Sub) fSub:=by
 refine ⟨_,ygM,fun ι h H x y u w E Q S rx ry p=>?_⟩
 unfold fSub at p
 split at p
 ·rw [yaF rx,yaF ry]
  exact ⟨_,_,rfl,rfl,p.now S (.int _)⟩
 ·exact p.elim
theorem zfk {i:Int} (h:i.natAbs<2 ^ 4000):Builtin.Int.intBits i<=2 ^ 20:=by
 unfold Builtin.Int.intBits
 split
 ·exact Nat.zero_le _
 ·rename_i hz
  have h0:i.natAbs≠0:=fun z=>hz (by simpa using z)
  have:i.natAbs.log2<4000:=(Nat.log2_lt h0).mpr h
  exact Nat.le_trans (by omega:i.natAbs.log2+1<=4001) (by decide)
theorem ydT:Op T X (binaryOp .Mult) fMul:=by
 refine ⟨_,zhH,fun ι h H x y u w E Q S rx ry p=>?_⟩
 unfold fMul at p
 split at p
 ·split at p
  ·rename_i hz
   rw [yaF rx,yaF ry]
   exact ⟨_,_,rfl,rfl,hz.elim (fun z=>CMul.ok (z.elim (fun z=>.inl ⟨by omega,by omega⟩) (fun z=>.inr ⟨by omega,by omega⟩))) (fun z=>.of_bits (zfk z.1) (zfk z.2)),p.now S (.int _)⟩
  ·exact p.elim
 ·exact p.elim
theorem yga:Op T X (binaryOp .FloorDiv) fDiv:=by
 refine ⟨_,zhG,fun ι h H x y u w E Q S rx ry p=>?_⟩
 unfold fDiv at p
 split at p
 ·split at p
  ·rename_i hz
   rw [yaF rx,yaF ry]
   exact ⟨_,_,rfl,rfl,⟨hz.1,by omega⟩,p.now S (.int _)⟩
  ·exact p.elim
 ·exact p.elim
theorem ydj:Op T X (binaryOp .Mod) fMod:=by
 refine ⟨_,ygN,fun ι h H x y u w E Q S rx ry p=>?_⟩
 unfold fMod at p
 split at p
 ·split at p
  ·rename_i hz
   rw [yaF rx,yaF ry]
   exact ⟨_,_,rfl,rfl,hz,p.now S (.int _)⟩
  ·exact p.elim
 ·exact p.elim
theorem yel:Op T X (binaryOp .Pow) fPow:=by
 refine ⟨_,ygO,fun ι h H x y u w E Q S rx ry p=>?_⟩
 unfold fPow at p
 split at p
 ·split at p
  ·rename_i hz
   rw [yaF rx,yaF ry]
   exact ⟨_,_,rfl,rfl,hz,p.now S (.int _)⟩
  ·exact p.elim
 ·exact p.elim
theorem ydU (ha:PEA T E X a sa):PEA T E X (.UnaryOp .USub a pos) (sOp1 fNeg sa) :=
 ya0 (yh4 ygP ha) fun σ H Q ⟨ι,h,en,S,er,q⟩=>⟨ι,h,en,S,er,q.bind fun x h1 ι1 H1 u g1 S1 r1 q1=>by
  unfold fNeg at q1
  split at q1
  ·rw [yaF r1]
   exact ⟨_,rfl,q1.now S1 (.int _)⟩
  ·exact q1.elim⟩
theorem zgZ {ds:List PyData} (h:∀ d∈ds,d.canLay0=true):PyData.canLayAll0 ds=true:=by
 induction ds with
 | nil=>rfl
 | cons d r ih=>show (d.canLay0 && PyData.canLayAll0 r)=true;rw [h d (by simp),ih fun e he=>h e (by simp [he])];rfl
theorem zeY {n:Nat} {ds:List PyData} (h:∀ d∈ds,d.depth<=n):PyData.depthAll ds<=n:=by
 induction ds with
 | nil=>exact Nat.zero_le _
 | cons d r ih=>show max d.depth (PyData.depthAll r)<=n;have:=h d (by simp);have:=ih fun e he=>h e (by simp [he]);omega
section
variable {ι:Ix} {h:AH} {H:Hp}
theorem zbG {f:AV->Option PyData} {n:Nat} (hf:∀ {x:AV} {u:V} {d:PyData},RV T ι H x u->f x=some d->DaV T.K H u d/\d.canLay0=true/\d.depth<=n) :
  ∀ {xs:List AV} {us:List V} {ds:List PyData},RVs T ι H xs us->toDs f xs=some ds->DaVs T.K H us ds/\∀ d∈ds,d.canLay0=true/\d.depth<=n
 | _,_,ds,.nil,e=>by cases e;exact ⟨.nil,by simp⟩
 | _,_,ds,.cons (x:=x) (xs:=xs) r rs,e=>by
  unfold toDs at e
  split at e
  ·rename_i d ds' e1 e2
   cases e
   obtain ⟨q1,q2⟩:=hf r e1
   obtain ⟨q3,q4⟩:=zbG hf rs e2
   refine ⟨.cons q1 q3,fun d hd=>?_⟩
   rcases List.mem_cons.mp hd with rfl | hd
   ·exact q2
   ·exact q4 d hd
  ·cases e
theorem ydt (S:Sim T ι h H):∀ (n:Nat) {x:AV} {u:V} {d:PyData},RV T ι H x u->toD n h x=some d->DaV T.K H u d/\d.canLay0=true/\d.depth<=n
 | 0,x,u,d,r,e=>by
  unfold toD at e
  cases r with
  | non=>cases e;exact ⟨.non,rfl,Nat.le_refl _⟩
  | bl b=>cases e;exact ⟨.bl b,rfl,Nat.le_refl _⟩
  | int b=>cases e;exact ⟨.int b,rfl,Nat.le_refl _⟩
  | str a b=>cases e;exact ⟨.str _,b,Nat.le_refl _⟩
  | _=>cases e
 | n+1,x,u,d,r,e=>by
  unfold toD at e
  have many:∀ {xs:List AV} {us:List V} {ds:List PyData},RVs T ι H xs us->toDs (toD n h) xs=some ds->DaVs T.K H us ds/\∀ d∈ds,d.canLay0=true/\d.depth<=n:=fun r e=>zbG (fun r e=>ydt S n r e) r e
  have fin:∀ {ds:List PyData},(∀ d∈ds,d.canLay0=true/\d.depth<=n)->PyData.canLayAll0 ds=true/\PyData.depthAll ds+1<=n+1:=fun q=>⟨zgZ fun d hd=>(q d hd).1,Nat.succ_le_succ (zeY fun d hd=>(q d hd).2)⟩
  cases r with
  | non=>cases e;exact ⟨.non,rfl,Nat.zero_le _⟩
  | bl b=>cases e;exact ⟨.bl b,rfl,Nat.zero_le _⟩
  | int b=>cases e;exact ⟨.int b,rfl,Nat.zero_le _⟩
  | str a b=>cases e;exact ⟨.str _,b,Nat.zero_le _⟩
  | tup k q r =>
   obtain ⟨ds,e1,rfl⟩:=Option.map_eq_some_iff.mp e
   obtain ⟨q1,q2⟩:=many r e1
   exact ⟨.tup (.of q) q1,fin q2⟩
  | fl k q r =>
   obtain ⟨ds,e1,rfl⟩:=Option.map_eq_some_iff.mp e
   obtain ⟨q1,q2⟩:=many r e1
   exact ⟨.lst (.inl q) q1,fin q2⟩
  | kfl q r =>
   obtain ⟨ds,e1,rfl⟩:=Option.map_eq_some_iff.mp e
   obtain ⟨q1,q2⟩:=many r e1
   exact ⟨.lst (.inr q) q1,fin q2⟩
  | @ref k a q =>
   dsimp only at e
   split at e
   ·rename_i ys hk
    obtain ⟨ds,e1,rfl⟩:=Option.map_eq_some_iff.mp e
    obtain ⟨u,e2,us,rfl,r⟩:=S.obj k _ a hk q
    obtain ⟨q1,q2⟩:=many r e1
    exact ⟨.lst (.inl (.inl e2)) q1,fin q2⟩
   ·cases e
  | exc _ _ _=>cases e
end
theorem yha {i j:Int}:decide (V.int i=V.int j)=decide (i=j):=by rw [Bool.eq_iff_iff];simp
theorem yhb {i j:Str}:decide (V.str i=V.str j)=decide (i=j):=by rw [Bool.eq_iff_iff];simp
theorem yik {i j:Bool}:decide (V.bl i=V.bl j)=decide (i=j):=by rw [Bool.eq_iff_iff];simp
theorem zfl {r:R2} {neg:Bool} (ho:OpR X g r) (h1:∀ x y H Q,(scal x y=true/\Q (.bl (if neg then !decide (x=y) else decide (x=y))) H)->r x y H Q)
  (h2:∀ x y H Q,(∃ d e,DaV T.K H x d/\DaV T.K H y e/\d.canLay0=true/\e.canLay0=true/\d.depth<=60/\Q (.bl (if neg then !PyData.eqv d e else PyData.eqv d e)) H)->r x y H Q) :
  OpS T (fun x y h=>match eqA x y h with | some b=>.ok (.bl (if neg then !b else b)) h | none=>.bad) r:=by
 intro ι h H x y u w E Q S rx ry p
 dsimp only at p
 cases hb:eqA x y h with
 | none=>rw [hb] at p;exact p.elim
 | some b =>
  rw [hb] at p
  dsimp only at p
  unfold eqA at hb
  split at hb
  ·cases hb
   rw [yaF rx,yaF ry]
   exact h1 _ _ _ _ ⟨rfl,by rw [yha];exact p.now S (.bl _)⟩
  ·cases hb
   obtain ⟨rfl,_⟩:=ybv rx
   obtain ⟨rfl,_⟩:=ybv ry
   exact h1 _ _ _ _ ⟨rfl,by rw [yhb];exact p.now S (.bl _)⟩
  ·cases hb
   rw [yc0 rx,yc0 ry]
   exact h1 _ _ _ _ ⟨rfl,by rw [yik];exact p.now S (.bl _)⟩
  ·cases hb
   rw [yee rx,yee ry]
   exact h1 _ _ _ _ ⟨rfl,by rw [show decide (V.non=V.non)=true from rfl];exact p.now S (.bl _)⟩
  ·split at hb
   ·rename_i d e e1 e2
    cases hb
    obtain ⟨q1,q2,q3⟩:=ydt S 8 rx e1
    obtain ⟨q4,q5,q6⟩:=ydt S 8 ry e2
    exact h2 _ _ _ _ ⟨d,e,q1,q4,q2,q5,by omega,p.now S (.bl _)⟩
   ·cases hb
theorem o_eq (hK:X.K=T.K) (hu:X.A.units+64<cLine):Op T X (compareOp .Eq) fEq :=
 ⟨_,op_eq.or (yfv hu),zfl (neg:=false) (op_eq.or (yfv hu)) (fun _ _ _ _ q=>.inl q) fun _ _ _ _ q=>.inr (hK▸q)⟩
theorem o_ne (hK:X.K=T.K) (hu:X.A.units+64<cLine):Op T X (compareOp .NotEq) fNe :=
 ⟨_,op_ne.or (yfw hu),zfl (neg:=true) (op_ne.or (yfw hu)) (fun _ _ _ _ q=>.inl q) fun _ _ _ _ q=>.inr (hK▸q)⟩
theorem o_lt:Op T X (compareOp .Lt) fLt:=by
 refine ⟨_,op_lt.or zgE,fun ι h H x y u w E Q S rx ry p=>?_⟩
 unfold fLt at p
 split at p
 ·rw [yaF rx,yaF ry]
  exact .inl ⟨_,_,rfl,rfl,p.now S (.bl _)⟩
 ·obtain ⟨rfl,_⟩:=ybv rx
  obtain ⟨rfl,_⟩:=ybv ry
  exact .inr ⟨_,_,rfl,rfl,p.now S (.bl _)⟩
 ·exact p.elim
theorem o_le:Op T X (compareOp .LtE) fLe:=by
 refine ⟨_,op_le.or zgU,fun ι h H x y u w E Q S rx ry p=>?_⟩
 unfold fLe at p
 split at p
 ·rw [yaF rx,yaF ry]
  exact .inl ⟨_,_,rfl,rfl,p.now S (.bl _)⟩
 ·obtain ⟨rfl,_⟩:=ybv rx
  obtain ⟨rfl,_⟩:=ybv ry
  exact .inr ⟨_,_,rfl,rfl,p.now S (.bl _)⟩
 ·exact p.elim
theorem o_gt:Op T X (compareOp .Gt) fGt:=by
 refine ⟨_,yh5,fun ι h H x y u w E Q S rx ry p=>?_⟩
 unfold fGt at p
 split at p
 ·rw [yaF rx,yaF ry]
  exact ⟨_,_,rfl,rfl,p.now S (.bl _)⟩
 ·exact p.elim
theorem o_ge:Op T X (compareOp .GtE) fGe:=by
 refine ⟨_,yh6,fun ι h H x y u w E Q S rx ry p=>?_⟩
 unfold fGe at p
 split at p
 ·rw [yaF rx,yaF ry]
  exact ⟨_,_,rfl,rfl,p.now S (.bl _)⟩
 ·exact p.elim
theorem RV.non_iff {ι:Ix} {H:Hp} {x:AV} {u:V} (r:RV T ι H x u):decide (x = .non)=decide (u = .non):=by
 exact decide_eq_decide.mpr ⟨fun z=>by subst z;cases r;rfl,fun z=>by subst z;cases r;rfl⟩
theorem yfh:Op T X (compareOp .Is) fIsN:=by
 refine ⟨_,ygQ,fun ι h H x y u w E Q S rx ry p=>?_⟩
 unfold fIsN at p
 split at p
 ·refine ⟨yee ry,?_⟩
  rw [<- rx.non_iff]
  exact p.now S (.bl _)
 ·exact p.elim
theorem yhc:Op T X (compareOp .IsNot) ycq:=by
 refine ⟨_,zis,fun ι h H x y u w E Q S rx ry p=>?_⟩
 unfold ycq at p
 split at p
 ·refine ⟨yee ry,?_⟩
  rw [<- rx.non_iff]
  exact p.now S (.bl _)
 ·exact p.elim
theorem yc1 {op:CmpOp} {f:F2} (ho:Op T X (compareOp op) f) (ha:PEA T E X a sa) (hb:PEA T E X b sb) (hm:behindInMarks op b=false):PEA T E X (.Compare a [op] [b] pos) (sOp2 f sa sb):=by
 obtain ⟨r,h1,h2⟩:=ho
 exact ya0 (zit h1 ha hb hm) fun σ H Q q=>two h2 q
theorem yap {op:CmpOp} {f:F2} (ho:Op T X (compareOp op) f) (ha:PEA T E X a sa) (hb:PEA T E X b sb) (hm:behindInMarks op b=false):PTA T E X (.Compare a [op] [b] pos) (yas (sOp2 f sa sb)):=by
 obtain ⟨r,h1,h2⟩:=ho
 refine yeu (ziu h1 ha hb hm) fun σ H Q q=>two (E:=E) (Q:=fun x H' => ∃ k,x=V.bl k/\Q k H') h2 ?_
 obtain ⟨ι,h,en,S,er,q⟩:=q
 refine ⟨ι,h,en,S,er,q.bind fun x h1 ι1 H1 u g1 S1 r1 q1=>?_⟩
 split at q1
 ·rw [yc0 r1]
  exact ⟨_,rfl,q1.now S1 rfl⟩
 ·exact q1.elim
theorem ygb {f f':F2} {r r':R2} (hs:OpS T f r) (hs':OpS T f' r') {σ:St} {H:Hp} {Q:VK} (q:tE T E (ydc f f' sa sb sc) σ H Q):yeU r r' (tE T E sa) (tE T E sb) (tE T E sc) σ H Q:=by
 obtain ⟨ι,h,en,S,er,q⟩:=q
 refine ⟨ι,h,en,S,er,q.bind fun x h1 ι1 H1 u g1 S1 r1 q1=>⟨ι1,h1,en,S1,er.mono g1,q1.bind fun y h2 ι2 H2 w g2 S2 r2 q2=>?_⟩⟩
 refine hs ι2 h2 H2 x y u w (E σ) _ S2 (r1.mono g2) r2 (q2.bind fun z h3 ι3 H3 k g3 S3 r3 q3=>?_)
 split at q3
 ·rename_i kk
  rw [yc0 r3]
  refine ⟨kk,rfl,?_⟩
  by_cases hkk:kk=true
  ·rw [if_pos hkk] at q3 ⊢
   refine ⟨ι3,h3,en,S3,er.mono (g1.trans (g2.trans g3)),q3.bind fun v h4 ι4 H4 j g4 S4 r4 q4=>?_⟩
   exact hs' ι4 h4 H4 y v w j _ Q S4 (r2.mono (g3.trans g4)) r4 q4
  ·rw [if_neg hkk] at q3 ⊢
   exact q3.now S3 (.bl _)
 ·exact q3.elim
theorem zdt {op op':CmpOp} {f f':F2} (ho:Op T X (compareOp op) f) (ho':Op T X (compareOp op') f') (ha:PEA T E X a sa) (hb:PEA T E X b sb) (hc:PEA T E X c sc) (hm:lastMarks [op,op'] [b,c]=false:=by with_unfolding_all rfl) :
  PEA T E X (.Compare a [op,op'] [b,c] pos) (ydc f f' sa sb sc):=by
 obtain ⟨r,h1,h2⟩:=ho
 obtain ⟨r',h1',h2'⟩:=ho'
 exact ya0 (zho h1 h1' ha hb hc hm) fun σ H Q q=>ygb h2 h2' q
theorem zen {op op':CmpOp} {f f':F2} (ho:Op T X (compareOp op) f) (ho':Op T X (compareOp op') f') (ha:PEA T E X a sa) (hb:PEA T E X b sb) (hc:PEA T E X c sc) (hm:lastMarks [op,op'] [b,c]=false:=by with_unfolding_all rfl) :
  PTA T E X (.Compare a [op,op'] [b,c] pos) (yas (ydc f f' sa sb sc)):=by
 obtain ⟨r,h1,h2⟩:=ho
 obtain ⟨r',h1',h2'⟩:=ho'
 refine yeu (zhp h1 h1' ha hb hc hm) fun σ H Q q=>ygb (E:=E) (Q:=fun x H' => ∃ k,x=V.bl k/\Q k H') h2 h2' ?_
 obtain ⟨ι,h,en,S,er,q⟩:=q
 refine ⟨ι,h,en,S,er,q.bind fun x h1 ι1 H1 u g1 S1 r1 q1=>?_⟩
 split at q1
 ·rw [yc0 r1]
  exact ⟨_,rfl,q1.now S1 rfl⟩
 ·exact q1.elim
theorem yhd {ι:Ix} {h:AH} {H:Hp} {v:AV} {u:V} {k:Bool} (S:Sim T ι h H) (r:RV T ι H v u) (e:truA v h=some k):TruV T.K u H k:=by
 unfold truA at e
 cases r with
 | non=>cases e;rfl
 | bl b=>cases e;rfl
 | int b=>cases e;rfl
 | str n o=>cases e;exact ⟨n,rfl⟩
 | tup n q r=>cases e;exact .inr (.inl ⟨_,.of q,by cases r<;>rfl⟩)
 | fl n q r=>cases e;exact .inl ⟨_,.inl q,by cases r<;>rfl⟩
 | kfl q r=>cases e;exact .inl ⟨_,.inr q,by cases r<;>rfl⟩
 | @ref n a q =>
  dsimp only at e
  split at e
  ·rename_i xs hk
   cases e
   obtain ⟨u,e1,us,rfl,r⟩:=S.obj n _ a hk q
   exact .inl ⟨us,.inl (.inl e1),by cases r<;>rfl⟩
  ·rename_i xs hk
   cases e
   obtain ⟨u,e1,us,rfl,r⟩:=S.obj n _ a hk q
   exact .inr (.inr ⟨us,e1,by cases r<;>rfl⟩)
  ·cases e
 | exc _ _ _=>cases e
theorem zan (hK:X.K=T.K) (ha:PEA T E X a sa) (he:∀ whole,isTrue a X.env whole=(do let v <- whole;standAt a.pos;holding [v] (truthy v)):=by intro _;rfl):PTA T E X a (ybJ sa) :=
 yeu (zhq ha he) fun σ H Q ⟨ι,h,en,S,er,q⟩=>⟨ι,h,en,S,er,q.bind fun x h1 ι1 H1 u g1 S1 r1 q1=>by
  split at q1
  ·rename_i b hb
   exact ⟨b,hK▸yhd S1 r1 hb,q1.now S1 rfl⟩
  ·exact q1.elim⟩
variable {ca cb:SB} {rest:List Expr}
theorem ycX (ha:PTA T E X a ca):PTA T E X (.UnaryOp .Not a pos) (sNot ca) :=
 yeu (ygC ha) fun σ H Q ⟨ι,h,en,S,er,q⟩=>⟨ι,h,en,S,er,q.bind fun x h1 ι1 H1 u g1 S1 r1 q1=>by subst r1;exact q1.now S1 rfl⟩
theorem rt_w (h:PWA T E X a ca):PTA T E X a ca:=PW.pt h
theorem zbH (ha:PTA T E X a ca):PWA T E X (.BoolOp .And [a] pos) ca:=zil ha
theorem yef (ha:PTA T E X a ca):PWA T E X (.BoolOp .Or [a] pos) ca:=ygA ha
theorem ydP (ha:PTA T E X a ca) (hb:PWA T E X (.BoolOp .And (b::rest) pos) cb):PWA T E X (.BoolOp .And (a::b::rest) pos) (sAnd ca cb) :=
 yfy (ygB ha hb) fun σ H Q ⟨ι,h,en,S,er,q⟩=>⟨ι,h,en,S,er,q.bind fun x h1 ι1 H1 u g1 S1 r1 q1=>by
  subst r1
  by_cases hx:x=true
  ·rw [if_pos hx] at q1 ⊢
   exact ⟨ι1,h1,en,S1,er.mono g1,q1⟩
  ·rw [if_neg hx] at q1 ⊢
   exact q1.now S1 rfl⟩
theorem yew (ha:PTA T E X a ca) (hb:PWA T E X (.BoolOp .Or (b::rest) pos) cb):PWA T E X (.BoolOp .Or (a::b::rest) pos) (sOr ca cb) :=
 yfy (yhV ha hb) fun σ H Q ⟨ι,h,en,S,er,q⟩=>⟨ι,h,en,S,er,q.bind fun x h1 ι1 H1 u g1 S1 r1 q1=>by
  subst r1
  by_cases hx:x=true
  ·rw [if_pos hx] at q1 ⊢
   exact q1.now S1 rfl
  ·rw [if_neg hx] at q1 ⊢
   exact ⟨ι1,h1,en,S1,er.mono g1,q1⟩⟩
theorem ydV {op} (h:PEA T E X a sa):PEA T E X (.BoolOp op [a] pos) sa:=ygD h
theorem yd0 (ha:PEA T E X a sa) (hb:PEA T E X (.BoolOp .And (b::rest) pos) sb):PEA T E X (.BoolOp .And (a::b::rest) pos) (ydQ sa sb) :=
 ya0 (ygE ha hb) fun σ H Q ⟨ι,h,en,S,er,q⟩=>⟨ι,h,en,S,er,q.bind fun x h1 ι1 H1 u g1 S1 r1 q1=>by
  split at q1
  ·rename_i kk
   rw [yc0 r1]
   refine ⟨kk,rfl,?_⟩
   by_cases hkk:kk=true
   ·rw [if_pos hkk] at q1 ⊢
    exact ⟨ι1,h1,en,S1,er.mono g1,q1⟩
   ·rw [if_neg hkk] at q1 ⊢
    exact q1.now S1 (.bl _)
  ·exact q1.elim⟩
theorem r_or (ha:PEA T E X a sa) (hb:PEA T E X (.BoolOp .Or (b::rest) pos) sb):PEA T E X (.BoolOp .Or (a::b::rest) pos) (sOrV sa sb) :=
 ya0 (yhY ha hb) fun σ H Q ⟨ι,h,en,S,er,q⟩=>⟨ι,h,en,S,er,q.bind fun x h1 ι1 H1 u g1 S1 r1 q1=>by
  split at q1
  ·rename_i kk
   rw [yc0 r1]
   refine ⟨kk,rfl,?_⟩
   by_cases hkk:kk=true
   ·rw [if_pos hkk] at q1 ⊢
    exact q1.now S1 (.bl _)
   ·rw [if_neg hkk] at q1 ⊢
    exact ⟨ι1,h1,en,S1,er.mono g1,q1⟩
  ·exact q1.elim⟩
theorem yil (ha:PEA T E X a sa):PEA T E X (.UnaryOp .Not a pos) (yf9 sa) :=
 ya0 (ygF ha) fun σ H Q ⟨ι,h,en,S,er,q⟩=>⟨ι,h,en,S,er,q.bind fun x h1 ι1 H1 u g1 S1 r1 q1=>by
  split at q1
  ·rw [yc0 r1]
   exact ⟨_,rfl,q1.now S1 (.bl _)⟩
  ·exact q1.elim⟩
theorem yim {d:Expr} (hc:PTA T E X d ca) (ha:PEA T E X a sa) (hb:PEA T E X b sb):PEA T E X (.IfExp d a b pos) (sIfE ca sa sb) :=
 ya0 (zhk hc ha hb) fun σ H Q ⟨ι,h,en,S,er,q⟩=>⟨ι,h,en,S,er,q.bind fun x h1 ι1 H1 u g1 S1 r1 q1=>by
  subst r1
  by_cases hx:x=true
  ·rw [if_pos hx] at q1 ⊢
   exact ⟨ι1,h1,en,S1,er.mono g1,q1⟩
  ·rw [if_neg hx] at q1 ⊢
   exact ⟨ι1,h1,en,S1,er.mono g1,q1⟩⟩
variable {es:List Expr} {as:SL}
theorem yac:PAA T E X [] sNil:=yfz yfr fun σ H Q ⟨ι,h,en,S,er,q⟩=>q.now S .nil
theorem zaa (ha:PEA T E X a sa) (hr:PAA T E X es as) (hs:starEach (a::es) X.env=(false,eval a X.env)::starEach es X.env:=by rfl):PAA T E X (a::es) (yab sa as) :=
 yfz (zdo ha hr hs) fun σ H Q ⟨ι,h,en,S,er,q⟩=>⟨ι,h,en,S,er,q.bind fun x h1 ι1 H1 u g1 S1 r1 q1=>⟨ι1,h1,en,S1,er.mono g1,q1.bind fun xs h2 ι2 H2 us g2 S2 r2 q2=>q2.now S2 (.cons (r1.mono g2) r2)⟩⟩
theorem ygc {k} (h:PAA T E X es as):PEA T E X (.Tuple es k pos) (sTup as) :=
 ya0 (ygU h) fun σ H Q ⟨ι,h,en,S,er,q⟩=>⟨ι,h,en,S,er,q.bind fun xs h1 ι1 H1 us g1 S1 r1 q1=>by
  split at q1
  ·rename_i hl
   exact ⟨by rw [<- r1.length];exact Nat.le_trans hl (by decide),fun p n=>zds S1 r1 n q1⟩
  ·exact q1.elim⟩
theorem ybP (h:PAA T E X es as):PEA T E X (.List es pos) (sLst as) :=
 ya0 (yfs h) fun σ H Q ⟨ι,h,en,S,er,q⟩=>⟨ι,h,en,S,er,q.bind fun xs h1 ι1 H1 us g1 S1 r1 q1=>by
  split at q1
  ·rename_i hl
   exact ⟨by rw [<- r1.length];exact Nat.le_trans hl (by decide),fun p n=>ydY S1 r1 n q1⟩
  ·exact q1.elim⟩
theorem ybX (h:PAA T E X es as):PEA T E X (.List es pos) (ybN as) :=
 ya0 (yfs h) fun σ H Q ⟨ι,h,en,S,er,q⟩=>⟨ι,h,en,S,er,q.bind fun xs h1 ι1 H1 us g1 S1 r1 q1=>by
  split at q1
  ·rename_i hl
   exact ⟨by rw [<- r1.length];exact Nat.le_trans hl (by decide),fun p n=>zcB S1 r1 n q1⟩
  ·exact q1.elim⟩
theorem ziO:PEA T E X (.Dict [] [] pos) (yf8 true) :=
 ya0 zhB fun σ H Q ⟨ι,h,en,S,er,q⟩ p n=>q _ _ _ (S.growAdd n) (S.add n ⟨[],rfl,.nil⟩) (.ref S.addAt)
end
end Sm
namespace Sm
open PySem L2
section
variable {T:Tb} {E:St->XK} {X:Cx} {pos:Pos} {a b:Expr} {sa sb:SE} {ca:SB} {st:Stmt} {sts ss1 ss2:List Stmt} {s1 s2:SS}
theorem yay:PSsA T E X [] yaD:=zfj zim fun D σ H ⟨ι,h,en,S,er,q⟩=>q ι H σ S.refl S er
theorem zab (h1:PSA T E X st s1) (h2:PSsA T E X sts s2):PSsA T E X (st::sts) (sSeq s1 s2) :=
 zfj (zhl h1 h2) fun D σ H ⟨ι,h,en,S,er,q⟩=>by
  refine ⟨ι,h,en,S,er,?_⟩
  unfold sSeq at q
  cases e:s1 en h with
  | nx e1 h1 =>
   rw [e] at q
   exact fun ι' H' σ' g S' er' => ⟨ι',h1,e1,S',er',q.shift g⟩
  | rt v h1=>rw [e] at q;exact q
  | bk e1 h1=>rw [e] at q;exact q
  | ct e1 h1=>rw [e] at q;exact q
  | ex c e1 h1=>rw [e] at q;exact q
  | bad=>rw [e] at q;exact q
theorem yae (h1:PSA T E X st s1):PSsA T E X [st] s1:=zin h1
theorem yaE (ha:PEA T E X a sa) (hs:swapsWith a none pos.line X.env=pure false:=by rfl):PSA T E X (.Expr a pos) (yaL sa) :=
 ycV (zio ha hs) fun D σ H ⟨ι,h,en,S,er,q⟩=>⟨ι,h,en,S,er,q.go er fun v h1 ι1 H1 u g1 S1 r1 q1=>q1 ι1 H1 σ S1.refl S1 (er.mono g1)⟩
theorem yaj (ha:PEA T E X a sa):PSA T E X (.Return (some a) pos) (sRet sa) :=
 ycV (ygG ha) fun D σ H ⟨ι,h,en,S,er,q⟩=>⟨ι,h,en,S,er,q.go er fun v h1 ι1 H1 u g1 S1 r1 q1=>q1 ι1 H1 u S1.refl S1 r1⟩
theorem r_if (hc:PTA T E X a ca) (h1:PSsA T E X ss1 s1) (h2:PSsA T E X ss2 s2):PSA T E X (.If a ss1 ss2 pos) (sIf ca s1 s2) :=
 ycV (yh1 hc h1 h2) fun D σ H ⟨ι,h,en,S,er,q⟩=>⟨ι,h,en,S,er,q.go er fun x h1 ι1 H1 u g1 S1 r1 q1=>by
  subst r1
  by_cases hx:x=true
  ·rw [if_pos hx] at q1 ⊢
   exact ⟨ι1,h1,en,S1,er.mono g1,q1⟩
  ·rw [if_neg hx] at q1 ⊢
   exact ⟨ι1,h1,en,S1,er.mono g1,q1⟩⟩
theorem yfB {σ:St} {H:Hp} {D:Ends} {i:Nat} (q:tS T E (sSet i sa) D σ H):tAsg (tE T E sa) (yeJ i) D σ H:=by
 obtain ⟨ι,h,en,S,er,q⟩:=q
 exact ⟨ι,h,en,S,er,q.go er fun v h1 ι1 H1 u g1 S1 r1 q1=>q1 ι1 H1 _ S1.refl S1 ((er.mono g1).set r1 i)⟩
theorem yao {i:Nat} {x:Str} {p':Pos} (hN:X.N.Nodup) (ha:PEA T E X a sa) (hi:X.N[i]? = some x:=by rfl) (hx:Loc X.env.scope x:=by first | exact Or.inl rfl | exact Or.inr rfl) (hs:swapsWith a (some (.Name x p')) pos.line X.env=pure false:=by rfl)
  (hf:X.fn x=true\/X.env.scope.names.lookup x=some .local:=by first | exact .inl rfl | exact .inr rfl | assumption):PSA T E X (.Assign [.Name x p'] a pos) (sSet i sa) :=
 ycV (ygJ hN hi hx ha hs hf) fun D σ H q=>yfB q
theorem zbI (n:Nat) (hc:PTA T EN X.nox a ca) (hb:PSsA T EN X.nox sts s1):PSA T E X (.While a sts [] pos) (yaz ca s1 n) :=
 ycV (yeW (zhm PassesOwn.never hc hb)) fun D σ H ⟨ι,h,en,S,er,q⟩=>by
  refine ⟨fun m σ H=>∃ ι h en,Sim T ι h H/\ER T ι H en σ/\PostS T ι H E (yaz ca s1 m en h) D,⟨n,ι,h,en,S,er,q⟩,?_⟩
  rintro m σ H ⟨ι,h,en,S,er,q⟩
  cases m with
  | zero=>exact (show False from q).elim
  | succ m =>
   unfold yaz at q
   refine ⟨ι,h,en,S,er,?_⟩
   cases e:ca en h with
   | bad=>rw [e] at q;exact q
   | ex c h1=>rw [e] at q;exact (show False from q).elim
   | ok x h1 =>
    rw [e] at q
    intro ι1 H1 u g1 S1 r1
    subst r1
    have q1:=PostS.shift q g1
    cases x with
    | true =>
     rw [if_pos rfl]
     refine ⟨fun σ H=>∃ ι h en,Sim T ι h H/\ER T ι H en σ/\PostS T ι H E (yaz ca s1 m en h) D,fun σ' H' w=>⟨m,Nat.lt_succ_self m,w⟩,ι1,h1,en,S1,er.mono g1,?_⟩
     dsimp only at q1
     cases e2:s1 en h1 with
     | nx e3 h3=>rw [e2] at q1;exact fun ι2 H2 σ2 g2 S2 er2=>⟨ι2,h3,e3,S2,er2,q1.shift g2⟩
     | ct e3 h3=>rw [e2] at q1;exact fun ι2 H2 σ2 g2 S2 er2=>⟨ι2,h3,e3,S2,er2,q1.shift g2⟩
     | bk e3 h3=>rw [e2] at q1;exact q1
     | rt v h3=>rw [e2] at q1;exact q1
     | ex c e3 h3=>rw [e2] at q1;exact (show False from q1).elim
     | bad=>rw [e2] at q1;exact q1
    | false =>
     rw [if_neg Bool.false_ne_true]
     exact q1 ι1 H1 σ S1.refl S1 (er.mono g1)
def PGA (T:Tb) (X:Cx) (tg:Expr) (t:Tg):Prop:=∃ g,PG X tg g/\∀ {ι:Ix} {h:AH} {H:Hp} {en e:En} {σ:St} {v:AV} {u:V} {Q:St->Hp->Prop},Sim T ι h H->ER T ι H en σ->RV T ι H v u->setT t v en=some e ->
 (∀ σ',ER T ι H e σ'->Q σ' H)->g u σ H Q
theorem zaI {i:Nat} {x:Str} (hN:X.N.Nodup) (hi:X.N[i]? = some x:=by rfl) (hx:Loc X.env.scope x:=by first | exact Or.inl rfl | exact Or.inr rfl) (hf:X.fn x=true\/X.env.scope.names.lookup x=some .local:=by first | exact .inl rfl | exact .inr rfl | assumption) :
  PGA T X (.Name x pos) (.nm i):=⟨_,ziq hN hi hx hf,fun S er r e k=>by cases e;exact k _ (er.set r i)⟩
structure ItR (T:Tb) (J:It) (ι:Ix) (H:Hp) (xs:List AV) (w:Option Nat):Prop where
 go:∀ (i:Nat) (ι':Ix) (h':AH) (H':Hp) (x:AV),Ext ι H ι' H'->Sim T ι' h' H'->ybO w xs h'=true->xs[i]? = some x->J.go i H'/\∀ u H2,J.yld i H' u H2->Grow ι' H' ι' H2/\Sim T ι' h' H2/\RV T ι' H2 x u
 stop:∀ (i:Nat) (ι':Ix) (h':AH) (H':Hp),Ext ι H ι' H'->Sim T ι' h' H'->ybO w xs h'=true->xs.length<=i->J.stop i H'
def tI (T:Tb) (it:SI):TI:=fun σ H R=>∃ ι h en,Sim T ι h H/\ER T ι H en σ/\match it en h with
 | .ok (xs,w) h' => ∀ ι' H' J,Grow ι H ι' H'->Sim T ι' h' H'->ItR T J ι' H' xs w->R J H'
 | _=>False
abbrev PIA (T:Tb) (X:Cx) (tg iter:Expr) (it:SI):Prop:=PI X tg iter (tI T it)
theorem yeZ {X:Cx} {tg iter:Expr} {t t':TI} (h:PI X tg iter t) (k:∀ σ H R,t' σ H R->t σ H R):PI X tg iter t' := fun pins s σ H R I q=>h pins s σ H R I (k σ H R q)
theorem PI.or {X:Cx} {tg iter:Expr} {t t':TI} (h:PI X tg iter t) (h':PI X tg iter t'):PI X tg iter (fun σ H R=>t σ H R\/t' σ H R):=fun pins s σ H R I q=>q.elim (h pins s σ H R I) (h' pins s σ H R I)
theorem yfC {ι:Ix} {H:Hp} {a:Addr} {us:List V} {xs:List AV} {K:PySem.W.Frag} (keep:∀ (ι':Ix) (H':Hp),Ext ι H ι' H'->SqL K H' a us) (r:RVs T ι H xs us):ItR T (Itl K a) ι H xs none:=by
 constructor
 ·intro i ι' h' H' x g S _ e
  obtain ⟨u,e1,r1⟩:=(r.ext g).get e
  refine ⟨⟨us,u,keep ι' H' g,e1⟩,?_⟩
  rintro u2 H2 ⟨rfl,y⟩
  have z:=y us (keep ι' _ g)
  rw [e1] at z;cases z
  exact ⟨S.refl,S,r1⟩
 ·intro i ι' h' H' g S _ hl
  exact ⟨us,keep ι' H' g,by rw [<- r.length];exact hl⟩
theorem yhe {ι:Ix} {H:Hp} {a:Addr} {us:List V} {xs:List AV} {K:PySem.W.Frag} (keep:∀ (ι':Ix) (H':Hp),Ext ι H ι' H'->SqT K H' a us) (r:RVs T ι H xs us):ItR T (Itt K a) ι H xs none:=by
 constructor
 ·intro i ι' h' H' x g S _ e
  obtain ⟨u,e1,r1⟩:=(r.ext g).get e
  refine ⟨⟨us,u,keep ι' H' g,e1⟩,?_⟩
  rintro u2 H2 ⟨rfl,y⟩
  have z:=y us (keep ι' _ g)
  rw [e1] at z;cases z
  exact ⟨S.refl,S,r1⟩
 ·intro i ι' h' H' g S _ hl
  exact ⟨us,keep ι' H' g,by rw [<- r.length];exact hl⟩
theorem ziP {ι:Ix} {H:Hp} {a:Addr} {n:Nat} {xs:List AV} {K:PySem.W.Frag} (e:ι.refs[n]? = some a):ItR T (Itl K a) ι H xs (some n):=by
 have at_:∀ {ι':Ix} {h':AH} {H':Hp},Ext ι H ι' H'->Sim T ι' h' H'->ybO (some n) xs h'=true->∃ us,H' a=some (.lst us)/\RVs T ι' H' xs us:=fun {ι' h' H'} g S l=>by
  unfold ybO at l
  dsimp only at l
  split at l
  ·rename_i ys hy
   have z:=of_decide_eq_true l
   subst z
   obtain ⟨u,e1,us,rfl,r⟩:=S.obj n _ a hy (g.at_ e)
   exact ⟨us,e1,r⟩
  ·cases l
 constructor
 ·intro i ι' h' H' x g S l e
  obtain ⟨us,e0,r⟩:=at_ g S l
  obtain ⟨u,e1,r1⟩:=r.get e
  refine ⟨⟨us,u,.of e0,e1⟩,?_⟩
  rintro u2 H2 ⟨rfl,y⟩
  have z:=y us (.of e0)
  rw [e1] at z;cases z
  exact ⟨S.refl,S,r1⟩
 ·intro i ι' h' H' g S l hl
  obtain ⟨us,e0,r⟩:=at_ g S l
  exact ⟨us,.of e0,by rw [<- r.length];exact hl⟩
theorem ziQ {ι:Ix} {H:Hp} {x:Str} (o:x.cps.all (· < 0x110000)=true):ItR T (Its x) ι H (x.cps.toList.map fun c=>.str ⟨#[c]⟩) none:=by
 constructor
 ·intro i ι' h' H' y g S _ e
  rw [List.getElem?_map] at e
  obtain ⟨c,e1,rfl⟩:=Option.map_eq_some_iff.mp e
  have hi:i<x.cps.size:=by
   have:=(List.getElem?_eq_some_iff.mp e1).1
   simpa using this
  refine ⟨hi,?_⟩
  rintro u H2 ⟨rfl,c',e2,rfl⟩
  have z:x.cps[i]? = some c:=by simpa using e1
  rw [e2] at z;cases z
  refine ⟨S.refl,S,.str (show 1<=sizeLine by decide) ?_⟩
  have m:=Array.mem_of_getElem? e2
  have:=Array.all_eq_true_iff_forall_mem.mp o _ m
  simpa using this
 ·intro i ι' h' H' g S _ hl
  show x.cps.size<=i
  simpa using hl
theorem zgn (n:Nat):∀ (lo:Int) (i:Nat),(ybb lo n)[i]? = if i<n then some (.int (lo+i)) else none:=by
 induction n with
 | zero=>intro lo i;simp [ybb]
 | succ n ih =>
  intro lo i
  cases i with
  | zero=>simp [ybb]
  | succ i =>
   show (ybb (lo+1) n)[i]? = _
   rw [ih]
   by_cases h:i<n
   ·rw [if_pos h,if_pos (by omega)]
    congr 2
    show lo+1+(i:Int)=lo+((i+1:Nat):Int)
    omega
   ·rw [if_neg h,if_neg (by omega)]
theorem zd5 (n:Nat):∀ lo:Int,(ybb lo n).length=n:=by
 induction n with
 | zero=>intro lo;rfl
 | succ n ih=>intro lo;show (ybb (lo+1) n).length+1=n+1;rw [ih]
theorem zg0 {ι:Ix} {H:Hp} {lo:Int} {n:Nat}:ItR T (Itr lo n) ι H (ybb lo n) none:=by
 constructor
 ·intro i ι' h' H' y g S _ e
  rw [zgn] at e
  split at e
  ·rename_i hi
   cases e
   refine ⟨hi,?_⟩
   rintro u H2 ⟨rfl,rfl⟩
   exact ⟨S.refl,S,.int _⟩
  ·cases e
 ·intro i ι' h' H' g S _ hl
  rw [zd5] at hl
  exact hl
theorem ygd {ι:Ix} {H:Hp} {a:Addr} {us:List V} (n:a∉ι.all) (h:Rd H a (.lst us)):∀ (ι':Ix) (H':Hp),Ext ι H ι' H'->SqL T.K H' a us:=fun _ _ g=>.inl (zfi g n h)
theorem yin {ι:Ix} {H:Hp} {a:Addr} {us:List V} (n:a∉ι.all) (h:H a=some (.tup us)):∀ (ι':Ix) (H':Hp),Ext ι H ι' H'->SqT T.K H' a us:=fun _ _ g=>.of (g.keep _ _ n h)
theorem yex {K K':PySem.W.Frag} {H:Hp} {a:Addr} {us:List V} (e:K=K') (h:SqL K' H a us):SqL K H a us:=e▸h
theorem yge {σ:St} {H:Hp} {R:It->Hp->Prop} {ι:Ix} {h h1:AH} {en:En} {v:AV} {xs:List AV} {w:Option Nat} (hK:X.K=T.K) (S:Sim T ι h H) (er:ER T ι H en σ) (e:sa en h = .ok v h1) (hv:(v = .fl xs/\w=none)\/∃ n,v = .ref n/\h1[n]? = some (.lst xs)/\w=some n)
  (q:∀ ι' H' J,Grow ι H ι' H'->Sim T ι' h1 H'->ItR T J ι' H' xs w->R J H'):yf3 X.K (tE T E sa) σ H R:=by
 refine ⟨ι,h,en,S,er,?_⟩
 rw [e]
 intro ι1 H1 u g1 S1 r1
 rcases hv with ⟨rfl,rfl⟩ | ⟨n,rfl,hn,rfl⟩
 ·cases r1 with
  | fl n hr rs=>exact ⟨_,rfl,⟨_,yex hK (.inl hr)⟩,q ι1 H1 _ g1 S1 (hK▸yfC (ygd n hr) rs)⟩
  | kfl hr rs=>exact ⟨_,rfl,⟨_,yex hK (.inr hr)⟩,q ι1 H1 _ g1 S1 (hK▸yfC (fun _ _ _=>.inr hr) rs)⟩
 ·cases r1 with
  | ref hr =>
   obtain ⟨u,e1,us,rfl,rs⟩:=S1.obj n _ _ hn hr
   exact ⟨_,rfl,⟨_,.of e1⟩,q ι1 H1 _ g1 S1 (ziP hr)⟩
theorem yio {σ:St} {H:Hp} {R:It->Hp->Prop} {ι:Ix} {h h1:AH} {en:En} {xs:List AV} (hK:X.K=T.K) (S:Sim T ι h H) (er:ER T ι H en σ) (e:sa en h = .ok (.tup xs) h1)
  (q:∀ ι' H' J,Grow ι H ι' H'->Sim T ι' h1 H'->ItR T J ι' H' xs none->R J H'):iTup X.K (tE T E sa) σ H R:=by
 refine ⟨ι,h,en,S,er,?_⟩
 rw [e]
 intro ι1 H1 u g1 S1 r1
 cases r1 with
 | tup n hr rs=>exact ⟨_,rfl,⟨_,.of hr⟩,q ι1 H1 _ g1 S1 (hK▸yhe (yin n hr) rs)⟩
theorem ycH {y:Str} {py:Pos} (hK:X.K=T.K) (ha:PEA T E X a sa):PIA T X (.Name y py) a (iVal sa) :=
 yeZ (PI.or (zir ha) (PI.or (ygL ha) (yg4 ha))) fun σ H R ⟨ι,h,en,S,er,q⟩=>by
  unfold iVal at q
  cases e:sa en h with
  | bad=>rw [e] at q;exact q.elim
  | ex c h1=>rw [e] at q;exact q.elim
  | ok v h1 =>
   rw [e] at q
   cases v with
   | fl xs=>exact .inl (yge hK S er e (.inl ⟨rfl,rfl⟩) q)
   | tup xs=>exact .inr (.inl (yio hK S er e q))
   | str z =>
    refine .inr (.inr ⟨ι,h,en,S,er,?_⟩)
    rw [e]
    intro ι1 H1 u g1 S1 r1
    obtain ⟨rfl,_,o⟩:=ybv r1
    exact ⟨_,rfl,q ι1 H1 _ g1 S1 (ziQ o)⟩
   | ref n =>
    dsimp only [Out.bind] at q
    cases e2:h1[n]? with
    | none=>rw [e2] at q;exact q.elim
    | some o =>
     rw [e2] at q
     cases o with
     | lst xs=>exact .inl (yge hK S er e (.inr ⟨n,rfl,e2,rfl⟩) q)
     | _=>exact q.elim
   | _=>exact q.elim
theorem zbx {tg:Expr} {p:Pos} (hg:Gl X "range") (hm:X.mg "range" = none) (ha:PEA T E X a sa) (hs:starEach [a] X.env=[(false,eval a X.env)]:=by rfl):PIA T X tg (.Call (.Name "range" p) [a] [] pos) (yb2 sa) :=
 yeZ (zgC hg hm (zaa ha yac hs) hs) fun σ H R ⟨ι,h,en,S,er,q⟩=>by
  unfold yb2 at q
  refine ⟨ι,h,en,S,er,?_⟩
  unfold yab
  cases e:sa en h with
  | bad=>rw [e] at q;exact q
  | ex c h1=>rw [e] at q;exact q.elim
  | ok v h1 =>
   rw [e] at q
   intro ι1 H1 u g1 S1 r1
   dsimp only [Out.bind] at q
   cases v with
   | int j =>
    dsimp only at q
    split at q
    ·rename_i hx
     split at hx
     ·rename_i hb
      cases hx
      cases r1 with
      | cons r r' =>
       cases r'
       rw [yaF r]
       exact ⟨j,rfl,by omega,by omega,q ι1 H1 _ g1 S1 zg0⟩
     ·cases hx
    ·exact q.elim
   | _=>exact q.elim
theorem zci {α:Type} {xs:List α} {i:Nat} (h:i<xs.length):xs.drop i=xs[i]::xs.drop (i+1):=by simp
theorem ydu {tg iter:Expr} {it:SI} {t:Tg} (hc:X.calm=true) (hi:PIA T X.nox tg iter it) (hg:PGA T X.nox tg t) (hb:PSsA T EN X.nox sts s1) (hs:∀ x,foldedSetIterable iter X.nox.env x=pure x:=by intro _;rfl) :
  PSA T E X (.For tg iter sts [] pos) (sFor it t s1):=by
 obtain ⟨g,hg1,hg2⟩:=hg
 refine ycV (yeW (yfp PassesOwn.never hc hi hg1 hb hs)) fun D σ H ⟨ι,h,en,S,er,q⟩=>⟨ι,h,en,S,er,?_⟩
 unfold sFor at q
 cases e:it en h with
 | bad=>rw [e] at q;exact q
 | ex c h1=>rw [e] at q;exact q
 | ok p h1 =>
  obtain ⟨xs,w⟩:=p
  rw [e] at q
  intro ι1 H1 J g1 S1 IR
  refine ⟨fun i m σ H=>m=xs.length-i/\i<=xs.length/\∃ ι' h' en',Grow ι1 H1 ι' H/\Sim T ι' h' H/\ER T ι' H en' σ/\PostS T ι' H E (ya8 w xs t s1 (xs.drop i) en' h') D,
   ⟨xs.length,by simp,Nat.zero_le _,ι1,h1,en,S1.refl,S1,er.mono g1,PostS.shift q g1⟩,?_⟩
  rintro i m σ H ⟨rfl,hi,ι',h',en',g',S',er',q'⟩
  by_cases hl:i<xs.length
  ·rw [zci hl] at q'
   unfold ya8 at q'
   split at q'
   ·rename_i hlive
    obtain ⟨go,yld⟩:=IR.go i ι' h' H xs[i] g'.ext S' hlive (by simp [hl])
    refine .inr ⟨go,fun σ H=>∃ ι' h' en',Grow ι1 H1 ι' H/\Sim T ι' h' H/\ER T ι' H en' σ/\PostS T ι' H E (ya8 w xs t s1 (xs.drop (i+1)) en' h') D,
     fun σ' H' w' => ⟨xs.length-(i+1),by omega,rfl,hl,w'⟩,fun x H' y=>?_⟩
    obtain ⟨g2,S2,r2⟩:=yld x H' y
    split at q'
    ·rename_i e1 he1
     refine hg2 S2 (er'.mono g2) r2 he1 fun σ' er2=>⟨ι',h',e1,S2,er2,?_⟩
     have q2:=PostS.shift q' g2
     cases e2:s1 e1 h' with
     | nx e3 h3=>rw [e2] at q2;exact fun ι3 H3 σ3 g3 S3 er3=>⟨ι3,h3,e3,g'.trans (g2.trans g3),S3,er3,q2.shift g3⟩
     | ct e3 h3=>rw [e2] at q2;exact fun ι3 H3 σ3 g3 S3 er3=>⟨ι3,h3,e3,g'.trans (g2.trans g3),S3,er3,q2.shift g3⟩
     | bk e3 h3=>rw [e2] at q2;exact q2
     | rt v h3=>rw [e2] at q2;exact q2
     | ex c e3 h3=>rw [e2] at q2;exact (show False from q2).elim
     | bad=>rw [e2] at q2;exact q2
    ·exact (show False from q').elim
   ·exact (show False from q').elim
  ·have ei:i=xs.length:=by omega
   subst ei
   rw [List.drop_length] at q'
   unfold ya8 at q'
   split at q'
   ·rename_i hlive
    exact .inl ⟨IR.stop _ ι' h' H g'.ext S' hlive (Nat.le_refl _),q' ι' H σ S'.refl S' er'⟩
   ·exact (show False from q').elim
theorem ER.comp {ι:Ix} {H:Hp} {en:En} {σ:St} {x:AV} {u:V} {jf:List (Nat×Str)} (er:ER T ι H en σ) (r:RV T ι H x u):ER T ι H (some x::(jf.map (·.1)).map fun j=>(en[j]?).join) (ybW (some u) jf σ):=by
 refine ⟨by simp [ybW],fun i v e=>?_⟩
 cases i with
 | zero=>simp at e;subst e;exact ⟨u,rfl,r⟩
 | succ i =>
  simp only [List.getElem?_cons_succ,List.getElem?_map] at e
  unfold ybW
  simp only [List.getElem?_cons_succ,List.getElem?_map]
  cases e1:jf[i]? with
  | none=>rw [e1] at e;cases e
  | some j =>
   rw [e1] at e
   simp only [Option.map_some,Option.some.injEq] at e
   have e2:en[j.1]? = some (some v):=by
    cases e3:en[j.1]? with
    | none=>rw [e3] at e;cases e
    | some o=>rw [e3] at e;exact congrArg some e
   obtain ⟨u',e4,r'⟩:=er.2 j.1 v e2
   exact ⟨u',by simp [e4],r'⟩
theorem zfm {jf:List (Nat×Str)} {it:SI} {cc:SB} {ce:SE} {σ:St} {H:Hp} {Q:VK} {ι:Ix} {h:AH} {en:En} (S:Sim T ι h H) (er:ER T ι H en σ)
  (q:match it en h with | .ok (xs,w) h1=>(match ya2 (jf.map (·.1)) en w xs cc ce xs [] h1 with | .ok ys h2=>∀ ι' H' D vs,Grow ι H ι' H'->Sim T (ι'.hide D) h2 H'->RVs T (ι'.hide D) H' ys vs->H' D=some (.lst vs)->D∉ι'.all->(∀ n,ι'.refs=ι.refs++n->∀ a∈n++[D],H a=none)->Q (.ref D) H' | _=>False) | _=>False) :
  yej jf (tI T it) (tT T EN cc) (tE T EN ce) σ H Q:=by
 refine ⟨ι,h,en,S,er,?_⟩
 cases e:it en h with
 | bad=>rw [e] at q;exact q
 | ex c h1=>rw [e] at q;exact q
 | ok p h1 =>
  obtain ⟨xs,w⟩:=p
  rw [e] at q
  dsimp only at q
  intro ι1 H1 J g1 S1 IR D hD
  refine ⟨fun i m ys H2=>m=xs.length-i/\i<=xs.length/\H2 D=some (.lst ys)/\∃ ι' h' vs,Grow ι1 H1 ι' H2/\Ext ι1 H1 (ι'.hide D) H2/\Sim T (ι'.hide D) h' H2/\ER T (ι'.hide D) H2 en σ/\RVs T (ι'.hide D) H2 vs ys/\D∉ι'.refs /\
   (match ya2 (jf.map (·.1)) en w xs cc ce (xs.drop i) vs h' with | .ok ys h2=>∀ ι' H' D vs,Grow ι H ι' H'->Sim T (ι'.hide D) h2 H'->RVs T (ι'.hide D) H' ys vs->H' D=some (.lst vs)->D∉ι'.all->(∀ n,ι'.refs=ι.refs++n->∀ a∈n++[D],H a=none)->Q (.ref D) H' | _=>False),?_,?_⟩
  ·exact ⟨xs.length,by simp,Nat.zero_le _,zay,ι1,h1,[],S1.growNew hD,Ext.hide hD,S1.hide hD,(er.mono g1).ext (Ext.hide hD),.nil,fun z=>S1.fresh hD (List.mem_append_left _ z),q⟩
  ·rintro i m ys H2 ⟨rfl,hi,hH2,ι',h',vs,g',x',S',er',rv',nD',q'⟩
   refine ⟨hH2,?_⟩
   by_cases hl:i<xs.length
   ·rw [zci hl] at q'
    unfold ya2 at q'
    by_cases hs:ybO w xs h'=true/\vs.length<sizeLine
    ·rw [if_pos hs] at q'
     obtain ⟨hs1,hs2⟩:=hs
     obtain ⟨go,yld⟩:=IR.go i _ h' H2 xs[i] x' S' hs1 (by simp [hl])
     refine .inr ⟨go,by rw [<- rv'.length];exact hs2,fun x H3 y=>?_⟩
     obtain ⟨g3,S3,r3⟩:=yld x H3 y
     have er3:=er'.mono g3
     refine ⟨ι'.hide D,h',_,S3,ER.comp er3 r3,?_⟩
     cases ec:cc (some xs[i]::(jf.map (·.1)).map fun j=>(en[j]?).join) h' with
     | bad=>rw [ec] at q';exact q'
     | ex c h5=>rw [ec] at q';exact q'.elim
     | ok bb h5 =>
      rw [ec] at q'
      intro ι5 H5 b5 g5 S5 r5
      subst r5
      have g35:=g3.trans g5
      have hD5:H5 D=some (.lst ys):=g35.keep D _ nD' hH2
      have eι:ι5=Ix.hide ⟨ι5.refs,ι'.priv⟩ D:=by
       have:=g5.priv
       cases ι5
       simp only at this
       subst this
       rfl
      have nD5:D∉ι5.refs:=g35.outR nD' hH2
      have gG5:Grow ι1 H1 ⟨ι5.refs,ι'.priv⟩ H5:=by
       obtain ⟨n,en1,hn⟩:=g'.pre
       obtain ⟨k,ek,hk⟩:=g35.pre
       refine ⟨⟨n++k,?_,fun a ha=>?_⟩,g'.priv,fun a o na ea=>?_,fun a ha=>?_⟩
       ·show ι5.refs=_;rw [ek];show ι'.refs++k=_;rw [en1];simp
       ·rcases List.mem_append.mp ha with z | z
        ·exact hn a z
        ·have z2:=hk a z
         by_cases hr:a∈ι1.refs
         ·exact absurd z2 (g'.live a (List.mem_append_left _ hr))
         ·cases e9:H1 a with
          | none=>rfl
          | some o=>rw [g'.keep a o hr e9] at z2;cases z2
       ·exact g35.keep a o (g'.outR na ea) (g'.keep a o na ea)
       ·have:a∈(ι'.hide D).all:=by
         rcases List.mem_append.mp ha with z | z
         ·exact List.mem_append_left _ (by show a∈ι'.refs;rw [en1];exact List.mem_append_left _ z)
         ·exact List.mem_append_right _ (List.mem_cons_of_mem _ (by rw [g'.priv];exact z))
        exact g35.live a this
      have x5:Ext ι1 H1 (Ix.hide ⟨ι5.refs,ι'.priv⟩ D) H5:=eι▸x'.trans g35.ext
      have er5:=er3.mono g5
      have rv5:=(rv'.mono g35)
      cases bb with
      | false =>
       rw [if_neg Bool.false_ne_true]
       refine ⟨xs.length-(i+1),by omega,rfl,hl,hD5,⟨ι5.refs,ι'.priv⟩,h5,vs,gG5,x5,eι▸S5,eι▸er5,eι▸rv5,nD5,q'⟩
      | true =>
       rw [if_pos rfl]
       refine ⟨ι5,h5,_,S5,(ER.comp er3 r3).mono g5,?_⟩
       dsimp only at q'
       cases ee:ce (some xs[i]::(jf.map (·.1)).map fun j=>(en[j]?).join) h5 with
       | bad=>rw [ee] at q';exact q'
       | ex c h6=>rw [ee] at q';exact q'.elim
       | ok v h6 =>
        rw [ee] at q'
        intro ι6 H6 u6 g6 S6 r6
        have g56:=g6
        have hD6:H6 D=some (.lst ys):=g56.keep D _ nD5 hD5
        have eι6:ι6=Ix.hide ⟨ι6.refs,ι'.priv⟩ D:=by
         have h1:=g6.priv
         have h2:=g5.priv
         rw [h2] at h1
         cases ι6
         simp only at h1
         subst h1
         rfl
        have nD6:D∉ι6.refs:=g56.outR nD5 hD5
        have gG6:Grow ι1 H1 ⟨ι6.refs,ι'.priv⟩ (upd H6 D (.lst (ys++[u6]))):=by
         obtain ⟨n,en1,hn⟩:=gG5.pre
         obtain ⟨k,ek,hk⟩:=g56.pre
         have hD1:∀ a o,H1 a=some o->a≠D:=fun a o ea=>zav ea hD
         refine ⟨⟨n++k,?_,fun a ha=>?_⟩,g'.priv,fun a o na ea=>?_,fun a ha=>?_⟩
         ·show ι6.refs=_;rw [ek];have z:ι5.refs=ι1.refs++n:=en1;rw [z];simp
         ·rcases List.mem_append.mp ha with z | z
          ·exact hn a z
          ·have z2:=hk a z
           by_cases hr:a∈ι1.refs
           ·exact absurd z2 (gG5.live a (List.mem_append_left _ hr))
           ·cases e9:H1 a with
            | none=>rfl
            | some o=>rw [gG5.keep a o hr e9] at z2;cases z2
         ·rw [yaT (hD1 a o ea)]
          exact g56.keep a o (gG5.outR na ea) (gG5.keep a o na ea)
         ·by_cases zD:a=D
          ·subst zD;rw [zay];simp
          ·rw [yaT zD]
           have:a∈ι5.all:=by
            rcases List.mem_append.mp ha with z | z
            ·exact List.mem_append_left _ (by have z':ι5.refs=ι1.refs++n:=en1;rw [z'];exact List.mem_append_left _ z)
            ·rw [eι];exact List.mem_append_right _ (List.mem_cons_of_mem _ (by show a∈ι'.priv;rw [g'.priv];exact z))
           exact g56.live a this
        refine ⟨hD6,xs.length-(i+1),by omega,rfl,hl,zay,⟨ι6.refs,ι'.priv⟩,h6,vs++[v],gG6,?_,?_,?_,?_,nD6,q'⟩
        ·exact (eι6▸(x'.trans (g35.ext.trans g6.ext))).trans Ext.poke
        ·exact Sim.poke (eι6▸S6) nD6
        ·exact ER.ext (eι6▸er5.mono g6) Ext.poke
        ·have:RVs T ι6 H6 (vs++[v]) (ys++[u6]):=(rv5.mono g6).append (.cons r6 .nil)
         exact RVs.ext Ext.poke (eι6▸this)
    ·rw [if_neg hs] at q';exact q'.elim
   ·have ei:i=xs.length:=by omega
    subst ei
    rw [List.drop_length] at q'
    unfold ya2 at q'
    by_cases hs:ybO w xs h'=true
    ·rw [if_pos hs] at q'
     have hp:D∉ι'.priv:=fun z=>by rw [g'.priv] at z;exact S1.plive D z hD
     refine .inl ⟨IR.stop _ _ h' H2 x' S' hs (Nat.le_refl _),q' ι' H2 D ys (g1.trans g') S' rv' hH2 (fun z=>(List.mem_append.mp z).elim nD' hp) fun n en1 a ha=>?_⟩
     obtain ⟨k,ek,hk⟩:=(g1.trans g').pre
     have:n=k:=List.append_cancel_left (en1.symm.trans ek)
     subst this
     rcases List.mem_append.mp ha with z | z
     ·exact hk a z
     ·have z':a=D:=by simpa using z
      subst z'
      cases e9:H a with
      | none=>rfl
      | some o =>
       by_cases hr:a∈ι.refs
       ·have z1:a∈ι1.refs:=by
         obtain ⟨k1,ek1,_⟩:=g1.pre
         rw [ek1];exact List.mem_append_left _ hr
        exact absurd hD (S1.live a (List.mem_append_left _ z1))
       ·rw [g1.keep a o hr e9] at hD;cases hD
    ·rw [if_neg hs] at q';exact q'.elim
end
end Sm
namespace Sm
open PySem PySem.Spec L2
section
variable {T:Tb} {E:St->XK} {X:Cx} {pos px:Pos} {iter elt:Expr} {ifs:List Expr} {scope:Scope} {x₁:Str} {jf:List (Nat×Str)} {it:SI} {cc:SB} {ce:SE}
theorem zfn {σ:St} {H:Hp} {Q:VK} (q:tE T E (ycC (jf.map (·.1)) it cc ce) σ H Q):yej jf (tI T it) (tT T EN cc) (tE T EN ce) σ H Q:=by
 obtain ⟨ι,h,en,S,er,q⟩:=q
 refine zfm S er ?_
 unfold ycC at q
 cases e:it en h with
 | bad=>rw [e] at q;exact q
 | ex c h1=>rw [e] at q;exact q.elim
 | ok p h1 =>
  obtain ⟨xs,w⟩:=p
  rw [e] at q
  dsimp only at q ⊢
  cases e2:ya2 (jf.map (·.1)) en w xs cc ce xs [] h1 with
  | bad=>rw [e2] at q;exact q
  | ex c h1=>rw [e2] at q;exact q.elim
  | ok ys h2 =>
   rw [e2] at q
   exact fun ι' H' D vs g S' r hD nD _=>q ι' H' _ g S'.show (.fl nD (.inl hD) (r.ext Ext.show))
theorem zhS {σ:St} {H:Hp} {Q:VK} (q:tE T E (ycW (jf.map (·.1)) it cc ce) σ H Q):yej jf (tI T it) (tT T EN cc) (tE T EN ce) σ H Q:=by
 obtain ⟨ι,h,en,S,er,q⟩:=q
 refine zfm S er ?_
 unfold ycW at q
 cases e:it en h with
 | bad=>rw [e] at q;exact q
 | ex c h1=>rw [e] at q;exact q.elim
 | ok p h1 =>
  obtain ⟨xs,w⟩:=p
  rw [e] at q
  dsimp only at q ⊢
  cases e2:ya2 (jf.map (·.1)) en w xs cc ce xs [] h1 with
  | bad=>rw [e2] at q;exact q
  | ex c h1=>rw [e2] at q;exact q.elim
  | ok ys h2 =>
   rw [e2] at q
   intro ι' H' D vs g S' r hD nD hn
   obtain ⟨n,en1,_⟩:=g.pre
   have S2:Sim T (ι'.add D) (h2++[.lst ys]) H' := S'.adopt (Ix.nr nD) hD ⟨vs,rfl,r.ext Ext.adopt⟩
   refine q (ι'.add D) H' _ ⟨⟨n++[D],?_,hn n en1⟩,g.priv,g.keep,g.live⟩ S2 (.ref ?_)
   ·show ι'.refs++[D]=_;rw [en1];simp
   ·show (ι'.refs++[D])[h2.length]? = some D
    have:ι'.refs.length=h2.length:=S'.len
    rw [<- this];simp
theorem zbc:PTs X [] (tT T E sYes):=fun pins s σ H Q I ⟨ι,h,en,S,er,q⟩=>ziH pins s σ H Q I (q.now S rfl)
structure CompOk (X:Cx) (x₁:Str) (jf:List (Nat×Str)) (scope:Scope):Prop where
 hN:(x₁::jf.map (·.2)).Nodup
 hx:scope.names.lookup x₁=some .local
 hjf:∀ p∈jf,X.N[p.1]? = some p.2
 hjl:∀ p∈jf,scope.names.lookup p.2=some .free
 hkind:scope.kind = .function
 hcell:∀ y∈scope.names,y.2 ≠ .cell
 hfr:∀ y∈scope.names,y.2 = .free->X.env.kindOf y.1=some .cell\/X.env.kindOf y.1=some .free
 hnames:∀ y∈scope.names,y.2 = .local->scope.names.lookup y.1=some .local
theorem yey (C:CompOk X x₁ jf scope) (hcalm:X.calm=true) (hi:PIA T X (.Name x₁ px) iter it) (hc:∀ pins cl s H fp,PTs (ybd X pins x₁ jf scope cl s H fp) ifs (tT T EN cc)) (he:∀ pins cl s H fp,PEA T EN (ybd X pins x₁ jf scope cl s H fp) elt ce)
  (hs:∀ x,foldedSetIterable iter X.env x=pure x:=by intro _;rfl):PEA T E X (.ListComp elt [⟨.Name x₁ px,iter,ifs,0⟩] scope pos) (ycC (jf.map (·.1)) it cc ce) :=
 ya0 (zff hcalm hi hc he C.hN C.hx C.hjf C.hjl C.hkind C.hcell C.hfr C.hnames hs) fun _ _ _ q=>zfn q
theorem zfo (C:CompOk X x₁ jf scope) (hcalm:X.calm=true) (hi:PIA T X (.Name x₁ px) iter it) (hc:∀ pins cl s H fp,PTs (ybd X pins x₁ jf scope cl s H fp) ifs (tT T EN cc)) (he:∀ pins cl s H fp,PEA T EN (ybd X pins x₁ jf scope cl s H fp) elt ce)
  (hs:∀ x,foldedSetIterable iter X.env x=pure x:=by intro _;rfl):PEA T E X (.ListComp elt [⟨.Name x₁ px,iter,ifs,0⟩] scope pos) (ycW (jf.map (·.1)) it cc ce) :=
 ya0 (zff hcalm hi hc he C.hN C.hx C.hjf C.hjl C.hkind C.hcell C.hfr C.hnames hs) fun _ _ _ q=>zhS q
theorem ziR {y:Str} {py spos:Pos} {i:Nat} (C:CompOk X x₁ jf scope) (hcalm:X.calm=true) (hi:PIA T X (.Name x₁ px) iter it) (hc:∀ pins cl s H fp,PTs (ybd X pins x₁ jf scope cl s H fp) ifs (tT T EN cc)) (he:∀ pins cl s H fp,PEA T EN (ybd X pins x₁ jf scope cl s H fp) elt ce)
  (hNX:X.N.Nodup) (hi':X.N[i]? = some y:=by rfl) (hy:X.env.scope.names.lookup y=some .local:=by rfl) (hsw:swapsWith (.ListComp elt [⟨.Name x₁ px,iter,ifs,0⟩] scope pos) (some (.Name y py)) spos.line X.env=pure true:=by rfl) (hs:∀ x,foldedSetIterable iter X.env x=pure x:=by intro _;rfl) :
  PSA T E X (.Assign [.Name y py] (.ListComp elt [⟨.Name x₁ px,iter,ifs,0⟩] scope pos) spos) (sSet i (ycC (jf.map (·.1)) it cc ce)) :=
 ycV (ziI hcalm hi hc he C.hN C.hx C.hjf C.hjl C.hkind C.hcell C.hfr C.hnames hNX hi' hy hsw hs) fun D σ H q=>zfn (yfB q)
end
def spA (T:Tb) (F:Fn):Sp:=fun vs H Q E=>∃ ι h args,Sim T ι h H/\RVs T ι H args vs/\Post T ι H E (RV T) (F args h) Q
def yip (F:Fn) (n:Nat):Prop:=∀ args h,args.length≠n->F args h = .bad
theorem zdh (n m:Nat) (b:SS):yip (mkFn n m b) n:=fun args h hl=>by
 unfold mkFn
 rw [if_neg hl]
theorem okA {P:Program} {w:World} {K:PySem.W.Frag} {mg:Str->Option Value} {base:Heap} {T:Tb} {x qual:Str} {st:Stmt} {f:Addr} {fd:FuncData} {N ps:List Str} {k:Nat} {b:SS} (F:Fun K x qual st f fd) (hK:K=T.K) (S:FnScope N ps (yad st))
  (hbody:∀ (cdv:Value) (A:Around) (outer:List Env) (s:Shared) (H:Hp) (E:XK),Room k (A.deeper (PyProof.Rows.envOfC qual (yad st) s.heap.objs.size f cdv))->CA T (fun _=>E) (cxOf (CXE P w) P w K mg base N qual (yad st) f cdv A outer s H E) ->
   PSsA T (fun _=>E) (cxOf (CXE P w) P w K mg base N qual (yad st) f cdv A outer s H E) (yal st) b):FnOk P w K mg base (CXE P w) (k+1) f fd ps (spA T (mkFn ps.length N.length b)):=by
 refine F.okE S (fun vs H Q E h=>?_) (fun cdv A outer s H vs Q E hr h=>?_)
 ·obtain ⟨ι,h,args,_,r,q⟩:=h
  by_cases hl:args.length=ps.length
  ·rw [<- hl,r.length]
  ·rw [zdh _ _ _ args h hl] at q;exact q.elim
 ·obtain ⟨ι,h,args,Si,r,q⟩:=h
  refine ⟨_,hbody cdv A outer s H E hr ⟨hK,ziJ⟩,ι,h,args.map some++List.replicate (N.length-ps.length) none,Si,?_,?_⟩
  ·by_cases hl:args.length=ps.length
   ·refine ⟨by simp [L2.start,r.length,<- hl],fun i v e=>?_⟩
    unfold L2.start
    by_cases hi:i<args.length
    ·rw [List.getElem?_append_left (by simpa using hi),List.getElem?_map] at e
     rw [List.getElem?_append_left (by simpa [<- r.length] using hi),List.getElem?_map]
     obtain ⟨x,e1,e2⟩:=Option.map_eq_some_iff.mp e
     cases e2
     obtain ⟨u,e3,r3⟩:=r.get e1
     exact ⟨u,by rw [e3];rfl,r3⟩
    ·rw [List.getElem?_append_right (by simpa using hi),List.getElem?_replicate] at e
     split at e
     ·cases e
     ·cases e
   ·rw [zdh _ _ _ args h hl] at q;exact q.elim
  ·unfold mkFn at q
   split at q
   ·split at q
    ·rename_i e1 h1 he
     rw [he]
     exact fun ι' H' σ' g S' er=>q ι' H' _ g S' .non
    ·rename_i v h1 he
     rw [he]
     exact q
    ·rename_i c e1 h1 he
     rw [he]
     exact fun ι' H' σ' C g S' er ec=>q ι' H' C g S' ec
    ·exact q.elim
   ·exact q.elim
structure GF (P:Program) (w:World) (T:Tb) (mg:Str->Option Value) (base:Heap) (k:Nat) (x:Str) (F:Fn):Prop where
 ex:∃ f fd ps,mg x=some (.ref f)/\PySem.W.keepIn T.K (.ref f)=true/\Binds T.K fd ps []/\FnOk P w T.K mg base (CXE P w) k f fd ps (spA T F)
structure GM (P:Program) (w:World) (T:Tb) (mg:Str->Option Value) (base:Heap) (k:Nat) (c:Nat) (m:Str) (F:Fn):Prop where
 ex:∃ C f fd ps,T.cls c=some C/\Cls T.K C/\Meth T.K C m f/\Binds T.K fd ps []/\FnOk P w T.K mg base (CXE P w) k f fd ps (spA T F)
 no:m∉T.fields c
section
variable {T:Tb} {E:St->XK} {X:Cx} {pos p apos:Pos} {e o a:Expr} {es:List Expr} {x m:Str} {F:Fn} {k c:Nat} {as:SL} {so sa:SE}
theorem yak (hK:X.K=T.K) (C:CA T E X) (G:GF X.prog X.w T X.mg X.base k x F) (hr:Room k X.A) (hg:Gl X x) (ha:PAA T E X (e::es) as) (hdb:(x == ("__debug__" : Str))=false:=by decide)
  (he:starEach (e::es) X.env=(false,eval e X.env)::starEach es X.env:=by rfl) (hpl:(backTo pos (starEach es X.env)).any (·.1)=false:=by rfl):PEA T E X (.Call (.Name x p) (e::es) [] pos) (yah F as):=by
 obtain ⟨f,fd,ps,h1,h2,h3,h4⟩:=G.ex
 refine ya0 (zhL (Ex:=E) (dvs:=[]) (hK▸h4) hr hg h1 (hK▸h2) (hK▸h3) .nil C.pass ha hdb he hpl) fun σ H Q ⟨ι,h,en,S,er,q⟩=>⟨ι,h,en,S,er,q.bind fun xs h1 ι1 H1 us g1 S1 r1 q1=>?_⟩
 rw [List.append_nil]
 exact ⟨ι1,h1,xs,S1,r1,q1⟩
theorem zfp {C:Addr} {σ:St} {H:Hp} {Q:VK} (hc:T.cls c=some C) (no:m∉T.fields c) (q:tE T E (yaq c F so as) σ H Q):yfu C m (spA T F) [] E (tE T E so) (tA T E as) σ H Q:=by
 obtain ⟨ι,h,en,S,er,q⟩:=q
 refine ⟨ι,h,en,S,er,q.bind fun x h1 ι1 H1 u g1 S1 r1 q1=>?_⟩
 split at q1
 ·rename_i n
  split at q1
  ·rename_i c' fs hn
   split at q1
   ·rename_i ec
    subst ec
    cases r1 with
    | @ref _ a hr =>
     obtain ⟨o,e1,C',dx,fus,hC,rfl,nd,hw,hl,_⟩:=S1.obj n _ a hn hr
     rw [hc] at hC;cases hC
     refine ⟨a,dx,fus,rfl,e1,?_,ι1,h1,en,S1,er.mono g1,q1.bind fun xs h2 ι2 H2 us g2 S2 r2 q2=>?_⟩
     ·cases e:fus.lookup m with
      | none=>rfl
      | some v =>
       have:=PySem.mem_of_lookup e
       exact absurd (hw _ this) no
     ·rw [List.append_nil]
      exact ⟨ι2,h2,.ref n::xs,S2,.cons (.ref (g2.at hr)) r2,q2⟩
   ·exact q1.elim
  ·exact q1.elim
 ·exact q1.elim
theorem yar {pl:Sem Bool} (hK:X.K=T.K) (CC:CA T E X) (G:GM X.prog X.w T X.mg X.base k c m F) (hr:Room k X.A) (ho:PEA T E X o so) (ha:PAA T E X (e::es) as)
  (hst:starEach (e::es) X.env=(false,eval e X.env)::starEach es X.env:=by rfl) (hpl:(backTo pos (starEach es X.env)).any (·.1)=false:=by rfl)
  (ht:eval (.Call (.Attribute o m apos) (e::es) [] pos) X.env=(do
   let ov <- eval o X.env
   standAt apos.atName
   let (f,first) <- holding [ov] (getMethod ov m pl)
   callWith pos f first (backTo pos (starEach (e::es) X.env)) (backToKw pos (keywordEach [] X.env))):=by rfl):PEA T E X (.Call (.Attribute o m apos) (e::es) [] pos) (yaq c F so as):=by
 obtain ⟨C,f,fd,ps,h1,h2,h3,h4,h5⟩:=G.ex
 exact ya0 (zhM (Ex:=E) (dvs:=[]) (pl:=pl) ho (hK▸h2) (hK▸h3) (hK▸h5) hr (hK▸h4) .nil CC.pass ha hst hpl ht) fun σ H Q q=>zfp h1 G.no q
theorem zcC {pl:Sem Bool} (hK:X.K=T.K) (CC:CA T E X) (G:GM X.prog X.w T X.mg X.base k c m F) (hr:Room k X.A) (ho:PEA T E X o so)
  (ht:eval (.Call (.Attribute o m apos) [] [] pos) X.env=(do
   let ov <- eval o X.env
   standAt apos.atName
   let (f,first) <- holding [ov] (getMethod ov m pl)
   callWith pos f first (backTo pos (starEach [] X.env)) (backToKw pos (keywordEach [] X.env))):=by rfl):PEA T E X (.Call (.Attribute o m apos) [] [] pos) (yaq c F so sNil):=by
 obtain ⟨C,f,fd,ps,h1,h2,h3,h4,h5⟩:=G.ex
 intro pins s σ H Q I q
 have q' := zfp (C:=C) h1 G.no q
 refine PySem.W.methodCall_KW (pl:=pl) (thn (ho pins s σ H _ I q') fun u s1 ⟨x,H1,I1,rx,a,dx,fs,ex,ea,l,q⟩=>?_) ht
 subst ex
 obtain rfl:u=Value.ref a:=rx
 refine zdd I1 ea (hK▸h2) (hK▸h3) l ?_
 obtain ⟨ι,h,en,S,er,q⟩:=q
 refine PySem.W.callWith_K0 (first:=[.ref a]) I1.kIn (hK▸h3.kp) (zdr (dvs:=[]) (us:=[.ref a]) (vs:=[.ref a]) (hK▸h5) hr (hK▸h4) .nil CC.pass I1 (.cons rfl .nil) (q.now S .nil))
structure CF (T:Tb) (c:Nat):Prop where
 ex:∃ C,T.cls c=some C/\Cls T.K C/\∀ f∈T.fields c,NoAttr T.K C f
structure GK (P:Program) (w:World) (T:Tb) (mg:Str->Option Value) (base:Heap) (k:Nat) (c:Nat) (x:Str) (F:Fn):Prop where
 ex:∃ C f fd ps,T.cls c=some C/\mg x=some (.ref C)/\Mk T.K C f/\Binds T.K fd ps []/\FnOk P w T.K mg base (CXE P w) k f fd ps (spA T F)
theorem zg1 {CX:CXT} {C f:Addr} {fd:FuncData} {ps:List Str} {sp:Sp} {dvs:List V} {ds:List Value} {pins:List (Addr×Obj)} {σ:St} {H:Hp} {s:Shared} {Q:VK} {us:List Value} {vs:List V} (M:Mk X.K C f) (F:FnOk X.prog X.w X.K X.mg X.base CX k f fd ps sp) (hr:Room (k+1) X.A) (hb:Binds X.K fd ps ds) (hd:Vals dvs ds)
  (hx:yd5 CX X E) (I:L2.Inv X pins σ H s) (r:Vals vs us)
  (h:∀ x dx,H x=none->H dx=none->dx≠x->sp (.ref x::(vs++dvs)) (upd (upd H dx (.own x)) x (.ins C dx [])) (fun v H2=>v = .non/\Q (.ref x) H2) (E σ)) :
  wpAny (model X.prog X.w) X.A (call (.ref C) us) (EP X pins σ Q) X.xe s:=by
 have hq:=h (s.heap.objs.size+1) s.heap.objs.size (I.hok.fresh (Nat.le_succ _)) (I.hok.fresh (Nat.le_refl _)) (Nat.ne_of_lt (Nat.lt_succ_self _))
 have I2:=Inv.made (C:=C) I
 have r2:Vals (V.ref (s.heap.objs.size+1)::(vs++dvs)) (Value.ref (s.heap.objs.size+1)::(us++ds)):=.cons rfl (r.append hd)
 have hl:(Value.ref (s.heap.objs.size+1)::us++ds).length=ps.length:=by
  have e:=r2.length
  rw [F.len _ _ _ _ hq] at e
  exact e.symm
 refine wpAny_call (zht (f:=f) I.kIn M.makes M.init (beq_iff_eq.mp M.fn) (codeAny_mono (F.run _ X.stack _ _ ⟨Value.ref (s.heap.objs.size+1)::us,[]⟩ (Value.ref (s.heap.objs.size+1)::(us++ds)) _ _ (E σ) (hr.make C us [])
  (I2.env0.make C us []) (hb _ (Value.ref (s.heap.objs.size+1)::us) I2.kIn hl) r2 hq) fun r s' hq' => ?_))
 cases r with
 | error e=>exact hx pins σ _ _ e s' I2 hq'
 | ok fl =>
  cases fl with
  | ret u =>
   obtain ⟨v,H',I3,rv,ev,q3⟩:=I2.after hq'
   subst ev
   exact ⟨rv,⟨V.ref (s.heap.objs.size+1),H',I3,rfl,q3⟩⟩
  | next=>exact False.elim hq'
  | brk=>exact False.elim hq'
  | cont=>exact False.elim hq'
theorem ziS {C:Addr} {xs:List AV} {us:List V} {H:Hp} {Q:VK} {ι:Ix} {h:AH} {E:XK} {n:Nat} (hc:T.cls c=some C) (hn:(T.fields c).length=n) (S:Sim T ι h H) (r:RVs T ι H xs us)
  (q:Post T ι H E (RV T) (match F (.ref h.length::xs) (h++[.ins c (List.replicate n none)]) with | .ok .non h2=>Out.ok (AV.ref h.length) h2 | .ex c h2=>.ex c h2 | _=>.bad) Q) :
  ∀ x dx,H x=none->H dx=none->dx≠x->spA T F (.ref x::us) (upd (upd H dx (.own x)) x (.ins C dx [])) (fun v H2=>v = .non/\Q (.ref x) H2) E:=by
 intro x dx nx ndx ne
 have nx':(upd H dx (.own x)) x=none:=by rw [yaT (Ne.symm ne)];exact nx
 have S1:=S.new (o:=.own x) ndx
 have g1:=S.growNew (o:=.own x) ndx
 have g2:=S1.growAdd (u:=.ins C dx []) nx'
 have S2:Sim T (ι.add x) (h++[.ins c (List.replicate n none)]) (upd (upd H dx (.own x)) x (.ins C dx [])):=S1.add nx' ⟨C,dx,[],hc,rfl,by simp,by simp,by simp [hn],fun i v e=>by
  rw [List.getElem?_replicate] at e
  split at e
  ·cases e
  ·cases e⟩
 refine ⟨ι.add x,_,.ref h.length::xs,S2,.cons (.ref S.addAt) (r.mono (g1.trans g2)),?_⟩
 have q2:=q.shift (g1.trans g2)
 cases e:F (.ref h.length::xs) (h++[.ins c (List.replicate n none)]) with
 | bad=>rw [e] at q2;exact q2
 | ex c' h2=>rw [e] at q2;exact q2
 | ok v h2 =>
  rw [e] at q2
  cases v with
  | non=>exact fun ι' H' u g S' r' => ⟨yee r',q2 ι' H' _ g S' (.ref (g.at S.addAt))⟩
  | _=>exact (show False from q2).elim
theorem ziT {n:Nat} (hK:X.K=T.K) (CC:CA T E X) (G:GK X.prog X.w T X.mg X.base k c x F) (hr:Room (k+1) X.A) (hg:Gl X x) (hn:(T.fields c).length=n:=by rfl) (hdb:(x == ("__debug__" : Str))=false:=by decide):PEA T E X (.Call (.Name x p) [] [] pos) (yeM c n F sNil):=by
 obtain ⟨C,f,fd,ps,h1,h2,h3,h4,h5⟩:=G.ex
 intro pins s σ H Q I ⟨ι,h,en,S,er,q⟩
 refine wpAny_Call_Name_kw (zcy I hg h2 ?_ hdb)
 have M:Mk X.K C f:=hK▸h3
 exact PySem.W.callWith_K0 I.kIn M.kp (zg1 (us:=[]) (vs:=[]) (dvs:=[]) M (hK▸h5) hr (hK▸h4) .nil CC.pass I .nil (ziS h1 hn S .nil q))
theorem yaM {i:Nat} {f:Str} (hK:X.K=T.K) (CFc:CF T c) (ho:PEA T E X o so) (hf:(T.fields c)[i]? = some f:=by rfl) (hb:attributeBase o f X.env (eval o X.env)=eval o X.env:=by rfl):PEA T E X (.Attribute o f pos) (Sm.sFld c i so):=by
 obtain ⟨C,hC,hcl,hna⟩:=CFc.ex
 refine ya0 (ygS ho hb) fun σ H Q ⟨ι,h,en,S,er,q⟩=>⟨ι,h,en,S,er,q.bind fun x h1 ι1 H1 u g1 S1 r1 q1=>?_⟩
 split at q1
 ·rename_i n
  split at q1
  ·rename_i c' fs hn
   split at q1
   ·rename_i ec
    subst ec
    split at q1
    ·rename_i v hv
     cases r1 with
     | @ref _ a hr =>
      obtain ⟨o,e1,C',dx,fus,hC',rfl,nd,hw,hl,hr2⟩:=S1.obj n _ a hn hr
      rw [hC] at hC';cases hC'
      obtain ⟨f',u,e2,e3,r3⟩:=hr2 i v hv
      rw [hf] at e2;cases e2
      exact ⟨a,_,dx,fus,u,rfl,e1,hK▸hcl,hK▸hna f (List.mem_of_getElem? hf),e3,q1.now S1 r3⟩
    ·exact q1.elim
   ·exact q1.elim
  ·exact q1.elim
 ·exact q1.elim
theorem zdQ (f:Str) (v:V):∀ {fs:List (Str×V)},(fs.map (·.1)).Nodup->((putF f v fs).map (·.1)).Nodup/\∀ g,g∈(putF f v fs).map (·.1)->g=f\/g∈fs.map (·.1)
 | [],_=>by simp [putF]
 | (g,x)::r,n=>by
  obtain ⟨n1,n2⟩:=List.nodup_cons.mp (show (g::r.map (·.1)).Nodup from n)
  unfold putF
  split
  ·rename_i e
   subst e
   exact ⟨n,fun k hk=>.inr hk⟩
  ·rename_i e
   obtain ⟨h1,h2⟩:=zdQ f v (fs:=r) n2
   refine ⟨List.nodup_cons.mpr ⟨fun z=>?_,h1⟩,fun k hk=>?_⟩
   ·rcases h2 g z with z | z
    ·exact e z
    ·exact n1 z
   ·rcases List.mem_cons.mp hk with z | z
    ·exact .inr (by rw [z];simp)
    ·rcases h2 k z with z | z
     ·exact .inl z
     ·exact .inr (List.mem_cons_of_mem _ z)
theorem zeo:∀ {l m:List Str},l.Nodup->(∀ x∈l,x∈m)->l.length<=m.length
 | [],m,_,_=>Nat.zero_le _
 | x::l,m,n,h=>by
  obtain ⟨n1,n2⟩:=List.nodup_cons.mp n
  have hx:=h x (by simp)
  have:=zeo (l:=l) (m:=m.erase x) n2 fun y hy=>by
   have ne:y≠x:=fun z=>n1 (z▸hy)
   exact (List.mem_erase_of_ne ne).mpr (h y (by simp [hy]))
  rw [List.length_erase_of_mem hx] at this
  have:0<m.length:=List.length_pos_of_mem hx
  simp only [List.length_cons]
  omega
theorem zaT {i:Nat} {f:Str} {p':Pos} (hK:X.K=T.K) (CFc:CF T c) (ho:PEA T E X o so) (ha:PEA T E X a sa) (hf:(T.fields c)[i]? = some f:=by rfl) (hs:swapsWith a (some (.Attribute o f p')) pos.line X.env=pure false:=by rfl) :
  PSA T E X (.Assign [.Attribute o f p'] a pos) (ycZ c i so sa):=by
 obtain ⟨C,hC,hcl,hna⟩:=CFc.ex
 refine ycV (ygT ho ha hs) fun D σ H ⟨ι,h,en,S,er,q⟩=>⟨ι,h,en,S,er,q.go er fun y h1 ι1 H1 v g1 S1 r1 q1=>⟨ι1,h1,en,S1,er.mono g1,q1.go (er.mono g1) fun x h2 ι2 H2 u g2 S2 r2 q2=>?_⟩⟩
 split at q2
 ·rename_i n
  split at q2
  ·rename_i c' fs hn
   split at q2
   ·rename_i ec
    subst ec
    cases r2 with
    | @ref _ a hr =>
     obtain ⟨o,e1,C',dx,fus,hC',rfl,nd,hw,hl,hr2⟩:=S2.obj n _ a hn hr
     rw [hC] at hC';cases hC'
     have hmem:f∈T.fields c' := List.mem_of_getElem? hf
     have hlen:fus.length<1000:=by
      have:=zeo nd (m:=T.fields c') (fun x hx=>by
       obtain ⟨p,hp,rfl⟩:=List.mem_map.mp hx
       exact hw p hp)
      have:=T.few c'
      rw [List.length_map] at *
      omega
     obtain ⟨k1,k2⟩:=zdQ f v nd
     have g3:=S2.growSet (u:=.ins C dx (putF f v fus)) hr
     refine ⟨a,C,dx,fus,rfl,e1,hK▸hcl,hK▸hna f hmem,hlen,q2 ι2 _ σ g3 (S2.set hr ⟨C,dx,putF f v fus,hC,rfl,k1,fun p hp=>?_,by simp [hl],fun j w hj=>?_⟩) (er.mono (g1.trans (g2.trans g3)))⟩
     ·rcases k2 p.1 (List.mem_map.mpr ⟨p,hp,rfl⟩) with z | z
      ·rw [z];exact hmem
      ·obtain ⟨p',hp',e⟩:=List.mem_map.mp z
       rw [<- e];exact hw p' hp'
     ·by_cases hji:j=i
      ·subst hji
       have hjl:j<fs.length:=by
        have:=(List.getElem?_eq_some_iff.mp hj).1
        simpa using this
       rw [List.getElem?_set_self hjl] at hj
       cases hj
       exact ⟨f,v,hf,by rw [zbg,if_pos rfl],r1.mono (g2.trans g3)⟩
      ·rw [List.getElem?_set_ne (Ne.symm hji)] at hj
       obtain ⟨f',u,e2,e3,r3⟩:=hr2 j w hj
       have ne:f'≠f:=fun z=>hji (zcW (T.nd c') e2 (z▸hf))
       exact ⟨f',u,e2,by rw [zbg,if_neg ne];exact e3,r3.mono g3⟩
   ·exact (show False from q2).elim
  ·exact (show False from q2).elim
 ·exact (show False from q2).elim
end
end Sm
namespace Sm
open PySem PySem.Spec L2
theorem yfi {T:Tb} {ι:Ix} {H:Hp} {k:Key} {u:V} (r:RV T ι H (kA k) u):u=kV k:=by
 cases k with
 | inl i=>exact yaF r
 | inr x=>exact (ybv r).1
theorem ye0 {k j:Key} (e:kA k=kA j):k=j:=by
 cases k<;>cases j<;>simp [kA] at e<;>simp [e]
theorem zdu:∀ {ks js:List Key},ks.map kA=js.map kA->ks=js
 | [],[],_=>rfl
 | [],_::_,e=>by simp at e
 | _::_,[],e=>by simp at e
 | k::ks,j::js,e=>by
  simp only [List.map_cons,List.cons.injEq] at e
  rw [ye0 e.1,zdu e.2]
theorem yfD {T:Tb} {ι:Ix} {H:Hp}:∀ {ks:List Key} {us:List V},RVs T ι H (ks.map kA) us->us=ks.map kV
 | [],_,.nil=>rfl
 | k::ks,_,.cons r rs=>by rw [yfi r,yfD rs];rfl
theorem zbS {v:AV} {k:Key} (e:keyOf? v=some k):v=kA k:=by
 unfold keyOf? at e
 split at e<;>cases e<;>rfl
theorem zbh:∀ {vs:List AV} {ks:List Key},keysOf? vs=some ks->vs=ks.map kA
 | [],_,e=>by cases e;rfl
 | v::vs,ks,e=>by
  unfold keysOf? at e
  split at e
  ·rename_i k ks' e1 e2
   cases e
   rw [zbS e1,zbh e2];rfl
  ·cases e
theorem yez {κ:Type} [DecidableEq κ] {T:Tb} {ι:Ix} {H:Hp} {f:κ->AV} (hf:∀ {a b},f a=f b->a=b) {k:κ}:∀ {kvs:List (AV×AV)} {kus:List (κ×V)},Paired (fun (p:AV×AV) (q:κ×V)=>p.1=f q.1/\RV T ι H p.2 q.2) kvs kus ->
  (valA kvs (f k)=none/\valV kus k=none)\/∃ v u,valA kvs (f k)=some v/\valV kus k=some u/\RV T ι H v u
 | _,_,.nil=>.inl ⟨rfl,rfl⟩
 | (a,v)::kvs,(j,u)::kus,.cons ⟨e,r⟩ rs=>by
  by_cases h:j=k
  ·subst h
   replace e:a=f j:=e
   subst e
   exact .inr ⟨v,u,by simp [valA],zbQ rfl,r⟩
  ·have h' : ¬ a=f k:=fun z=>h (hf (e.symm.trans z))
   rcases yez hf rs (k:=k) with ⟨h1,h2⟩ | ⟨v',u',h1,h2,h3⟩
   ·refine .inl ⟨?_,by rw [zbp h];exact h2⟩
    unfold valA at h1 ⊢
    rw [List.find?_cons,decide_eq_false h']
    exact h1
   ·refine .inr ⟨v',u',?_,by rw [zbp h];exact h2,h3⟩
    unfold valA at h1 ⊢
    rw [List.find?_cons,decide_eq_false h']
    exact h1
theorem zfq {kvs:List (AV×AV)} {k:AV}:(kvs.any fun p=>decide (p.1=k))=(valA kvs k).isSome:=by
 induction kvs with
 | nil=>rfl
 | cons p r ih =>
  unfold valA at ih ⊢
  rw [List.any_cons,List.find?_cons,ih]
  cases h:decide (p.1=k)<;>simp
theorem yfE {κ:Type} [DecidableEq κ] {T:Tb} {ι:Ix} {H:Hp} {f:κ->AV} (hf:∀ {a b},f a=f b->a=b) {k:κ} {v:AV} {u:V} (rv:RV T ι H v u) {kvs:List (AV×AV)} {kus:List (κ×V)} (r:Paired (fun (p:AV×AV) (q:κ×V)=>p.1=f q.1/\RV T ι H p.2 q.2) kvs kus) :
  Paired (fun (p:AV×AV) (q:κ×V)=>p.1=f q.1/\RV T ι H p.2 q.2) (putA kvs (f k) v) (putK kus k u):=by
 have e:(kvs.any fun p=>decide (p.1=f k))=kus.any fun kv=>decide (kv.1=k):=by
  rw [zfq,zcZ]
  rcases yez hf r (k:=k) with ⟨h1,h2⟩ | ⟨v',u',h1,h2,h3⟩
  ·rw [h1,h2];rfl
  ·rw [h1,h2];rfl
 unfold putA putK
 rw [e]
 by_cases h:(kus.any fun kv=>decide (kv.1=k))=true
 ·rw [if_pos h,if_pos h]
  clear e h
  induction r with
  | nil=>exact .nil
  | cons p rs ih =>
   rename_i a b l1 l2
   refine .cons ?_ ih
   obtain ⟨e1,r1⟩:=p
   dsimp only
   by_cases hk:b.1=k
   ·rw [if_pos hk,if_pos (by rw [e1,hk])]
    exact ⟨e1,rv⟩
   ·rw [if_neg hk,if_neg (fun z=>hk (hf (e1.symm.trans z)))]
    exact ⟨e1,r1⟩
 ·rw [if_neg h,if_neg h]
  have app:∀ {l1:List (AV×AV)} {l2:List (κ×V)},Paired (fun (p:AV×AV) (q:κ×V)=>p.1=f q.1/\RV T ι H p.2 q.2) l1 l2->Paired (fun (p:AV×AV) (q:κ×V)=>p.1=f q.1/\RV T ι H p.2 q.2) (l1++[(f k,v)]) (l2++[(k,u)]):=fun z=>by
   induction z with
   | nil=>exact .cons ⟨rfl,rv⟩ .nil
   | cons p _ ih=>exact .cons p ih
  exact app r
section
variable {T:Tb} {ι:Ix} {h:AH} {H:Hp}
theorem keyT {xs:List AV} {u:V} {ks:List Key} (r:RV T ι H (.tup xs) u) (e:keysOf? xs=some ks):∃ b,u = .ref b/\KTup H b ks:=by
 have:=zbh e
 subst this
 cases r with
 | tup n q r=>exact ⟨_,rfl,.of (by rw [<- yfD r];exact q)⟩
theorem zfr {n:Nat} {t:Bool} {kvs:List (AV×AV)} {y:AV} {a:Addr} {w:V} (S:Sim T ι h H) (hn:h[n]? = some (.dct t kvs)) (hr:ι.refs[n]? = some a) (ry:RV T ι H y w) (hk:ydR t y=true) :
  ∃ o,DGet H a w o/\((valA kvs y=none/\o=none)\/∃ v u,valA kvs y=some v/\o=some u/\RV T ι H v u):=by
 obtain ⟨ob,e1,r⟩:=S.obj n _ a hn hr
 cases t with
 | false =>
  obtain ⟨kus,rfl,r⟩:=r
  have hk':(keyOf? y).isSome=true:=hk
  obtain ⟨k,ek⟩:=Option.isSome_iff_exists.mp hk'
  have:=zbS ek
  subst this
  rw [yfi ry]
  refine ⟨valV kus k,.k e1,?_⟩
  rcases yez ye0 r (k:=k) with ⟨h1,h2⟩ | ⟨v',u',h1,h2,h3⟩
  ·exact .inl ⟨h1,h2⟩
  ·exact .inr ⟨v',u',h1,h2,h3⟩
 | true =>
  obtain ⟨kus,rfl,r⟩:=r
  unfold ydR at hk
  split at hk
  ·rename_i hh;cases hh
  ·rename_i xs hh
   obtain ⟨ks,ek⟩:=Option.isSome_iff_exists.mp hk
   obtain ⟨b,rfl,hb⟩:=keyT ry ek
   have:=zbh ek
   subst this
   refine ⟨valV kus ks,.t e1 hb,?_⟩
   rcases yez (f:=fun ks:List Key=>AV.tup (ks.map kA)) (fun e=>zdu (by injection e)) r (k:=ks) with ⟨h1,h2⟩ | ⟨v',u',h1,h2,h3⟩
   ·exact .inl ⟨h1,h2⟩
   ·exact .inr ⟨v',u',h1,h2,h3⟩
  ·cases hk
theorem ziU {n:Nat} {t:Bool} {kvs:List (AV×AV)} {y z:AV} {a:Addr} {w u:V} (S:Sim T ι h H) (hn:h[n]? = some (.dct t kvs)) (hr:ι.refs[n]? = some a) (ry:RV T ι H y w) (rz:RV T ι H z u) (hk:ydR t y=true) (hl:kvs.length<sizeLine) :
  ∃ H',DPut H a w u H'/\Grow ι H ι H'/\Sim T ι (h.set n (.dct t (putA kvs y z))) H' := by
 obtain ⟨ob,e1,r⟩:=S.obj n _ a hn hr
 cases t with
 | false =>
  obtain ⟨kus,rfl,r⟩:=r
  have hk':(keyOf? y).isSome=true:=hk
  obtain ⟨k,ek⟩:=Option.isSome_iff_exists.mp hk'
  have:=zbS ek
  subst this
  rw [yfi ry]
  have g:=S.growSet (u:=.dK (putK kus k u)) hr
  exact ⟨_,.k e1 (by rw [<- Paired.length r];exact hl),g,S.set hr ⟨_,rfl,yfE ye0 (rz.mono g) (Paired.mapP r fun _ _ ⟨p,q⟩=>⟨p,q.mono g⟩)⟩⟩
 | true =>
  obtain ⟨kus,rfl,r⟩:=r
  unfold ydR at hk
  split at hk
  ·rename_i hh;cases hh
  ·rename_i xs hh
   obtain ⟨ks,ek⟩:=Option.isSome_iff_exists.mp hk
   obtain ⟨b,rfl,hb⟩:=keyT ry ek
   have:=zbh ek
   subst this
   have g:=S.growSet (u:=.dT (putK kus ks u)) hr
   exact ⟨_,.t e1 hb (by rw [<- Paired.length r];exact hl),g,S.set hr ⟨_,rfl,yfE (f:=fun ks:List Key=>AV.tup (ks.map kA)) (fun e=>zdu (by injection e)) (rz.mono g) (Paired.mapP r fun _ _ ⟨p,q⟩=>⟨p,q.mono g⟩)⟩⟩
  ·cases hk
theorem RVs.atI {xs:List AV} {us:List V} {i:Int} {v:AV} (r:RVs T ι H xs us) (e:atI xs i=some v):∃ u,L2.atI us i=some u/\RV T ι H v u:=by
 unfold L2.atI at e ⊢
 rw [<- r.length]
 obtain ⟨j,e1,e2⟩:=Option.bind_eq_some_iff.mp e
 obtain ⟨u,e3,r3⟩:=r.get e2
 exact ⟨u,by rw [e1];exact e3,r3⟩
end
section
variable {T:Tb} {E:St->XK} {X:Cx} {pos:Pos} {a b c:Expr} {sa sb sc:SE}
theorem yiq {e:Expr} {t t':TE} (h:PE X e t) (h':PE X e t'):PE X e (fun σ H Q=>t σ H Q\/t' σ H Q):=fun pins s σ H Q I q=>q.elim (h pins s σ H Q I) (h' pins s σ H Q I)
theorem yir {e:Stmt} {t t':TS} (h:PS X e t) (h':PS X e t'):PS X e (fun D σ H=>t D σ H\/t' D σ H):=fun pins s σ H Q I q=>q.elim (h pins s σ H Q I) (h' pins s σ H Q I)
theorem r_ix (hK:X.K=T.K) (hu:X.A.units+64<cLine) (ha:PEA T E X a sa) (hb:PEA T E X b sb) (hs:yfd b:=by exact fun _ _=>rfl):PEA T E X (.Subscript a b pos) (sOp2 fIx sa sb):=by
 refine ya0 (yiq (yia ygX ha hb hs) (ziF (Nat.lt_of_le_of_lt (Nat.add_le_add_left (by decide:1<=64) _) hu) ha hb hs)) fun σ H Q q=>?_
 obtain ⟨ι,h,en,S,er,q⟩:=q
 have left:(∀ x h1 y h2,sa en h = .ok x h1->sb en h1 = .ok y h2->∀ n t kvs,x = .ref n->h2[n]? = some (.dct t kvs)->False)->tOp (rIx X.K) (tE T E sa) (tE T E sb) σ H Q:=fun no=>by
  refine ⟨ι,h,en,S,er,?_⟩
  unfold sOp2 at q
  cases e1:sa en h with
  | bad=>rw [e1] at q;exact q
  | ex c h1=>rw [e1] at q;exact q
  | ok x h1 =>
   rw [e1] at q
   intro ι1 H1 u g1 S1 r1
   refine ⟨ι1,h1,en,S1,er.mono g1,?_⟩
   dsimp only [Out.bind] at q
   cases e2:sb en h1 with
   | bad=>rw [e2] at q;exact q
   | ex c h2=>rw [e2] at q;exact Post.shift (R:=RV T) (o:=.ex c h2) q g1
   | ok y h2 =>
    rw [e2] at q
    intro ι2 H2 w g2 S2 r2
    have q2:=Post.shift q (g1.trans g2)
    have r1' := r1.mono g2
    dsimp only at q2
    unfold fIx at q2
    split at q2
    ·rename_i z i
     split at q2
     ·rename_i cc hc
      obtain ⟨rfl,zl,zo⟩:=ybv r1'
      rw [yaF r2]
      refine .inr (.inr ⟨z,i,cc,rfl,rfl,zl,hc,q2.now S2 (.str (show 1<=sizeLine by decide) ?_)⟩)
      obtain ⟨j,_,e3,_⟩:=zcA hc
      have m:cc∈z.cps:=by
       have:=List.mem_of_getElem? e3
       simpa using this
      have:=Array.all_eq_true_iff_forall_mem.mp zo _ m
      simpa using this
     ·exact q2.elim
    ·rename_i xs i
     split at q2
     ·rename_i v hv
      obtain ⟨b,us,rfl,sq,rs⟩:=ydO r1'
      obtain ⟨u2,e3,r3⟩:=rs.atI hv
      rw [yaF r2]
      exact .inr (.inl ⟨b,us,i,u2,rfl,rfl,hK▸sq,e3,q2.now S2 r3⟩)
     ·exact q2.elim
    ·rename_i xs i
     split at q2
     ·rename_i v hv
      obtain ⟨b,us,rfl,sq,rs⟩:=ybK S2 r1' rfl
      obtain ⟨u2,e3,r3⟩:=rs.atI hv
      rw [yaF r2]
      exact .inl ⟨b,us,i,u2,rfl,rfl,hK▸sq,e3,q2.now S2 r3⟩
     ·exact q2.elim
    ·rename_i n
     split at q2
     ·rename_i xs hn
      split at q2
      ·rename_i i
       split at q2
       ·rename_i v hv
        obtain ⟨b,us,rfl,sq,rs⟩:=ybK (xs:=xs) S2 r1' (by simp [ydi,hn])
        obtain ⟨u2,e3,r3⟩:=rs.atI hv
        rw [yaF r2]
        exact .inl ⟨b,us,i,u2,rfl,rfl,hK▸sq,e3,q2.now S2 r3⟩
       ·exact q2.elim
      ·exact q2.elim
     ·rename_i t kvs hn
      exact (no _ h1 _ h2 e1 e2 n t kvs rfl hn).elim
     ·exact q2.elim
    ·exact q2.elim
 by_cases dd:∃ x h1 y h2,sa en h = .ok x h1/\sb en h1 = .ok y h2/\∃ n t kvs,x = .ref n/\h2[n]? = some (.dct t kvs)
 ·obtain ⟨x,h1,y,h2,e1,e2,n,t,kvs,rfl,hn⟩:=dd
  refine .inr ⟨ι,h,en,S,er,?_⟩
  unfold sOp2 at q
  rw [e1] at q ⊢
  intro ι1 H1 u g1 S1 r1
  refine ⟨ι1,h1,en,S1,er.mono g1,?_⟩
  dsimp only [Out.bind] at q
  rw [e2] at q ⊢
  intro ι2 H2 w g2 S2 r2
  have q2:=Post.shift q (g1.trans g2)
  have r1' := r1.mono g2
  dsimp only at q2
  unfold fIx at q2
  simp only [hn] at q2
  split at q2
  ·rename_i hk
   cases r1' with
   | @ref _ ad hr =>
    obtain ⟨o,dg,alt⟩:=zfr S2 hn hr r2 hk
    rcases alt with ⟨v1,rfl⟩ | ⟨v,u,v1,rfl,r3⟩
    ·rw [v1] at q2;exact q2.elim
    ·rw [v1] at q2
     exact ⟨ad,u,rfl,dg,q2.now S2 r3⟩
  ·exact q2.elim
 ·exact .inl (left fun x h1 y h2 e1 e2 n t kvs e3 e4=>dd ⟨x,h1,y,h2,e1,e2,n,t,kvs,e3,e4⟩)
theorem zcD {p':Pos} (hu:X.A.units+64<cLine) (ho:PEA T E X a sa) (hi:PEA T E X b sb) (hv:PEA T E X c sc) (hs:swapsWith c (some (.Subscript a b p')) pos.line X.env=pure false:=by rfl) (hs':swapsWithSole [.Subscript a b p'] c pos.line X.env=pure false:=by rfl) (hw:swappedStores [.Subscript a b p'] c X.env=pure none:=by rfl)
  (h1:(assignEach [.Subscript a b p'] X.env).map (·.2)=[assign (.Subscript a b p') X.env]:=by rfl)
  (has:∀ v,assign (.Subscript a b p') X.env v=(do
   let ov <- holding [v] (eval a X.env)
   let iv <- holding [v,ov] (eval b X.env)
   standAt p'
   holding [v,ov,iv] (setItem ov iv v)
   release [v,ov,iv] []):=by intro _;rfl):PSA T E X (.Assign [.Subscript a b p'] c pos) (ycG sa sb sc):=by
 refine ycV (yir (ygI hv (ygH ho hi zhx has) hs' hw h1) (ziG (Nat.lt_of_le_of_lt (Nat.add_le_add_left (by decide:1<=64) _) hu) ho hi hv hs)) fun D σ H q=>?_
 obtain ⟨ι,h,en,S,er,q⟩:=q
 unfold ycG at q
 by_cases dd:∃ z h1 x h2 y h3,sc en h = .ok z h1/\sa en h1 = .ok x h2/\sb en h2 = .ok y h3/\∃ n t kvs,x = .ref n/\h3[n]? = some (.dct t kvs)
 ·obtain ⟨z,h1,x,h2,y,h3,e1,e2,e3,n,t,kvs,rfl,hn⟩:=dd
  refine .inr ⟨ι,h,en,S,er,?_⟩
  rw [e1] at q ⊢
  intro ι1 H1 u g1 S1 r1
  refine ⟨ι1,h1,en,S1,er.mono g1,?_⟩
  dsimp only [Out.go] at q
  rw [e2] at q ⊢
  intro ι2 H2 w g2 S2 r2
  refine ⟨ι2,h2,en,S2,er.mono (g1.trans g2),?_⟩
  dsimp only at q
  rw [e3] at q ⊢
  intro ι3 H3 j g3 S3 r3
  have q2:=PostS.shift q (g1.trans (g2.trans g3))
  simp only [hn] at q2
  split at q2
  ·rename_i hk
   cases (r2.mono g3) with
   | @ref _ ad hr =>
    obtain ⟨H4,dp,g4,S4⟩:=ziU S3 hn hr r3 (r1.mono (g2.trans g3)) hk.1 hk.2
    exact ⟨ad,H4,rfl,dp,q2 ι3 H4 σ g4 S4 (er.mono (g1.trans (g2.trans (g3.trans g4))))⟩
  ·exact q2.elim
 ·refine .inl ⟨ι,h,en,S,er,?_⟩
  cases e1:sc en h with
  | bad=>rw [e1] at q;exact q
  | ex cc h1=>rw [e1] at q;exact fun i2 H2 C g S e=>q i2 H2 σ C g S (er.mono g) e
  | ok z h1 =>
   rw [e1] at q
   intro ι1 H1 u g1 S1 r1
   refine ⟨ι1,h1,en,S1,er.mono g1,?_⟩
   dsimp only [Out.go] at q
   cases e2:sa en h1 with
   | bad=>rw [e2] at q;exact q
   | ex cc h2=>rw [e2] at q;exact fun i2 H2 C g S e=>q i2 H2 σ C (g1.trans g) S (er.mono (g1.trans g)) e
   | ok x h2 =>
    rw [e2] at q
    intro ι2 H2 w g2 S2 r2
    refine ⟨ι2,h2,en,S2,er.mono (g1.trans g2),?_⟩
    dsimp only at q
    cases e3:sb en h2 with
    | bad=>rw [e3] at q;exact q
    | ex cc h3=>rw [e3] at q;exact fun i2 H2 C g S e=>q i2 H2 σ C (g1.trans (g2.trans g)) S (er.mono (g1.trans (g2.trans g))) e
    | ok y h3 =>
     rw [e3] at q
     intro ι3 H3 j g3 S3 r3
     have q2:=PostS.shift q (g1.trans (g2.trans g3))
     dsimp only at q2
     split at q2
     ·rename_i n
      split at q2
      ·rename_i xs hn
       split at q2
       ·rename_i k
        split at q2
        ·rename_i jj hj
         cases (r2.mono g3) with
         | @ref _ ad hr =>
          obtain ⟨o,e4,us,rfl,rs⟩:=S3.obj n _ ad hn hr
          have g4:=S3.growSet (u:=.lst (us.set jj u)) hr
          rw [yaF r3]
          exact ⟨ad,us,k,jj,rfl,rfl,e4,by rw [<- rs.length];exact hj,q2 ι3 _ σ g4 (S3.set hr ⟨_,rfl,RVs.set (r1.mono (g2.trans (g3.trans g4))) jj (rs.mono g4)⟩) (er.mono (g1.trans (g2.trans (g3.trans g4))))⟩
        ·exact q2.elim
       ·exact q2.elim
      ·rename_i t kvs hn
       exact (dd ⟨_,h1,_,h2,_,h3,e1,e2,e3,n,t,kvs,rfl,hn⟩).elim
      ·exact q2.elim
     ·exact q2.elim
theorem ziV {g:Value->Value->Sem Value} {r:R2} {neg:Bool} (hK:X.K=T.K)
  (h1:∀ (i j:Str) H Q,Q (V.bl (if neg then !(!(Builtin.Str.occurrences j i 0 j.length 1).isEmpty) else !(Builtin.Str.occurrences j i 0 j.length 1).isEmpty)) H->r (.str i) (.str j) H Q)
  (h2:∀ x y H Q p xs d ds,y=V.ref p->SqL T.K H p xs->DaV T.K H x d->DaVs T.K H xs ds->d.canLay0=true->(∀ e∈ds,e.canLay0=true/\e.depth<=30)->Q (V.bl (if neg then !(ds.any fun e=>PyData.eqv e d) else ds.any fun e=>PyData.eqv e d)) H->r x y H Q)
  (h2t:∀ x y H Q p xs d ds,y=V.ref p->SqT T.K H p xs->DaV T.K H x d->DaVs T.K H xs ds->d.canLay0=true->(∀ e∈ds,e.canLay0=true/\e.depth<=30)->Q (V.bl (if neg then !(ds.any fun e=>PyData.eqv e d) else ds.any fun e=>PyData.eqv e d)) H->r x y H Q)
  (h3:∀ (y:V) (a:Addr) o H Q,DGet H a y o->Q (V.bl (if neg then !o.isSome else o.isSome)) H->r y (.ref a) H Q) :
  OpS T (fun x y h=>match inA x y h with | some b=>.ok (.bl (if neg then !b else b)) h | none=>.bad) r:=by
 intro ι h H x y u w E Q S rx ry p
 dsimp only at p
 cases hb:inA x y h with
 | none=>rw [hb] at p;exact p.elim
 | some b =>
  rw [hb] at p
  dsimp only at p
  unfold inA at hb
  split at hb
  ·cases hb
   obtain ⟨rfl,_⟩:=ybv rx
   obtain ⟨rfl,_⟩:=ybv ry
   exact h1 _ _ _ _ (p.now S (.bl _))
  ·rename_i n
   split at hb
   ·rename_i t kvs hn
    split at hb
    ·rename_i hk
     cases hb
     cases ry with
     | @ref _ ad hr =>
      obtain ⟨o,dg,alt⟩:=zfr S hn hr rx hk
      refine h3 u ad o H Q dg ?_
      rcases alt with ⟨v1,rfl⟩ | ⟨v,u',v1,rfl,r3⟩
      ·rw [v1] at p;exact p.now S (.bl _)
      ·rw [v1] at p;exact p.now S (.bl _)
    ·cases hb
   ·rename_i xs hn
    split at hb
    ·rename_i d ds e1 e2
     cases hb
     obtain ⟨a,us,rfl,sq,rs⟩:=ybK (xs:=xs) S ry (by simp [ydi,hn])
     obtain ⟨q1,q2,q3⟩:=ydt S 8 rx e1
     obtain ⟨q4,q5⟩:=zbG (n:=8) (fun r e=>ydt S 8 r e) rs e2
     exact h2 _ _ _ _ a us d ds rfl sq q1 q4 q2 (fun e he=>⟨(q5 e he).1,by have:=(q5 e he).2;omega⟩) (p.now S (.bl _))
    ·cases hb
   ·cases hb
  ·rename_i xs
   split at hb
   ·rename_i d ds e1 e2
    cases hb
    obtain ⟨a,us,rfl,sq,rs⟩:=ybK S ry rfl
    obtain ⟨q1,q2,q3⟩:=ydt S 8 rx e1
    obtain ⟨q4,q5⟩:=zbG (n:=8) (fun r e=>ydt S 8 r e) rs e2
    exact h2 _ _ _ _ a us d ds rfl sq q1 q4 q2 (fun e he=>⟨(q5 e he).1,by have:=(q5 e he).2;omega⟩) (p.now S (.bl _))
   ·cases hb
  ·rename_i xs
   split at hb
   ·rename_i d ds e1 e2
    cases hb
    obtain ⟨a,us,rfl,sq,rs⟩:=ydO ry
    obtain ⟨q1,q2,q3⟩:=ydt S 8 rx e1
    obtain ⟨q4,q5⟩:=zbG (n:=8) (fun r e=>ydt S 8 r e) rs e2
    exact h2t _ _ _ _ a us d ds rfl sq q1 q4 q2 (fun e he=>⟨(q5 e he).1,by have:=(q5 e he).2;omega⟩) (p.now S (.bl _))
   ·cases hb
  ·cases hb
end
end Sm
namespace L2
open PySem PySem.Spec PyProof.Rows
section
variable {X:Cx} {pins:List (Addr×Obj)} {σ:St} {H:Hp} {s:Shared}
theorem zdR (I:Inv X pins σ H s) (hu:X.A.units+64<cLine) {xs:List V} {ds:List PyData} {its:List Value} {d:PyData} {v:Value} {as:List Addr} (ra:Reads s.heap v d as) (hds:DaVs X.K H xs ds) (r:Vals xs its) (cd:d.canLay0=true) (cds:∀ e∈ds,e.canLay0=true/\e.depth<=30) :
  (∀ y,y∈its.toArray->SeqAt.EqAt X.A.in1 s y v (isD s.heap d y))/\its.toArray.any (isD s.heap d)=ds.any fun e=>PyData.eqv e d:=by
 obtain ⟨hl,hat⟩:=zfg I hds r
 constructor
 ·intro y hy
  have hy':y∈its:=by simpa using hy
  obtain ⟨j,hj⟩:=List.getElem?_of_mem hy'
  have hlt:=(List.getElem?_eq_some_iff.mp hj).1
  have hdj:ds[j]? = some (ds[j]'(by omega)):=List.getElem?_eq_getElem (by omega)
  obtain ⟨bs,rb⟩:=hat j _ _ hj hdj
  have cj:=cds _ (List.mem_of_getElem? hdj)
  rw [yfx cj.1 rb]
  exact SeqAt.eqAt_reads _ _ _ _ _ _ _ _ rb ra cj.1 cd (by
   have:=Nat.min_le_left (ds[j]'(by omega)).depth d.depth
   show X.A.units+1+_<cLine
   omega)
 ·rw [<- Array.any_toList]
  refine zfh hl fun j u e h1 h2=>?_
  obtain ⟨bs,rb⟩:=hat j _ _ h1 h2
  exact yfx (cds _ (List.mem_of_getElem? h2)).1 rb
def ygr (K:PySem.W.Frag):R2:=fun x y H Q=>∃ p xs d ds,y = .ref p/\SqL K H p xs/\DaV K H x d/\DaVs K H xs ds/\d.canLay0=true/\(∀ e∈ds,e.canLay0=true/\e.depth<=30)/\Q (.bl (!(ds.any fun e=>PyData.eqv e d))) H
def yf1 (K:PySem.W.Frag):R2:=fun x y H Q=>∃ p xs d ds,y = .ref p/\SqT K H p xs/\DaV K H x d/\DaVs K H xs ds/\d.canLay0=true/\(∀ e∈ds,e.canLay0=true/\e.depth<=30)/\Q (.bl (!(ds.any fun e=>PyData.eqv e d))) H
theorem zg2 (hu:X.A.units+64<cLine):OpR X (compareOp .NotIn) (ygr X.K):=by
 intro pins s σ H x y v u Q I rx ry h
 obtain ⟨p,xs,d,ds,rfl,hq,hd,hds,cd,cds,q⟩:=h
 cases ry
 obtain ⟨its,r,pl,hz⟩:=I.list hq
 obtain ⟨as,ra⟩:=hd.reads I rx
 obtain ⟨h1,h2⟩:=zdR I hu ra hds r cd cds
 exact SeqAt.notIn_listAt (isD s.heap d) pl.isList h1 ⟨.bl _,H,I,rfl,by rw [h2];exact q⟩
theorem zgo (hu:X.A.units+64<cLine):OpR X (compareOp .NotIn) (yf1 X.K):=by
 intro pins s σ H x y v u Q I rx ry h
 obtain ⟨p,xs,d,ds,rfl,hq,hd,hds,cd,cds,q⟩:=h
 cases ry
 obtain ⟨its,r,pl,hz⟩:=I.tuple hq
 obtain ⟨as,ra⟩:=hd.reads I rx
 obtain ⟨h1,h2⟩:=zdR I hu ra hds r cd cds
 exact SeqAt.notIn_tupleAt (isD s.heap d) pl h1 ⟨.bl _,H,I,rfl,by rw [h2];exact q⟩
theorem zep (hu:X.A.units+64<cLine):OpR X (compareOp .NotIn) (fun x y H Q=>∃ a o,y = .ref a/\DGet H a x o/\Q (.bl (!o.isSome)) H):=by
 intro pins s σ H x y v u Q I rx ry h
 obtain ⟨a,o,rfl,g,q⟩:=h
 cases ry
 exact ziD (Nat.lt_of_le_of_lt (Nat.add_le_add_left (by decide:1<=64) _) hu) I g rx fun s' I' => ⟨.bl _,H,I',rfl,q⟩
end
end L2
namespace Sm
open PySem PySem.Spec L2
section
variable {T:Tb} {E:St->XK} {X:Cx}
theorem zfs (hK:X.K=T.K) (hu:X.A.units+64<cLine):Op T X (compareOp .NotIn) yeY:=by
 refine ⟨_,zeg.or ((zg2 hu).or ((zgo hu).or (zep hu))),ziV (neg:=true) (g:=compareOp .NotIn) hK ?_ ?_ ?_ ?_⟩
 ·exact fun i j H Q q=>.inl ⟨i,j,rfl,rfl,q⟩
 ·exact fun x y H Q p xs d ds e1 e2 e3 e4 e5 e6 q=>.inr (.inl ⟨p,xs,d,ds,e1,hK▸e2,hK▸e3,hK▸e4,e5,e6,q⟩)
 ·exact fun x y H Q p xs d ds e1 e2 e3 e4 e5 e6 q=>.inr (.inr (.inl ⟨p,xs,d,ds,e1,hK▸e2,hK▸e3,hK▸e4,e5,e6,q⟩))
 ·exact fun y a o H Q g q=>.inr (.inr (.inr ⟨a,o,rfl,g,q⟩))
end
end Sm
namespace Sm
open PySem PySem.Spec L2
abbrev ErrC (x:Str) (C:Addr) (mg:Str->Option Value) (base:Heap):Prop:=PyProof.Rows.OwnCls x C [.type "ValueError",.type "Exception",.type "BaseException",.type "object"] "ValueError.__new__" mg base
structure GX (T:Tb) (mg:Str->Option Value) (base:Heap) (c:Nat) (x:Str):Prop where
 ex:∃ C,T.exc c=some C/\ErrC x C mg base
section
variable {T:Tb} {E:St->XK} {X:Cx} {pos np cpos:Pos} {e:Expr} {es:List Expr} {x:Str} {c:Nat} {as:SL}
theorem za6 (G:GX T X.mg X.base c x) (hr:yeH X E) (hg:Gl X x) (ha:PAA T E X (e::es) as) (hc:X.calm=true:=by rfl) (hex:X.ex=[]:=by rfl)
  (hdb:(x == ("__debug__" : Str))=false:=by decide) (he:starEach (e::es) X.env=(false,eval e X.env)::starEach es X.env:=by rfl) (hpl:(backTo cpos (starEach es X.env)).any (·.1)=false:=by rfl) :
  PSA T E X (.Raise (some (.Call (.Name x np) (e::es) [] cpos)) none pos) (ydr c as):=by
 obtain ⟨C,h1,O⟩:=G.ex
 refine ycV (zhK O PySem.F.excBase_ValueError hc hex hr hg ha hdb he hpl) fun D σ H ⟨ι,h,en,S,er,q⟩=>⟨ι,h,en,S,er,q.go er fun xs h1' ι1 H1 us g1 S1 r1 q1=>?_⟩
 split at q1
 ·rename_i hl
  exact ⟨by rw [<- r1.length];exact hl,q1 ι1 H1 σ C S1.refl S1 (er.mono g1) h1⟩
 ·exact q1.elim
end
def ydk (T:Tb) (f:Fn) (r:List V->Hp->VK->Prop):Prop:=∀ (ι:Ix) (h:AH) (H:Hp) (xs:List AV) (us:List V) (E:XK) (Q:VK),Sim T ι h H->RVs T ι H xs us->Post T ι H E (RV T) (f xs h) Q->r us H Q
section
variable {T:Tb} {E:St->XK} {X:Cx} {pos p:Pos} {e a:Expr} {es:List Expr} {x:Str} {as:SL} {sa:SE}
theorem ygf {f:Fn} {r:List V->Hp->VK->Prop} (hs:ydk T f r) {σ:St} {H:Hp} {Q:VK} (q:tE T E (yah f as) σ H Q):tCB r (tA T E as) σ H Q:=by
 obtain ⟨ι,h,en,S,er,q⟩:=q
 exact ⟨ι,h,en,S,er,q.bind fun xs h1 ι1 H1 us g1 S1 r1 q1=>hs ι1 h1 H1 xs us _ Q S1 r1 q1⟩
theorem r_bi {id:String} {f:Fn} (hc:∃ r,CallR X (.builtin id) r/\ydk T f r) (hg:Gl X x) (hm:X.mg x=none) (hv:bootBuiltins x=some (.builtin id)) (ha:PAA T E X (e::es) as) (hn:x ≠ "__name__" := by decide) (hdb:(x == ("__debug__" : Str))=false:=by decide)
  (he:starEach (e::es) X.env=(false,eval e X.env)::starEach es X.env:=by rfl) (hpl:(backTo pos (starEach es X.env)).any (·.1)=false:=by rfl):PEA T E X (.Call (.Name x p) (e::es) [] pos) (yah f as):=by
 obtain ⟨r,h1,h2⟩:=hc
 exact ya0 (zee h1 hg hm hv ha hn hdb he hpl) fun σ H Q q=>ygf h2 q
theorem r_ty {id:String} {f:Fn} (hc:∃ r,CallR X (.type id) r/\ydk T f r) (hg:Gl X x) (hm:X.mg x=none) (hv:bootBuiltins x=some (.type id)) (ha:PAA T E X (e::es) as) (hn:x ≠ "__name__" := by decide) (hdb:(x == ("__debug__" : Str))=false:=by decide)
  (he:starEach (e::es) X.env=(false,eval e X.env)::starEach es X.env:=by rfl) (hpl:(backTo pos (starEach es X.env)).any (·.1)=false:=by rfl):PEA T E X (.Call (.Name x p) (e::es) [] pos) (yah f as):=by
 obtain ⟨r,h1,h2⟩:=hc
 exact ya0 (zgM h1 hg hm hv ha hn hdb he hpl) fun σ H Q q=>ygf h2 q
theorem b_len (hK:X.K=T.K):∃ r,CallR X (.builtin "len") r/\ydk T fLen r:=by
 refine ⟨_,zei.or (zeh.or zgS),fun ι h H xs us E Q S r q=>?_⟩
 unfold fLen at q
 split at q
 ·cases r with
  | cons r r' =>
   cases r'
   obtain ⟨rfl,n,_⟩:=ybv r
   exact .inl ⟨_,rfl,n,q.now S (.int _)⟩
 ·cases r with
  | cons r r' =>
   cases r'
   obtain ⟨a,us,rfl,sq,rs⟩:=ydO r
   exact .inr (.inl ⟨a,us,rfl,.inr (hK▸sq),by rw [<- rs.length];exact q.now S (.int _)⟩)
 ·cases r with
  | cons r r' =>
   cases r'
   obtain ⟨a,us,rfl,sq,rs⟩:=ybK S r rfl
   exact .inr (.inl ⟨a,us,rfl,.inl (hK▸sq),by rw [<- rs.length];exact q.now S (.int _)⟩)
 ·rename_i n
  cases r with
  | cons r r' =>
   cases r'
   split at q
   ·rename_i xs hn
    obtain ⟨a,us,rfl,sq,rs⟩:=ybK (xs:=xs) S r (by simp [ydi,hn])
    exact .inr (.inl ⟨a,us,rfl,.inl (hK▸sq),by rw [<- rs.length];exact q.now S (.int _)⟩)
   ·rename_i kvs hn
    cases r with
    | @ref _ ad hr =>
     obtain ⟨o,e1,kus,rfl,rs⟩:=S.obj n _ ad hn hr
     exact .inr (.inr ⟨ad,kus,rfl,e1,by rw [<- Paired.length rs];exact q.now S (.int _)⟩)
   ·exact q.elim
 ·exact q.elim
theorem b_abs:∃ r,CallR X (.builtin "abs") r/\ydk T fAbs r:=by
 refine ⟨_,zhr,fun ι h H xs us E Q S r q=>?_⟩
 unfold fAbs at q
 split at q
 ·cases r with
  | cons r r' => cases r';rw [yaF r];exact ⟨_,rfl,q.now S (.int _)⟩
 ·exact q.elim
theorem yhf (hc:X.calm=true:=by rfl):∃ r,CallR X (.builtin "max") r/\ydk T yfg r:=by
 refine ⟨_,zgF hc,fun ι h H xs us E Q S r q=>?_⟩
 unfold yfg at q
 split at q
 ·cases r with
  | cons r r' => cases r' with
   | cons r1 r2=>cases r2;rw [yaF r,yaF r1];exact ⟨_,_,rfl,q.now S (.int _)⟩
 ·exact q.elim
theorem yhg (hc:X.calm=true:=by rfl):∃ r,CallR X (.builtin "min") r/\ydk T yds r:=by
 refine ⟨_,zgG hc,fun ι h H xs us E Q S r q=>?_⟩
 unfold yds at q
 split at q
 ·cases r with
  | cons r r' => cases r' with
   | cons r1 r2=>cases r2;rw [yaF r,yaF r1];exact ⟨_,_,rfl,q.now S (.int _)⟩
 ·exact q.elim
theorem zeq {ι:Ix} {H:Hp}:∀ {xs:List AV} {us:List V} {bs:List Bool},RVs T ι H xs us->yd6 xs=some bs->us=bs.map V.bl
 | _,_,_,.nil,e=>by cases e;rfl
 | _,_,bs,.cons (x:=x) r rs,e=>by
  unfold yd6 at e
  split at e
  ·rename_i hh;cases hh
  ·rename_i b r' hh
   cases hh
   obtain ⟨bs',e1,rfl⟩:=Option.map_eq_some_iff.mp e
   rw [yc0 r,zeq rs e1];rfl
  ·cases e
theorem b_all (hK:X.K=T.K) (hc:X.calm=true:=by rfl):∃ r,CallR X (.builtin "all") r/\ydk T fAll r:=by
 refine ⟨_,zhF hc,fun ι h H xs us E Q S r q=>?_⟩
 unfold fAll at q
 split at q
 ·split at q
  ·rename_i bs hb
   cases r with
   | cons r r' =>
    cases r'
    obtain ⟨a,us,rfl,sq,rs⟩:=ybK S r rfl
    rw [zeq rs hb] at sq
    exact ⟨a,bs,rfl,hK▸sq,q.now S (.bl _)⟩
  ·exact q.elim
 ·exact q.elim
theorem b_int:∃ r,CallR X (.type "int") r/\ydk T fInt r:=by
 refine ⟨_,zgH,fun ι h H xs us E Q S r q=>?_⟩
 unfold fInt at q
 split at q
 ·cases r with
  | cons r r' => cases r';rw [yaF r];exact .inl ⟨_,rfl,q.now S (.int _)⟩
 ·cases r with
  | cons r r' => cases r';rw [yc0 r];exact .inr ⟨_,rfl,q.now S (.int _)⟩
 ·exact q.elim
theorem b_list (hK:X.K=T.K):∃ r,CallR X (.type "list") r/\ydk T yek r:=by
 refine ⟨_,zch,fun ι h H xs us E Q S r q=>?_⟩
 unfold yek at q
 split at q
 ·cases r with
  | cons r r' =>
   cases r'
   obtain ⟨a,us,rfl,sq,rs⟩:=ydO r
   exact ⟨a,us,rfl,.inr (hK▸sq),fun l n=>ydY S rs n q⟩
 ·cases r with
  | cons r r' =>
   cases r'
   obtain ⟨a,us,rfl,sq,rs⟩:=ybK S r rfl
   exact ⟨a,us,rfl,.inl (hK▸sq),fun l n=>ydY S rs n q⟩
 ·cases r with
  | cons r r' =>
   cases r'
   split at q
   ·rename_i xs hn
    obtain ⟨a,us,rfl,sq,rs⟩:=ybK (xs:=xs) S r (by simp [ydi,hn])
    exact ⟨a,us,rfl,.inl (hK▸sq),fun l n=>ydY S rs n q⟩
   ·exact q.elim
 ·exact q.elim
theorem ziW (hK:X.K=T.K):∃ r,CallR X (.type "list") r/\ydk T yb9 r:=by
 refine ⟨_,zch,fun ι h H xs us E Q S r q=>?_⟩
 unfold yb9 at q
 split at q
 ·cases r with
  | cons r r' =>
   cases r'
   obtain ⟨a,us,rfl,sq,rs⟩:=ydO r
   exact ⟨a,us,rfl,.inr (hK▸sq),fun l n=>zcB S rs n q⟩
 ·cases r with
  | cons r r' =>
   cases r'
   obtain ⟨a,us,rfl,sq,rs⟩:=ybK S r rfl
   exact ⟨a,us,rfl,.inl (hK▸sq),fun l n=>zcB S rs n q⟩
 ·cases r with
  | cons r r' =>
   cases r'
   split at q
   ·rename_i xs hn
    obtain ⟨a,us,rfl,sq,rs⟩:=ybK (xs:=xs) S r (by simp [ydi,hn])
    exact ⟨a,us,rfl,.inl (hK▸sq),fun l n=>zcB S rs n q⟩
   ·exact q.elim
 ·exact q.elim
abbrev tys:List String:=["NoneType", "bool", "int", "str", "list", "tuple", "dict"]
theorem yfF (K:PySem.W.Frag):∀ n∈tys,∀ t∈tys,PySem.W.kitOne K (.type n) (.type t)=some (n == t || (t == "int" && n == "bool")):=by
 intro n hn t ht
 simp only [tys,List.mem_cons,List.not_mem_nil,or_false] at hn ht
 rcases hn with rfl | rfl | rfl | rfl | rfl | rfl | rfl<;>rcases ht with rfl | rfl | rfl | rfl | rfl | rfl | rfl<;>rfl
theorem zg3 {c:V} {cv:Value} (rc:∀ u,RelV c u->u=cv) :
  CallR X (.builtin "isinstance") (fun xs H Q=>∃ a us r,xs=[.ref a,c]/\SqL X.K H a us/\PySem.W.kitOne X.K (.type "list") cv=some r/\Q (.bl r) H):=by
 intro pins s σ H xs us Q I r h
 obtain ⟨a,ws,k,rfl,sq,hk,q⟩:=h
 obtain ⟨u,w',rfl,rx,ry⟩:=yeK r
 obtain rfl:=rc _ ry
 obtain rfl:u=Value.ref a:=rx
 obtain ⟨its,_,⟨o,n,e1,e2,_⟩,_⟩:=I.list sq
 exact PySem.W.kia_one PySem.W.kitx_list I.kIn ⟨_,e1,e2⟩ hk (fun z=>nomatch z) fun tk=>⟨.bl k,H,I.tok _,rfl,q⟩
theorem yis {ι:Ix} {h:AH} {H:Hp} {v:AV} {u:V} {n:String} (S:Sim T ι h H) (r:RV T ι H v u) (e:tyN v h=some n):(TyOf T.K H u (.type n)\/(n = "list" /\ ∃ a us,u = .ref a/\SqL T.K H a us))/\n∈tys:=by
 unfold tyN at e
 cases r with
 | non=>cases e;exact ⟨.inl .non,by decide⟩
 | bl b=>cases e;exact ⟨.inl (.bl b),by decide⟩
 | int b=>cases e;exact ⟨.inl (.int b),by decide⟩
 | str n o=>cases e;exact ⟨.inl (.str _),by decide⟩
 | tup n q r=>cases e;exact ⟨.inl (.tup q),by decide⟩
 | fl n q r=>cases e;exact ⟨.inr ⟨rfl,_,_,rfl,.inl q⟩,by decide⟩
 | kfl q r=>cases e;exact ⟨.inr ⟨rfl,_,_,rfl,.inr q⟩,by decide⟩
 | @ref k a q =>
  dsimp only at e
  split at e
  ·rename_i xs hn
   cases e
   obtain ⟨o,e1,us,rfl,rs⟩:=S.obj k _ a hn q
   exact ⟨.inl (.lst e1),by decide⟩
  ·rename_i t kvs hn
   cases e
   obtain ⟨o,e1,r⟩:=S.obj k _ a hn q
   cases t with
   | false=>obtain ⟨kus,rfl,rs⟩:=r;exact ⟨.inl (.dK e1),by decide⟩
   | true=>obtain ⟨kus,rfl,rs⟩:=r;exact ⟨.inl (.dT e1),by decide⟩
  ·cases e
 | exc _ _ _=>cases e
theorem yc2 {t:Str} {id:String} {p2:Pos} (hK:X.K=T.K) (hg:Gl X "isinstance") (hm:X.mg "isinstance" = none) (ha:PEA T E X a sa) (hgt:Gl X t) (hmt:X.mg t=none) (hvt:bootBuiltins t=some (.type id)) (hid:id∈tys) (hnt:t ≠ "__name__" := by decide) (hdt:(t == ("__debug__" : Str))=false:=by decide)
  (he:starEach [a,.Name t p2] X.env=(false,eval a X.env)::starEach [.Name t p2] X.env:=by rfl):PEA T E X (.Call (.Name "isinstance" p) [a,.Name t p2] [] pos) (sIsB id sa):=by
 refine ya0 (zee ((zhE (X:=X) (yf7 id)).or (zg3 (X:=X) (yf7 id))) hg hm PyProof.Rows.boot_isinstance (zdo ha (zdo (zik (v:=.ty id) hgt hmt hvt rfl hnt hdt) yfr) he) (he:=he)) fun σ H Q ⟨ι,h,en,S,er,q⟩=>⟨ι,h,en,S,er,q.bind fun v h1 ι1 H1 u g1 S1 r1 q1=>?_⟩
 split at q1
 ·rename_i n hn
  obtain ⟨ty,hmem⟩:=yis S1 r1 hn
  rcases ty with ty | ⟨rfl,ad,us,rfl,sq⟩
  ·exact .inl ⟨u,.type n,_,rfl,hK▸ty,yfF _ n hmem id hid,q1.now S1 (.bl _)⟩
  ·exact .inr ⟨ad,us,_,rfl,hK▸sq,yfF _ _ hmem id hid,q1.now S1 (.bl _)⟩
 ·exact q1.elim
def MtS (T:Tb) (f:FM) (r:V->List V->Hp->VK->Prop):Prop:=∀ (ι:Ix) (h:AH) (H:Hp) (x:AV) (xs:List AV) (u:V) (us:List V) (E:XK) (Q:VK),Sim T ι h H->RV T ι H x u->RVs T ι H xs us->Post T ι H E (RV T) (f x xs h) Q->r u us H Q
def ChkS (T:Tb) (chk:AV->AH->Bool) (n:String):Prop:=∀ (ι:Ix) (h:AH) (H:Hp) (x:AV) (u:V),Sim T ι h H->RV T ι H x u->chk x h=true->tyV T.K n u H
theorem zae:ChkS T yan "list" := fun ι h H x u S r e=>by
 obtain ⟨xs,e1⟩:=Option.isSome_iff_exists.mp e
 obtain ⟨a,us,rfl,sq,rs⟩:=ybK S r e1
 exact .inl ⟨rfl,us,sq⟩
theorem zft:ChkS T yeN "str" := fun ι h H x u S r e=>by
 unfold yeN at e
 split at e
 ·obtain ⟨rfl,_⟩:=ybv r;rfl
 ·cases e
variable {o:Expr} {so:SE} {name:Str} {apos:Pos} {chk:AV->AH->Bool} {f:FM} {tn id:String}
theorem r_bm (hK:X.K=T.K) (pa:PlainAttrs tn) (slot:Slot tn name id) (hty:typeOf (.builtin id)=pure (.type "method_descriptor")) (hm:∃ r,MtR X id r/\MtS T f r) (hc:ChkS T chk tn) (ho:PEA T E X o so) (ha:PAA T E X (e::es) as)
  (hbase:attributeBase o name X.env (eval o X.env)=eval o X.env:=by rfl)
  (hfew:((backTo pos (starEach (e::es) X.env)).all (fun x=>!x.1) && (backToKw pos (keywordEach [] X.env)).all (fun x=>x.1.isSome)
   && decide ((e::es).length+([]:List Keyword).length+(if ([]:List Keyword).isEmpty then 0 else 1)<30))=true:=by rfl)
  (hline:(apos.endLine == pos.line)=true:=by rfl) (hs:starEach (e::es) X.env=(false,eval e X.env)::starEach es X.env:=by rfl) (hplain:(backTo pos (starEach es X.env)).any (·.1)=false:=by rfl) :
  PEA T E X (.Call (.Attribute o name apos) (e::es) [] pos) (sBM chk f so as):=by
 obtain ⟨r,h1,h2⟩:=hm
 refine ya0 (yic pa slot hty h1 ho ha hbase hfew hline hs hplain) fun σ H Q ⟨ι,h,en,S,er,q⟩=>⟨ι,h,en,S,er,q.bind fun x h1 ι1 H1 u g1 S1 r1 q1=>?_⟩
 by_cases hx:chk x h1=true
 ·rw [if_pos hx] at q1
  exact ⟨hK▸hc ι1 h1 H1 x u S1 r1 hx,ι1,h1,en,S1,er.mono g1,q1.bind fun xs h2' ι2 H2 us g2 S2 r2 q2=>h2 ι2 h2' H2 x xs u us _ Q S2 (r1.mono g2) r2 q2⟩
 ·rw [if_neg hx] at q1;exact q1.elim
theorem yem (hK:X.K=T.K) (pa:PlainAttrs tn) (slot:Slot tn name id) (hty:typeOf (.builtin id)=pure (.type "method_descriptor")) (hm:∃ r,MtR X id r/\MtS T f r) (hc:ChkS T chk tn) (ho:PEA T E X o so)
  (hbase:attributeBase o name X.env (eval o X.env)=eval o X.env:=by rfl) (hline:(apos.endLine == pos.line)=true:=by rfl):PEA T E X (.Call (.Attribute o name apos) [] [] pos) (sBM0 chk f so):=by
 obtain ⟨r,h1,h2⟩:=hm
 refine ya0 (ygY pa slot hty h1 ho hbase hline) fun σ H Q ⟨ι,h,en,S,er,q⟩=>⟨ι,h,en,S,er,q.bind fun x h1 ι1 H1 u g1 S1 r1 q1=>?_⟩
 by_cases hx:chk x h1=true
 ·rw [if_pos hx] at q1
  exact ⟨hK▸hc ι1 h1 H1 x u S1 r1 hx,h2 ι1 h1 H1 x [] u [] _ Q S1 r1 .nil q1⟩
 ·rw [if_neg hx] at q1;exact q1.elim
theorem zam:∃ r,MtR X "list.append" r/\MtS T yat r:=by
 refine ⟨_,zdM,fun ι h H x xs u us E Q S rx rs q=>?_⟩
 unfold yat at q
 split at q
 ·rename_i n y
  split at q
  ·rename_i ys hn
   split at q
   ·rename_i hl
    cases rx with
    | @ref _ ad hr =>
     cases rs with
     | @cons _ uu _ _ r r' =>
      cases r'
      obtain ⟨o,e1,ws,rfl,rw_⟩:=S.obj n _ ad hn hr
      have g:=S.growSet (u:=.lst (ws++[uu])) hr
      exact ⟨ad,ws,_,rfl,rfl,e1,by rw [<- rw_.length];exact hl,q ι _ _ g (S.set hr ⟨_,rfl,(rw_.mono g).append (.cons (r.mono g) .nil)⟩) .non⟩
   ·exact q.elim
  ·exact q.elim
 ·exact q.elim
theorem yeO:∃ r,MtR X "list.pop" r/\MtS T mPop r:=by
 refine ⟨_,ygZ,fun ι h H x xs u us E Q S rx rs q=>?_⟩
 unfold mPop at q
 split at q
 ·rename_i n
  split at q
  ·rename_i ys hn
   split at q
   ·rename_i y hy
    cases rx with
    | @ref _ ad hr =>
     cases rs
     obtain ⟨o,e1,ws,rfl,rw_⟩:=S.obj n _ ad hn hr
     have g:=S.growSet (u:=.lst ws.dropLast) hr
     obtain ⟨v,e2,r2⟩:=rw_.get hy
     refine ⟨ad,ws,v,rfl,rfl,e1,by rw [<- rw_.length];exact e2,q ι _ _ g (S.set hr ⟨_,rfl,?_⟩) (r2.mono g)⟩
     have z:=(rw_.mono g).take (ys.length-1)
     have e3:ys.take (ys.length-1)=ys.dropLast:=List.dropLast_eq_take.symm
     have e4:ws.take (ys.length-1)=ws.dropLast:=by rw [rw_.length];exact List.dropLast_eq_take.symm
     rw [e3,e4] at z
     exact z
   ·exact q.elim
  ·exact q.elim
 ·exact q.elim
theorem zhT:∃ r,MtR X "str.count" r/\MtS T yeI r:=by
 refine ⟨_,zel,fun ι h H x xs u us E Q S rx rs q=>?_⟩
 unfold yeI at q
 split at q
 ·cases rs with
  | cons r r' =>
   cases r'
   obtain ⟨rfl,_⟩:=ybv rx
   obtain ⟨rfl,_⟩:=ybv r
   exact ⟨_,_,rfl,rfl,q.now S (.int _)⟩
 ·exact q.elim
end
end Sm
namespace Sm
open PySem PySem.Spec L2
theorem Out.bind_assoc {α β γ:Type} (o:Out α) (f:α->AH->Out β) (g:β->AH->Out γ):(o.bind f).bind g=o.bind fun a h=>(f a h).bind g:=by cases o<;>rfl
section
variable {T:Tb} {E:St->XK} {X:Cx} {pos p2:Pos} {a b:Expr} {sa sb:SE}
def tO (T:Tb) (E:St->XK):Option SE->TO
 | none=>yfc
 | some s=>yf5 (tE T E s)
abbrev POA (T:Tb) (E:St->XK) (X:Cx) (e:Option Expr) (s:Option SE):Prop:=PO X e (tO T E s)
theorem zaM:POA T E X none none:=ziy
theorem zaz (h:PEA T E X a sa):POA T E X (some a) (some sa):=ziz h
@[simp] def yeP (s:Option SE):En->AH->Out (Option Int):=fun en h=>match s with
 | none=>.ok none h
 | some l=>(l en h).bind fun v h2=>match v with | .int i=>.ok (some i) h2 | _=>.bad
theorem zfu {s:Option SE} {σ:St} {H:Hp} {ι:Ix} {h:AH} {en:En} {γ δ:Type} {R':Ix->Hp->γ->δ->Prop} {Q0:δ->Hp->Prop} {f:Option Int->AH->Out γ} {Q:Option Int->Hp->Prop} (S:Sim T ι h H) (er:ER T ι H en σ) (q:Post T ι H (E σ) R' ((yeP s en h).bind f) Q0)
  (k:∀ l h' ι' H',Grow ι H ι' H'->Sim T ι' h' H'->Post T ι' H' (E σ) R' (f l h') Q0->Q l H'):tO T E s σ H Q:=by
 cases s with
 | none=>exact k none h ι H S.refl S q
 | some l =>
  refine ⟨ι,h,en,S,er,?_⟩
  unfold yeP at q
  dsimp only at q
  rw [Out.bind_assoc] at q
  refine q.bind fun v h1 ι1 H1 u g1 S1 r1 q1=>?_
  split at q1
  ·rw [yaF r1]
   exact ⟨_,rfl,k _ _ ι1 H1 g1 S1 q1⟩
  ·exact q1.elim
@[simp] def ya4 (x:AV) (l u:Option Int) (h:AH):Out AV:=match x with
 | .fl xs=>.ok (.fl (cutA xs l u)) h
 | .str z=>.ok (.str (cutS z l u)) h
 | .tup xs=>if ¬ (HT.sIx xs.length 0 l=0/\HT.sIx xs.length xs.length u=xs.length) then .ok (.tup (cutA xs l u)) h else .bad
 | .ref n=>match h[n]? with
  | some (.lst xs)=>.ok (.fl (cutA xs l u)) h
  | _=>.bad
 | _=>.bad
@[simp] def sCut (a:SE) (lo hi:Option SE):SE:=fun en h=>(a en h).bind fun x h1=>(yeP lo en h1).bind fun l h2=>(yeP hi en h2).bind fun u h3=>ya4 x l u h3
theorem RVs.cut {ι:Ix} {H:Hp} {xs:List AV} {us:List V} {lo hi:Option Int} (r:RVs T ι H xs us):RVs T ι H (cutA xs lo hi) (cutV us lo hi):=by
 unfold cutA cutV
 rw [<- r.length]
 exact (r.drop _).take _
theorem yhh {ι:Ix} {H:Hp} {z:Str} {l u:Option Int} (hz:z.length<=sizeLine) (hc:z.cps.all (· < 0x110000)=true):RV T ι H (.str (cutS z l u)) (.str (cutS z l u)):=by
 refine .str ?_ ?_
 ·refine Nat.le_trans ?_ hz
  simp [cutS,Str.length];omega
 ·simp only [cutS,List.all_toArray,List.all_eq_true]
  intro c h
  have hm:c∈z.cps.toList:=List.mem_of_mem_drop (List.mem_of_mem_take h)
  exact (Array.all_eq_true_iff_forall_mem.mp hc) c (by simpa using hm)
theorem zaE {lo hi:Option Expr} {sl sh:Option SE} (hK:X.K=T.K) (ha:PEA T E X a sa) (hl:POA T E X lo sl) (hh:POA T E X hi sh):PEA T E X (.Subscript a (.Slice lo hi none p2) pos) (sCut sa sl sh):=by
 refine ya0 (zhv (ziC.or (sl_tup.or yg7)) ha hl hh) fun σ H Q ⟨ι,h,en,S,er,q⟩=>⟨ι,h,en,S,er,q.bind fun x h1 ι1 H1 u g1 S1 r1 q1=>?_⟩
 refine zfu (E:=E) S1 (er.mono g1) q1 fun l h2 ι2 H2 g2 S2 q2=>zfu (E:=E) S2 (er.mono (g1.trans g2)) q2 fun w h3 ι3 H3 g3 S3 q3=>?_
 have r3:=r1.mono (g2.trans g3)
 unfold ya4 at q3
 split at q3
 ·obtain ⟨ad,us,rfl,sq,rs⟩:=ybK S3 r3 rfl
  exact .inl ⟨ad,us,rfl,hK▸sq,fun p n=>ydY S3 rs.cut n q3⟩
 ·obtain ⟨rfl,hz,hc⟩:=ybv r3
  exact .inr (.inr ⟨_,rfl,hz,q3.now S3 (yhh hz hc)⟩)
 ·rename_i xs
  split at q3
  ·rename_i hz
   obtain ⟨ad,us,rfl,sq,rs⟩:=ydO r3
   exact .inr (.inl ⟨ad,us,rfl,hK▸sq,by rw [<- rs.length];exact hz,fun p n=>zds S3 rs.cut n q3⟩)
  ·exact q3.elim
 ·split at q3
  ·rename_i xs hn
   obtain ⟨ad,us,rfl,sq,rs⟩:=ybK (xs:=xs) S3 r3 (by simp [ydi,hn])
   exact .inl ⟨ad,us,rfl,hK▸sq,fun p n=>ydY S3 rs.cut n q3⟩
  ·exact q3.elim
 ·exact q3.elim
theorem r_gI {x:Str} {i:Int} {p:Pos} (hg:Gl X x) (hm:∃ t,X.mg x=some (.int i t)) (hd:(x == ("__debug__" : Str))=false:=by decide):PEA T E X (.Name x p) (sLit (.int i)):=by
 obtain ⟨t,hm⟩:=hm
 exact ziM hg hm hd
end
def DG (K:PySem.W.Frag) (mg:Str->Option Value) (x:Str) (st:Stmt) (ps:List Str):Prop:=∃ f fd,mg x=some (.ref f)/\PySem.W.keepIn K (.ref f)=true/\Binds K fd ps []/\Fun K x x st f fd
end Sm
namespace Sm
open PySem PySem.Spec L2
def yfe (N:List Str) (sc:Scope) (x₁:Str) (jf:List (Nat×Str)) (scope:Scope):Bool :=
 decide (x₁::jf.map (·.2)).Nodup && (scope.names.lookup x₁ == some .local) && jf.all (fun p=>N[p.1]? == some p.2) && jf.all (fun p=>scope.names.lookup p.2 == some .free) && (scope.kind == .function) &&
 scope.names.all (fun y=>y.2 != .cell) && scope.names.all (fun y=>y.2 != .free || sc.names.lookup y.1 == some .cell || sc.names.lookup y.1 == some .free) && scope.names.all (fun y=>y.2 != .local || scope.names.lookup y.1 == some .local)
theorem zaU {X:Cx} {N:List Str} {sc scope:Scope} {x₁:Str} {jf:List (Nat×Str)} (hN:X.N=N) (hk:∀ x,X.env.kindOf x=sc.names.lookup x) (h:yfe N sc x₁ jf scope=true):CompOk X x₁ jf scope:=by
 unfold yfe at h
 simp only [Bool.and_eq_true,decide_eq_true_eq,List.all_eq_true,beq_iff_eq,bne_iff_ne,Bool.or_eq_true] at h
 obtain ⟨⟨⟨⟨⟨⟨⟨h1,h2⟩,h3⟩,h4⟩,h5⟩,h6⟩,h7⟩,h8⟩:=h
 refine ⟨h1,h2,fun p hp=>by rw [hN];exact h3 p hp,h4,h5,fun y hy=>h6 y hy,fun y hy e=>?_,fun y hy e=>?_⟩
 ·rw [hk]
  rcases h7 y hy with (z | z) | z
  ·exact absurd e z
  ·exact .inl z
  ·exact .inr z
 ·rcases h8 y hy with z | z
  ·exact absurd e z
  ·exact z
end Sm
namespace Sm
open PySem PySem.Spec L2
theorem zdv {T:Tb} {ι:Ix} {H:Hp}:∀ ns:List Int,RVs T ι H (ns.map AV.int) (ns.map V.int)
 | []=>.nil
 | n::ns=>.cons (.int n) (zdv ns)
theorem sim0 {T:Tb} {H:Hp}:Sim T ⟨[],[]⟩ [] H:=⟨rfl,List.nodup_nil,(fun _ z=>nomatch z),(fun i o a e=>by simp at e)⟩
def spL (K:PySem.W.Frag):Sp:=fun vs H Q _=>∃ (a:Addr) (ns:List Int),vs=[.ref a]/\SqL K H a (ns.map V.int)/\ns.length<=63/\∀ H',Q (.bl true) H'
theorem ziX {T:Tb} {F:Fn} (ht:∀ ns:List Int,ns.length<=63->∃ h',F [.fl (ns.map AV.int)] [] = .ok (.bl true) h'):∀ vs H Q E,spL T.K vs H Q E->spA T F vs H Q E:=by
 rintro vs H Q E ⟨a,ns,rfl,hs,hl,q⟩
 obtain ⟨h',e⟩:=ht ns hl
 refine ⟨⟨[],[]⟩,[],[.fl (ns.map AV.int)],sim0,.cons ?_ .nil,?_⟩
 ·rcases hs with hs | hs
  ·exact .fl (by simp [Ix.all]) hs (zdv ns)
  ·exact .kfl hs (zdv ns)
 ·rw [e]
  intro ι' H' u g S r
  rw [yc0 r]
  exact q H'
theorem zg4 {P:Program} {w:World} {outer:List Env} {H:Hp} {s s':Shared} {e:Value} (h:CXE P w outer H s (fun _ _ _=>False) e s'):False:=by
 obtain ⟨_,_,_,_,_,_,_,_,_,_,_,_,_,_,q⟩:=h
 exact q
end Sm
namespace Sm
open PySem PySem.Spec L2
@[simp] def yeg:List AV->Option (List Int)
 | []=>some []
 | .int i::r=>(yeg r).map (i :: ·)
 | _=>none
@[simp] def fSum:Fn:=fun args h=>match args with
 | [.fl xs]=>match yeg xs with
  | some ns=>.ok (.int ns.sum) h
  | none=>.bad
 | _=>.bad
@[simp] def yc3 (a b c:SE):SI:=fun en h=>(a en h).bind fun v h1=>(b en h1).bind fun w h2=>(c en h2).bind fun z h3=>match v,w,z with
 | .int i,.int j,.int k=>if i.natAbs<2 ^ 40/\j.natAbs<2 ^ 40/\0<k/\k<2 ^ 20 then .ok ((List.range (if i<j then (j-i-1) / k+1 else 0:Int).toNat).map (fun m:Nat=>.int (i+m*k)),none) h3 else .bad
 | _,_,_=>.bad
@[simp] def fIsB:F2:=fun x y h=>match x,y with
 | .bl a,.bl b=>.ok (.bl (a == b)) h
 | _,_=>.bad
@[simp] def yeQ:F2:=fun x y h=>match x,y with
 | .bl a,.bl b=>.ok (.bl (!(a == b))) h
 | _,_=>.bad
section
variable {T:Tb} {E:St->XK} {X:Cx} {pos p:Pos} {e a b c:Expr} {sa sb sc:SE}
theorem zfv {ι:Ix} {H:Hp}:∀ {xs:List AV} {us:List V} {bs:List Int},RVs T ι H xs us->yeg xs=some bs->us=bs.map V.int
 | _,_,_,.nil,e=>by cases e;rfl
 | _,_,bs,.cons (x:=x) r rs,e=>by
  unfold yeg at e
  split at e
  ·rename_i hh;cases hh
  ·rename_i b r' hh
   cases hh
   obtain ⟨bs',e1,rfl⟩:=Option.map_eq_some_iff.mp e
   rw [yaF r,zfv rs e1];rfl
  ·cases e
theorem b_sum (hK:X.K=T.K) (hc:X.calm=true:=by rfl):∃ r,CallR X (.builtin "sum") r/\ydk T fSum r:=by
 refine ⟨_,zhN hc,fun ι h H xs us E Q S r q=>?_⟩
 unfold fSum at q
 split at q
 ·split at q
  ·rename_i bs hb
   cases r with
   | cons r r' =>
    cases r'
    obtain ⟨a,us,rfl,sq,rs⟩:=ybK S r rfl
    rw [zfv rs hb] at sq
    exact ⟨a,bs,rfl,hK▸sq,q.now S (.int _)⟩
  ·exact q.elim
 ·exact q.elim
theorem zgp {ι:Ix} {H:Hp} {lo c:Int} {n:Nat}:ItR T (Itr3 lo c n) ι H ((List.range n).map (fun m:Nat=>AV.int (lo+m*c))) none:=by
 constructor
 ·intro i ι' h' H' y g S _ e
  rw [List.getElem?_map] at e
  obtain ⟨m,e1,rfl⟩:=Option.map_eq_some_iff.mp e
  have hi:i<n:=by
   have:=(List.getElem?_eq_some_iff.mp e1).1
   simpa using this
  rw [List.getElem?_range hi] at e1
  cases e1
  refine ⟨hi,?_⟩
  rintro u H2 ⟨rfl,rfl⟩
  exact ⟨S.refl,S,.int _⟩
 ·intro i ι' h' H' g S _ hl
  have hl':n<=i:=by simpa using hl
  exact hl'
theorem zdS {tg:Expr} {p:Pos} (hg:Gl X "range") (hm:X.mg "range" = none) (ha:PEA T E X a sa) (hb:PEA T E X b sb) (hc:PEA T E X c sc) (hs:starEach [a,b,c] X.env=[(false,eval a X.env),(false,eval b X.env),(false,eval c X.env)]:=by rfl) (hs2:starEach [b,c] X.env=[(false,eval b X.env),(false,eval c X.env)]:=by rfl) (hs3:starEach [c] X.env=[(false,eval c X.env)]:=by rfl) :
  PIA T X tg (.Call (.Name "range" p) [a,b,c] [] pos) (yc3 sa sb sc) :=
 yeZ (zgY hg hm (zaa ha (zaa hb (zaa hc yac hs3) (by rw [hs2,hs3])) (by rw [hs,hs2])) hs hs2) fun σ H R ⟨ι,h,en,S,er,q⟩=>by
  unfold yc3 at q
  refine ⟨ι,h,en,S,er,?_⟩
  unfold yab
  cases e:sa en h with
  | bad=>rw [e] at q;exact q
  | ex c h1=>rw [e] at q;exact q.elim
  | ok v h1 =>
   rw [e] at q
   dsimp only [Out.bind] at q ⊢
   cases e':sb en h1 with
   | bad=>rw [e'] at q;exact q
   | ex c h1=>rw [e'] at q;exact q.elim
   | ok v' h2 =>
    rw [e'] at q
    dsimp only at q ⊢
    cases e'':sc en h2 with
    | bad=>rw [e''] at q;exact q
    | ex c h1=>rw [e''] at q;exact q.elim
    | ok v'' h3 =>
     rw [e''] at q
     dsimp only at q
     intro ι1 H1 u g1 S1 r1
     split at q
     ·rename_i hx
      split at hx
      ·split at hx
       ·rename_i hb
        cases hx
        cases r1 with
        | cons r r' =>
         cases r' with
         | cons r2 r3 =>
          cases r3 with
          | cons r4 r5 =>
           cases r5
           rw [yaF r,yaF r2,yaF r4]
           exact ⟨_,_,_,rfl,hb,q ι1 H1 _ g1 S1 zgp⟩
       ·cases hx
      ·cases hx
     ·exact q.elim
theorem yeh {sts:List Stmt} {E:St->XK}:PSsA T E X sts (fun _ _=>.bad):=fun pins s σ H D I ⟨ι,h,en,S,er,q⟩=>q.elim
theorem yfG:Op T X (compareOp .IsNot) yeQ:=by
 refine ⟨_,ziL,fun ι h H x y u w E Q S rx ry p=>?_⟩
 unfold yeQ at p
 split at p
 ·rw [yc0 rx,yc0 ry];exact ⟨_,_,rfl,rfl,p.now S (.bl _)⟩
 ·exact p.elim
end
theorem el1:∀ {us:List Value},us.length=1->∃ a:Value,us=[a]
 | [a],_=>⟨a,rfl⟩
theorem el2:∀ {us:List Value},us.length=2->∃ a b:Value,us=[a,b]
 | [a,b],_=>⟨a,b,rfl⟩
theorem el3:∀ {us:List Value},us.length=3->∃ a b c:Value,us=[a,b,c]
 | [a,b,c],_=>⟨a,b,c,rfl⟩
theorem el4:∀ {us:List Value},us.length=4->∃ a b c d:Value,us=[a,b,c,d]
 | [a,b,c,d],_=>⟨a,b,c,d,rfl⟩
@[simp] def ycR:FM:=fun x vs h=>match x,vs with
 | .ref n,[.ref k]=>match h[n]?,h[k]? with
  | some (.lst xs),some (.lst ys)=>if xs.length+ys.length<=sizeLine then .ok .non (h.set n (.lst (xs++ys))) else .bad
  | _,_=>.bad
 | _,_=>.bad
theorem ye1 {T:Tb} {X:Cx}:∃ r,MtR X "list.extend" r/\MtS T ycR r:=by
 refine ⟨_,zgN,fun ι h H x xs u us E Q S rx rs q=>?_⟩
 unfold ycR at q
 split at q
 ·rename_i n k
  split at q
  ·rename_i ys zs hn hk
   split at q
   ·rename_i hl
    cases rx with
    | @ref _ ad hr =>
     cases rs with
     | @cons _ uu _ _ r r' =>
      cases r'
      cases r with
      | @ref _ bd hb =>
       obtain ⟨o,e1,ws,rfl,rw_⟩:=S.obj n _ ad hn hr
       obtain ⟨o2,e2,ws2,rfl,rw2⟩:=S.obj k _ bd hk hb
       have g:=S.growSet (u:=.lst (ws++ws2)) hr
       exact ⟨ad,bd,ws,ws2,rfl,rfl,e1,e2,by rw [<- rw_.length,<- rw2.length];exact hl,q ι _ _ g (S.set hr ⟨_,rfl,(rw_.mono g).append (rw2.mono g)⟩) .non⟩
   ·exact q.elim
  ·exact q.elim
 ·exact q.elim
def ya5:Nat:=100000000
end Sm
namespace Sm
open PySem PySem.Spec L2
@[simp] def yd7:FM:=fun x vs h=>match x,vs with
 | .ref n,[.int i]=>match h[n]? with
  | some (.lst xs)=>if 0<=i/\i<2 ^ 40 then (match xs[i.toNat]? with
   | some y=>.ok y (h.set n (.lst (xs.eraseIdx i.toNat)))
   | none=>.bad) else .bad
  | _=>.bad
 | _,_=>.bad
theorem RVs.erase {T:Tb} {ι:Ix} {H:Hp} {xs:List AV} {us:List V} (r:RVs T ι H xs us) (k:Nat):RVs T ι H (xs.eraseIdx k) (us.eraseIdx k):=by
 rw [List.eraseIdx_eq_take_drop_succ,List.eraseIdx_eq_take_drop_succ]
 exact (r.take k).append (r.drop (k+1))
theorem ziY {T:Tb} {X:Cx}:∃ r,MtR X "list.pop" r/\MtS T yd7 r:=by
 refine ⟨_,zhz,fun ι h H x xs u us E Q S rx rs q=>?_⟩
 unfold yd7 at q
 split at q
 ·rename_i n i
  split at q
  ·rename_i ys hn
   split at q
   ·rename_i hi
    split at q
    ·rename_i y hy
     cases rx with
     | @ref _ ad hr =>
      cases rs with
      | cons r1 r2 =>
      cases r2
      rw [yaF r1]
      obtain ⟨o,e1,ws,rfl,rw_⟩:=S.obj n _ ad hn hr
      have g:=S.growSet (u:=.lst (ws.eraseIdx i.toNat)) hr
      obtain ⟨v,e2,r2⟩:=rw_.get hy
      have hl:=(List.getElem?_eq_some_iff.mp hy).1
      have hl2:=rw_.length
      have h40:i<1099511627776:=hi.2
      refine ⟨ad,ws,i,i.toNat,v,rfl,rfl,e1,by omega,by omega,?_,e2,q ι _ _ g (S.set hr ⟨_,rfl,(rw_.mono g).erase i.toNat⟩) (r2.mono g)⟩
      unfold seqIndex?
      simp only [show ¬ i<0 by omega,if_false]
      simp;omega
    ·exact q.elim
   ·exact q.elim
  ·exact q.elim
 ·exact q.elim
end Sm
namespace Sm
open PySem PySem.Spec L2
def yeA:FM:=fun x vs h=>match x,vs with
 | .str z,[]=>if (Txt.upper z).length<=sizeLine/\(Txt.upper z).cps.all (· < 0x110000)=true then .ok (.str (Txt.upper z)) h else .bad
 | _,_=>.bad
theorem ziZ {T:Tb} {X:Cx}:∃ r,MtR X "str.upper" r/\MtS T yeA r:=by
 refine ⟨_,zhR,fun ι h H x xs u us E Q S rx rs q=>?_⟩
 unfold yeA at q
 split at q
 ·split at q
  ·rename_i hz
   cases rs
   obtain ⟨rfl,_⟩:=ybv rx
   exact ⟨_,rfl,rfl,hz.1,q.now S (.str hz.1 hz.2)⟩
  ·exact q.elim
 ·exact q.elim
def yd9 (a:SE) (t:Tg) (b:SS):SS:=fun en h=>match a en h with
 | .ok (.fl xs) h1=>ya8 none xs t b xs.reverse en h1
 | .ok (.ref n) h1=>(match h1[n]? with
  | some (.lst xs)=>ya8 (some n) xs t b xs.reverse en h1
  | _=>.bad)
 | _=>.bad
structure ItG (T:Tb) (J:It) (ι:Ix) (H:Hp) (ys:List AV) (L:AH->Bool):Prop where
 go:∀ (i:Nat) (ι':Ix) (h':AH) (H':Hp) (x:AV),Ext ι H ι' H'->Sim T ι' h' H'->L h'=true->ys[i]? = some x->J.go i H'/\∀ u H2,J.yld i H' u H2->Grow ι' H' ι' H2/\Sim T ι' h' H2/\RV T ι' H2 x u
 stop:∀ (i:Nat) (ι':Ix) (h':AH) (H':Hp),Ext ι H ι' H'->Sim T ι' h' H'->L h'=true->ys.length<=i->J.stop i H'
section
variable {T:Tb} {E:St->XK} {X:Cx} {pos:Pos} {a:Expr} {sa:SE} {sts:List Stmt} {s1:SS}
theorem ye2 {ι:Ix} {H:Hp} {a:Addr} {us:List V} {xs:List AV} {K:PySem.W.Frag} {w:Option Nat} (keep:∀ (ι':Ix) (h':AH) (H':Hp),Ext ι H ι' H'->Sim T ι' h' H'->ybO w xs h'=true->∃ us',us'.length=us.length/\SqL K H' a us'/\RVs T ι' H' xs us') (hl:xs.length=us.length):ItG T (Itv K a us.length) ι H xs.reverse (ybO w xs):=by
 refine ⟨fun i ι' h' H' x x' S' lv hx=>?_,fun i ι' h' H' _ _ _ hi=>?_⟩
 ·obtain ⟨us',hl',sq,rs⟩:=keep ι' h' H' x' S' lv
  have hi:i<xs.length:=by have:=(List.getElem?_eq_some_iff.mp hx).1;rwa [List.length_reverse] at this
  rw [List.getElem?_reverse hi] at hx
  rw [hl] at hx
  obtain ⟨u,hu,ru⟩:=rs.get hx
  refine ⟨⟨us',u,sq,hl',by omega,hu⟩,fun v H2 y=>?_⟩
  obtain ⟨rfl,y2⟩:=y
  have:=y2 us' sq
  rw [hu] at this
  cases this
  exact ⟨S'.refl,S',ru⟩
 ·show us.length<=i
  rw [List.length_reverse] at hi
  omega
def yhi (g:TG) (tb:TS) (D:Ends) (σ:St) (H1:Hp) (J:It):Prop:=∃ W:Nat->Nat->St->Hp->Prop,(∃ m,W 0 m σ H1)/\∀ i m σ H,W i m σ H->(J.stop i H/\D.nx σ H)\/(J.go i H/\∃ N:St->Hp->Prop,(∀ σ' H',N σ' H'->∃ m',m'<m/\W (i+1) m' σ' H')/\∀ x H',J.yld i H x H'->g x σ H' fun σ' H'' => tb { D with nx:=N,ct:=N,bk:=D.nx } σ' H'')
theorem zcj {g:TG} {t:Tg} {J:It} {ι1:Ix} {h1:AH} {H1:Hp} {en:En} {σ:St} {D:Ends} {w:Option Nat} {all ys:List AV}
  (hg2:∀ {ι:Ix} {h:AH} {H:Hp} {en e:En} {σ:St} {v:AV} {u:V} {Q:St->Hp->Prop},Sim T ι h H->ER T ι H en σ->RV T ι H v u->setT t v en=some e->(∀ σ',ER T ι H e σ'->Q σ' H)->g u σ H Q)
  (S1:Sim T ι1 h1 H1) (er:ER T ι1 H1 en σ) (IR:ItG T J ι1 H1 ys (ybO w all)) (q:PostS T ι1 H1 E (ya8 w all t s1 ys en h1) D):yhi g (tS T EN s1) D σ H1 J:=by
 refine ⟨fun i m σ H=>m=ys.length-i/\i<=ys.length/\∃ ι' h' en',Grow ι1 H1 ι' H/\Sim T ι' h' H/\ER T ι' H en' σ/\PostS T ι' H E (ya8 w all t s1 (ys.drop i) en' h') D,
  ⟨ys.length,by simp,Nat.zero_le _,ι1,h1,en,S1.refl,S1,er,q⟩,?_⟩
 rintro i m σ H ⟨rfl,hi,ι',h',en',g',S',er',q'⟩
 by_cases hl:i<ys.length
 ·rw [zci hl] at q'
  unfold ya8 at q'
  split at q'
  ·rename_i hlive
   obtain ⟨go,yld⟩:=IR.go i ι' h' H ys[i] g'.ext S' hlive (by simp [hl])
   refine .inr ⟨go,fun σ H=>∃ ι' h' en',Grow ι1 H1 ι' H/\Sim T ι' h' H/\ER T ι' H en' σ/\PostS T ι' H E (ya8 w all t s1 (ys.drop (i+1)) en' h') D,
    fun σ' H' w' => ⟨ys.length-(i+1),by omega,rfl,hl,w'⟩,fun x H' y=>?_⟩
   obtain ⟨g2,S2,r2⟩:=yld x H' y
   split at q'
   ·rename_i e1 he1
    refine hg2 S2 (er'.mono g2) r2 he1 fun σ' er2=>⟨ι',h',e1,S2,er2,?_⟩
    have q2:=PostS.shift q' g2
    cases e2:s1 e1 h' with
    | nx e3 h3=>rw [e2] at q2;exact fun ι3 H3 σ3 g3 S3 er3=>⟨ι3,h3,e3,g'.trans (g2.trans g3),S3,er3,q2.shift g3⟩
    | ct e3 h3=>rw [e2] at q2;exact fun ι3 H3 σ3 g3 S3 er3=>⟨ι3,h3,e3,g'.trans (g2.trans g3),S3,er3,q2.shift g3⟩
    | bk e3 h3=>rw [e2] at q2;exact q2
    | rt v h3=>rw [e2] at q2;exact q2
    | ex c e3 h3=>rw [e2] at q2;exact (show False from q2).elim
    | bad=>rw [e2] at q2;exact q2
   ·exact (show False from q').elim
  ·exact (show False from q').elim
 ·have ei:i=ys.length:=by omega
  subst ei
  rw [List.drop_length] at q'
  unfold ya8 at q'
  split at q'
  ·rename_i hlive
   exact .inl ⟨IR.stop _ ι' h' H g'.ext S' hlive (Nat.le_refl _),q' ι' H σ S'.refl S' er'⟩
  ·exact (show False from q').elim
theorem yhj {tg:Expr} {t:Tg} {p ppos:Pos} (hK:X.K=T.K) (hc:X.calm=true) (hg0:Gl X.nox "reversed") (hm:X.nox.mg "reversed" = none) (ha:PEA T EN X.nox a sa) (hg:PGA T X.nox tg t) (hb:PSsA T EN X.nox sts s1) (hs1:starEach [a] X.nox.env=[(false,eval a X.nox.env)]:=by rfl)
  (hs:∀ x,foldedSetIterable (.Call (.Name "reversed" p) [a] [] ppos) X.nox.env x=pure x:=by intro _;rfl):PSA T E X (.For tg (.Call (.Name "reversed" p) [a] [] ppos) sts [] pos) (yd9 sa t s1):=by
 obtain ⟨g,hg1,hg2⟩:=hg
 refine ycV (yeW (yfp PassesOwn.never hc (yg8 hg0 hm (zaa ha yac hs1) hs1) hg1 hb hs)) fun D σ H ⟨ι,h,en,S,er,q⟩=>⟨ι,h,en,S,er,?_⟩
 unfold yd9 at q
 show Post T ι H _ (RVs T) ((sa en h).bind fun x h1=>.ok [x] h1) _
 cases e:sa en h with
 | bad=>rw [e] at q;exact q
 | ex c h1=>rw [e] at q;exact (show False from q).elim
 | ok v h1 =>
  rw [e] at q
  intro ι1 H1 us g1 S1 r1
  cases r1 with
  | cons r r' =>
  cases r'
  cases v with
  | fl xs =>
   dsimp only at q
   cases r with
   | fl n hr rs=>exact ⟨_,_,rfl,yex hK (.inl hr),zcj hg2 S1 (er.mono g1) (by
     have:=ye2 (T:=T) (w:=none) (K:=T.K) (a:=_) (us:=_) (xs:=xs) (ι:=ι1) (H:=H1) (fun ι' h' H' x' S' _=>⟨_,rfl,ygd n hr ι' H' x',rs.ext x'⟩) rs.length
     exact hK▸this) (PostS.shift q g1)⟩
   | kfl hr rs=>exact ⟨_,_,rfl,yex hK (.inr hr),zcj hg2 S1 (er.mono g1) (by
     have:=ye2 (T:=T) (w:=none) (K:=T.K) (a:=_) (us:=_) (xs:=xs) (ι:=ι1) (H:=H1) (fun ι' h' H' x' S' _=>⟨_,rfl,.inr hr,rs.ext x'⟩) rs.length
     exact hK▸this) (PostS.shift q g1)⟩
  | ref n =>
   dsimp only at q
   cases e2:h1[n]? with
   | none=>rw [e2] at q;exact (show False from q).elim
   | some o =>
    rw [e2] at q
    cases o with
    | lst xs =>
     cases r with
     | ref hr =>
      obtain ⟨u,e1,us,rfl,rs⟩:=S1.obj n _ _ e2 hr
      refine ⟨_,us,rfl,.inl (.of e1),zcj hg2 S1 (er.mono g1) (ye2 (fun ι' h' H' x' S' lv=>?_) rs.length) (PostS.shift q g1)⟩
      unfold ybO at lv
      dsimp only at lv
      split at lv
      ·rename_i ys hy
       have z:=of_decide_eq_true lv
       subst z
       obtain ⟨u2,e3,us2,rfl,r2⟩:=S'.obj n _ _ hy (x'.at_ hr)
       exact ⟨us2,by rw [<- r2.length,rs.length],.inl (.of e3),r2⟩
      ·cases lv
    | _=>exact (show False from q).elim
  | _=>exact (show False from q).elim
end
end Sm
namespace L2
open PySem PySem.Spec PyProof.Rows
section
variable {X:Cx}
def ygs:V->List V->Hp->VK->Prop:=fun x vs H Q=>∃ l xs i y,x = .ref l/\vs=[.int i,y]/\H l=some (.lst xs)/\0<=i/\i<2 ^ 63/\i.toNat<=xs.length/\xs.length<sizeLine/\Q .non (upd H l (.lst (xs.take i.toNat++y::xs.drop i.toNat)))
theorem zg5:MtM X "list.insert" ygs:=by
 intro pins s σ H x vs v us Q I rx rv h
 obtain ⟨l,xs,i,y,rfl,rfl,hH,h1,h2,hk,hz,q⟩:=h
 cases rx
 cases rv with
 | cons ru rv =>
 cases rv with
 | cons ry rv =>
 cases rv
 obtain ⟨t,rfl⟩:=ru
 rename_i u2
 obtain ⟨z,its,n,r,hl,e⟩:=I.lstM hH
 refine call_meets F.slot_list_insert ⟨_,e,rfl⟩ F.entry_list_insert (F.args_list_insert_3 _ _ _)
  (AutoSeq1.list_insert_list_int_val_1 l its.toArray n i t u2 (by rw [fitsIndex_both (by omega) h2];decide) (by rw [List.size_toArray];omega)) ⟨e,?_⟩
 refine ⟨.non,_,I.lset (its' := its.take i.toNat++u2::its.drop i.toNat) hH e ?_ ((r.take _).append (.cons ry (r.drop _))) ?_,rfl,q⟩
 ·dsimp only
  rw [if_neg (by omega),List.size_toArray,Nat.min_eq_left (by omega)]
  simp
  rw [List.take_of_length_le (i:=its.length-i.toNat) (by rw [List.length_drop];omega)]
 ·rw [List.length_append,List.length_cons,List.length_take,List.length_drop]
  omega
end
end L2
namespace Sm
open PySem PySem.Spec L2
@[simp] def yb3:FM:=fun x vs h=>match x,vs with
 | .ref n,[.int i,v]=>match h[n]? with
  | some (.lst xs)=>if 0<=i/\i<2 ^ 40/\i.toNat<=xs.length/\xs.length<sizeLine then .ok .non (h.set n (.lst (xs.take i.toNat++v::xs.drop i.toNat))) else .bad
  | _=>.bad
 | _,_=>.bad
theorem zc2 {T:Tb} {X:Cx}:∃ r,MtR X "list.insert" r/\MtS T yb3 r:=by
 refine ⟨_,zg5,fun ι h H x xs u us E Q S rx rs q=>?_⟩
 unfold yb3 at q
 split at q
 ·rename_i n i v
  split at q
  ·rename_i ys hn
   split at q
   ·rename_i hi
    cases rx with
    | @ref _ ad hr =>
     cases rs with
     | cons r1 r2 =>
     cases r2 with
     | cons r2 r3 =>
     cases r3
     rw [yaF r1]
     obtain ⟨o,e1,ws,rfl,rw_⟩:=S.obj n _ ad hn hr
     rename_i v2
     have g:=S.growSet (u:=.lst (ws.take i.toNat++v2::ws.drop i.toNat)) hr
     have hl2:=rw_.length
     have h40:i<1099511627776:=hi.2.1
     exact ⟨ad,ws,i,v2,rfl,rfl,e1,hi.1,by omega,by omega,by omega,q ι _ _ g (S.set hr ⟨_,rfl,((rw_.mono g).take _).append (.cons (r2.mono g) ((rw_.mono g).drop _))⟩) .non⟩
   ·exact q.elim
  ·exact q.elim
 ·exact q.elim
@[simp] def ydz:FM:=fun x vs h=>match x,vs with
 | .ref n,[]=>match h[n]? with
  | some (.lst xs)=>.ok .non (h.set n (.lst xs.reverse))
  | _=>.bad
 | _,_=>.bad
theorem zg6 {T:Tb} {X:Cx}:∃ r,MtR X "list.reverse" r/\MtS T ydz r:=by
 refine ⟨_,zgj,fun ι h H x xs u us E Q S rx rs q=>?_⟩
 unfold ydz at q
 split at q
 ·rename_i n
  split at q
  ·rename_i ys hn
   cases rx with
   | @ref _ ad hr =>
    cases rs
    obtain ⟨o,e1,ws,rfl,rw_⟩:=S.obj n _ ad hn hr
    have g:=S.growSet (u:=.lst ws.reverse) hr
    exact ⟨ad,ws,rfl,rfl,e1,q ι _ _ g (S.set hr ⟨_,rfl,(rw_.mono g).reverse⟩) .non⟩
  ·exact q.elim
 ·exact q.elim
end Sm
namespace Sk
open PySem PySem.Spec L2 Sm
abbrev ygt:Nat:=0
abbrev yiJ:Nat:=1
abbrev yit:Nat:=2
abbrev yf2:Nat:=3
abbrev yfj:Nat:=4
abbrev yfk:Nat:=5
def ycY:Fn:=mkFn 1 1
  (sSeq (ycZ 0 0 (sVar 0) (ybN sNil))
  (sSeq (ycZ 0 1 (sVar 0) (yf8 true))
  (sSeq (ycZ 0 2 (sVar 0) (ybN (yab (sLit (.int 0)) sNil)))
  (sSeq (ycZ 0 3 (sVar 0) (ybN (yab (sLit (.int 0)) sNil)))
  (sSeq (ycZ 0 4 (sVar 0) (ybN (yab (sLit (.int 0)) sNil)))
  (sSeq (ycZ 0 5 (sVar 0) (ybN (yab (sOp1 fNeg (sLit (.int 1))) sNil)))
  (sSeq (ycZ 0 6 (sVar 0) (ybN (yab (sLit (.int 0)) sNil)))
  (ycZ 0 7 (sVar 0) (ybN (yab (sLit (.int 0)) sNil))))))))))
def yaA:Fn:=mkFn 2 3
  (sSeq (sSet 2 (sOp2 fMod (sOp2 fIx (sVar 0) (sLit (.int 0))) (sVar 1)))
  (sSeq (ycG (sVar 0) (sLit (.int 0)) (sOp2 fDiv (sOp2 fIx (sVar 0) (sLit (.int 0))) (sVar 1)))
  (sRet (sVar 2))))
def ybS:SS :=
  (sSet 5 (sOp2 fAdd (sVar 5) (sOp2 fIx (sVar 4) (yah yaA (yab (sVar 0) (yab (yah fLen (yab (sVar 4) sNil)) sNil))))))
def yb0:Fn:=mkFn 2 7
  (sSeq (sSet 2 (sLit (.str "abcdefghijklmnopqrstuvwxyz")))
  (sSeq (sSet 3 (sOp2 fAdd (sOp2 fAdd (sVar 2) (sBM0 yeN yeA (sVar 2))) (sLit (.str " !#$&'()*+,-./0123456789:;<=>?\x40[]^_{|}~\n\\"))))
  (sSeq (sSet 4 (sOp2 fIx (sLst (yab (sLit (.str "a")) (yab (sLit (.str "ab")) (yab (sLit (.str "ab\n")) (yab (sLit (.str "a \n~")) (yab (sVar 3) sNil)))))) (yah yaA (yab (sVar 0) (yab (sLit (.int 5)) sNil)))))
  (sSeq (sSet 5 (sLit (.str "")))
  (sSeq (sFor (yb2 (yah yaA (yab (sVar 0) (yab (sOp2 fAdd (sVar 1) (sLit (.int 1))) sNil)))) (.nm 6) ybS)
  (sRet (sVar 5)))))))
def yc4:Fn:=mkFn 1 1
  (sRet (ydQ (sIsB "int" (sVar 0)) (yf9 (sIsB "bool" (sVar 0)))))
def yaK:Fn:=mkFn 2 2
  (sRet (ydQ (yah yc4 (yab (sVar 1) sNil)) (ydc fLe fLe (sLit (.int 1)) (sVar 1) (yah fLen (yab (Sm.sFld 0 0 (sVar 0)) sNil)))))
def ybe:Fn:=mkFn 2 2
  (sIf (sNot (ybJ (yaq 0 yaK (sVar 0) (yab (sVar 1) sNil)))) (ydr 2 (yab (sLit (.str "no piece of the shelf has this number")) sNil)) yaD)
def ybc:Fn:=mkFn 3 4
  (sSeq (yaL (yaq 0 ybe (sVar 0) (yab (sVar 1) sNil)))
  (sSeq (yaL (yaq 0 ybe (sVar 0) (yab (sVar 2) sNil)))
  (sSeq (sSet 3 (sOp2 fAdd (sOp2 fIx (Sm.sFld 0 2 (sVar 0)) (sOp2 fIx (Sm.sFld 0 7 (sVar 0)) (sVar 1))) (sOp2 fIx (Sm.sFld 0 2 (sVar 0)) (sOp2 fIx (Sm.sFld 0 6 (sVar 0)) (sVar 2)))))
  (sSeq (sIf (yas (sOp2 fLe (sVar 3) (sLit (.int 8)))) (ydr 3 (yab (sLit (.str "the leaves where the parts meet have no more than eight signs together")) sNil)) yaD)
  (sSeq (sIf (yas (sOp2 fGt (yah fAbs (yab (sOp2 fSub (sOp2 fIx (Sm.sFld 0 5 (sVar 0)) (sVar 1)) (sOp2 fIx (Sm.sFld 0 5 (sVar 0)) (sVar 2))) sNil)) (sLit (.int 1)))) (ydr 4 (yab (sLit (.str "the heights of the parts differ by more than one")) sNil)) yaD)
  (sIf (yas (sOp2 fGt (sOp2 fAdd (sOp2 fIx (Sm.sFld 0 2 (sVar 0)) (sVar 1)) (sOp2 fIx (Sm.sFld 0 2 (sVar 0)) (sVar 2))) (sLit (.int 1000000000000000000)))) (ydr 5 (yab (sLit (.str "the fork would have more than 10 ** 18 signs")) sNil)) yaD))))))
def ydd:Fn:=mkFn 2 3
  (sSeq (yaL (sBM yan yat (Sm.sFld 0 0 (sVar 0)) (yab (sVar 1) sNil)))
  (sSeq (sSet 2 (yah fLen (yab (Sm.sFld 0 0 (sVar 0)) sNil)))
  (sSeq (ycG (Sm.sFld 0 1 (sVar 0)) (sVar 1) (sVar 2))
  (sRet (sVar 2)))))
def yca:Fn:=mkFn 2 4
  (sSeq (yaL (yaq 0 ydd (sVar 0) (yab (sVar 1) sNil)))
  (sSeq (sSet 2 (sOp2 fIx (sVar 1) (sLit (.int 1))))
  (sSeq (sSet 3 (sOp2 fIx (sVar 1) (sLit (.int 2))))
  (sSeq (yaL (sBM yan yat (Sm.sFld 0 2 (sVar 0)) (yab (sOp2 fAdd (sOp2 fIx (Sm.sFld 0 2 (sVar 0)) (sVar 2)) (sOp2 fIx (Sm.sFld 0 2 (sVar 0)) (sVar 3))) sNil)))
  (sSeq (yaL (sBM yan yat (Sm.sFld 0 3 (sVar 0)) (yab (sOp2 fAdd (sOp2 fIx (Sm.sFld 0 3 (sVar 0)) (sVar 2)) (sOp2 fIx (Sm.sFld 0 3 (sVar 0)) (sVar 3))) sNil)))
  (sSeq (yaL (sBM yan yat (Sm.sFld 0 4 (sVar 0)) (yab (sOp2 fAdd (sOp2 fIx (Sm.sFld 0 4 (sVar 0)) (sVar 2)) (sOp2 fIx (Sm.sFld 0 4 (sVar 0)) (sVar 3))) sNil)))
  (sSeq (yaL (sBM yan yat (Sm.sFld 0 5 (sVar 0)) (yab (sOp2 fAdd (yah yfg (yab (sOp2 fIx (Sm.sFld 0 5 (sVar 0)) (sVar 2)) (yab (sOp2 fIx (Sm.sFld 0 5 (sVar 0)) (sVar 3)) sNil))) (sLit (.int 1))) sNil)))
  (sSeq (yaL (sBM yan yat (Sm.sFld 0 6 (sVar 0)) (yab (sOp2 fIx (Sm.sFld 0 6 (sVar 0)) (sVar 2)) sNil)))
  (yaL (sBM yan yat (Sm.sFld 0 7 (sVar 0)) (yab (sOp2 fIx (Sm.sFld 0 7 (sVar 0)) (sVar 3)) sNil)))))))))))
def yaf:Fn:=mkFn 3 4
  (sSeq (yaL (yaq 0 ybc (sVar 0) (yab (sVar 1) (yab (sVar 2) sNil))))
  (sSeq (sSet 3 (sTup (yab (sLit (.str "fork")) (yab (sVar 1) (yab (sVar 2) sNil)))))
  (sSeq (sIf (yas (sOp2 yeY (sVar 3) (Sm.sFld 0 1 (sVar 0)))) (yaL (yaq 0 yca (sVar 0) (yab (sVar 3) sNil))) yaD)
  (sRet (sOp2 fIx (Sm.sFld 0 1 (sVar 0)) (sVar 3))))))
def yeq (G:Fn):Fn:=mkFn 2 3
  (sSeq (sIf (yas (sOp2 fEq (yah fLen (yab (sVar 1) sNil)) (sLit (.int 1)))) (sRet (sOp2 fIx (sVar 1) (sLit (.int 0)))) yaD)
  (sSeq (sSet 2 (sOp2 fDiv (yah fLen (yab (sVar 1) sNil)) (sLit (.int 2))))
  (sRet (yaq 0 yaf (sVar 0) (yab (yah G (yab (sVar 0) (yab (sCut (sVar 1) none (some (sVar 2))) sNil))) (yab (yah G (yab (sVar 0) (yab (sCut (sVar 1) (some (sVar 2)) none) sNil))) sNil))))))
def ycb:Nat->Fn
 | 0=>mkFn 2 3 (fun _ _=>.bad)
 | d+1=>yeq (ycb d)
def ycn:Fn:=mkFn 1 1
  (sRet (sOrV (sOp2 fEq (sVar 0) (sLit (.str "\n"))) (ydc fLe fLe (sLit (.str " ")) (sVar 0) (sLit (.str "~")))))
def ycD:Fn:=mkFn 1 1
  (sSeq (sIf (sNot (ybJ (sIsB "str" (sVar 0)))) (sRet (sLit (.bl false))) yaD)
  (sRet (yah fAll (yab (ycC [] (iVal (sVar 0)) sYes (yah ycn (yab (sVar 0) sNil))) sNil))))
def ybw:Fn:=mkFn 1 1
  (sRet (ydQ (yah ycD (yab (sVar 0) sNil)) (ydc fLe fLe (sLit (.int 1)) (yah fLen (yab (sVar 0) sNil)) (sLit (.int 8)))))
def yd1:Fn:=mkFn 1 1
  (sRet (sBM yeN yeI (sVar 0) (yab (sLit (.str "\n")) sNil)))
def ycc:Fn:=mkFn 2 4
  (sSeq (sSet 2 (yaq 0 ydd (sVar 0) (yab (sVar 1) sNil)))
  (sSeq (sSet 3 (sOp2 fIx (sVar 1) (sLit (.int 1))))
  (sSeq (yaL (sBM yan yat (Sm.sFld 0 2 (sVar 0)) (yab (yah fLen (yab (sVar 3) sNil)) sNil)))
  (sSeq (yaL (sBM yan yat (Sm.sFld 0 3 (sVar 0)) (yab (yah yd1 (yab (sVar 3) sNil)) sNil)))
  (sSeq (yaL (sBM yan yat (Sm.sFld 0 4 (sVar 0)) (yab (sLit (.int 1)) sNil)))
  (sSeq (yaL (sBM yan yat (Sm.sFld 0 5 (sVar 0)) (yab (sLit (.int 0)) sNil)))
  (sSeq (yaL (sBM yan yat (Sm.sFld 0 6 (sVar 0)) (yab (sVar 2) sNil)))
  (yaL (sBM yan yat (Sm.sFld 0 7 (sVar 0)) (yab (sVar 2) sNil))))))))))
def ya6:Fn:=mkFn 2 3
  (sSeq (sIf (sNot (ybJ (yah ybw (yab (sVar 1) sNil)))) (ydr 1 (yab (sLit (.str "a leaf is a plain text of one to eight signs")) sNil)) yaD)
  (sSeq (sSet 2 (sTup (yab (sLit (.str "leaf")) (yab (sVar 1) sNil))))
  (sSeq (sIf (yas (sOp2 yeY (sVar 2) (Sm.sFld 0 1 (sVar 0)))) (yaL (yaq 0 ycc (sVar 0) (yab (sVar 2) sNil))) yaD)
  (sRet (sOp2 fIx (Sm.sFld 0 1 (sVar 0)) (sVar 2))))))
def ydA:Fn:=mkFn 2 3
  (sSeq (sIf (sNot (ybJ (yah ycD (yab (sVar 1) sNil)))) (ydr 1 (yab (sLit (.str "a text is built of a plain text")) sNil)) yaD)
  (sSeq (sIf (yas (sOp2 fGt (yah fLen (yab (sVar 1) sNil)) (sLit (.int 10000)))) (ydr 5 (yab (sLit (.str "a text is built of ten thousand signs at most")) sNil)) yaD)
  (sSeq (sIf (yas (sOp2 fEq (sVar 1) (sLit (.str "")))) (sRet (sLit (.int 0))) yaD)
  (sSeq (sSet 2 (ycC [0,1] (yc3 (sLit (.int 0)) (yah fLen (yab (sVar 1) sNil)) (sLit (.int 8))) sYes (yaq 0 ya6 (sVar 1) (yab (sCut (sVar 2) (some (sVar 0)) (some (sOp2 fAdd (sVar 0) (sLit (.int 8))))) sNil))))
  (sRet (yah (ycb 20) (yab (sVar 0) (yab (sVar 2) sNil))))))))
def yc5:Fn:=mkFn 1 1
  (sIf (yas (sOp2 fGt (sVar 0) (sLit (.int 1000000000000000000)))) (ydr 5 (yab (sLit (.str "the text would have more than 10 ** 18 signs")) sNil)) yaD)
def yaQ:Fn:=mkFn 2 2
  (sIf (yas (sOp2 fNe (sVar 1) (sLit (.int 0)))) (yaL (yaq 0 ybe (sVar 0) (yab (sVar 1) sNil))) yaD)
def ybo:Fn:=mkFn 2 2
  (sSeq (yaL (yaq 0 yaQ (sVar 0) (yab (sVar 1) sNil)))
  (sRet (sOp2 fIx (Sm.sFld 0 2 (sVar 0)) (sVar 1))))
def ybY:Fn:=mkFn 2 2
  (sSeq (yaL (yaq 0 yaQ (sVar 0) (yab (sVar 1) sNil)))
  (sRet (sOp2 fIx (Sm.sFld 0 7 (sVar 0)) (sVar 1))))
def ybL:Fn:=mkFn 2 2
  (sSeq (yaL (yaq 0 yaQ (sVar 0) (yab (sVar 1) sNil)))
  (sRet (sOp2 fIx (Sm.sFld 0 6 (sVar 0)) (sVar 1))))
def ydK:Fn:=mkFn 3 3
  (sRet (sOp2 fGt (sOp2 fAdd (yaq 0 ybo (sVar 0) (yab (yaq 0 ybY (sVar 0) (yab (sVar 1) sNil)) sNil)) (yaq 0 ybo (sVar 0) (yab (yaq 0 ybL (sVar 0) (yab (sVar 2) sNil)) sNil))) (sLit (.int 8))))
def yaC:Fn:=mkFn 2 2
  (sSeq (yaL (yaq 0 ybe (sVar 0) (yab (sVar 1) sNil)))
  (sRet (sOp2 fIx (Sm.sFld 0 0 (sVar 0)) (sOp2 fSub (sVar 1) (sLit (.int 1))))))
def yd3 (G:Fn):Fn:=mkFn 3 4
  (sSeq (sSet 3 (yaq 0 yaC (sVar 0) (yab (sVar 1) sNil)))
  (sSeq (sIf (yas (sOp2 fEq (sOp2 fIx (sVar 3) (sLit (.int 0))) (sLit (.str "leaf")))) (sRet (sVar 2)) yaD)
  (sRet (yaq 0 yaf (sVar 0) (yab (sOp2 fIx (sVar 3) (sLit (.int 1))) (yab (yah G (yab (sVar 0) (yab (sOp2 fIx (sVar 3) (sLit (.int 2))) (yab (sVar 2) sNil)))) sNil))))))
def ybh:Nat->Fn
 | 0=>mkFn 3 4 (fun _ _=>.bad)
 | d+1=>yd3 (ybh d)
def yaW:Fn:=mkFn 2 2
  (sSeq (yaL (yaq 0 yaQ (sVar 0) (yab (sVar 1) sNil)))
  (sRet (sOp2 fIx (Sm.sFld 0 5 (sVar 0)) (sVar 1))))
def yaX:Fn:=mkFn 3 7
  (sSeq (sIf (yas (sOp2 fLt (sOp2 fSub (yaq 0 yaW (sVar 0) (yab (sVar 2) sNil)) (yaq 0 yaW (sVar 0) (yab (sVar 1) sNil))) (sLit (.int 2)))) (sRet (yaq 0 yaf (sVar 0) (yab (sVar 1) (yab (sVar 2) sNil)))) yaD)
  (sSeq (sSet 3 (yaq 0 yaC (sVar 0) (yab (sVar 2) sNil)))
  (sSeq (sSet 4 (sOp2 fIx (sVar 3) (sLit (.int 1))))
  (sSeq (sSet 5 (sOp2 fIx (sVar 3) (sLit (.int 2))))
  (sSeq (sIf (yas (sOp2 fLe (yaq 0 yaW (sVar 0) (yab (sVar 4) sNil)) (yaq 0 yaW (sVar 0) (yab (sVar 5) sNil)))) (sRet (yaq 0 yaf (sVar 0) (yab (yaq 0 yaf (sVar 0) (yab (sVar 1) (yab (sVar 4) sNil))) (yab (sVar 5) sNil)))) yaD)
  (sSeq (sSet 6 (yaq 0 yaC (sVar 0) (yab (sVar 4) sNil)))
  (sRet (yaq 0 yaf (sVar 0) (yab (yaq 0 yaf (sVar 0) (yab (sVar 1) (yab (sOp2 fIx (sVar 6) (sLit (.int 1))) sNil))) (yab (yaq 0 yaf (sVar 0) (yab (sOp2 fIx (sVar 6) (sLit (.int 2))) (yab (sVar 5) sNil))) sNil))))))))))
def ycS (G:Fn):Fn:=mkFn 2 4
  (sSeq (sSet 2 (yaq 0 yaC (sVar 0) (yab (sVar 1) sNil)))
  (sSeq (sIf (yas (sOp2 fEq (sOp2 fIx (sVar 2) (sLit (.int 0))) (sLit (.str "leaf")))) (sRet (sLit (.int 0))) yaD)
  (sSeq (sSet 3 (yah G (yab (sVar 0) (yab (sOp2 fIx (sVar 2) (sLit (.int 1))) sNil))))
  (sSeq (sIf (yas (sOp2 fEq (sVar 3) (sLit (.int 0)))) (sRet (sOp2 fIx (sVar 2) (sLit (.int 2)))) yaD)
  (sRet (yah yaX (yab (sVar 0) (yab (sVar 3) (yab (sOp2 fIx (sVar 2) (sLit (.int 2))) sNil)))))))))
def yaG:Nat->Fn
 | 0=>mkFn 2 4 (fun _ _=>.bad)
 | d+1=>ycS (yaG d)
def yba:Fn:=mkFn 3 7
  (sSeq (sIf (yas (sOp2 fLt (sOp2 fSub (yaq 0 yaW (sVar 0) (yab (sVar 1) sNil)) (yaq 0 yaW (sVar 0) (yab (sVar 2) sNil))) (sLit (.int 2)))) (sRet (yaq 0 yaf (sVar 0) (yab (sVar 1) (yab (sVar 2) sNil)))) yaD)
  (sSeq (sSet 3 (yaq 0 yaC (sVar 0) (yab (sVar 1) sNil)))
  (sSeq (sSet 4 (sOp2 fIx (sVar 3) (sLit (.int 1))))
  (sSeq (sSet 5 (sOp2 fIx (sVar 3) (sLit (.int 2))))
  (sSeq (sIf (yas (sOp2 fLe (yaq 0 yaW (sVar 0) (yab (sVar 5) sNil)) (yaq 0 yaW (sVar 0) (yab (sVar 4) sNil)))) (sRet (yaq 0 yaf (sVar 0) (yab (sVar 4) (yab (yaq 0 yaf (sVar 0) (yab (sVar 5) (yab (sVar 2) sNil))) sNil)))) yaD)
  (sSeq (sSet 6 (yaq 0 yaC (sVar 0) (yab (sVar 5) sNil)))
  (sRet (yaq 0 yaf (sVar 0) (yab (yaq 0 yaf (sVar 0) (yab (sVar 4) (yab (sOp2 fIx (sVar 6) (sLit (.int 1))) sNil))) (yab (yaq 0 yaf (sVar 0) (yab (sOp2 fIx (sVar 6) (sLit (.int 2))) (yab (sVar 2) sNil))) sNil))))))))))
def yea (G:Fn):Fn:=mkFn 3 5
  (sSeq (sSet 3 (sOp2 fSub (yaq 0 yaW (sVar 0) (yab (sVar 1) sNil)) (yaq 0 yaW (sVar 0) (yab (sVar 2) sNil))))
  (sSeq (sIf (yas (sOp2 fGt (sVar 3) (sLit (.int 1)))) (sSeq (sSet 4 (yaq 0 yaC (sVar 0) (yab (sVar 1) sNil)))
  (sRet (yah yaX (yab (sVar 0) (yab (sOp2 fIx (sVar 4) (sLit (.int 1))) (yab (yah G (yab (sVar 0) (yab (sOp2 fIx (sVar 4) (sLit (.int 2))) (yab (sVar 2) sNil)))) sNil)))))) yaD)
  (sSeq (sIf (yas (sOp2 fLt (sVar 3) (sOp1 fNeg (sLit (.int 1))))) (sSeq (sSet 4 (yaq 0 yaC (sVar 0) (yab (sVar 2) sNil)))
  (sRet (yah yba (yab (sVar 0) (yab (yah G (yab (sVar 0) (yab (sVar 1) (yab (sOp2 fIx (sVar 4) (sLit (.int 1))) sNil)))) (yab (sOp2 fIx (sVar 4) (sLit (.int 2))) sNil)))))) yaD)
  (sRet (yaq 0 yaf (sVar 0) (yab (sVar 1) (yab (sVar 2) sNil)))))))
def ybg:Nat->Fn
 | 0=>mkFn 3 5 (fun _ _=>.bad)
 | d+1=>yea (ybg d)
def ydm:Fn:=mkFn 3 6
  (sSeq (sSet 3 (sOp2 fAdd (sOp2 fIx (yaq 0 yaC (sVar 0) (yab (yaq 0 ybY (sVar 0) (yab (sVar 1) sNil)) sNil)) (sLit (.int 1))) (sOp2 fIx (yaq 0 yaC (sVar 0) (yab (yaq 0 ybL (sVar 0) (yab (sVar 2) sNil)) sNil)) (sLit (.int 1)))))
  (sSeq (sSet 4 (yah (ybh 90) (yab (sVar 0) (yab (sVar 1) (yab (yaq 0 ya6 (sVar 0) (yab (sVar 3) sNil)) sNil)))))
  (sSeq (sSet 5 (yah (yaG 90) (yab (sVar 0) (yab (sVar 2) sNil))))
  (sSeq (sIf (yas (sOp2 fEq (sVar 5) (sLit (.int 0)))) (sRet (sVar 4)) yaD)
  (sRet (yah (ybg 90) (yab (sVar 0) (yab (sVar 4) (yab (sVar 5) sNil)))))))))
def ybT:Fn:=mkFn 3 3
  (sSeq (yaL (yah yc5 (yab (sOp2 fAdd (yaq 0 ybo (sVar 0) (yab (sVar 1) sNil)) (yaq 0 ybo (sVar 0) (yab (sVar 2) sNil))) sNil)))
  (sSeq (sIf (yas (sOp2 fEq (sVar 1) (sLit (.int 0)))) (sRet (sVar 2)) yaD)
  (sSeq (sIf (yas (sOp2 fEq (sVar 2) (sLit (.int 0)))) (sRet (sVar 1)) yaD)
  (sSeq (sIf (ybJ (yah ydK (yab (sVar 0) (yab (sVar 1) (yab (sVar 2) sNil))))) (sRet (yah (ybg 90) (yab (sVar 0) (yab (sVar 1) (yab (sVar 2) sNil))))) yaD)
  (sRet (yah ydm (yab (sVar 0) (yab (sVar 1) (yab (sVar 2) sNil)))))))))
def ybM:SS :=
  (sSeq (sSet 5 (sOp2 fAdd (sLit (.int 1)) (yah yaA (yab (sVar 1) (yab (sLit (.int 12)) sNil)))))
  (sSeq (yaL (sBM yan yat (sVar 4) (yab (sCut (sVar 2) none (some (sVar 5))) sNil)))
  (sSet 2 (sCut (sVar 2) (some (sVar 5)) none))))
def ybx:SS :=
  (sSet 6 (yah ybT (yab (sVar 0) (yab (sVar 6) (yab (yah ydA (yab (sVar 0) (yab (sVar 7) sNil))) sNil)))))
def yby:SS :=
  (sSet 6 (yah ybT (yab (sVar 0) (yab (yah ydA (yab (sVar 0) (yab (sVar 7) sNil))) (yab (sVar 6) sNil)))))
def yc6:Fn:=mkFn 3 8
  (sSeq (sSet 3 (yah yaA (yab (sVar 1) (yab (sLit (.int 3)) sNil))))
  (sSeq (sIf (yas (sOp2 fEq (sVar 3) (sLit (.int 0)))) (sRet (yah ydA (yab (sVar 0) (yab (sVar 2) sNil)))) yaD)
  (sSeq (sSet 4 (ybN sNil))
  (sSeq (yaz (yas (sOp2 fNe (sVar 2) (sLit (.str "")))) ybM ya5)
  (sSeq (sSet 6 (sLit (.int 0)))
  (sSeq (sIf (yas (sOp2 fEq (sVar 3) (sLit (.int 1)))) (sFor (iVal (sVar 4)) (.nm 7) ybx) (yd9 (sVar 4) (.nm 7) yby))
  (sRet (sVar 6))))))))
def ydL:Fn:=mkFn 2 3
  (sSeq (sSet 2 (sOp2 fMod (sOp2 fMul (sOp2 fAdd (sOp2 fAdd (sOp2 fMod (sVar 0) (sLit (.int 1000000007))) (sOp2 fMul (sLit (.int 7919)) (sVar 1))) (sLit (.int 101))) (sLit (.int 48271))) (sLit (.int 2147483647))))
  (sRet (sOp2 fMod (sOp2 fMul (sOp2 fMod (sOp2 fMul (sVar 2) (sVar 2)) (sLit (.int 2147483629))) (sLit (.int 69621))) (sLit (.int 2147483647)))))
def yb4:SS :=
  (sSet 2 (sOp2 fAdd (sOp2 fMul (sVar 2) (sOp2 fMul (sOp2 fPow (sLit (.int 10)) (sLit (.int 60))) (sOp2 fPow (sLit (.int 10)) (sLit (.int 60))))) (sOp2 fMod (sOp2 fIx (sVar 0) (sVar 3)) (sOp2 fMul (sOp2 fPow (sLit (.int 10)) (sLit (.int 60))) (sOp2 fPow (sLit (.int 10)) (sLit (.int 60)))))))
def yb5:SS :=
  (sSet 4 (sOp2 fAdd (sOp2 fMul (sVar 4) (sLit (.int 2147483647))) (yah ydL (yab (sOp2 fAdd (sOp2 fAdd (sVar 2) (sOp2 fMul (sLit (.int 1009)) (sVar 1))) (yah fLen (yab (sVar 0) sNil))) (yab (sVar 3) sNil)))))
def ybm:Fn:=mkFn 2 5
  (sSeq (sSet 2 (sLit (.int 0)))
  (sSeq (sFor (yc3 (sVar 1) (yah fLen (yab (sVar 0) sNil)) (sLit (.int 12))) (.nm 3) yb4)
  (sSeq (sIf (yas (sOp2 fGe (sVar 2) (sOp2 fPow (sLit (.int 10)) (sLit (.int 18))))) (sRet (ybN (yab (sVar 2) sNil))) yaD)
  (sSeq (sSet 2 (sOp2 fAdd (sVar 2) (yah fSum (yab (ycC [] (iVal (sVar 0)) sYes (sOp2 fMod (sVar 0) (sOp2 fPow (sLit (.int 10)) (sLit (.int 18))))) sNil))))
  (sSeq (sSet 4 (sLit (.int 0)))
  (sSeq (sFor (yb2 (sLit (.int 12))) (.nm 3) yb5)
  (sRet (ybN (yab (sVar 4) sNil)))))))))
def ybz:Fn:=mkFn 1 1
  (sRet (yah fLen (yab (Sm.sFld 0 0 (sVar 0)) sNil)))
def yaU:SS :=
  (sSeq (sIf (sAnd (yas (sOp2 fNe (sVar 2) (sLst sNil))) (sAnd (ybJ (sIsB "str" (sVar 3))) (ybJ (sIsB "str" (sOp2 fIx (sVar 2) (sOp1 fNeg (sLit (.int 1)))))))) (sIf (sAnd (yas (sOp2 fLt (sOp2 fAdd (yah fLen (yab (sOp2 fIx (sVar 2) (sOp1 fNeg (sLit (.int 1)))) sNil)) (yah fLen (yab (sVar 3) sNil))) (sLit (.int 9)))) (yas (sOp2 fGt (yah yaA (yab (sVar 1) (yab (sLit (.int 3)) sNil))) (sLit (.int 0))))) (sSet 3 (sOp2 fAdd (sBM0 yan mPop (sVar 2)) (sVar 3))) yaD) yaD)
  (yaL (sBM yan yat (sVar 2) (yab (sVar 3) sNil))))
def ydv:Fn:=mkFn 2 4
  (sSeq (sSet 2 (ybN sNil))
  (sSeq (sFor (iVal (sVar 0)) (.nm 3) yaU)
  (sRet (sVar 2))))
def ybi:SS :=
  (sIf (sAnd (ybJ (sIsB "str" (sVar 2))) (yas (ydc fLt fLt (sLit (.int 0)) (yah fLen (yab (sVar 2) sNil)) (sLit (.int 9))))) (yaL (sBM yan ycR (sVar 1) (yab (ycW [] (iVal (sVar 2)) sYes (sVar 0)) sNil))) (sIf (sAnd (ybJ (sIsB "int" (sVar 2))) (sAnd (sNot (ybJ (sIsB "bool" (sVar 2)))) (yas (sOp2 fGt (sVar 2) (sLit (.int 0)))))) (yaL (sBM yan yat (sVar 1) (yab (sVar 2) sNil))) (sRet (sLit .non))))
def ybp:SS :=
  (sIf (sAnd (ybJ (sIsB "str" (sVar 3))) (sAnd (yas (sOp2 fNe (sVar 3) (sLit (.str "\n")))) (sNot (yas (ydc fLe fLe (sLit (.str " ")) (sVar 3) (sLit (.str "~"))))))) (sRet (sLit .non)) yaD)
def ydM:Fn:=mkFn 1 4
  (sSeq (sSet 1 (ybN sNil))
  (sSeq (sFor (iVal (sVar 0)) (.nm 2) ybi)
  (sSeq (sFor (iVal (sVar 1)) (.nm 3) ybp)
  (sRet (sVar 1)))))
def ybj (G:Fn):Fn:=mkFn 4 7
  (sSeq (sIf (sOr (yas (sOp2 fEq (sVar 3) (sOp1 fNeg (sLit (.int 1))))) (yas (sOp2 fEq (sVar 3) (yah fLen (yab (sVar 2) sNil))))) (sRet (sOp1 fNeg (sLit (.int 1)))) yaD)
  (sSeq (sIf (yas (sOp2 fEq (sOp2 fIx (sVar 2) (sVar 3)) (sVar 1))) (sRet (sOp2 fAdd (sVar 3) (sLit (.int 1)))) yaD)
  (sSeq (sSet 4 (yaq 0 yaC (sVar 0) (yab (sVar 1) sNil)))
  (sSeq (sIf (yas (sOp2 fEq (sOp2 fIx (sVar 4) (sLit (.int 0))) (sLit (.str "leaf")))) (sSeq (sSet 5 (sCut (sVar 2) (some (sVar 3)) (some (sOp2 fAdd (sVar 3) (yah fLen (yab (sOp2 fIx (sVar 4) (sLit (.int 1))) sNil))))))
  (sSeq (sIf (yas (sOp2 fNe (sVar 5) (ycC [] (iVal (sCut (sOp2 fIx (sVar 4) (sLit (.int 1))) none (some (yah fLen (yab (sVar 5) sNil))))) sYes (sVar 0)))) (sRet (sLit .non)) yaD)
  (sRet (sOp2 fIx (sLst (yab (sOp1 fNeg (sLit (.int 1))) (yab (sOp2 fAdd (sVar 3) (yah fLen (yab (sVar 5) sNil))) sNil))) (yah fInt (yab (sOp2 fEq (yah fLen (yab (sVar 5) sNil)) (yah fLen (yab (sOp2 fIx (sVar 4) (sLit (.int 1))) sNil))) sNil)))))) yaD)
  (sSeq (sSet 6 (yah G (yab (sVar 0) (yab (sOp2 fIx (sVar 4) (sLit (.int 1))) (yab (sVar 2) (yab (sVar 3) sNil))))))
  (sSeq (sIf (yas (sOp2 fIsN (sVar 6) (sLit .non))) (sRet (sLit .non)) yaD)
  (sRet (yah G (yab (sVar 0) (yab (sOp2 fIx (sVar 4) (sLit (.int 2))) (yab (sVar 2) (yab (sVar 6) sNil))))))))))))
def yaw:Nat->Fn
 | 0=>mkFn 4 7 (fun _ _=>.bad)
 | d+1=>ybj (yaw d)
def yb1:Fn:=mkFn 3 5
  (sSeq (sSet 3 (yah ydM (yab (sVar 2) sNil)))
  (sSeq (sIf (yas (sOp2 fIsN (sVar 3) (sLit .non))) (sRet (sLst (yab (sLit (.bl false)) (yab (sLit (.bl false)) sNil)))) yaD)
  (sSeq (sIf (sOr (yas (sOp2 fEq (sVar 1) (sLit (.int 0)))) (yas (sOp2 fEq (sVar 3) (sLst sNil)))) (sRet (sLst (yab (ydQ (sOp2 fEq (sVar 1) (sLit (.int 0))) (sOp2 fEq (sVar 3) (sLst sNil))) (yab (sOp2 fEq (sVar 3) (sLst sNil)) sNil)))) yaD)
  (sSeq (sSet 4 (yah (yaw 90) (yab (sVar 0) (yab (sVar 1) (yab (sVar 3) (yab (sLit (.int 0)) sNil))))))
  (sSeq (sIf (yas (sOp2 fIsN (sVar 4) (sLit .non))) (sRet (sLst (yab (sLit (.bl false)) (yab (sLit (.bl false)) sNil)))) yaD)
  (sRet (sLst (yab (sOp2 fEq (sVar 4) (yah fLen (yab (sVar 3) sNil))) (yab (sOrV (sOp2 fEq (sVar 4) (sOp1 fNeg (sLit (.int 1)))) (sOp2 fEq (sVar 4) (yah fLen (yab (sVar 3) sNil)))) sNil)))))))))
def ycr:Fn:=mkFn 2 2
  (sSeq (yaL (yaq 0 yaQ (sVar 0) (yab (sVar 1) sNil)))
  (sRet (sIfE (yas (sOp2 fEq (sVar 1) (sLit (.int 0)))) (sLst sNil) (ybN (yab (sVar 1) sNil)))))
def ybA:Fn:=mkFn 3 4
  (sSeq (sIf (ybJ (sIsB "str" (sVar 2))) (sRet (sLit (.bl false))) yaD)
  (sSeq (sSet 3 (yaq 0 yaC (sVar 0) (yab (sVar 2) sNil)))
  (sSeq (sIf (yas (sOp2 fEq (sOp2 fIx (sVar 3) (sLit (.int 0))) (sLit (.str "leaf")))) (sRet (sLit (.bl false))) yaD)
  (sSeq (yaL (sBM yan yat (sVar 1) (yab (sOp2 fIx (sVar 3) (sLit (.int 2))) sNil)))
  (sSeq (yaL (sBM yan yat (sVar 1) (yab (sOp2 fIx (sVar 3) (sLit (.int 1))) sNil)))
  (sRet (sLit (.bl true))))))))
def yaH:SS :=
  (sSeq (sSet 3 (sBM0 yan mPop (sVar 1)))
  (sSeq (sIf (yas (sOp2 fEq (sVar 3) (sVar 2))) (sRet (sLit (.bl true))) yaD)
  (sIf (sNot (ybJ (yah ybA (yab (sVar 0) (yab (sVar 1) (yab (sVar 3) sNil)))))) (sRet (sLit (.bl false))) yaD)))
def ybq:Fn:=mkFn 3 4
  (sSeq (yaz (yas (sOp2 fNe (sVar 1) (sLst sNil))) yaH ya5)
  (sRet (sLit (.bl false))))
def yaN:SS :=
  (sSeq (sSet 2 (sBM0 yan mPop (sVar 1)))
  (sSeq (sIf (ybJ (sIsB "str" (sVar 2))) (sRet (sVar 2)) yaD)
  (sIf (sNot (ybJ (yah ybA (yab (sVar 0) (yab (sVar 1) (yab (sVar 2) sNil)))))) (sRet (sOp2 fIx (yaq 0 yaC (sVar 0) (yab (sVar 2) sNil)) (sLit (.int 1)))) yaD)))
def ycd:Fn:=mkFn 2 3
  (sSeq (yaz (yas (sOp2 fNe (sVar 1) (sLst sNil))) yaN ya5)
  (sRet (sLit (.str ""))))
def yde:Fn:=mkFn 2 2
  (sIf (yas (sOp2 fNe (sVar 1) (sLit (.str "")))) (yaL (sBM yan yat (sVar 0) (yab (sVar 1) sNil))) yaD)
def yaJ:SS :=
  (sSeq (sSet 4 (yah ycd (yab (sVar 0) (yab (sVar 1) sNil))))
  (sSeq (sSet 5 (yah yds (yab (yah fLen (yab (sVar 4) sNil)) (yab (yah fLen (yab (sVar 3) sNil)) sNil))))
  (sSeq (sIf (sOr (yas (sOp2 fEq (sVar 5) (sLit (.int 0)))) (yas (sOp2 fNe (sCut (sVar 4) none (some (sVar 5))) (sCut (sVar 3) none (some (sVar 5)))))) (sRet (sLit (.bl false))) yaD)
  (sSeq (yaL (yah yde (yab (sVar 1) (yab (sCut (sVar 4) (some (sVar 5)) none) sNil))))
  (sSet 3 (sCut (sVar 3) (some (sVar 5)) none))))))
def ybE:Fn:=mkFn 3 6
  (sSeq (sSet 3 (sVar 2))
  (sSeq (yaz (yas (sOp2 fNe (sVar 3) (sLit (.str "")))) yaJ ya5)
  (sRet (sLit (.bl true)))))
def yaR:Fn:=mkFn 3 3
  (sSeq (sIf (ybJ (yaq 0 yaK (sVar 0) (yab (sVar 2) sNil))) (sRet (yah ybq (yab (sVar 0) (yab (sVar 1) (yab (sVar 2) sNil))))) yaD)
  (sRet (ydQ (yah ybw (yab (sVar 2) sNil)) (yah ybE (yab (sVar 0) (yab (sVar 1) (yab (sVar 2) sNil)))))))
def yaI:SS :=
  (sIf (sNot (ybJ (yah yaR (yab (sVar 0) (yab (sVar 3) (yab (sVar 4) sNil)))))) (sRet (sLit .non)) yaD)
def ya3:Fn:=mkFn 3 5
  (sSeq (sSet 3 (yah ycr (yab (sVar 0) (yab (sVar 1) sNil))))
  (sSeq (sFor (iVal (sVar 2)) (.nm 4) yaI)
  (sRet (sVar 3))))
def ybU:Fn:=mkFn 3 3
  (sRet (sOp2 fEq (yah ya3 (yab (sVar 0) (yab (sVar 1) (yab (sVar 2) sNil)))) (sLst sNil)))
def ya9:Fn:=mkFn 3 3
  (sRet (sOp2 ycq (yah ya3 (yab (sVar 0) (yab (sVar 1) (yab (sVar 2) sNil)))) (sLit .non)))
def yaO:Fn:=mkFn 3 5
  (sSeq (sSet 3 (yah yb1 (yab (sVar 0) (yab (sVar 1) (yab (sVar 2) sNil)))))
  (sSeq (sSet 4 (sLst (yab (yah ybU (yab (sVar 0) (yab (sVar 1) (yab (sVar 2) sNil)))) (yab (yah ya9 (yab (sVar 0) (yab (sVar 1) (yab (sVar 2) sNil)))) sNil))))
  (sRet (ydQ (sOp2 fEq (sVar 4) (sVar 3)) (yah fAll (yab (ycC [] (iVal (sVar 4)) sYes (sIsB "bool" (sVar 0))) sNil))))))
def yaV:SS :=
  (sSeq (sSet 5 (sBM0 yan mPop (sVar 4)))
  (sIf (yas (sOp2 fNe (sVar 5) (sLit (.int 0)))) (sSeq (sSet 6 (yaq 0 yaC (sVar 0) (yab (sVar 5) sNil)))
  (sSeq (sSet 7 (yah yaA (yab (sVar 2) (yab (sLit (.int 4)) sNil))))
  (sIf (yas (sOp2 fEq (sVar 7) (sLit (.int 0)))) (yaL (sBM yan yat (sVar 3) (yab (sVar 5) sNil))) (sIf (yas (sOp2 fEq (sOp2 fIx (sVar 6) (sLit (.int 0))) (sLit (.str "fork")))) (yaL (sBM yan ycR (sVar 4) (yab (ybN (yab (sOp2 fIx (sVar 6) (sLit (.int 2))) (yab (sOp2 fIx (sVar 6) (sLit (.int 1))) sNil))) sNil))) (sIf (yas (sOp2 fEq (sVar 7) (sLit (.int 1)))) (yaL (sBM yan yat (sVar 3) (yab (sOp2 fIx (sVar 6) (sLit (.int 1))) sNil))) (yaL (sBM yan ycR (sVar 3) (yab (ycW [] (iVal (sOp2 fIx (sVar 6) (sLit (.int 1)))) sYes (sVar 0)) sNil)))))))) yaD))
def ycI:Fn:=mkFn 3 8
  (sSeq (sSet 3 (ybN sNil))
  (sSeq (sSet 4 (ybN (yab (sVar 1) sNil)))
  (sSeq (yaz (yas (sOp2 fNe (sVar 4) (sLst sNil))) yaV ya5)
  (sRet (sVar 3)))))
def yaY:Fn:=mkFn 3 7
  (sSeq (sSet 3 (yah yb9 (yab (sVar 1) sNil)))
  (sSeq (sSet 4 (yah yaA (yab (sVar 2) (yab (sLit (.int 8)) sNil))))
  (sSeq (sSet 5 (yah yaA (yab (sVar 2) (yab (sOp2 fAdd (yah fLen (yab (sVar 3) sNil)) (sLit (.int 1))) sNil))))
  (sSeq (sIf (yas (sOp2 fEq (sVar 4) (sLit (.int 0)))) (yaL (sBM yan yb3 (sVar 3) (yab (sVar 5) (yab (sOp2 fAdd (sLit (.int 1)) (yah yaA (yab (sVar 2) (yab (sOp2 fAdd (yaq 0 ybz (sVar 0) sNil) (sLit (.int 2))) sNil)))) sNil)))) (sIf (yas (sOp2 fEq (sVar 4) (sLit (.int 1)))) (yaL (sBM yan yb3 (sVar 3) (yab (sVar 5) (yab (sOp2 fAdd (yah yb0 (yab (sVar 2) (yab (sLit (.int 3)) sNil))) (sLit (.str "a"))) sNil)))) (sIf (yas (sOp2 fEq (sVar 3) (sLst sNil))) (sRet (sVar 3)) (sIf (yas (sOp2 fEq (sVar 4) (sLit (.int 2)))) (yaL (sBM yan yd7 (sVar 3) (yab (sOp2 fMod (sVar 5) (yah fLen (yab (sVar 3) sNil))) sNil))) (sIf (yas (sOp2 fEq (sVar 4) (sLit (.int 3)))) (yaL (sBM yan yb3 (sVar 3) (yab (sVar 5) (yab (sOp2 fIx (sVar 3) (sOp2 fMod (sVar 5) (yah fLen (yab (sVar 3) sNil)))) sNil)))) (sIf (yas (sOp2 fEq (sVar 4) (sLit (.int 4)))) (ycG (sVar 3) (sOp2 fMod (sVar 5) (yah fLen (yab (sVar 3) sNil))) (sOp2 fAdd (sLit (.int 1)) (yah yaA (yab (sVar 2) (yab (sOp2 fAdd (yaq 0 ybz (sVar 0) sNil) (sLit (.int 1))) sNil))))) (sIf (yas (sOp2 fEq (sVar 4) (sLit (.int 5)))) (yaL (sBM0 yan ydz (sVar 3))) (sIf (yas (sOp2 fEq (sVar 4) (sLit (.int 6)))) (sSet 3 (sCut (sVar 3) none (some (sVar 5)))) (sSeq (sSet 6 (sOp2 fIx (sVar 3) (sOp2 fMod (sVar 5) (yah fLen (yab (sVar 3) sNil)))))
  (sIf (ybJ (sIsB "str" (sVar 6))) (ycG (sVar 3) (sOp2 fMod (sVar 5) (yah fLen (yab (sVar 3) sNil))) (sOp2 fAdd (sCut (sVar 6) none (some (sOp1 fNeg (sLit (.int 1))))) (sLit (.str "b")))) yaD))))))))))
  (sRet (sVar 3))))))
def ydB:SS :=
  (sIf (sOr (sNot (ybJ (yah yaO (yab (sVar 1) (yab (sVar 10) (yab (sVar 9) sNil)))))) (sNot (ybJ (yah yaO (yab (sVar 1) (yab (sVar 10) (yab (sVar 9) sNil))))))) (sRet (sLit (.bl false))) yaD)
def ydC:SS :=
  (sSeq (sSet 9 (yah yek (yab (sVar 7) sNil)))
  (sSeq (sFor (iVal (sLst (yab (sVar 3) (yab (sLit (.int 0)) sNil)))) (.nm 10) ydB)
  (sSeq (sIf (yas (sOp2 fNe (sVar 9) (sVar 7))) (sRet (sLit (.bl false))) yaD)
  (sSet 7 (yah yaY (yab (sVar 1) (yab (sVar 7) (yab (sVar 4) sNil))))))))
def ydD:SS :=
  (sSeq (sSet 7 (yah ydv (yab (yah ycI (yab (sVar 1) (yab (sVar 3) (yab (sVar 4) sNil)))) (yab (sVar 4) sNil))))
  (sSeq (sIf (sOr (yas (sOp2 yeQ (yah ybU (yab (sVar 1) (yab (sVar 3) (yab (sVar 7) sNil)))) (sLit (.bl true)))) (yas (sOp2 yeQ (yah ya9 (yab (sVar 1) (yab (sVar 3) (yab (sVar 7) sNil)))) (sLit (.bl true))))) (sRet (sLit (.bl false))) yaD)
  (sFor (yb2 (sLit (.int 4))) (.nm 8) ydC)))
def yfl:Fn:=mkFn 1 11
  (sSeq (sSet 1 (yeM 0 8 ycY sNil))
  (sSeq (sSet 2 (yah yb0 (yab (yah ybm (yab (sVar 0) (yab (sLit (.int 0)) sNil))) (yab (sLit (.int 40)) sNil))))
  (sSeq (sSet 3 (yah yc6 (yab (sVar 1) (yab (yah ybm (yab (sVar 0) (yab (sLit (.int 1)) sNil))) (yab (sVar 2) sNil)))))
  (sSeq (sSet 4 (yah ybm (yab (sVar 0) (yab (sLit (.int 2)) sNil))))
  (sSeq (sSet 5 (yaq 0 ybz (sVar 1) sNil))
  (sSeq (sFor (yb2 (sLit (.int 5))) (.nm 6) ydD)
  (sRet (ydQ (yah yaO (yab (sVar 1) (yab (sVar 3) (yab (sLst sNil) sNil)))) (ydQ (yah yaO (yab (sVar 1) (yab (sLit (.int 0)) (yab (sLst sNil) sNil)))) (sOp2 fEq (yaq 0 ybz (sVar 1) sNil) (sVar 5)))))))))))
end Sk
set_option exponentiation.threshold 2000
namespace Sk
open PySem PySem.Spec L2 Sm
theorem zfw {w:Option Nat} {all:List AV} {t:Tg} {b:SS} (P:Nat->En->AH->Prop):∀ (xs:List AV) (i:Nat) (en:En) (h:AH),P i en h ->
  (∀ i en h,P i en h->ybO w all h=true) ->
  (∀ (j:Nat) (x:AV) (en:En) (h:AH),xs[j]? = some x->P (i+j) en h->∃ e1 e2 h2,setT t x en=some e1/\(b e1 h = .nx e2 h2\/b e1 h = .ct e2 h2)/\P (i+j+1) e2 h2) ->
  ∃ e' h',ya8 w all t b xs en h = .nx e' h'/\P (i+xs.length) e' h'
 | [],i,en,h,p,lv,_=>⟨en,h,by unfold ya8;rw [if_pos (lv _ _ _ p)],p⟩
 | x::xs,i,en,h,p,lv,s=>by
  obtain ⟨e1,e2,h2,q1,q2,q3⟩:=s 0 x en h rfl p
  obtain ⟨e',h',r1,r2⟩:=zfw P xs (i+1) e2 h2 q3 lv fun j y en h e q=>by
   have:=s (j+1) y en h (by simpa using e) (by rw [show i+(j+1)=i+1+j by lia];exact q)
   rw [show i+(j+1)+1=i+1+j+1 by lia] at this
   exact this
  refine ⟨e',h',?_,by rw [List.length_cons,show i+(xs.length+1)=i+1+xs.length by lia];exact r2⟩
  unfold ya8
  rw [if_pos (lv _ _ _ p)]
  simp only [q1]
  rcases q2 with q2 | q2
  ·rw [q2];exact r1
  ·rw [q2];exact r1
theorem zck {α:Type} {js:List Nat} {en:En} {w:Option Nat} {all:List AV} {c:SB} {e:SE} {g f:α->AV} {p:α->Bool} {h:AH} (lv:ybO w all h=true):∀ (cs:List α) (ys:List AV),(∀ x∈cs,c (some (g x)::js.map fun j=>(en[j]?).join) h = .ok (p x) h)->(∀ x∈cs,p x=true->e (some (g x)::js.map fun j=>(en[j]?).join) h = .ok (f x) h)->ys.length+cs.length<=sizeLine ->
  ya2 js en w all c e (cs.map g) ys h = .ok (ys++(cs.filter p).map f) h
 | [],ys,_,_,_=>by rw [List.map_nil];unfold ya2;rw [if_pos lv];simp
 | x::xs,ys,hc,he,hl=>by
  have hl':ys.length<sizeLine:=by simp at hl;lia
  rw [List.map_cons]
  unfold ya2
  rw [if_pos ⟨lv,hl'⟩,hc x (by simp)]
  cases hp:p x with
  | false =>
   dsimp only
   rw [zck lv xs ys (fun y hy=>hc y (by simp [hy])) (fun y hy=>he y (by simp [hy])) (by simp at hl ⊢;lia)]
   simp [List.filter_cons,hp]
  | true =>
   dsimp only
   rw [he x (by simp) hp]
   dsimp only
   rw [zck lv xs (ys++[f x]) (fun y hy=>hc y (by simp [hy])) (fun y hy=>he y (by simp [hy])) (by simp at hl ⊢;lia)]
   simp [List.filter_cons,hp]
theorem zbd {α:Type} {js:List Nat} {en:En} {w:Option Nat} {all:List AV} {e:SE} {g f:α->AV} {h:AH} (lv:ybO w all h=true) (cs:List α) (ys:List AV) (he:∀ x∈cs,e (some (g x)::js.map fun j=>(en[j]?).join) h = .ok (f x) h) (hl:ys.length+cs.length<=sizeLine) :
  ya2 js en w all sYes e (cs.map g) ys h = .ok (ys++cs.map f) h:=by
 rw [zck (p:=fun _=>true) lv cs ys (fun _ _=>rfl) (fun x hx _=>he x hx) hl,List.filter_eq_self.mpr (fun _ _=>rfl)]
theorem zdT {c:SB} {b:SS} (P:Nat->En->AH->Prop) (Q:En->AH->Prop):∀ (fuel n:Nat) (en:En) (h:AH),P n en h->n<fuel ->
  (∀ n en h,P n en h->(∃ h1,c en h = .ok false h1/\Q en h1)\/(∃ n' h1 e2 h2,n'<n/\c en h = .ok true h1/\(b en h1 = .nx e2 h2\/b en h1 = .ct e2 h2)/\P n' e2 h2)) ->
  ∃ e' h',yaz c b fuel en h = .nx e' h'/\Q e' h'
 | 0,n,en,h,_,l,_=>absurd l (Nat.not_lt_zero _)
 | fuel+1,n,en,h,p,l,s=>by
  rcases s n en h p with ⟨h1,q1,q2⟩ | ⟨n',h1,e2,h2,q0,q1,q2,q3⟩
  ·refine ⟨en,h1,?_,q2⟩
   unfold yaz;rw [q1]
  ·obtain ⟨e',h',r1,r2⟩:=zdT P Q fuel n' e2 h2 q3 (by lia) s
   refine ⟨e',h',?_,r2⟩
   unfold yaz;rw [q1]
   rcases q2 with q2 | q2
   ·simp only [q2];exact r1
   ·simp only [q2];exact r1
@[simp] def thn (o:OutS) (Q:En->AH->Prop):Prop:=match o with
 | .nx e h=>Q e h
 | .ct e h=>Q e h
 | _=>False
theorem yfH {o:OutS} {Q:En->AH->Prop} (t:thn o Q):∃ e h,(o = .nx e h\/o = .ct e h)/\Q e h:=by
 cases o with
 | nx e h=>exact ⟨e,h,.inl rfl,t⟩
 | ct e h=>exact ⟨e,h,.inr rfl,t⟩
 | _=>exact t.elim
@[simp] def yhk (o:Option En) (Q:En->Prop):Prop:=match o with
 | some e=>Q e
 | none=>False
theorem ydw {w:Option Nat} {all:List AV} {t:Tg} {b:SS} {xs:List AV} {en:En} {h:AH} (P:Nat->En->AH->Prop) (p0:P 0 en h) (lv:∀ i en h,P i en h->ybO w all h=true)
  (st:∀ (j:Nat) (x:AV) (en:En) (h:AH),xs[j]? = some x->P j en h->yhk (setT t x en) fun e1=>thn (b e1 h) (P (j+1))) :
  ∃ e' h',ya8 w all t b xs en h = .nx e' h'/\P xs.length e' h' := by
 have:=zfw (w:=w) (all:=all) (t:=t) (b:=b) P xs 0 en h p0 lv fun j x en h hx hp=>by
  have q:=st j x en h hx (by simpa using hp)
  cases z:setT t x en with
  | none=>rw [z] at q;exact q.elim
  | some e1 =>
   rw [z] at q
   obtain ⟨e,h2,a,c⟩:=yfH q
   exact ⟨e1,e,h2,rfl,a,by simpa using c⟩
 simpa using this
theorem zfx {c:SB} {b:SS} {fuel n:Nat} {en:En} {h:AH} (P:Nat->En->AH->Prop) (Q:En->AH->Prop) (p0:P n en h) (hn:n<fuel)
  (st:∀ n en h,P n en h->match c en h with
   | .ok true h1=>thn (b en h1) fun e2 h2=>∃ n',n'<n/\P n' e2 h2
   | .ok false h1=>Q en h1
   | _=>False) :
  ∃ e' h',yaz c b fuel en h = .nx e' h'/\Q e' h' := by
 refine zdT P Q fuel n en h p0 hn fun n en h p=>?_
 have q:=st n en h p
 cases z:c en h with
 | ok x h1 =>
  rw [z] at q
  cases x with
  | true =>
   obtain ⟨e,h2,a,n',l,c⟩:=yfH q
   exact .inr ⟨n',h1,e,h2,l,rfl,a,c⟩
  | false=>exact .inl ⟨h1,rfl,q⟩
 | ex _ _=>rw [z] at q;exact q.elim
 | bad=>rw [z] at q;exact q.elim
@[simp] def yiu (o:Out AV) (Q:AV->AH->Prop):Prop:=match o with
 | .ok v h=>Q v h
 | _=>False
theorem zfy {js:List Nat} {en:En} {all:List AV} {e:SE} (P:Nat->List AV->AH->Prop):∀ (xs ys:List AV) (i:Nat) (h:AH),P i ys h ->
  (∀ j x ys h,xs[j]? = some x->P (i+j) ys h->∃ v h2,e (some x::js.map fun j=>(en[j]?).join) h = .ok v h2/\P (i+j+1) (ys++[v]) h2)->ys.length+xs.length<=sizeLine ->
  ∃ zs h',ya2 js en none all sYes e xs ys h = .ok zs h'/\P (i+xs.length) zs h'
 | [],ys,i,h,p,_,_=>⟨ys,h,by simp [ya2],p⟩
 | x::xs,ys,i,h,p,s,hl=>by
  obtain ⟨v,h2,q1,q2⟩:=s 0 x ys h rfl p
  obtain ⟨zs,h',r1,r2⟩:=zfy P xs (ys++[v]) (i+1) h2 q2 (fun j y ys h hy hp=>by
   have:=s (j+1) y ys h (by simpa using hy) (by rw [show i+(j+1)=i+1+j by lia];exact hp)
   rw [show i+(j+1)+1=i+1+j+1 by lia] at this
   exact this) (by simp at hl ⊢;lia)
  refine ⟨zs,h',?_,by rw [List.length_cons,show i+(xs.length+1)=i+1+xs.length by lia];exact r2⟩
  unfold ya2
  rw [if_pos ⟨rfl,by simp at hl;lia⟩]
  simp only [sYes]
  rw [q1]
  exact r1
theorem yhl {js:List Nat} {en:En} {all:List AV} {e:SE} {xs:List AV} {h:AH} (P:Nat->List AV->AH->Prop) (p0:P 0 [] h)
  (st:∀ j x ys h,xs[j]? = some x->P j ys h->yiu (e (some x::js.map fun j=>(en[j]?).join) h) fun v h2=>P (j+1) (ys++[v]) h2) (hl:xs.length<=sizeLine) :
  ∃ zs h',ya2 js en none all sYes e xs [] h = .ok zs h'/\P xs.length zs h' := by
 have:=zfy (js:=js) (en:=en) (all:=all) (e:=e) P xs [] 0 h p0 (fun j x ys h hx p=>by
  have q:=st j x ys h hx (by simpa using p)
  cases z:e (some x::js.map fun j=>(en[j]?).join) h with
  | ok v h2=>rw [z] at q;exact ⟨v,h2,rfl,by simpa using q⟩
  | ex _ _=>rw [z] at q;exact q.elim
  | bad=>rw [z] at q;exact q.elim) (by simpa using hl)
 simpa using this
theorem zcl:∀ (n:Nat) (lo:Int) (i:Nat),(ybb lo n)[i]? = if i<n then some (.int (lo+i)) else none
 | 0,lo,i=>by simp [ybb]
 | n+1,lo,0=>by simp [ybb]
 | n+1,lo,i+1=>by
  unfold ybb
  rw [List.getElem?_cons_succ,zcl n (lo+1) i]
  by_cases q:i<n
  ·rw [if_pos q,if_pos (by lia)];congr 2;lia
  ·rw [if_neg q,if_neg (by lia)]
theorem zbn:∀ (n:Nat) (lo:Int),(ybb lo n).length=n
 | 0,_=>rfl
 | n+1,lo=>by unfold ybb;rw [List.length_cons,zbn n]
theorem zby {a:SE} {en:En} {h h1:AH} {n:Nat} (e:a en h = .ok (.int n) h1) (hn:n<=10000000):yb2 a en h = .ok (ybb 0 n,none) h1:=by
 have h1':(n:Int).natAbs<2 ^ 62:=by lia
 simp only [yb2,e,Out.bind]
 rw [if_pos h1'];rfl
theorem ycJ {it:SI} {t:Tg} {b:SS} {en:En} {h h1:AH} {xs:List AV} {w:Option Nat} (e:it en h = .ok (xs,w) h1):sFor it t b en h=ya8 w xs t b xs en h1:=by simp only [sFor,e]
theorem yhm {i j:Int} {h:AH} (hi:i.natAbs<2 ^ 64):fMul (.int i) (.int j) h = .ok (.int (i*j)) h:=if_pos (.inl (.inl hi))
theorem yhn {i j:Int} {h:AH} (hj:j.natAbs<2 ^ 64):fMul (.int i) (.int j) h = .ok (.int (i*j)) h:=if_pos (.inl (.inr hj))
theorem zer {α:Type} {f:α->AV} {l:List α} {j:Nat} {q:α} (e:l[j]? = some q):atI (l.map f) (j:Int)=some (f q):=zdp (by simp [e])
end Sk
set_option exponentiation.threshold 5000
namespace Sk
open PySem PySem.Spec L2 Sm
def ydf (c:Nat):Bool:=decide (c=10) || (decide (32<=c) && decide (c<=126))
theorem lt1 (a b:Nat):([a]<[b]) ↔ a<b:=by
 simp [List.cons_lt_cons_iff]
theorem ye3:(Str.ofString "\n")=⟨#[10]⟩:=by decide +kernel
theorem yfI:(Str.ofString " ")=⟨#[32]⟩:=by decide +kernel
theorem yfJ:(Str.ofString "~")=⟨#[126]⟩:=by decide +kernel
theorem yfK (c:Nat) (h:AH):ycn [.str ⟨#[c]⟩] h = .ok (.bl (ydf c)) h:=by
 simp [ycn,ye3,yfI,yfJ,lt1,ydf]
 by_cases h1:c=10
 ·simp [h1]
 ·by_cases h2:c<32
  ·have : ¬ 32<=c:=by lia
   simp [h1,h2,this]
  ·have h3:32<=c:=by lia
   by_cases h4:c<=126
   ·have : ¬ 126<c:=by lia
    simp [h1,h2,h3,h4,this]
   ·have:126<c:=by lia
    simp [h1,h2,h3,h4,this]
theorem zes {α:Type} {js:List Nat} {en:En} {all:List AV} {e:SE} {g f:α->AV} {h:AH}:∀ (cs:List α) (ys:List AV),(∀ c∈cs,e (some (g c)::js.map fun j=>(en[j]?).join) h = .ok (f c) h)->ys.length+cs.length<=sizeLine->ya2 js en none all sYes e (cs.map g) ys h = .ok (ys++cs.map f) h
 | [],ys,_,_=>by simp [ya2]
 | x::xs,ys,he,hl=>by
  have hl':ys.length<sizeLine:=by simp at hl;lia
  rw [List.map_cons]
  unfold ya2
  rw [if_pos ⟨rfl,hl'⟩]
  simp only [sYes]
  rw [he x (by simp)]
  dsimp only
  rw [zes xs (ys++[f x]) (fun y hy=>he y (by simp [hy])) (by simp at hl ⊢;lia)]
  simp
theorem zdU (f:Nat->Bool):∀ cs:List Nat,yd6 (cs.map fun c=>.bl (f c))=some (cs.map f)
 | []=>rfl
 | c::cs=>by simp [zdU f cs]
def yau (x:Str):Bool:=x.cps.toList.all ydf
theorem zfz (x:Str) (h:AH) (hl:x.length<=sizeLine):ycD [.str x] h = .ok (.bl (yau x)) h:=by
 have e:=zes (js:=[]) (en:=[some (.str x)]) (all:=x.cps.toList.map fun c=>AV.str ⟨#[c]⟩) (e:=yah ycn (yab (sVar 0) sNil)) (g:=fun c=>AV.str ⟨#[c]⟩) (f:=fun c=>AV.bl (ydf c)) (h:=h) x.cps.toList [] (by
  intro c hc
  simp [yfK]) (by simp;exact hl)
 simp only [List.nil_append] at e
 simp [ycD]
 rw [e]
 simp [zdU,yau]
def ybk (x:Str):Bool:=yau x && (decide (1<=x.length) && decide (x.length<=8))
theorem zcE (x:Str) (h:AH) (hl:x.length<=sizeLine):ybw [.str x] h = .ok (.bl (ybk x)) h:=by
 simp [ybw,zfz x h hl,ybk]
 by_cases h1:yau x=true
 ·by_cases h2:1<=x.length
  ·have:(1:Int)<=x.length:=by lia
   by_cases h3:x.length<=8
   ·have:(x.length:Int)<=8:=by lia
    simp [*]
   ·have : ¬ (x.length:Int)<=8:=by lia
    simp [*]
  ·have : ¬ (1:Int)<=x.length:=by lia
   simp [*]
 ·simp [h1]
def ydW (x:Str):Nat:=(Builtin.Str.occurrences x ⟨#[10]⟩ 0 x.length (x.length+1)).length
theorem yho (x:Str) (h:AH):yd1 [.str x] h = .ok (.int (ydW x)) h:=by
 simp [yd1,ye3,ydW]
theorem zi0 (i:Int) (h:AH):yc4 [.int i] h = .ok (.bl true) h:=by
 simp [yc4]
inductive Pc where
 | leaf (x:Str)
 | fork (a b:Nat)
 deriving DecidableEq
def Pc.av:Pc->AV
 | .leaf x=>.tup [.str "leaf",.str x]
 | .fork a b=>.tup [.str "fork",.int a,.int b]
theorem Pc.av_inj:∀ {p q:Pc},p.av=q.av->p=q
 | .leaf x,.leaf y,e=>by simp [Pc.av] at e;rw [e]
 | .leaf x,.fork a b,e=>by simp [Pc.av] at e
 | .fork a b,.leaf x,e=>by simp [Pc.av] at e
 | .fork a b,.fork c d,e=>by simp [Pc.av] at e;rw [Int.ofNat.inj e.1,Int.ofNat.inj e.2]
structure Ms where
 sg:Nat
 en:Nat
 lv:Nat
 ht:Int
 fl:Nat
 ll:Nat
def ms0:Ms:=⟨0,0,0,-1,0,0⟩
def ydx (ms:List Ms):Pc->Ms
 | .leaf x=>⟨x.length,ydW x,1,0,ms.length,ms.length⟩
 | .fork a b=>⟨(ms.getD a ms0).sg+(ms.getD b ms0).sg,(ms.getD a ms0).en+(ms.getD b ms0).en,(ms.getD a ms0).lv+(ms.getD b ms0).lv,max (ms.getD a ms0).ht (ms.getD b ms0).ht+1,(ms.getD a ms0).fl,(ms.getD b ms0).ll⟩
def meas (ps:List Pc):List Ms:=ps.foldl (fun ms q=>ms++[ydx ms q]) [ms0]
theorem zcm (ps:List Pc) (q:Pc):meas (ps++[q])=meas ps++[ydx (meas ps) q]:=by simp [meas]
theorem zar:∀ ps:List Pc,(meas ps).length=ps.length+1:=by
 have all:∀ (ps:List Pc) (ms:List Ms),(ps.foldl (fun ms q=>ms++[ydx ms q]) ms).length=ms.length+ps.length:=by
  intro ps
  induction ps with
  | nil=>intro ms;rfl
  | cons q r ih=>intro ms;rw [List.foldl_cons,ih];simp;lia
 intro ps
 rw [meas,all];simp;lia
def ybG (k:Nat):List Pc->List (AV×AV)
 | []=>[]
 | q::r=>(q.av,.int k)::ybG (k+1) r
def tab (ps:List Pc):List (AV×AV):=ybG 1 ps
theorem za8 (q:Pc):∀ (ps:List Pc) (k:Nat),ybG k (ps++[q])=ybG k ps++[(q.av,.int ((k+ps.length:Nat):Int))]
 | [],k=>by simp [ybG]
 | p::r,k=>by
  simp only [List.cons_append,ybG,za8 q r (k+1)]
  rw [show k+1+r.length=k+(p::r).length by simp;lia]
theorem zfA:∀ (ps:List Pc) (k:Nat),(ybG k ps).length=ps.length
 | [],_=>rfl
 | p::r,k=>by simp [ybG,zfA r]
theorem zbT {q:Pc}:∀ {ps:List Pc} {k:Nat},q∉ps->valA (ybG k ps) q.av=none
 | [],k,_=>rfl
 | p::r,k,h=>by
  have h1 : ¬ p.av=q.av:=fun e=>h (by rw [Pc.av_inj e];simp)
  have h2:=zbT (q:=q) (ps:=r) (k:=k+1) fun z=>h (by simp [z])
  unfold valA at h2 ⊢
  simp only [ybG,List.find?_cons,decide_eq_false h1]
  exact h2
theorem zc3 {q:Pc}:∀ {ps:List Pc} {k i:Nat},ps.Nodup->ps[i]? = some q->valA (ybG k ps) q.av=some (.int ((k+i:Nat):Int))
 | [],k,i,_,e=>by simp at e
 | p::r,k,0,n,e=>by simp at e;subst e;simp [valA,ybG]
 | p::r,k,i+1,n,e=>by
  simp at e
  have h1 : ¬ p.av=q.av:=fun z=>(List.nodup_cons.mp n).1 (by rw [Pc.av_inj z];exact List.mem_of_getElem? e)
  have h2:=zc3 (q:=q) (k:=k+1) (List.nodup_cons.mp n).2 e
  unfold valA at h2 ⊢
  simp only [ybG,List.find?_cons,decide_eq_false h1]
  rw [h2]
  congr 3
  lia
theorem zi1 {q:Pc} {ps:List Pc} (h:q∉ps):putA (tab ps) q.av (.int ((ps.length+1:Nat):Int))=tab (ps++[q]):=by
 unfold putA
 rw [zfq,tab,zbT h,tab,za8]
 simp [Nat.add_comm]
structure ShelfAt (h:AH) (p:Nat) (ps:List Pc):Prop where
 ob:h[p]? = some (.ins 0 [some (.ref (p+1)),some (.ref (p+2)),some (.ref (p+3)),some (.ref (p+4)),some (.ref (p+5)),some (.ref (p+6)),some (.ref (p+7)),some (.ref (p+8))])
 h1:h[p+1]? = some (.lst (ps.map Pc.av))
 h2:h[p+2]? = some (.dct true (tab ps))
 h3:h[p+3]? = some (.lst ((meas ps).map fun m=>.int m.sg))
 h4:h[p+4]? = some (.lst ((meas ps).map fun m=>.int m.en))
 h5:h[p+5]? = some (.lst ((meas ps).map fun m=>.int m.lv))
 h6:h[p+6]? = some (.lst ((meas ps).map fun m=>.int m.ht))
 h7:h[p+7]? = some (.lst ((meas ps).map fun m=>.int m.fl))
 h8:h[p+8]? = some (.lst ((meas ps).map fun m=>.int m.ll))
def ycT (h:AH) (p:Nat) (ps:List Pc):AH :=
 (((((((h.set (p+1) (.lst (ps.map Pc.av))).set (p+2) (.dct true (tab ps))).set (p+3) (.lst ((meas ps).map fun m=>.int m.sg))).set (p+4) (.lst ((meas ps).map fun m=>.int m.en))).set (p+5) (.lst ((meas ps).map fun m=>.int m.lv))).set
  (p+6) (.lst ((meas ps).map fun m=>.int m.ht))).set (p+7) (.lst ((meas ps).map fun m=>.int m.fl))).set (p+8) (.lst ((meas ps).map fun m=>.int m.ll))
theorem yaS {h:AH} {i:Nat} {o:AO} (e:h[i]? = some o):i<h.length:=(List.getElem?_eq_some_iff.mp e).1
theorem zdV (h:AH) (p:Nat) (ps:List Pc):(ycT h p ps).length=h.length:=by simp [ycT]
theorem zet {h:AH} {p q:Nat} {ps:List Pc} (hq:q<=p\/p+8<q):(ycT h p ps)[q]? = h[q]? := by
 unfold ycT
 repeat rw [List.getElem?_set_ne (by lia)]
theorem zbU {h:AH} {p:Nat} {ps ps':List Pc} (S:ShelfAt h p ps):ShelfAt (ycT h p ps') p ps' := by
 have b:=yaS S.h8
 have l1:p+1<h.length:=Nat.lt_of_le_of_lt (Nat.add_le_add_left (by decide) p) b
 have l2:p+2<h.length:=Nat.lt_of_le_of_lt (Nat.add_le_add_left (by decide) p) b
 have l3:p+3<h.length:=Nat.lt_of_le_of_lt (Nat.add_le_add_left (by decide) p) b
 have l4:p+4<h.length:=Nat.lt_of_le_of_lt (Nat.add_le_add_left (by decide) p) b
 have l5:p+5<h.length:=Nat.lt_of_le_of_lt (Nat.add_le_add_left (by decide) p) b
 have l6:p+6<h.length:=Nat.lt_of_le_of_lt (Nat.add_le_add_left (by decide) p) b
 have l7:p+7<h.length:=Nat.lt_of_le_of_lt (Nat.add_le_add_left (by decide) p) b
 have ob:=S.ob
 constructor<;>simp [ycT,List.getElem?_set,l1,l2,l3,l4,l5,l6,l7,b,ob,-List.getElem?_eq_getElem]
theorem lenA {α:Type} (l:List α) (f:α->AV):(l.map f).length=l.length:=by simp
theorem ye4 {h:AH} {p:Nat} {ps:List Pc} (S:ShelfAt h p ps):ybz [.ref p] h = .ok (.int ps.length) h:=by
 simp [ybz,S.ob,S.h1]
theorem yeB {h:AH} {p:Nat} {ps:List Pc} {i:Int} (S:ShelfAt h p ps):yaK [.ref p,.int i] h = .ok (.bl (decide (1<=i/\i<=ps.length))) h:=by
 simp [yaK,zi0,S.ob,S.h1]
 by_cases h1:1<=i<;>simp [h1]
theorem zbV {h:AH} {p:Nat} {ps:List Pc} {i:Int} (S:ShelfAt h p ps) (hi:1<=i/\i<=ps.length):ybe [.ref p,.int i] h = .ok .non h:=by
 simp [ybe,yeB S,S.ob,hi.1,hi.2]
theorem zak {α:Type} {f:α->AV} {l:List α} {j:Nat} {q:α} (e:l[j]? = some q):atI (l.map f) (j:Int)=some (f q):=zdp (by simp [e])
theorem zi2 {h:AH} {p:Nat} {ps:List Pc} {j:Nat} {q:Pc} (S:ShelfAt h p ps) (e:ps[j]? = some q):yaC [.ref p,.int ((j:Int)+1)] h = .ok q.av h:=by
 have hj:=(List.getElem?_eq_some_iff.mp e).1
 have h1:=zbV S (i:=(j:Int)+1) ⟨by lia,by lia⟩
 simp [yaC,h1,S.ob,S.h1,zak e]
theorem ygg {h:AH} {p:Nat} {ps:List Pc} {q:Pc} (S:ShelfAt h p ps) (hq:q∉ps) (hl:ps.length<16000000) :
  ydd [.ref p,q.av] h = .ok (.int ((ps.length+1:Nat):Int)) ((h.set (p+1) (.lst ((ps++[q]).map Pc.av))).set (p+2) (.dct true (tab (ps++[q])))):=by
 have b:=yaS S.h8
 have hs:ps.length<sizeLine:=Nat.lt_trans hl (by decide)
 have ht:(tab ps).length<sizeLine:=by rw [tab,zfA];exact hs
 have hk:ydR true q.av=true:=by cases q<;>simp [Pc.av]
 have e1:(h.set (p+1) (.lst (ps.map Pc.av++[q.av])))[p]? = h[p]? := List.getElem?_set_ne (by lia)
 have e2:(h.set (p+1) (.lst (ps.map Pc.av++[q.av])))[p+1]? = some (.lst (ps.map Pc.av++[q.av])):=List.getElem?_set_self (by lia)
 have e3:(h.set (p+1) (.lst (ps.map Pc.av++[q.av])))[p+2]? = h[p+2]? := List.getElem?_set_ne (by lia)
 have tp:=zi1 hq
 simp [ydd,S.ob,S.h1,hs,e1,e2,e3,S.h2,hk,ht,-ydR]
 rw [show ((ps.length:Int)+1)=((ps.length+1:Nat):Int) by simp,tp]
theorem zg7 {h:AH} {p:Nat} {ps:List Pc} {x:Str} (S:ShelfAt h p ps) (hq:Pc.leaf x∉ps) (hl:ps.length<16000000) :
  ycc [.ref p,(Pc.leaf x).av] h = .ok .non (ycT h p (ps++[.leaf x])):=by
 have b:=yaS S.h8
 have hs:ps.length+1<sizeLine:=Nat.lt_of_lt_of_le (Nat.succ_lt_succ hl) (by decide)
 have hm:(meas ps).length<sizeLine:=by rw [zar];exact hs
 have e:=ygg S hq hl
 have b2:((meas ps).length:Int)=(ps.length:Int)+1:=by rw [zar];simp
 have e2:fIx (Pc.leaf x).av (.int 1)=fun h=>Out.ok (.str x) h:=by funext h;rfl
 have l1:p+1<h.length:=by lia
 have l2:p+2<h.length:=by lia
 have l3:p+3<h.length:=by lia
 have l4:p+4<h.length:=by lia
 have l5:p+5<h.length:=by lia
 have l6:p+6<h.length:=by lia
 have l7:p+7<h.length:=by lia
 simp [ycc,e,S.ob,S.h3,S.h4,S.h5,S.h6,S.h7,S.h8,hm,yho,List.getElem?_set,zcm,ydx,ycT,e2,zar,hs,-fIx,-List.getElem?_eq_getElem]
theorem zfB {α:Type} {l:List α} {i:Nat} {d x:α} (e:l[i]? = some x):l.getD i d=x:=by simp [List.getD,e]
theorem zg8 {h:AH} {p:Nat} {ps:List Pc} {a b:Nat} {ma mb:Ms} (S:ShelfAt h p ps) (hq:Pc.fork a b∉ps) (hl:ps.length<16000000) (ha:(meas ps)[a]? = some ma) (hb:(meas ps)[b]? = some mb) :
  yca [.ref p,(Pc.fork a b).av] h = .ok .non (ycT h p (ps++[.fork a b])):=by
 have bb:=yaS S.h8
 have hs:ps.length+1<sizeLine:=Nat.lt_of_lt_of_le (Nat.succ_lt_succ hl) (by decide)
 have hm:(meas ps).length<sizeLine:=by rw [zar];exact hs
 have e:=ygg S hq hl
 have e2:fIx (Pc.fork a b).av (.int 1)=fun h=>Out.ok (.int a) h:=by funext h;rfl
 have e3:fIx (Pc.fork a b).av (.int 2)=fun h=>Out.ok (.int b) h:=by funext h;rfl
 have l1:p+1<h.length:=by lia
 have l2:p+2<h.length:=by lia
 have l3:p+3<h.length:=by lia
 have l4:p+4<h.length:=by lia
 have l5:p+5<h.length:=by lia
 have l6:p+6<h.length:=by lia
 have l7:p+7<h.length:=by lia
 have fx:∀ (n:Nat) (g:Ms->AV) (h':AH),h'[n]? = some (.lst ((meas ps).map g))->fIx (.ref n) (.int a) h' = .ok (g ma) h'/\fIx (.ref n) (.int b) h' = .ok (g mb) h' := fun n g h' e=>by
  simp [fIx,e,zak ha,zak hb]
 have f3:=fun (h':AH) (e:h'[p+3]? = some (.lst ((meas ps).map fun m=>.int m.sg)))=>fx _ _ h' e
 have f4:=fun (h':AH) (e:h'[p+4]? = some (.lst ((meas ps).map fun m=>.int m.en)))=>fx _ _ h' e
 have f5:=fun (h':AH) (e:h'[p+5]? = some (.lst ((meas ps).map fun m=>.int m.lv)))=>fx _ _ h' e
 have f6:=fun (h':AH) (e:h'[p+6]? = some (.lst ((meas ps).map fun m=>.int m.ht)))=>fx _ _ h' e
 have f7:=fun (h':AH) (e:h'[p+7]? = some (.lst ((meas ps).map fun m=>.int m.fl)))=>fx _ _ h' e
 have f8:=fun (h':AH) (e:h'[p+8]? = some (.lst ((meas ps).map fun m=>.int m.ll)))=>fx _ _ h' e
 have hmax:∀ i j:Int,(if j > i then j else i)=max i j:=fun i j=>by split<;>lia
 simp [yca,e,S.ob,S.h3,S.h4,S.h5,S.h6,S.h7,S.h8,hm,List.getElem?_set,zcm,ydx,ycT,e2,e3,zar,hs,zak ha,zak hb,zfB ha,zfB hb,-fIx,-List.getElem?_eq_getElem,-List.getD_eq_getElem?_getD,f3,f4,f5,f6,f7,f8,hmax]
theorem zbW {h:AH} {p:Nat} {ps:List Pc} {x:Str} {i:Nat} (S:ShelfAt h p ps) (nd:ps.Nodup) (hx:ybk x=true) (hl:x.length<=sizeLine) (e:ps[i]? = some (.leaf x)):ya6 [.ref p,.str x] h = .ok (.int ((i+1:Nat):Int)) h:=by
 have t:=zc3 (k:=1) nd e
 have t':valA (tab ps) (.tup [.str "leaf",.str x])=some (.int ((i+1:Nat):Int)):=by rw [Nat.add_comm];exact t
 simp [ya6,zcE x h hl,hx,S.ob,S.h2,t']
theorem zgq {h:AH} {p:Nat} {ps:List Pc} {x:Str} (S:ShelfAt h p ps) (hx:ybk x=true) (hl:x.length<=sizeLine) (hq:Pc.leaf x∉ps) (hz:ps.length<16000000):ya6 [.ref p,.str x] h = .ok (.int ((ps.length+1:Nat):Int)) (ycT h p (ps++[.leaf x])):=by
 have t:valA (tab ps) (.tup [.str "leaf",.str x])=none:=zbT (q:=.leaf x) (k:=1) hq
 have S2:=zbU (ps' := ps++[.leaf x]) S
 have e:=zg7 S hq hz
 have t2:valA (tab (ps++[.leaf x])) (.tup [.str "leaf",.str x])=some (.int ((ps.length+1:Nat):Int)):=by
  unfold tab
  rw [za8]
  unfold valA at t ⊢
  rw [List.find?_append]
  have t3:(ybG 1 ps).find? (fun p=>decide (p.1 = .tup [.str "leaf",.str x]))=none:=by simpa [tab] using t
  rw [t3]
  simp [Pc.av,Nat.add_comm]
 have e':ycc [.ref p,.tup [.str "leaf",.str x]] h = .ok .non (ycT h p (ps++[.leaf x])):=e
 simp [ya6,zcE x h hl,hx,S.ob,S.h2,t,e',S2.ob,S2.h2,t2]
theorem zhU {h:AH} {p:Nat} {ps:List Pc} {a b:Nat} {ma mb la fb:Ms} (S:ShelfAt h p ps) (ha:(meas ps)[a]? = some ma) (hb:(meas ps)[b]? = some mb) (pa:1<=a) (pb:1<=b) (hla:(meas ps)[ma.ll]? = some la) (hfb:(meas ps)[mb.fl]? = some fb) :
  ybc [.ref p,.int a,.int b] h=if la.sg+fb.sg<=8 then .ex yf2 h else if 1<(ma.ht-mb.ht).natAbs then .ex yfj h else if 1000000000000000000<ma.sg+mb.sg then .ex yfk h else .ok .non h:=by
 have la_:=(List.getElem?_eq_some_iff.mp ha).1
 have lb_:=(List.getElem?_eq_some_iff.mp hb).1
 rw [zar] at la_ lb_
 have c1:=zbV S (i:=(a:Int)) ⟨by lia,by lia⟩
 have c2:=zbV S (i:=(b:Int)) ⟨by lia,by lia⟩
 by_cases d1:la.sg+fb.sg<=8
 ·have d1':((la.sg:Int)+fb.sg)<=8:=by lia
  simp [ybc,c1,c2,S.ob,S.h3,S.h5,S.h6,S.h7,S.h8,zak ha,zak hb,zak hla,zak hfb,d1,d1']
 ·have d1' : ¬ ((la.sg:Int)+fb.sg)<=8:=by lia
  by_cases d2:1<(ma.ht-mb.ht).natAbs
  ·have d2':(1:Int)<(if ma.ht-mb.ht<0 then -(ma.ht-mb.ht) else ma.ht-mb.ht):=by split<;>lia
   simp [ybc,c1,c2,S.ob,S.h3,S.h5,S.h6,S.h7,S.h8,zak ha,zak hb,zak hla,zak hfb,d1,d1',d2,d2',-Int.neg_sub]
  ·have d2' : ¬ (1:Int)<(if ma.ht-mb.ht<0 then -(ma.ht-mb.ht) else ma.ht-mb.ht):=by split<;>lia
   by_cases d3:1000000000000000000<ma.sg+mb.sg
   ·have d3':(1000000000000000000:Int)<(ma.sg:Int)+mb.sg:=by lia
    simp [ybc,c1,c2,S.ob,S.h3,S.h5,S.h6,S.h7,S.h8,zak ha,zak hb,zak hla,zak hfb,d1,d1',d2,d2',d3,d3',-Int.neg_sub]
   ·have d3' : ¬ (1000000000000000000:Int)<(ma.sg:Int)+mb.sg:=by lia
    simp [ybc,c1,c2,S.ob,S.h3,S.h5,S.h6,S.h7,S.h8,zak ha,zak hb,zak hla,zak hfb,d1,d1',d2,d2',d3,d3',-Int.neg_sub]
structure ForkOk (ps:List Pc) (a b:Nat):Prop where
 pa:1<=a
 pb:1<=b
 ex:∃ ma mb la fb,(meas ps)[a]? = some ma/\(meas ps)[b]? = some mb/\(meas ps)[ma.ll]? = some la/\(meas ps)[mb.fl]? = some fb/\8<la.sg+fb.sg/\(ma.ht-mb.ht).natAbs<=1/\ma.sg+mb.sg<=1000000000000000000
theorem zcR {h:AH} {p:Nat} {ps:List Pc} {a b:Nat} (S:ShelfAt h p ps) (F:ForkOk ps a b):ybc [.ref p,.int a,.int b] h = .ok .non h:=by
 obtain ⟨ma,mb,la,fb,h1,h2,h3,h4,h5,h6,h7⟩:=F.ex
 rw [zhU S h1 h2 F.pa F.pb h3 h4,if_neg (by lia),if_neg (by lia),if_neg (by lia)]
theorem zbX {h:AH} {p:Nat} {ps:List Pc} {a b i:Nat} (S:ShelfAt h p ps) (nd:ps.Nodup) (F:ForkOk ps a b) (e:ps[i]? = some (.fork a b)):yaf [.ref p,.int a,.int b] h = .ok (.int ((i+1:Nat):Int)) h:=by
 have t:=zc3 (k:=1) nd e
 have t':valA (tab ps) (.tup [.str "fork",.int a,.int b])=some (.int ((i+1:Nat):Int)):=by rw [Nat.add_comm];exact t
 simp [yaf,zcR S F,S.ob,S.h2,t']
theorem zgr {h:AH} {p:Nat} {ps:List Pc} {a b:Nat} (S:ShelfAt h p ps) (F:ForkOk ps a b) (hq:Pc.fork a b∉ps) (hz:ps.length<16000000):yaf [.ref p,.int a,.int b] h = .ok (.int ((ps.length+1:Nat):Int)) (ycT h p (ps++[.fork a b])):=by
 have t:valA (tab ps) (.tup [.str "fork",.int a,.int b])=none:=zbT (q:=.fork a b) (k:=1) hq
 have S2:=zbU (ps' := ps++[.fork a b]) S
 obtain ⟨ma,mb,la,fb,h1,h2,_⟩:=F.ex
 have e:=zg8 S hq hz h1 h2
 have t2:valA (tab (ps++[.fork a b])) (.tup [.str "fork",.int a,.int b])=some (.int ((ps.length+1:Nat):Int)):=by
  unfold tab
  rw [za8]
  unfold valA at t ⊢
  rw [List.find?_append]
  have t3:(ybG 1 ps).find? (fun p=>decide (p.1 = .tup [.str "fork",.int a,.int b]))=none:=by simpa [tab] using t
  rw [t3]
  simp [Pc.av,Nat.add_comm]
 have e':yca [.ref p,.tup [.str "fork",.int a,.int b]] h = .ok .non (ycT h p (ps++[.fork a b])):=e
 simp [yaf,zcR S F,S.ob,S.h2,t,e',S2.ob,S2.h2,t2]
def ydl (n:Nat):List AO:=[.ins 0 [some (.ref (n+1)),some (.ref (n+2)),some (.ref (n+3)),some (.ref (n+4)),some (.ref (n+5)),some (.ref (n+6)),some (.ref (n+7)),some (.ref (n+8))],.lst [],.dct true [],.lst [.int 0],.lst [.int 0],.lst [.int 0],.lst [.int (-1)],.lst [.int 0],.lst [.int 0]]
theorem zfC {h:AH} {o o':AO} {r:AH}:(h++o::r).set h.length o'=h++o'::r:=by
 induction h with
 | nil=>rfl
 | cons x t ih=>simp [ih]
theorem yhp (en:En) (h:AH):yeM 0 8 ycY sNil en h = .ok (.ref h.length) (h++ydl h.length):=by
 simp [ycY,ydl,List.getElem?_append,zfC]
theorem yfL {h r:AH} {k:Nat}:(h++r)[h.length+k]? = r[k]? := by
 rw [List.getElem?_append_right (by lia)];simp
theorem yhq (h r:AH):ShelfAt (h++(ydl h.length++r)) h.length []:=by
 refine ⟨?_,?_,?_,?_,?_,?_,?_,?_,?_⟩
 ·rw [show h.length=h.length+0 from rfl,yfL];rfl
 all_goals (rw [yfL];rfl)
theorem zfD (x:Str) (c i:Nat) (hi:i<x.length):Builtin.Str.subAt x ⟨#[c]⟩ i=decide (x.cps.toList[i]? = some c):=by
 have hi':i<x.cps.size:=hi
 unfold Builtin.Str.subAt
 have e:x.cps.extract i (i+1) = #[x.cps[i]]:=by
  apply Array.ext
  ·simp;lia
  ·intro j h1 h2
   have:j=0:=by simp at h2;lia
   subst this
   simp
 show (x.cps.extract i (i+1) == #[c])=_
 rw [e]
 have:x.cps.toList[i]? = some x.cps[i]:=by simp [hi']
 rw [this]
 by_cases q:x.cps[i]=c
 ·simp [q]
 ·simp [q]
theorem yeC (x:Str) (c:Nat):∀ (n i:Nat) (st:Array Nat×Nat),i+n=x.length+1->st.2<=i->st.1.size<=i->(forIn (List.range' i n) st (StrLaws.occBody x ⟨#[c]⟩ x.length (x.length+1))).run.fst.size=st.1.size+(x.cps.toList.drop i).count c
 | 0,i,st,hn,_,_=>by
  rw [List.drop_of_length_le (by simp;simp only [Str.length] at hn;lia)]
  simp
 | n+1,i,st,hn,h2,h3=>by
  rw [List.range'_succ,List.forIn_cons]
  unfold StrLaws.occBody
  by_cases hi:i<x.length
  ·have hi':i<x.cps.size:=hi
   have hd:x.cps.toList.drop i=x.cps[i]'hi'::x.cps.toList.drop (i+1):=by
    rw [List.drop_eq_getElem_cons (show i<x.cps.toList.length by simpa using hi')];simp
   have hg:x.cps.toList[i]? = some (x.cps[i]'hi'):=by
    simp [hi']
   by_cases q:x.cps[i]'hi'=c
   ·have hs:Builtin.Str.subAt x ⟨#[c]⟩ i=true:=by rw [zfD x c i hi,hg,q];simp
    rw [if_pos ⟨⟨⟨by lia,h2⟩,hi⟩,hs⟩]
    show (forIn (List.range' (i+1) n) (st.1.push i,i+1) (StrLaws.occBody x ⟨#[c]⟩ x.length (x.length+1))).run.fst.size=_
    rw [yeC x c n (i+1) _ (by lia) (Nat.le_refl _) (by simp;lia),hd,q]
    simp;lia
   ·have hs:Builtin.Str.subAt x ⟨#[c]⟩ i=false:=by rw [zfD x c i hi,hg];simp [q]
    rw [if_neg (by simp [hs])]
    show (forIn (List.range' (i+1) n) (st.1,st.2) (StrLaws.occBody x ⟨#[c]⟩ x.length (x.length+1))).run.fst.size=_
    rw [yeC x c n (i+1) _ (by lia) (by show st.2<=i+1;lia) (by show st.1.size<=i+1;lia),hd]
    simp [q]
  ·rw [if_neg (by rintro ⟨⟨_,z⟩,_⟩;exact hi z)]
   show (forIn (List.range' (i+1) n) (st.1,st.2) (StrLaws.occBody x ⟨#[c]⟩ x.length (x.length+1))).run.fst.size=_
   rw [yeC x c n (i+1) _ (by lia) (by show st.2<=i+1;lia) (by show st.1.size<=i+1;lia)]
   rw [List.drop_of_length_le (by simp;simp only [Str.length] at hi;lia),List.drop_of_length_le (by simp;simp only [Str.length] at hi;lia)]
theorem zg9 (x:Str) (c:Nat):(Builtin.Str.occurrences x ⟨#[c]⟩ 0 x.length (x.length+1)).length=x.cps.toList.count c:=by
 rw [StrLaws.occ_eq,Array.length_toList]
 rw [show x.length+1-0=x.length+1 from rfl,yeC x c (x.length+1) 0 _ (by lia) (Nat.le_refl _) (by simp)]
 simp
theorem zbY (x:Str):ydW x=x.cps.toList.count 10:=zg9 x 10
theorem zap (x y:Str):(x++y).cps.toList=x.cps.toList++y.cps.toList:=by
 show (x.cps++y.cps).toList=_
 simp
theorem zhV (x y:Str):ydW (x++y)=ydW x+ydW y:=by
 rw [zbY,zbY,zbY,zap,List.count_append]
theorem zad (x:Str):x.length=x.cps.toList.length:=by simp [Str.length]
theorem zal (x y:Str):(x++y).length=x.length+y.length:=by
 rw [zad,zad,zad,zap,List.length_append]
def yeb (rs:List Str):Pc->Str
 | .leaf x=>x
 | .fork a b=>rs.getD a "" ++ rs.getD b ""
def reads (ps:List Pc):List Str:=ps.foldl (fun rs q=>rs++[yeb rs q]) [""]
theorem zgs (ps:List Pc) (q:Pc):reads (ps++[q])=reads ps++[yeb (reads ps) q]:=by simp [reads]
theorem zbr {α β:Type} (g:List β->α->β):∀ (qs:List α) (ms:List β),∃ r,qs.foldl (fun ms q=>ms++[g ms q]) ms=ms++r/\r.length=qs.length
 | [],ms=>⟨[],by simp,rfl⟩
 | q::qs,ms=>by
  obtain ⟨r,e,l⟩:=zbr g qs (ms++[g ms q])
  exact ⟨g ms q::r,by rw [List.foldl_cons,e];simp,by simp [l]⟩
theorem zbz (ps:List Pc):(reads ps).length=ps.length+1:=by
 obtain ⟨r,e,l⟩:=zbr yeb ps [""]
 rw [reads,e];simp [l,Nat.add_comm]
theorem zhW (ps qs:List Pc):∃ r,meas (ps++qs)=meas ps++r:=by
 unfold meas
 rw [List.foldl_append]
 obtain ⟨r,e,_⟩:=zbr ydx qs (ps.foldl (fun ms q=>ms++[ydx ms q]) [ms0])
 exact ⟨r,e⟩
theorem zha (ps qs:List Pc):∃ r,reads (ps++qs)=reads ps++r:=by
 unfold reads
 rw [List.foldl_append]
 obtain ⟨r,e,_⟩:=zbr yeb qs (ps.foldl (fun ms q=>ms++[yeb ms q]) [""])
 exact ⟨r,e⟩
theorem zac {ps ps':List Pc} (h:ps <+: ps') {n:Nat} {m:Ms} (e:(meas ps)[n]? = some m):(meas ps')[n]? = some m:=by
 obtain ⟨qs,rfl⟩:=h
 obtain ⟨r,q⟩:=zhW ps qs
 rw [q,List.getElem?_append_left (List.getElem?_eq_some_iff.mp e).1];exact e
theorem zbA {ps ps':List Pc} (h:ps <+: ps') {n:Nat} {m:Str} (e:(reads ps)[n]? = some m):(reads ps')[n]? = some m:=by
 obtain ⟨qs,rfl⟩:=h
 obtain ⟨r,q⟩:=zha ps qs
 rw [q,List.getElem?_append_left (List.getElem?_eq_some_iff.mp e).1];exact e
theorem zbZ (ps:List Pc) (i:Nat):ps.take i <+: ps:=List.take_prefix i ps
theorem zc4 {ps:List Pc} {i:Nat} {q:Pc} (e:ps[i]? = some q):(ps.take i++[q]) <+: ps/\(ps.take i).length=i:=by
 have hi:=(List.getElem?_eq_some_iff.mp e).1
 have:ps.take (i+1)=ps.take i++[q]:=by
  rw [List.take_succ,e];rfl
 exact ⟨this▸List.take_prefix _ _,by simp;lia⟩
theorem zfE {ps:List Pc} {i:Nat} {q:Pc} (e:ps[i]? = some q):(meas ps)[i+1]? = some (ydx (meas (ps.take i)) q):=by
 obtain ⟨h,l⟩:=zc4 e
 refine zac h ?_
 rw [zcm,List.getElem?_append_right (by rw [zar,l];lia),zar,l]
 simp
theorem zeu {ps:List Pc} {i:Nat} {q:Pc} (e:ps[i]? = some q):(reads ps)[i+1]? = some (yeb (reads (ps.take i)) q):=by
 obtain ⟨h,l⟩:=zc4 e
 refine zbA h ?_
 rw [zgs,List.getElem?_append_right (by rw [zbz,l];lia),zbz,l]
 simp
def PcOk (ps:List Pc):Pc->Prop
 | .leaf x=>ybk x=true
 | .fork a b=>ForkOk ps a b
inductive Good:List Pc->Prop
 | nil:Good []
 | snoc {ps:List Pc} {q:Pc}:Good ps->q∉ps->PcOk ps q->Good (ps++[q])
theorem Good.nodup {ps:List Pc} (g:Good ps):ps.Nodup:=by
 induction g with
 | nil=>exact List.nodup_nil
 | snoc g n ok ih=>exact List.nodup_append.mpr ⟨ih,by simp,fun a ha b hb=>by simp at hb;subst hb;exact fun e=>n (e▸ha)⟩
theorem Good.get {ps:List Pc} (g:Good ps):∀ {i:Nat} {q:Pc},ps[i]? = some q->PcOk (ps.take i) q:=by
 induction g with
 | nil=>intro i q e;simp at e
 | @snoc ps q' g n ok ih =>
  intro i q e
  by_cases hi:i<ps.length
  ·rw [List.getElem?_append_left hi] at e
   rw [List.take_append_of_le_length (by lia)]
   exact ih e
  ·have hi2:i=ps.length:=by
    have:=(List.getElem?_eq_some_iff.mp e).1
    simp at this;lia
   subst hi2
   simp at e
   subst e
   simpa using ok
theorem ForkOk.pre {ps ps':List Pc} {a b:Nat} (F:ForkOk ps a b) (h:ps <+: ps'):ForkOk ps' a b:=by
 obtain ⟨ma,mb,la,fb,h1,h2,h3,h4,h5⟩:=F.ex
 exact ⟨F.pa,F.pb,ma,mb,la,fb,zac h h1,zac h h2,zac h h3,zac h h4,h5⟩
structure Ky (ps:List Pc) (m:Ms) (x:Str) (f l:Ms):Prop where
 fl:(meas ps)[m.fl]? = some f
 ll:(meas ps)[m.ll]? = some l
 sg:m.sg=x.length
 en:m.en=ydW x
 f1:1<=f.sg
 f8:f.sg<=8
 l1:1<=l.sg
 l8:l.sg<=8
 lv:1<=m.lv
 ht:0<=m.ht
 most:m.sg<=1000000000000000000
 cnt:∃ k,(m.lv=2*k+1/\9*k+f.sg<=m.sg/\9*k+l.sg<=m.sg)\/(m.lv=2*k+2/\9*k+9<=m.sg/\9*k+f.sg+l.sg<=m.sg)
 pl:yau x=true
structure Tx (ps:List Pc) (n:Nat) (m:Ms) (x:Str) (f l:Ms):Prop where
 n1:1<=n
 ms:(meas ps)[n]? = some m
 rd:(reads ps)[n]? = some x
 ky:Ky ps m x f l
theorem Ky.pre {ps ps':List Pc} {m:Ms} {x:Str} {f l:Ms} (k:Ky ps m x f l) (h:ps <+: ps'):Ky ps' m x f l :=
 { k with fl:=zac h k.fl,ll:=zac h k.ll }
theorem Tx.pre {ps ps':List Pc} {n:Nat} {m:Ms} {x:Str} {f l:Ms} (k:Tx ps n m x f l) (h:ps <+: ps'):Tx ps' n m x f l :=
 ⟨k.n1,zac h k.ms,zbA h k.rd,k.ky.pre h⟩
theorem Tx.le {ps:List Pc} {n:Nat} {m:Ms} {x:Str} {f l:Ms} (k:Tx ps n m x f l):n<=ps.length:=by
 have:=(List.getElem?_eq_some_iff.mp k.ms).1
 rw [zar] at this;lia
def ydg (ma mb:Ms):Ms:=⟨ma.sg+mb.sg,ma.en+mb.en,ma.lv+mb.lv,max ma.ht mb.ht+1,ma.fl,mb.ll⟩
theorem zaQ (x y:Str):yau (x++y)=(yau x && yau y):=by unfold yau;rw [zap,List.all_append]
theorem kf1 {n n' s s' f l f' l':Nat} (a:∃ k,(n=2*k+1/\9*k+f<=s/\9*k+l<=s)\/(n=2*k+2/\9*k+9<=s/\9*k+f+l<=s)) (b:∃ k,(n'=2*k+1/\9*k+f'<=s'/\9*k+l'<=s')\/(n'=2*k+2/\9*k+9<=s'/\9*k+f'+l'<=s')) (hs:8<l+f') :
  ∃ k,(n+n'=2*k+1/\9*k+f<=s+s'/\9*k+l'<=s+s')\/(n+n'=2*k+2/\9*k+9<=s+s'/\9*k+f+l'<=s+s'):=by
 obtain ⟨k,⟨rfl,a1,a2⟩ | ⟨rfl,a1,a2⟩⟩:=a<;>obtain ⟨k',⟨rfl,b1,b2⟩ | ⟨rfl,b1,b2⟩⟩:=b
 ·exact ⟨k+k',.inr ⟨by lia,by lia,by lia⟩⟩
 ·exact ⟨k+k'+1,.inl ⟨by lia,by lia,by lia⟩⟩
 ·exact ⟨k+k'+1,.inl ⟨by lia,by lia,by lia⟩⟩
 ·exact ⟨k+k'+1,.inr ⟨by lia,by lia,by lia⟩⟩
theorem Ky.fork {ps:List Pc} {ma mb fa la fb lb:Ms} {x y:Str} (A:Ky ps ma x fa la) (B:Ky ps mb y fb lb) (hs:8<la.sg+fb.sg) (hm:ma.sg+mb.sg<=1000000000000000000):Ky ps (ydg ma mb) (x++y) fa lb:=by
 have k:=kf1 A.cnt B.cnt hs
 refine ⟨A.fl,B.ll,?_,?_,A.f1,A.f8,B.l1,B.l8,Nat.le_trans A.lv (Nat.le_add_right _ _),?_,hm,k,?_⟩
 ·show ma.sg+mb.sg=_;rw [zal,A.sg,B.sg]
 ·show ma.en+mb.en=_;rw [zhV,A.en,B.en]
 ·have a4:=A.ht
  show 0<=max ma.ht mb.ht+1
  clear k hs hm;lia
 ·rw [zaQ,A.pl,B.pl];rfl
theorem zao {x:Str} (h:ybk x=true):1<=x.length/\x.length<=8/\yau x=true:=by
 simp [ybk] at h;exact ⟨h.2.1,h.2.2,h.1⟩
theorem zaV {α:Type} {l:List α} {i:Nat} {d x:α} (e:l[i]? = some x):l.getD i d=x:=by simp [List.getD,e]
def lfMs (x:Str) (n:Nat):Ms:=⟨x.length,ydW x,1,0,n,n⟩
theorem zbJ {ps:List Pc} (g:Good ps) {i:Nat} {x:Str} (e:ps[i]? = some (.leaf x)):Tx ps (i+1) (lfMs x (i+1)) x (lfMs x (i+1)) (lfMs x (i+1)):=by
 have hi:=(List.getElem?_eq_some_iff.mp e).1
 have ok:ybk x=true:=g.get e
 obtain ⟨s1,s2,s3⟩:=zao ok
 have li:(ps.take i).length=i:=by simp;lia
 have ml:(meas (ps.take i)).length=i+1:=by rw [zar,li]
 have e1':(meas ps)[i+1]? = some (lfMs x (i+1)):=by rw [zfE e];simp only [ydx,lfMs];rw [ml]
 exact ⟨by lia,e1',zeu e,⟨e1',e1',rfl,rfl,s1,s2,s1,s2,Nat.le_refl 1,Int.le_refl 0,by show x.length<=_;lia,⟨0,.inl ⟨rfl,Nat.le_of_eq (Nat.zero_add _),Nat.le_of_eq (Nat.zero_add _)⟩⟩,s3⟩⟩
theorem zbK {ps:List Pc} (g:Good ps) {i a b:Nat} {ma mb fa la fb lb:Ms} {x y:Str} (e:ps[i]? = some (.fork a b)) (A:Tx ps a ma x fa la) (B:Tx ps b mb y fb lb):Tx ps (i+1) (ydg ma mb) (x++y) fa lb:=by
 have hi:=(List.getElem?_eq_some_iff.mp e).1
 have ok':ForkOk (ps.take i) a b:=g.get e
 have li:(ps.take i).length=i:=by simp;lia
 have tp:=zbZ ps i
 obtain ⟨ma',mb',la',fb',q1,q2,q3,q4,q5,q6,q7⟩:=ok'.ex
 have ba:=(List.getElem?_eq_some_iff.mp q1).1
 have bb:=(List.getElem?_eq_some_iff.mp q2).1
 rw [zar,li] at ba bb
 have z1:=A.ms.symm.trans (zac tp q1);cases z1
 have z2:=B.ms.symm.trans (zac tp q2);cases z2
 have z3:=A.ky.ll.symm.trans (zac tp q3);cases z3
 have z4:=B.ky.fl.symm.trans (zac tp q4);cases z4
 have r1:(reads (ps.take i))[a]? = some x:=by
  obtain ⟨w,ew⟩:∃ w,(reads (ps.take i))[a]? = some w:=⟨(reads (ps.take i))[a]'(by rw [zbz,li];lia),by simp⟩
  have:=(zbA tp ew).symm.trans A.rd;cases this;exact ew
 have r2:(reads (ps.take i))[b]? = some y:=by
  obtain ⟨w,ew⟩:∃ w,(reads (ps.take i))[b]? = some w:=⟨(reads (ps.take i))[b]'(by rw [zbz,li];lia),by simp⟩
  have:=(zbA tp ew).symm.trans B.rd;cases this;exact ew
 refine ⟨by lia,?_,?_,A.ky.fork B.ky q5 q7⟩
 ·rw [zfE e];simp only [ydx,zaV q1,zaV q2];rfl
 ·rw [zeu e];simp only [yeb,zaV r1,zaV r2]
theorem Good.tx {ps:List Pc} (g:Good ps):∀ n,1<=n->n<=ps.length->∃ m x f l,Tx ps n m x f l:=by
 intro n
 induction n using Nat.strongRecOn with
 | ind n ih =>
  intro h1 h2
  obtain ⟨i,rfl⟩:∃ i,n=i+1:=⟨n-1,(Nat.sub_add_cancel h1).symm⟩
  obtain ⟨q,eq⟩:∃ q,ps[i]? = some q:=⟨ps[i],by simp⟩
  have ok:=g.get eq
  have li:(ps.take i).length=i:=(zc4 eq).2
  cases q with
  | leaf x=>exact ⟨_,_,_,_,zbJ g eq⟩
  | fork a b =>
   have ok':ForkOk (ps.take i) a b:=ok
   obtain ⟨ma,mb,la,fb,q1,q2,_⟩:=ok'.ex
   have ba:=(List.getElem?_eq_some_iff.mp q1).1
   have bb:=(List.getElem?_eq_some_iff.mp q2).1
   rw [zar,li] at ba bb
   obtain ⟨_,_,_,_,A⟩:=ih a ba ok'.pa (Nat.le_trans (Nat.le_of_lt ba) h2)
   obtain ⟨_,_,_,_,B⟩:=ih b bb ok'.pb (Nat.le_trans (Nat.le_of_lt bb) h2)
   exact ⟨_,_,_,_,zbK g eq A B⟩
structure Dd (p:Nat) (h h':AH) (ps ps':List Pc) (k:Nat):Prop where
 sh:ShelfAt h' p ps'
 gd:Good ps'
 pre:ps <+: ps'
 len:ps'.length<=ps.length+k
 fr:∀ i,i<=p\/p+8<i->h'[i]? = h[i]?
 hl:h'.length=h.length
theorem ShelfAt.keep {h h':AH} {p:Nat} {ps:List Pc} (S:ShelfAt h p ps) (e:∀ i,p<=i->i<=p+8->h'[i]? = h[i]?):ShelfAt h' p ps:=by
 have k:∀ j,j<=8->h'[p+j]? = h[p+j]? := fun j hj=>e _ (Nat.le_add_right p j) (Nat.add_le_add_left hj p)
 exact ⟨(k 0 (by decide)).trans S.ob,(k 1 (by decide)).trans S.h1,(k 2 (by decide)).trans S.h2,(k 3 (by decide)).trans S.h3,(k 4 (by decide)).trans S.h4,(k 5 (by decide)).trans S.h5,(k 6 (by decide)).trans S.h6,(k 7 (by decide)).trans S.h7,(k 8 (by decide)).trans S.h8⟩
theorem ShelfAt.app {h:AH} {p:Nat} {ps:List Pc} (S:ShelfAt h p ps) (r:AH):ShelfAt (h++r) p ps:=by
 have:=yaS S.h8
 exact S.keep fun i _ b=>List.getElem?_append_left (Nat.lt_of_le_of_lt b this)
structure Wk (p r:Nat) (h h':AH) (ps ps':List Pc) (k:Nat):Prop where
 sh:ShelfAt h' p ps'
 gd:Good ps'
 pre:ps <+: ps'
 len:ps'.length<=ps.length+k
 row:∃ N:Int,h'[r]? = some (.lst [.int N])
 fr:∀ i,i<=p\/p+8<i->i≠r->h'[i]? = h[i]?
 hl:h'.length=h.length
theorem Wk.refl {p r:Nat} {h:AH} {ps:List Pc} (S:ShelfAt h p ps) (g:Good ps) (e:∃ N:Int,h[r]? = some (.lst [.int N])):Wk p r h h ps ps 0 :=
 ⟨S,g,List.prefix_refl _,by lia,e,fun _ _ _=>rfl,rfl⟩
theorem zbe {h:AH} {p:Nat} {ps:List Pc} {i:Nat} (S:ShelfAt h p ps) (hi:i<=ps.length):yaQ [.ref p,.int i] h = .ok .non h:=by
 by_cases z:i=0
 ·subst z;simp [yaQ]
 ·have c:=zbV S (i:=(i:Int)) ⟨by lia,by lia⟩
  simp [yaQ,z,S.ob,c]
theorem za7 {h:AH} {p:Nat} {ps:List Pc} {i:Nat} {m:Ms} (S:ShelfAt h p ps) (e:(meas ps)[i]? = some m):ybo [.ref p,.int i] h = .ok (.int m.sg) h:=by
 have hi:=(List.getElem?_eq_some_iff.mp e).1
 rw [zar] at hi
 simp [ybo,zbe S (show i<=ps.length by lia),S.ob,S.h3,zak e]
theorem zag {h:AH} {p:Nat} {ps:List Pc} {i:Nat} {m:Ms} (S:ShelfAt h p ps) (e:(meas ps)[i]? = some m):yaW [.ref p,.int i] h = .ok (.int m.ht) h:=by
 have hi:=(List.getElem?_eq_some_iff.mp e).1
 rw [zar] at hi
 simp [yaW,zbe S (show i<=ps.length by lia),S.ob,S.h6,zak e]
theorem zfF {h:AH} {p:Nat} {ps:List Pc} {i:Nat} {m:Ms} (S:ShelfAt h p ps) (e:(meas ps)[i]? = some m):ybL [.ref p,.int i] h = .ok (.int m.fl) h:=by
 have hi:=(List.getElem?_eq_some_iff.mp e).1
 rw [zar] at hi
 simp [ybL,zbe S (show i<=ps.length by lia),S.ob,S.h7,zak e]
theorem yfM {h:AH} {p:Nat} {ps:List Pc} {i:Nat} {m:Ms} (S:ShelfAt h p ps) (e:(meas ps)[i]? = some m):ybY [.ref p,.int i] h = .ok (.int m.ll) h:=by
 have hi:=(List.getElem?_eq_some_iff.mp e).1
 rw [zar] at hi
 simp [ybY,zbe S (show i<=ps.length by lia),S.ob,S.h8,zak e]
def lp:Nat->Nat×Nat
 | 0=>(1,2)
 | n+1=>((lp n).2,(lp n).1+(lp n).2)
def ll (n:Nat):Nat:=(lp n).1
def ls (n:Nat):Nat:=9*(ll n / 2)+ll n % 2
theorem ll_2 (n:Nat):ll (n+2)=ll n+ll (n+1):=rfl
theorem zev:∀ n,ll n<=ll (n+1)
 | 0=>by decide
 | n+1=>by rw [show n+1+1=n+2 from rfl,ll_2];lia
theorem zi3 {a b:Nat} (h:a<=b):ll a<=ll b:=by
 induction h with
 | refl=>exact Nat.le_refl _
 | step h ih=>exact Nat.le_trans ih (zev _)
theorem zi4 {a b:Nat} (h:a<=b):ls a<=ls b:=by
 have:=zi3 h
 unfold ls;lia
theorem yhr {i j a b:Nat} (h1:i<=j+1) (h2:j<=i+1) (u1:ll i<=a) (u2:ll j<=b):ll (max i j+1)<=a+b:=by
 rcases Nat.lt_trichotomy i j with c | c | c
 ·have e':j=i+1:=Nat.le_antisymm h2 c
  subst e'
  rw [Nat.max_eq_right (Nat.le_succ i),ll_2];exact Nat.add_le_add u1 u2
 ·subst c
  rw [Nat.max_self]
  refine Nat.le_trans ?_ (Nat.add_le_add u1 u2)
  cases i with
  | zero=>exact Nat.le_refl 2
  | succ k=>rw [show k+1+1=k+2 from rfl,ll_2];exact Nat.add_le_add_right (zev k) _
 ·have e':i=j+1:=Nat.le_antisymm h1 c
  subst e'
  rw [Nat.max_eq_left (Nat.le_succ j),ll_2,Nat.add_comm];exact Nat.add_le_add u1 u2
theorem yhs {x y:Int} {a b:Nat} (hx:0<=x) (hy:0<=y) (q:(x-y).natAbs<=1) (u1:ll x.toNat<=a) (u2:ll y.toNat<=b):ll (max x y+1).toNat<=a+b:=by
 obtain ⟨i,rfl⟩:=Int.eq_ofNat_of_zero_le hx
 obtain ⟨j,rfl⟩:=Int.eq_ofNat_of_zero_le hy
 have e:(max (i:Int) j+1).toNat=max i j+1:=by clear u1 u2 q;lia
 rw [e]
 exact yhr (by clear u1 u2 e;lia) (by clear u1 u2 e;lia) u1 u2
theorem Good.lv {ps:List Pc} (g:Good ps):∀ n m x f l,Tx ps n m x f l->ll m.ht.toNat<=m.lv:=by
 intro n
 induction n using Nat.strongRecOn with
 | ind n ih =>
  intro m x f l T
  have hn:=T.n1
  have hle:=T.le
  obtain ⟨i,rfl⟩:∃ i,n=i+1:=⟨n-1,by lia⟩
  obtain ⟨q,eq⟩:∃ q,ps[i]? = some q:=⟨ps[i],by simp⟩
  cases q with
  | leaf y =>
   have z:=(zbJ g eq).ms.symm.trans T.ms;cases z
   exact Nat.le_refl 1
  | fork a b =>
   have ok':ForkOk (ps.take i) a b:=g.get eq
   have li:(ps.take i).length=i:=by simp;lia
   obtain ⟨ma,mb,la,fb,q1,q2,q3,q4,q5,q6,q7⟩:=ok'.ex
   have ba:=(List.getElem?_eq_some_iff.mp q1).1
   have bb:=(List.getElem?_eq_some_iff.mp q2).1
   rw [zar,li] at ba bb
   obtain ⟨ma',x1,fa,la',A⟩:=g.tx a ok'.pa (by lia)
   obtain ⟨mb',y1,fb',lb,B⟩:=g.tx b ok'.pb (by lia)
   have tp:=zbZ ps i
   have z1:=A.ms.symm.trans (zac tp q1);cases z1
   have z2:=B.ms.symm.trans (zac tp q2);cases z2
   have u1:=ih a (by lia) _ _ _ _ A
   have u2:=ih b (by lia) _ _ _ _ B
   have z:=(zbK g eq A B).ms.symm.trans T.ms;cases z
   exact yhs A.ky.ht B.ky.ht q6 u1 u2
theorem Tx.ls {ps:List Pc} (g:Good ps) {n:Nat} {m:Ms} {x:Str} {f l:Ms} (T:Tx ps n m x f l):Sk.ls m.ht.toNat<=m.sg:=by
 have u:=g.lv _ _ _ _ _ T
 have f1:=T.ky.f1
 unfold Sk.ls
 obtain ⟨k,⟨e,a,_⟩ | ⟨e,a,_⟩⟩:=T.ky.cnt
 ·rw [e] at u;generalize ll m.ht.toNat=q at *;clear e;lia
 ·rw [e] at u;generalize ll m.ht.toNat=q at *;clear e;lia
theorem Good.kind {ps:List Pc} (g:Good ps) {n:Nat} {m:Ms} {x:Str} {f l:Ms} (T:Tx ps n m x f l) :
  (ps[n-1]? = some (.leaf x)/\m.ht=0/\m=lfMs x n/\1<=x.length/\x.length<=8)\/∃ a b ma mb y z fa la fb lb,ps[n-1]? = some (.fork a b)/\a<n/\b<n/\Tx ps a ma y fa la/\Tx ps b mb z fb lb/\x=y++z/\m=ydg ma mb/\(ma.ht-mb.ht).natAbs<=1:=by
 have hn:=T.n1
 have hle:=T.le
 obtain ⟨i,rfl⟩:∃ i,n=i+1:=⟨n-1,by lia⟩
 obtain ⟨q,eq⟩:∃ q,ps[i]? = some q:=⟨ps[i],by simp⟩
 cases q with
 | leaf y =>
  have L:=zbJ g eq
  have z:=L.ms.symm.trans T.ms;cases z
  have z2:=L.rd.symm.trans T.rd;cases z2
  have ok:ybk x=true:=g.get eq
  obtain ⟨s1,s2,s3⟩:=zao ok
  exact .inl ⟨eq,rfl,rfl,s1,s2⟩
 | fork a b =>
  have ok':ForkOk (ps.take i) a b:=g.get eq
  have li:(ps.take i).length=i:=by simp;lia
  obtain ⟨ma,mb,la,fb,q1,q2,q3,q4,q5,q6,q7⟩:=ok'.ex
  have ba:=(List.getElem?_eq_some_iff.mp q1).1
  have bb:=(List.getElem?_eq_some_iff.mp q2).1
  rw [zar,li] at ba bb
  obtain ⟨ma',y,fa,la',A⟩:=g.tx a ok'.pa (by lia)
  obtain ⟨mb',z,fb',lb,B⟩:=g.tx b ok'.pb (by lia)
  have tp:=zbZ ps i
  have z1:=A.ms.symm.trans (zac tp q1);cases z1
  have z2:=B.ms.symm.trans (zac tp q2);cases z2
  have F:=zbK g eq A B
  have z3:=F.ms.symm.trans T.ms;cases z3
  have z4:=F.rd.symm.trans T.rd;cases z4
  exact .inr ⟨a,b,ma,mb,y,z,fa,la',fb',lb,eq,by lia,by lia,A,B,rfl,rfl,q6⟩
theorem zew {h:AH} {p:Nat} {ps:List Pc} {n:Nat} {q:Pc} (S:ShelfAt h p ps) (n1:1<=n) (e:ps[n-1]? = some q):yaC [.ref p,.int n] h = .ok q.av h:=by
 have:=zi2 S e
 rw [show ((n-1:Nat):Int)+1=(n:Int) by lia] at this
 exact this
theorem hs1 {m a b:Int} (e:m=max a b+1) (ha:0<=a) (hb:0<=b):∃ j:Nat,m.toNat=j+1/\a.toNat<=j/\b.toNat<=j/\0<m:=by
 obtain ⟨x,rfl⟩:=Int.eq_ofNat_of_zero_le ha
 obtain ⟨y,rfl⟩:=Int.eq_ofNat_of_zero_le hb
 subst e
 exact ⟨max x y,by lia,Nat.le_max_left _ _,Nat.le_max_right _ _,by lia⟩
end Sk
namespace Sk
open PySem PySem.Spec L2 Sm
theorem zaf {x y:Str} (e:x.cps.toList=y.cps.toList):x=y:=by
 cases x;cases y
 simpa using e
theorem zaj (x y z:Str):(x++y)++z=x++(y++z):=zaf (by simp only [zap,List.append_assoc])
theorem ls83:1000000000000000000<ls 83:=by decide +kernel
theorem ht82 {ps:List Pc} (g:Good ps) {n:Nat} {m:Ms} {x:Str} {f l:Ms} (T:Tx ps n m x f l):m.ht<=82:=by
 have h1:=T.ls g
 have h2:=T.ky.most
 have h3:=T.ky.ht
 apply Classical.byContradiction
 intro h4
 have:=zi4 (show 83<=m.ht.toNat by lia)
 have:=ls83
 lia
theorem Good.cut {ps:List Pc} (g:Good ps) {n:Nat} {m:Ms} {x:Str} {f l:Ms} (T:Tx ps n m x f l) (hh:0<m.ht) :
  ∃ a b ma mb y z la fb,ps[n-1]? = some (.fork a b)/\Tx ps a ma y f la/\Tx ps b mb z fb l/\x=y++z/\m=ydg ma mb /\ -1<=ma.ht-mb.ht/\ma.ht-mb.ht<=1/\8<la.sg+fb.sg:=by
 rcases g.kind T with ⟨_,e,_⟩ | ⟨a,b,ma,mb,y,z,fa,la,fb,lb,e1,e2,e3,A,B,e4,e5,e6⟩
 ·lia
 ·have ok:ForkOk (ps.take (n-1)) a b:=g.get e1
  obtain ⟨ma',mb',la',fb',q1,q2,q3,q4,q5,_⟩:=(ok.pre (zbZ ps _)).ex
  have z1:=A.ms.symm.trans q1;cases z1
  have z2:=B.ms.symm.trans q2;cases z2
  have z3:=A.ky.ll.symm.trans q3;cases z3
  have z4:=B.ky.fl.symm.trans q4;cases z4
  have f1:=T.ky.fl
  have l1:=T.ky.ll
  rw [e5] at f1 l1
  have z5:=f1.symm.trans A.ky.fl;cases z5
  have z6:=l1.symm.trans B.ky.ll;cases z6
  exact ⟨a,b,ma,mb,y,z,la,fb,e1,A,B,e4,e5,by lia,by lia,q5⟩
structure Dn (F:AH->Out AV) (p:Nat) (h h':AH) (ps ps':List Pc) (k n:Nat):Prop where
 ev:F h = .ok (.int n) h'
 dd:Dd p h h' ps ps' k
 re:∀ h2 ps2,ShelfAt h2 p ps2->Good ps2->ps' <+: ps2->F h2 = .ok (.int n) h2
theorem Dd.trans {p:Nat} {h h' h'':AH} {ps ps' ps'':List Pc} {k k' k2:Nat} (a:Dd p h h' ps ps' k) (b:Dd p h' h'' ps' ps'' k') (hk:k+k'<=k2):Dd p h h'' ps ps'' k2 :=
 ⟨b.sh,b.gd,a.pre.trans b.pre,by have:=a.len;have:=b.len;lia,fun i hi=>(b.fr i hi).trans (a.fr i hi),b.hl.trans a.hl⟩
theorem Dd.refl {p:Nat} {h:AH} {ps:List Pc} (S:ShelfAt h p ps) (g:Good ps):Dd p h h ps ps 0:=⟨S,g,List.prefix_refl _,by lia,fun _ _=>rfl,rfl⟩
theorem Dn.seq {F F1:AH->Out AV} {F2:AV->AH->Out AV} {p:Nat} {h h1 h2:AH} {ps ps1 ps2:List Pc} {k1 k2 k n1 n2:Nat} (S:ShelfAt h p ps) (g:Good ps) (d1:Dn F1 p h h1 ps ps1 k1 n1) (d2:Dn (F2 (.int n1)) p h1 h2 ps1 ps2 k2 n2)
  (eq:∀ hh pp,ShelfAt hh p pp->Good pp->ps <+: pp->F hh=(F1 hh).bind F2) (hk:k1+k2<=k):Dn F p h h2 ps ps2 k n2:=by
 refine ⟨?_,d1.dd.trans d2.dd hk,fun h3 ps3 S3 g3 p3=>?_⟩
 ·rw [eq h ps S g (List.prefix_refl _),d1.ev];exact d2.ev
 ·rw [eq h3 ps3 S3 g3 (d1.dd.pre.trans (d2.dd.pre.trans p3)),d1.re h3 ps3 S3 g3 (d2.dd.pre.trans p3)]
  exact d2.re h3 ps3 S3 g3 p3
theorem Dn.as {F F1:AH->Out AV} {p:Nat} {h h1:AH} {ps ps1:List Pc} {k1 k n1:Nat} (S:ShelfAt h p ps) (g:Good ps) (d1:Dn F1 p h h1 ps ps1 k1 n1) (eq:∀ hh pp,ShelfAt hh p pp->Good pp->ps <+: pp->F hh=F1 hh) (hk:k1<=k):Dn F p h h1 ps ps1 k n1:=by
 refine ⟨?_,{ d1.dd with len:=Nat.le_trans d1.dd.len (Nat.add_le_add_left hk _) },fun h3 ps3 S3 g3 p3=>?_⟩
 ·rw [eq h ps S g (List.prefix_refl _)];exact d1.ev
 ·rw [eq h3 ps3 S3 g3 (d1.dd.pre.trans p3)];exact d1.re h3 ps3 S3 g3 p3
theorem Dn.val {F:AH->Out AV} {p n:Nat} {h:AH} {ps:List Pc} (S:ShelfAt h p ps) (g:Good ps) (eq:∀ hh pp,ShelfAt hh p pp->Good pp->ps <+: pp->F hh = .ok (.int n) hh):Dn F p h h ps ps 0 n :=
 ⟨eq h ps S g (List.prefix_refl _),Dd.refl S g,fun h3 ps3 S3 g3 p3=>eq h3 ps3 S3 g3 p3⟩
theorem ybn {ps ps':List Pc} (h:ps <+: ps') {i:Nat} {q:Pc} (e:ps[i]? = some q):ps'[i]? = some q:=by
 obtain ⟨r,rfl⟩:=h
 rw [List.getElem?_append_left (List.getElem?_eq_some_iff.mp e).1];exact e
theorem zfG {h:AH} {p:Nat} {ps:List Pc} {x:Str} (S:ShelfAt h p ps) (g:Good ps) (hx:ybk x=true) (hz:ps.length<16000000) :
  ∃ (n:Nat) (ps':List Pc) (h':AH),Dn (ya6 [.ref p,.str x]) p h h' ps ps' 1 n/\Tx ps' n (lfMs x n) x (lfMs x n) (lfMs x n):=by
 obtain ⟨s1,s2,s3⟩:=zao hx
 have hs:x.length<=sizeLine:=Nat.le_trans s2 (by decide)
 by_cases hq:Pc.leaf x∈ps
 ·obtain ⟨i,hi,e⟩:=List.getElem_of_mem hq
  have e':ps[i]? = some (.leaf x):=by rw [List.getElem?_eq_getElem hi,e]
  exact ⟨i+1,ps,h,⟨zbW S g.nodup hx hs e',⟨S,g,List.prefix_refl _,by lia,fun _ _=>rfl,rfl⟩,fun h2 ps2 S2 g2 p2=>zbW S2 g2.nodup hx hs (ybn p2 e')⟩,zbJ g e'⟩
 ·have g':Good (ps++[.leaf x]):=.snoc g hq hx
  have e':(ps++[Pc.leaf x])[ps.length]? = some (.leaf x):=by simp
  exact ⟨ps.length+1,_,_,⟨zgq S hx hs hq hz,⟨zbU S,g',List.prefix_append _ _,by simp,fun i hi=>zet hi,zdV _ _ _⟩,fun h2 ps2 S2 g2 p2=>zbW S2 g2.nodup hx hs (ybn p2 e')⟩,zbJ g' e'⟩
theorem zaA {h:AH} {p:Nat} {ps:List Pc} {a b:Nat} {ma mb fa la fb lb:Ms} {x y:Str} (S:ShelfAt h p ps) (g:Good ps) (A:Tx ps a ma x fa la) (B:Tx ps b mb y fb lb) (hc:8<la.sg+fb.sg) (v1 : -1<=ma.ht-mb.ht) (v2:ma.ht-mb.ht<=1) (hm:ma.sg+mb.sg<=1000000000000000000) (hz:ps.length<16000000) :
  ∃ (n:Nat) (ps':List Pc) (h':AH),Dn (yaf [.ref p,.int a,.int b]) p h h' ps ps' 1 n/\Tx ps' n (ydg ma mb) (x++y) fa lb:=by
 have F:ForkOk ps a b:=⟨A.n1,B.n1,ma,mb,la,fb,A.ms,B.ms,A.ky.ll,B.ky.fl,hc,by lia,hm⟩
 by_cases hq:Pc.fork a b∈ps
 ·obtain ⟨i,hi,e⟩:=List.getElem_of_mem hq
  have e':ps[i]? = some (.fork a b):=by rw [List.getElem?_eq_getElem hi,e]
  exact ⟨i+1,ps,h,⟨zbX S g.nodup F e',⟨S,g,List.prefix_refl _,by lia,fun _ _=>rfl,rfl⟩,fun h2 ps2 S2 g2 p2=>zbX S2 g2.nodup (F.pre p2) (ybn p2 e')⟩,zbK g e' A B⟩
 ·have g':Good (ps++[.fork a b]):=.snoc g hq F
  have e':(ps++[Pc.fork a b])[ps.length]? = some (.fork a b):=by simp
  have pr:ps <+: ps++[Pc.fork a b]:=List.prefix_append _ _
  exact ⟨ps.length+1,_,_,⟨zgr S F hq hz,⟨zbU S,g',pr,by simp,fun i hi=>zet hi,zdV _ _ _⟩,fun h2 ps2 S2 g2 p2=>zbX S2 g2.nodup (F.pre (pr.trans p2)) (ybn p2 e')⟩,zbK g' e' (A.pre pr) (B.pre pr)⟩
theorem fmS (ma mb:Ms):(ydg ma mb).sg=ma.sg+mb.sg:=rfl
theorem fmH (ma mb:Ms):(ydg ma mb).ht=max ma.ht mb.ht+1:=rfl
theorem i1 (s:Str) (a b:Int) (h:AH):fIx (.tup [.str s,.int a,.int b]) (.int 1) h = .ok (.int a) h:=rfl
theorem i2 (s:Str) (a b:Int) (h:AH):fIx (.tup [.str s,.int a,.int b]) (.int 2) h = .ok (.int b) h:=rfl
theorem zaB {h:AH} {p:Nat} {ps:List Pc} {n a b:Nat} (S:ShelfAt h p ps) (n1:1<=n) (e:ps[n-1]? = some (.fork a b)):yaC [.ref p,.int n] h = .ok (.tup [.str "fork",.int a,.int b]) h:=zew S n1 e
theorem tl_1 {h:AH} {p:Nat} {ps:List Pc} {a b:Nat} {ma mb:Ms} (S:ShelfAt h p ps) (ea:(meas ps)[a]? = some ma) (eb:(meas ps)[b]? = some mb) (hd:mb.ht-ma.ht<2) :
  yaX [.ref p,.int a,.int b] h=yaf [.ref p,.int a,.int b] h:=by
 have f1:=zag S ea
 have f2:=zag S eb
 generalize hF:yaf [.ref p,.int a,.int b] h=R
 simp [yaX,S.ob,f1,f2,hd,hF]
 cases R<;>rfl
theorem tl_2 {h:AH} {p:Nat} {ps:List Pc} {a b c d:Nat} {ma mb mc md:Ms} (S:ShelfAt h p ps) (b1:1<=b) (ea:(meas ps)[a]? = some ma) (eb:(meas ps)[b]? = some mb) (e:ps[b-1]? = some (.fork c d)) (ec:(meas ps)[c]? = some mc) (ed:(meas ps)[d]? = some md) (hd : ¬ mb.ht-ma.ht<2) (hh:mc.ht<=md.ht) :
  yaX [.ref p,.int a,.int b] h=(yaf [.ref p,.int a,.int c] h).bind fun v h1=>yaf [.ref p,v,.int d] h1:=by
 have f1:=zag S ea
 have f2:=zag S eb
 have f3:=zaB S b1 e
 have f4:=zag S ec
 have f5:=zag S ed
 generalize hF:yaf [.ref p,.int a,.int c] h=R
 simp [yaX,S.ob,f1,f2,hd,f3,i1,i2,f4,f5,hh,hF,-fIx]
 cases R with
 | ok v h1=>dsimp only;cases yaf [.ref p,v,.int d] h1<;>rfl
 | ex c h1=>rfl
 | bad=>rfl
def onSh (p:Nat) (F:AH->Out AV) (h:AH):Out AV:=match h[p]? with
 | some (.ins c' _)=>if c'=0 then F h else .bad
 | _=>.bad
theorem zfH {h:AH} {p:Nat} {ps:List Pc} (S:ShelfAt h p ps) (F:AH->Out AV):onSh p F h=F h:=by simp [onSh,S.ob]
theorem tl_3 {h:AH} {p:Nat} {ps:List Pc} {a b c d i j:Nat} {ma mb mc md:Ms} (S:ShelfAt h p ps) (b1:1<=b) (c1:1<=c) (ea:(meas ps)[a]? = some ma) (eb:(meas ps)[b]? = some mb) (e:ps[b-1]? = some (.fork c d)) (ec:(meas ps)[c]? = some mc) (ed:(meas ps)[d]? = some md) (e2:ps[c-1]? = some (.fork i j)) (hd : ¬ mb.ht-ma.ht<2) (hh : ¬ mc.ht<=md.ht) :
  yaX [.ref p,.int a,.int b] h=(yaf [.ref p,.int a,.int i] h).bind fun v h1=>(onSh p (yaf [.ref p,.int j,.int d]) h1).bind fun w h2=>yaf [.ref p,v,w] h2:=by
 have f1:=zag S ea
 have f2:=zag S eb
 have f3:=zaB S b1 e
 have f4:=zag S ec
 have f5:=zag S ed
 have f6:=zaB S c1 e2
 generalize hF:yaf [.ref p,.int a,.int i] h=R
 simp [yaX,S.ob,f1,f2,hd,f3,i1,i2,f4,f5,hh,f6,hF,-fIx]
 cases R with
 | ok v h1 =>
  unfold onSh
  dsimp only
  cases hx:h1[p]? with
  | none=>rfl
  | some o =>
   cases o with
   | lst l=>rfl
   | dct q l=>rfl
   | ins c' l =>
    dsimp only
    by_cases z:c'=0
    ·rw [if_pos z]
     cases yaf [.ref p,.int j,.int d] h1 with
     | ok w h2=>dsimp only;cases yaf [.ref p,v,w] h2<;>rfl
     | ex c h2=>rfl
     | bad=>rfl
    ·rw [if_neg z]
 | ex c h1=>rfl
 | bad=>rfl
theorem tlh1 {a b m:Int} (h1 : -1<=b-a) (h2:b-a<2) (e:m=max a b+1):max a b<=m/\m<=max a b+1/\(b-a<=1->m=max a b+1):=by lia
theorem zfI {h:AH} {p:Nat} {ps:List Pc} {a b:Nat} {ma mb fa la fb lb:Ms} {x y:Str} (S:ShelfAt h p ps) (g:Good ps) (A:Tx ps a ma x fa la) (B:Tx ps b mb y fb lb) (hc:8<la.sg+fb.sg) (v1 : -1<=mb.ht-ma.ht) (v2:mb.ht-ma.ht<=2) (hm:ma.sg+mb.sg<=1000000000000000000) (hz:ps.length+3<16000000) :
  ∃ (n:Nat) (ps':List Pc) (h':AH) (m:Ms),Dn (yaX [.ref p,.int a,.int b]) p h h' ps ps' 3 n/\Tx ps' n m (x++y) fa lb/\max ma.ht mb.ht<=m.ht/\m.ht<=max ma.ht mb.ht+1/\(mb.ht-ma.ht<=1->m.ht=max ma.ht mb.ht+1):=by
 by_cases q:mb.ht-ma.ht<2
 ·obtain ⟨n,ps',h',d,T⟩:=zaA S g A B hc (by lia) (by lia) hm (by lia)
  exact ⟨n,ps',h',_,d.as S g (fun hh pp S' _ pr=>tl_1 S' (zac pr A.ms) (zac pr B.ms) q) (by lia),T,tlh1 v1 q (fmH ma mb)⟩
 ·obtain ⟨c,d,mc,md,y1,y2,lc,fd,e,C,D,rfl,em,w1,w2,w3⟩:=g.cut B (by have:=A.ky.ht;lia)
  have sg:=congrArg Ms.sg em
  have ht:=congrArg Ms.ht em
  rw [fmS] at sg
  rw [fmH] at ht
  by_cases r:mc.ht<=md.ht
  ·obtain ⟨n1,ps1,h1,d1,T1⟩:=zaA S g A C hc (by lia) (by lia) (by lia) (by lia)
   obtain ⟨n2,ps2,h2,d2,T2⟩:=zaA d1.dd.sh d1.dd.gd T1 (D.pre d1.dd.pre) w3 (by rw [fmH];lia) (by rw [fmH];lia) (by rw [fmS];lia) (by have:=d1.dd.len;lia)
   rw [zaj] at T2
   refine ⟨n2,ps2,h2,_,Dn.seq S g d1 d2 (fun hh pp S' _ pr=>tl_2 S' B.n1 (zac pr A.ms) (zac pr B.ms) (ybn pr e) (zac pr C.ms) (zac pr D.ms) q r) (by lia),T2,?_⟩
   rw [fmH,fmH];lia
  ·obtain ⟨i,j,mi,mj,z1,z2,li,fj,e2,I,J,rfl,em2,u1,u2,u3⟩:=g.cut C (by have:=D.ky.ht;lia)
   have sg2:=congrArg Ms.sg em2
   have ht2:=congrArg Ms.ht em2
   rw [fmS] at sg2
   rw [fmH] at ht2
   obtain ⟨n1,ps1,h1,d1,T1⟩:=zaA S g A I hc (by lia) (by lia) (by lia) (by lia)
   obtain ⟨n2,ps2,h2,d2,T2⟩:=zaA d1.dd.sh d1.dd.gd (J.pre d1.dd.pre) (D.pre d1.dd.pre) w3 (by lia) (by lia) (by lia) (by have:=d1.dd.len;lia)
   obtain ⟨n3,ps3,h3,d3,T3⟩:=zaA d2.dd.sh d2.dd.gd (T1.pre d2.dd.pre) T2 u3 (by rw [fmH,fmH];lia) (by rw [fmH,fmH];lia) (by rw [fmS,fmS];lia) (by have:=d1.dd.len;have:=d2.dd.len;lia)
   have d2':Dn (onSh p (yaf [.ref p,.int j,.int d])) p h1 h2 ps1 ps2 1 n2:=d2.as d1.dd.sh d1.dd.gd (fun hh pp S' _ _=>zfH S' _) (Nat.le_refl _)
   have d23:=Dn.seq (F:=fun h1=>(onSh p (yaf [.ref p,.int j,.int d]) h1).bind fun w h2=>yaf [.ref p,.int n1,w] h2) (F2:=fun w h2=>yaf [.ref p,.int n1,w] h2) d1.dd.sh d1.dd.gd d2' d3 (fun _ _ _ _ _=>rfl) (k:=2) (by lia)
   have ea:(x++z1)++(z2++y2)=x++(z1++z2++y2):=by rw [zaj,zaj]
   rw [ea] at T3
   refine ⟨n3,ps3,h3,_,Dn.seq (F2:=fun v h1=>(onSh p (yaf [.ref p,.int j,.int d]) h1).bind fun w h2=>yaf [.ref p,v,w] h2) S g d1 d23 (fun hh pp S' _ pr=>tl_3 S' B.n1 C.n1 (zac pr A.ms) (zac pr B.ms) (ybn pr e) (zac pr C.ms) (zac pr D.ms) (ybn pr e2) q r) (by lia),T3,?_⟩
   rw [fmH,fmH,fmH];lia
theorem tr_1 {h:AH} {p:Nat} {ps:List Pc} {a b:Nat} {ma mb:Ms} (S:ShelfAt h p ps) (ea:(meas ps)[a]? = some ma) (eb:(meas ps)[b]? = some mb) (hd:ma.ht-mb.ht<2) :
  yba [.ref p,.int a,.int b] h=yaf [.ref p,.int a,.int b] h:=by
 have f1:=zag S ea
 have f2:=zag S eb
 generalize hF:yaf [.ref p,.int a,.int b] h=R
 simp [yba,S.ob,f1,f2,hd,hF]
 cases R<;>rfl
theorem tr_2 {h:AH} {p:Nat} {ps:List Pc} {a b c d:Nat} {ma mb mc md:Ms} (S:ShelfAt h p ps) (a1:1<=a) (ea:(meas ps)[a]? = some ma) (eb:(meas ps)[b]? = some mb) (e:ps[a-1]? = some (.fork c d)) (ec:(meas ps)[c]? = some mc) (ed:(meas ps)[d]? = some md) (hd : ¬ ma.ht-mb.ht<2) (hh:md.ht<=mc.ht) :
  yba [.ref p,.int a,.int b] h=(yaf [.ref p,.int d,.int b] h).bind fun v h1=>yaf [.ref p,.int c,v] h1:=by
 have f1:=zag S ea
 have f2:=zag S eb
 have f3:=zaB S a1 e
 have f4:=zag S ec
 have f5:=zag S ed
 generalize hF:yaf [.ref p,.int d,.int b] h=R
 simp [yba,S.ob,f1,f2,hd,f3,i1,i2,f4,f5,hh,hF,-fIx]
 cases R with
 | ok v h1=>dsimp only;cases yaf [.ref p,.int c,v] h1<;>rfl
 | ex c h1=>rfl
 | bad=>rfl
theorem tr_3 {h:AH} {p:Nat} {ps:List Pc} {a b c d i j:Nat} {ma mb mc md:Ms} (S:ShelfAt h p ps) (a1:1<=a) (d1:1<=d) (ea:(meas ps)[a]? = some ma) (eb:(meas ps)[b]? = some mb) (e:ps[a-1]? = some (.fork c d)) (ec:(meas ps)[c]? = some mc) (ed:(meas ps)[d]? = some md) (e2:ps[d-1]? = some (.fork i j)) (hd : ¬ ma.ht-mb.ht<2) (hh : ¬ md.ht<=mc.ht) :
  yba [.ref p,.int a,.int b] h=(yaf [.ref p,.int c,.int i] h).bind fun v h1=>(onSh p (yaf [.ref p,.int j,.int b]) h1).bind fun w h2=>yaf [.ref p,v,w] h2:=by
 have f1:=zag S ea
 have f2:=zag S eb
 have f3:=zaB S a1 e
 have f4:=zag S ec
 have f5:=zag S ed
 have f6:=zaB S d1 e2
 generalize hF:yaf [.ref p,.int c,.int i] h=R
 simp [yba,S.ob,f1,f2,hd,f3,i1,i2,f4,f5,hh,f6,hF,-fIx]
 cases R with
 | ok v h1 =>
  unfold onSh
  dsimp only
  cases hx:h1[p]? with
  | none=>rfl
  | some o =>
   cases o with
   | lst l=>rfl
   | dct q l=>rfl
   | ins c' l =>
    dsimp only
    by_cases z:c'=0
    ·rw [if_pos z]
     cases yaf [.ref p,.int j,.int b] h1 with
     | ok w h2=>dsimp only;cases yaf [.ref p,v,w] h2<;>rfl
     | ex c h2=>rfl
     | bad=>rfl
    ·rw [if_neg z]
 | ex c h1=>rfl
 | bad=>rfl
theorem zhX {h:AH} {p:Nat} {ps:List Pc} {a b:Nat} {ma mb fa la fb lb:Ms} {x y:Str} (S:ShelfAt h p ps) (g:Good ps) (A:Tx ps a ma x fa la) (B:Tx ps b mb y fb lb) (hc:8<la.sg+fb.sg) (v1 : -1<=ma.ht-mb.ht) (v2:ma.ht-mb.ht<=2) (hm:ma.sg+mb.sg<=1000000000000000000) (hz:ps.length+3<16000000) :
  ∃ (n:Nat) (ps':List Pc) (h':AH) (m:Ms),Dn (yba [.ref p,.int a,.int b]) p h h' ps ps' 3 n/\Tx ps' n m (x++y) fa lb/\max ma.ht mb.ht<=m.ht/\m.ht<=max ma.ht mb.ht+1/\(ma.ht-mb.ht<=1->m.ht=max ma.ht mb.ht+1):=by
 by_cases q:ma.ht-mb.ht<2
 ·obtain ⟨n,ps',h',d,T⟩:=zaA S g A B hc (by lia) (by lia) hm (by lia)
  refine ⟨n,ps',h',_,d.as S g (fun hh pp S' _ pr=>tr_1 S' (zac pr A.ms) (zac pr B.ms) q) (by lia),T,?_⟩
  rw [fmH];lia
 ·obtain ⟨c,d,mc,md,y1,y2,lc,fd,e,C,D,rfl,em,w1,w2,w3⟩:=g.cut A (by have:=B.ky.ht;lia)
  have sg:=congrArg Ms.sg em
  have ht:=congrArg Ms.ht em
  rw [fmS] at sg
  rw [fmH] at ht
  by_cases r:md.ht<=mc.ht
  ·obtain ⟨n1,ps1,h1,d1,T1⟩:=zaA S g D B hc (by lia) (by lia) (by lia) (by lia)
   obtain ⟨n2,ps2,h2,d2,T2⟩:=zaA d1.dd.sh d1.dd.gd (C.pre d1.dd.pre) T1 w3 (by rw [fmH];lia) (by rw [fmH];lia) (by rw [fmS];lia) (by have:=d1.dd.len;lia)
   rw [<- zaj] at T2
   refine ⟨n2,ps2,h2,_,Dn.seq (F2:=fun v h1=>yaf [.ref p,.int c,v] h1) S g d1 d2 (fun hh pp S' _ pr=>tr_2 S' A.n1 (zac pr A.ms) (zac pr B.ms) (ybn pr e) (zac pr C.ms) (zac pr D.ms) q r) (by lia),T2,?_⟩
   rw [fmH,fmH];lia
  ·obtain ⟨i,j,mi,mj,z1,z2,li,fj,e2,I,J,rfl,em2,u1,u2,u3⟩:=g.cut D (by have:=C.ky.ht;lia)
   have sg2:=congrArg Ms.sg em2
   have ht2:=congrArg Ms.ht em2
   rw [fmS] at sg2
   rw [fmH] at ht2
   obtain ⟨n1,ps1,h1,d1,T1⟩:=zaA S g C I w3 (by lia) (by lia) (by lia) (by lia)
   obtain ⟨n2,ps2,h2,d2,T2⟩:=zaA d1.dd.sh d1.dd.gd (J.pre d1.dd.pre) (B.pre d1.dd.pre) hc (by lia) (by lia) (by lia) (by have:=d1.dd.len;lia)
   obtain ⟨n3,ps3,h3,d3,T3⟩:=zaA d2.dd.sh d2.dd.gd (T1.pre d2.dd.pre) T2 u3 (by rw [fmH,fmH];lia) (by rw [fmH,fmH];lia) (by rw [fmS,fmS];lia) (by have:=d1.dd.len;have:=d2.dd.len;lia)
   have d2':Dn (onSh p (yaf [.ref p,.int j,.int b])) p h1 h2 ps1 ps2 1 n2:=d2.as d1.dd.sh d1.dd.gd (fun hh pp S' _ _=>zfH S' _) (Nat.le_refl _)
   have d23:=Dn.seq (F:=fun h1=>(onSh p (yaf [.ref p,.int j,.int b]) h1).bind fun w h2=>yaf [.ref p,.int n1,w] h2) (F2:=fun w h2=>yaf [.ref p,.int n1,w] h2) d1.dd.sh d1.dd.gd d2' d3 (fun _ _ _ _ _=>rfl) (k:=2) (by lia)
   have ea:(y1++z1)++(z2++y)=y1++(z1++z2)++y:=by rw [zaj,zaj,zaj]
   rw [ea] at T3
   refine ⟨n3,ps3,h3,_,Dn.seq (F2:=fun v h1=>(onSh p (yaf [.ref p,.int j,.int b]) h1).bind fun w h2=>yaf [.ref p,v,w] h2) S g d1 d23 (fun hh pp S' _ pr=>tr_3 S' A.n1 D.n1 (zac pr A.ms) (zac pr B.ms) (ybn pr e) (zac pr C.ms) (zac pr D.ms) (ybn pr e2) q r) (by lia),T3,?_⟩
   rw [fmH,fmH,fmH];lia
end Sk
namespace Sk
open PySem PySem.Spec L2 Sm
theorem Dn.seq' {F F1 F2:AH->Out AV} {p:Nat} {h h1 h2:AH} {ps ps1 ps2:List Pc} {k1 k2 k n1 n2:Nat} (S:ShelfAt h p ps) (g:Good ps) (d1:Dn F1 p h h1 ps ps1 k1 n1) (d2:Dn F2 p h1 h2 ps1 ps2 k2 n2)
  (eq:∀ hh hh1 pp,ShelfAt hh p pp->Good pp->ps <+: pp->F1 hh = .ok (.int n1) hh1->F hh=F2 hh1) (hk:k1+k2<=k):Dn F p h h2 ps ps2 k n2:=by
 refine ⟨?_,d1.dd.trans d2.dd hk,fun h3 ps3 S3 g3 p3=>?_⟩
 ·rw [eq h h1 ps S g (List.prefix_refl _) d1.ev];exact d2.ev
 ·rw [eq h3 h3 ps3 S3 g3 (d1.dd.pre.trans (d2.dd.pre.trans p3)) (d1.re h3 ps3 S3 g3 (d2.dd.pre.trans p3))]
  exact d2.re h3 ps3 S3 g3 p3
theorem lk_1 {h:AH} {p:Nat} {ps:List Pc} {a b d:Nat} {ma mb:Ms} (S:ShelfAt h p ps) (ea:(meas ps)[a]? = some ma) (eb:(meas ps)[b]? = some mb) (h1:ma.ht-mb.ht<=1) (h2 : -1<=ma.ht-mb.ht) :
  ybg (d+1) [.ref p,.int a,.int b] h=yaf [.ref p,.int a,.int b] h:=by
 have f1:=zag S ea
 have f2:=zag S eb
 have c1 : ¬ 1<ma.ht-mb.ht:=by lia
 have c2 : ¬ ma.ht-mb.ht < -1:=by lia
 generalize hF:yaf [.ref p,.int a,.int b] h=R
 simp [ybg,yea,S.ob,f1,f2,c1,c2,hF]
 cases R<;>rfl
theorem lk_2 {h h1:AH} {p:Nat} {ps:List Pc} {a b c e d:Nat} {v:Int} {ma mb:Ms} (S:ShelfAt h p ps) (a1:1<=a) (ea:(meas ps)[a]? = some ma) (eb:(meas ps)[b]? = some mb) (ep:ps[a-1]? = some (.fork c e)) (hd:1<ma.ht-mb.ht) (ev:ybg d [.ref p,.int e,.int b] h = .ok (.int v) h1) :
  ybg (d+1) [.ref p,.int a,.int b] h=yaX [.ref p,.int c,.int v] h1:=by
 have f1:=zag S ea
 have f2:=zag S eb
 have f3:=zaB S a1 ep
 generalize hF:yaX [.ref p,.int c,.int v] h1=R
 simp [ybg,yea,S.ob,f1,f2,hd,f3,i1,i2,ev,hF,-fIx]
 cases R<;>rfl
theorem lk_3 {h h1:AH} {p:Nat} {ps:List Pc} {a b c e d:Nat} {v:Int} {ma mb:Ms} (S:ShelfAt h p ps) (b1:1<=b) (ea:(meas ps)[a]? = some ma) (eb:(meas ps)[b]? = some mb) (ep:ps[b-1]? = some (.fork c e)) (hd:ma.ht-mb.ht < -1) (ev:ybg d [.ref p,.int a,.int c] h = .ok (.int v) h1) :
  ybg (d+1) [.ref p,.int a,.int b] h=yba [.ref p,.int v,.int e] h1:=by
 have f1:=zag S ea
 have f2:=zag S eb
 have f3:=zaB S b1 ep
 have c1 : ¬ 1<ma.ht-mb.ht:=by lia
 generalize hF:yba [.ref p,.int v,.int e] h1=R
 simp [ybg,yea,S.ob,f1,f2,c1,hd,f3,i1,i2,ev,hF,-fIx]
 cases R<;>rfl
theorem zb0 {p:Nat}:∀ (d t:Nat) {h:AH} {ps:List Pc} {a b:Nat} {ma mb fa la fb lb:Ms} {x y:Str} (S:ShelfAt h p ps) (g:Good ps) (A:Tx ps a ma x fa la) (B:Tx ps b mb y fb lb) (hc:8<la.sg+fb.sg) (hm:ma.sg+mb.sg<=1000000000000000000)
  (ht:(ma.ht-mb.ht).natAbs<=t) (hd:t<d) (hz:ps.length+3*t+4<16000000),
  ∃ (n:Nat) (ps':List Pc) (h':AH) (m:Ms),Dn (ybg d [.ref p,.int a,.int b]) p h h' ps ps' (3*t+1) n/\Tx ps' n m (x++y) fa lb/\max ma.ht mb.ht<=m.ht/\m.ht<=max ma.ht mb.ht+1
 | 0,t,h,ps,a,b,ma,mb,fa,la,fb,lb,x,y,S,g,A,B,hc,hm,ht,hd,hz=>absurd hd (Nat.not_lt_zero t)
 | d+1,t,h,ps,a,b,ma,mb,fa,la,fb,lb,x,y,S,g,A,B,hc,hm,ht,hd,hz=>by
  by_cases q1:1<ma.ht-mb.ht
  ·obtain ⟨c,e,mc,me,y1,y2,lc,fe,ep,C,E,rfl,em,w1,w2,w3⟩:=g.cut A (by have:=B.ky.ht;lia)
   have sg:=congrArg Ms.sg em
   have hh:=congrArg Ms.ht em
   rw [fmS] at sg
   rw [fmH] at hh
   obtain ⟨n1,ps1,h1,m1,d1,T1,u1,u2⟩:=zb0 d (t-1) S g E B hc (by lia) (by lia) (by lia) (by lia)
   have s1:m1.sg=me.sg+mb.sg:=by rw [T1.ky.sg,zal,<- E.ky.sg,<- B.ky.sg]
   obtain ⟨n2,ps2,h2,m2,d2,T2,u3,u4,u5⟩:=zfI d1.dd.sh d1.dd.gd (C.pre d1.dd.pre) T1 w3 (by lia) (by lia) (by lia) (by have:=d1.dd.len;lia)
   rw [<- zaj] at T2
   exact ⟨n2,ps2,h2,m2,Dn.seq' S g d1 d2 (fun hh hh1 pp S' _ pr ev=>lk_2 S' A.n1 (zac pr A.ms) (zac pr B.ms) (ybn pr ep) q1 ev) (by lia),T2,by lia,by lia⟩
  ·by_cases q2:ma.ht-mb.ht < -1
   ·obtain ⟨c,e,mc,me,y1,y2,lc,fe,ep,C,E,rfl,em,w1,w2,w3⟩:=g.cut B (by have:=A.ky.ht;lia)
    have sg:=congrArg Ms.sg em
    have hh:=congrArg Ms.ht em
    rw [fmS] at sg
    rw [fmH] at hh
    obtain ⟨n1,ps1,h1,m1,d1,T1,u1,u2⟩:=zb0 d (t-1) S g A C hc (by lia) (by lia) (by lia) (by lia)
    have s1:m1.sg=ma.sg+mc.sg:=by rw [T1.ky.sg,zal,<- A.ky.sg,<- C.ky.sg]
    obtain ⟨n2,ps2,h2,m2,d2,T2,u3,u4,u5⟩:=zhX d1.dd.sh d1.dd.gd T1 (E.pre d1.dd.pre) w3 (by lia) (by lia) (by lia) (by have:=d1.dd.len;lia)
    rw [zaj] at T2
    exact ⟨n2,ps2,h2,m2,Dn.seq' S g d1 d2 (fun hh hh1 pp S' _ pr ev=>lk_3 S' B.n1 (zac pr A.ms) (zac pr B.ms) (ybn pr ep) q2 ev) (by lia),T2,by lia,by lia⟩
   ·obtain ⟨n,ps',h',dn,T⟩:=zaA S g A B hc (by lia) (by lia) hm (by lia)
    exact ⟨n,ps',h',_,dn.as S g (fun hh pp S' _ pr=>lk_1 S' (zac pr A.ms) (zac pr B.ms) (by lia) (by lia)) (by lia),T,by rw [fmH];lia,by rw [fmH];lia⟩
theorem zaY {h:AH} {p:Nat} {ps:List Pc} {n:Nat} {x:Str} (S:ShelfAt h p ps) (n1:1<=n) (e:ps[n-1]? = some (.leaf x)):yaC [.ref p,.int n] h = .ok (.tup [.str "leaf",.str x]) h:=zew S n1 e
theorem i0L (x:Str) (h:AH):fIx (.tup [.str "leaf",.str x]) (.int 0) h = .ok (.str "leaf") h:=rfl
theorem i0F (a b:Int) (h:AH):fIx (.tup [.str "fork",.int a,.int b]) (.int 0) h = .ok (.str "fork") h:=rfl
theorem i1L (x:Str) (h:AH):fIx (.tup [.str "leaf",.str x]) (.int 1) h = .ok (.str x) h:=rfl
theorem eqL (h:AH):fEq (.str "leaf") (.str "leaf") h = .ok (.bl true) h:=by simp
theorem eqF (h:AH):fEq (.str "fork") (.str "leaf") h = .ok (.bl false) h:=by
 have : ¬ (Str.ofString "fork" = Str.ofString "leaf"):=by decide +kernel
 simp [this]
theorem wl_1 {h:AH} {p:Nat} {ps:List Pc} {a d:Nat} {L:Int} {x:Str} (S:ShelfAt h p ps) (a1:1<=a) (ep:ps[a-1]? = some (.leaf x)):ybh (d+1) [.ref p,.int a,.int L] h = .ok (.int L) h:=by
 simp [ybh,yd3,S.ob,zaY S a1 ep,i0L,eqL,-fIx,-fEq]
theorem wl_2 {h h1:AH} {p:Nat} {ps:List Pc} {a d c e:Nat} {L v:Int} (S:ShelfAt h p ps) (a1:1<=a) (ep:ps[a-1]? = some (.fork c e)) (ev:ybh d [.ref p,.int e,.int L] h = .ok (.int v) h1) :
  ybh (d+1) [.ref p,.int a,.int L] h=yaf [.ref p,.int c,.int v] h1:=by
 generalize hF:yaf [.ref p,.int c,.int v] h1=R
 simp [ybh,yd3,S.ob,zaB S a1 ep,i0F,i1,i2,eqF,ev,hF,-fIx,-fEq]
 cases R<;>rfl
theorem zcF {ps:List Pc} {n:Nat} {m:Ms} {x:Str} {f l:Ms} (T:Tx ps n m x f l) (e:m=lfMs x n):f=m/\l=m:=by
 have h1:=T.ky.fl
 have h2:=T.ky.ll
 have h3:=T.ms
 rw [e] at h1 h2
 exact ⟨Option.some.inj (h1.symm.trans h3),Option.some.inj (h2.symm.trans h3)⟩
theorem zfJ {p:Nat}:∀ (d:Nat) {h:AH} {ps:List Pc} {a L:Nat} {m f l:Ms} {x w:Str} (S:ShelfAt h p ps) (g:Good ps) (T:Tx ps a m x f l) (N:Tx ps L (lfMs w L) w (lfMs w L) (lfMs w L)) (hw:l.sg<=w.length) (hm:m.sg+w.length<=1000000000000000000+l.sg) (hd:m.ht.toNat<d) (hz:ps.length+m.ht.toNat<16000000),
  ∃ (n:Nat) (ps':List Pc) (h':AH) (m' f':Ms) (u v:Str),Dn (ybh d [.ref p,.int a,.int L]) p h h' ps ps' m.ht.toNat n/\x=u++v/\v.length=l.sg/\Tx ps' n m' (u++w) f' (lfMs w L)/\m'.ht=m.ht/\f.sg<=f'.sg
 | 0,h,ps,a,L,m,f,l,x,w,S,g,T,N,hw,hm,hd,hz=>absurd hd (Nat.not_lt_zero _)
 | d+1,h,ps,a,L,m,f,l,x,w,S,g,T,N,hw,hm,hd,hz=>by
  by_cases q:0<m.ht
  ·obtain ⟨c,e,mc,me,y1,y2,lc,fe,ep,C,E,rfl,em,w1,w2,w3⟩:=g.cut T q
   have sg:=congrArg Ms.sg em
   have hh:=congrArg Ms.ht em
   rw [fmS] at sg
   rw [fmH] at hh
   have c0:=C.ky.ht
   have e0:=E.ky.ht
   obtain ⟨n1,ps1,h1,m1,f1,u,v,d1,rfl,lv,T1,k1,k2⟩:=zfJ d S g E N hw (by lia) (by lia) (by lia)
   have s1:m1.sg+l.sg=me.sg+w.length:=by rw [T1.ky.sg,E.ky.sg,zal,zal];lia
   obtain ⟨n2,ps2,h2,d2,T2⟩:=zaA d1.dd.sh d1.dd.gd (C.pre d1.dd.pre) T1 (by lia) (by lia) (by lia) (by lia) (by have:=d1.dd.len;lia)
   rw [<- zaj] at T2
   exact ⟨n2,ps2,h2,_,f,y1++u,v,Dn.seq' S g d1 d2 (fun hh hh1 pp S' _ pr ev=>wl_2 S' T.n1 (ybn pr ep) ev) (by lia),by rw [zaj],lv,T2,by rw [fmH,k1,hh],Nat.le_refl _⟩
  ·rcases g.kind T with ⟨e1,e2,e3,e4,e5⟩ | ⟨c,e,mc,me,y1,y2,fc,lc,fe,le,e1,e2,e3,C,E,e4,e5,e6⟩
   ·obtain ⟨z1,z2⟩:=zcF T e3
    subst z1 z2
    have em:("" : Str)++x=x:=zaf (by rw [zap];rfl)
    have em2:("" : Str)++w=w:=zaf (by rw [zap];rfl)
    have dv:Dn (ybh (d+1) [.ref p,.int a,.int L]) p h h ps ps 0 L:=Dn.val S g fun hh pp S' _ pr=>wl_1 S' T.n1 (ybn pr e1)
    refine ⟨L,ps,h,_,_, "",x,dv.as S g (fun _ _ _ _ _=>rfl) (Nat.zero_le _),em.symm,T.ky.sg.symm,by rw [em2];exact N,e2.symm,hw⟩
   ·have:=congrArg Ms.ht e5
    rw [fmH] at this
    have c0:=C.ky.ht
    lia
theorem wf_1 {h:AH} {p:Nat} {ps:List Pc} {a d:Nat} {x:Str} (S:ShelfAt h p ps) (a1:1<=a) (ep:ps[a-1]? = some (.leaf x)):yaG (d+1) [.ref p,.int a] h = .ok (.int (0:Nat)) h:=by
 simp [yaG,ycS,S.ob,zaY S a1 ep,i0L,eqL,-fIx,-fEq]
theorem wf_2 {h h1:AH} {p:Nat} {ps:List Pc} {a d c e:Nat} (S:ShelfAt h p ps) (a1:1<=a) (ep:ps[a-1]? = some (.fork c e)) (ev:yaG d [.ref p,.int c] h = .ok (.int (0:Nat)) h1) :
  yaG (d+1) [.ref p,.int a] h = .ok (.int e) h1:=by
 have z:fEq (.int 0) (.int 0) h1 = .ok (.bl true) h1:=by simp
 simp [yaG,ycS,S.ob,zaB S a1 ep,i0F,i1,i2,eqF,ev,z,-fIx,-fEq]
theorem wf_3 {h h1:AH} {p:Nat} {ps:List Pc} {a d c e v:Nat} (S:ShelfAt h p ps) (a1:1<=a) (ep:ps[a-1]? = some (.fork c e)) (v1:1<=v) (ev:yaG d [.ref p,.int c] h = .ok (.int v) h1) :
  yaG (d+1) [.ref p,.int a] h=yaX [.ref p,.int v,.int e] h1:=by
 have z:fEq (.int (v:Int)) (.int 0) h1 = .ok (.bl false) h1:=by
  have : ¬ (v=0):=by lia
  simp [this]
 generalize hF:yaX [.ref p,.int v,.int e] h1=R
 simp [yaG,ycS,S.ob,zaB S a1 ep,i0F,i1,i2,eqF,ev,z,hF,-fIx,-fEq]
 cases R<;>rfl
end Sk
namespace Sk
open PySem PySem.Spec L2 Sm
theorem zex {p:Nat}:∀ (d:Nat) {h:AH} {ps:List Pc} {a:Nat} {m f l:Ms} {x:Str} (S:ShelfAt h p ps) (g:Good ps) (T:Tx ps a m x f l) (hd:m.ht.toNat<d) (hz:ps.length+3*m.ht.toNat<16000000),
  (m.ht=0/\f.sg=x.length/\Dn (yaG d [.ref p,.int a]) p h h ps ps 0 0) \/
  (0<m.ht/\∃ (n:Nat) (ps':List Pc) (h':AH) (m' f2:Ms) (u v:Str),Dn (yaG d [.ref p,.int a]) p h h' ps ps' (3*m.ht.toNat) n/\x=u++v/\u.length=f.sg/\Tx ps' n m' v f2 l/\m.ht-1<=m'.ht/\m'.ht<=m.ht/\8<f.sg+f2.sg)
 | 0,h,ps,a,m,f,l,x,S,g,T,hd,hz=>absurd hd (Nat.not_lt_zero _)
 | d+1,h,ps,a,m,f,l,x,S,g,T,hd,hz=>by
  by_cases q:0<m.ht
  ·obtain ⟨c,e,mc,me,y1,y2,lc,fe,ep,C,E,rfl,em,w1,w2,w3⟩:=g.cut T q
   have sg:=congrArg Ms.sg em
   have hh:=congrArg Ms.ht em
   rw [fmS] at sg
   rw [fmH] at hh
   have c0:=C.ky.ht
   have e0:=E.ky.ht
   have most:=T.ky.most
   refine .inr ⟨q,?_⟩
   rcases zex d S g C (by lia) (by lia) with ⟨k1,k2,d1⟩ | ⟨k1,n1,ps1,h1,m1,f2,u,v,d1,rfl,lu,T1,r1,r2,r3⟩
   ·rcases g.kind C with ⟨e1,e2,e3,e4,e5⟩ | ⟨_,_,mx,my,_,_,_,_,_,_,_,_,_,X,Y,_,e5,_⟩
    ·obtain ⟨z1,z2⟩:=zcF C e3
     have dv:Dn (yaG (d+1) [.ref p,.int a]) p h h ps ps 0 e:=by
      refine ⟨wf_2 S T.n1 ep d1.ev,Dd.refl S g,fun h3 ps3 S3 g3 p3=>wf_2 S3 T.n1 (ybn p3 ep) (d1.re h3 ps3 S3 g3 p3)⟩
     exact ⟨e,ps,h,me,fe,y1,y2,dv.as S g (fun _ _ _ _ _=>rfl) (Nat.zero_le _),rfl,k2.symm,E,by lia,by lia,by rw [z1];rw [z2] at w3;exact w3⟩
    ·have:=congrArg Ms.ht e5
     rw [fmH] at this
     have:=X.ky.ht
     lia
   ·have s1:m1.sg+f.sg=mc.sg:=by rw [T1.ky.sg,C.ky.sg,zal];lia
    obtain ⟨n2,ps2,h2,m2,d2,T2,u3,u4,u5⟩:=zfI d1.dd.sh d1.dd.gd T1 (E.pre d1.dd.pre) w3 (by lia) (by lia) (by lia) (by have:=d1.dd.len;lia)
    refine ⟨n2,ps2,h2,m2,f2,u,v++y2,Dn.seq' S g d1 d2 (fun hh hh1 pp S' _ pr ev=>wf_3 S' T.n1 (ybn pr ep) T1.n1 ev) (by lia),by rw [zaj],lu,T2,?_,?_,r3⟩
    ·lia
    ·lia
  ·rcases g.kind T with ⟨e1,e2,e3,e4,e5⟩ | ⟨_,_,mx,my,_,_,_,_,_,_,_,_,_,X,Y,_,e5,_⟩
   ·obtain ⟨z1,z2⟩:=zcF T e3
    exact .inl ⟨e2,by rw [z1];exact T.ky.sg,Dn.val S g fun hh pp S' _ pr=>wf_1 S' T.n1 (ybn pr e1)⟩
   ·have:=congrArg Ms.ht e5
    rw [fmH] at this
    have:=X.ky.ht
    lia
theorem Good.ends {ps:List Pc} (g:Good ps):∀ (k n:Nat) {m f l:Ms} {x:Str},n<=k->Tx ps n m x f l ->
  (∃ w u:Str,1<=m.fl/\ps[m.fl-1]? = some (.leaf w)/\x=w++u/\w.length=f.sg)/\(∃ w u:Str,1<=m.ll/\ps[m.ll-1]? = some (.leaf w)/\x=u++w/\w.length=l.sg)
 | 0,n,m,f,l,x,hn,T=>absurd T.n1 (by lia)
 | k+1,n,m,f,l,x,hn,T=>by
  rcases g.kind T with ⟨e1,e2,e3,e4,e5⟩ | ⟨a,b,ma,mb,y,z,fa,la,fb,lb,e1,e2,e3,A,B,rfl,e5,e6⟩
  ·obtain ⟨z1,z2⟩:=zcF T e3
   have em:("" : Str)++x=x:=zaf (by rw [zap];rfl)
   have em2:x++("" : Str)=x:=zaf (by rw [zap];simp;rfl)
   have hf:m.fl=n:=by rw [e3];rfl
   have hl:m.ll=n:=by rw [e3];rfl
   have hx:=T.ky.sg
   refine ⟨⟨x, "",by rw [hf];exact T.n1,by rw [hf];exact e1,em2.symm,by rw [z1];exact hx.symm⟩,⟨x, "",by rw [hl];exact T.n1,by rw [hl];exact e1,em.symm,by rw [z2];exact hx.symm⟩⟩
  ·have q1:=g.ends k a (by lia) A
   have q2:=g.ends k b (by lia) B
   obtain ⟨⟨w,u,a1,a2,rfl,a4⟩,_⟩:=q1
   obtain ⟨_,⟨w2,u2,b1,b2,rfl,b4⟩⟩:=q2
   have f1:=T.ky.fl
   have l1:=T.ky.ll
   have hf:m.fl=ma.fl:=by rw [e5];rfl
   have hl:m.ll=mb.ll:=by rw [e5];rfl
   rw [hf] at f1
   rw [hl] at l1
   have z5:=f1.symm.trans A.ky.fl;cases z5
   have z6:=l1.symm.trans B.ky.ll;cases z6
   rw [hf,hl]
   exact ⟨⟨w,u++(u2++w2),a1,a2,by rw [zaj],a4⟩,⟨w2,w++u++u2,b1,b2,by rw [zaj (w++u)],b4⟩⟩
theorem zfK {a b c d:Str} (e:a++b=c++d) (h:a.length=c.length):a=c/\b=d:=by
 have:=congrArg (fun z:Str=>z.cps.toList) e
 simp only [zap] at this
 obtain ⟨h1,h2⟩:=List.append_inj this (by rw [<- zad,<- zad];exact h)
 exact ⟨zaf h1,zaf h2⟩
theorem zhY {a b c d:Str} (e:a++b=c++d) (h:b.length=d.length):a=c/\b=d:=by
 refine zfK e ?_
 have:=congrArg Str.length e
 rw [zal,zal] at this
 lia
theorem zi5 {h:AH} {p:Nat} {ps:List Pc} {a b:Nat} {ma mb la fb:Ms} (S:ShelfAt h p ps) (ea:(meas ps)[a]? = some ma) (eb:(meas ps)[b]? = some mb) (el:(meas ps)[ma.ll]? = some la) (ef:(meas ps)[mb.fl]? = some fb) :
  ydK [.ref p,.int a,.int b] h = .ok (.bl (decide (8<la.sg+fb.sg))) h:=by
 have e1:=yfM S ea
 have e2:=zfF S eb
 have e3:=za7 S el
 have e4:=za7 S ef
 have:decide ((8:Int)<(la.sg:Int)+fb.sg)=decide (8<la.sg+fb.sg):=by apply decide_eq_decide.mpr;lia
 simp [ydK,S.ob,e1,e2,e3,e4,this]
theorem zhZ {w v:Str} (hw:w.length+v.length<=100) (h:AH):fAdd (.str w) (.str v) h = .ok (.str (w++v)) h:=by
 have:w.length+v.length<=sizeLine:=Nat.le_trans hw (by decide)
 simp [fAdd,this]
theorem wd_1 {h h1 h2 h3:AH} {p:Nat} {ps:List Pc} {a b:Nat} {L n k:Int} {ma mb:Ms} {w v:Str} (S:ShelfAt h p ps) (ea:(meas ps)[a]? = some ma) (eb:(meas ps)[b]? = some mb) (l1:1<=ma.ll) (f1:1<=mb.fl) (el:ps[ma.ll-1]? = some (.leaf w)) (ef:ps[mb.fl-1]? = some (.leaf v)) (hw:w.length+v.length<=100)
  (e1:ya6 [.ref p,.str (w++v)] h = .ok (.int L) h1) (e2:ybh 90 [.ref p,.int a,.int L] h1 = .ok (.int n) h2) (e3:yaG 90 [.ref p,.int b] h2 = .ok (.int k) h3) :
  ydm [.ref p,.int a,.int b] h=if k=0 then .ok (.int n) h3 else ybg 90 [.ref p,.int n,.int k] h3:=by
 have q1:=yfM S ea
 have q2:=zfF S eb
 have q3:=zaY S l1 el
 have q4:=zaY S f1 ef
 have ad:=zhZ hw h
 unfold ydm
 generalize ybh 90=WL at *
 generalize yaG 90=WF at *
 generalize hF:ybg 90=LK at *
 by_cases z:k=0
 ·subst z
  have zz:fEq (.int 0) (.int 0) h3 = .ok (.bl true) h3:=by simp
  simp [S.ob,q1,q2,q3,q4,i1L,ad,e1,e2,e3,zz,-fIx,-fEq,-fAdd]
 ·have zz:fEq (.int k) (.int 0) h3 = .ok (.bl false) h3:=by simp [z]
  rw [if_neg z]
  generalize hR:LK [.ref p,.int n,.int k] h3=R
  simp [S.ob,q1,q2,q3,q4,i1L,ad,e1,e2,e3,zz,hR,-fIx,-fEq,-fAdd]
  cases R<;>rfl
end Sk
namespace Sk
open PySem PySem.Spec L2 Sm
theorem zhb {w v:Str} (h1:1<=w.length) (h2:w.length+v.length<=8) (pw:yau w=true) (pv:yau v=true):ybk (w++v)=true:=by
 unfold ybk
 rw [zaQ,zal,pw,pv]
 simp;lia
theorem zh0 {h:AH} {p:Nat} {ps:List Pc} {a b:Nat} {ma mb fa la fb lb:Ms} {x y:Str} (S:ShelfAt h p ps) (g:Good ps) (A:Tx ps a ma x fa la) (B:Tx ps b mb y fb lb) (hc : ¬ 8<la.sg+fb.sg) (hm:ma.sg+mb.sg<=1000000000000000000) (hz:ps.length<15000000) :
  ∃ (n:Nat) (ps':List Pc) (h':AH) (m f l:Ms),Dn (ydm [.ref p,.int a,.int b]) p h h' ps ps' (7*(max ma.ht mb.ht).toNat+2) n/\Tx ps' n m (x++y) f l/\m.ht<=max ma.ht mb.ht+1:=by
 obtain ⟨_,w,u,l1,el,ex,lw⟩:=g.ends a a (Nat.le_refl _) A
 obtain ⟨⟨v,t,f1,ef,ey,lv⟩,_⟩:=g.ends b b (Nat.le_refl _) B
 have a0:=A.ky.ht
 have b0:=B.ky.ht
 have ha:=ht82 g A
 have hb:=ht82 g B
 have px:yau x=true:=A.ky.pl
 have py:yau y=true:=B.ky.pl
 have pw:yau w=true:=by rw [ex,zaQ,Bool.and_eq_true] at px;exact px.2
 have pv:yau v=true:=by rw [ey,zaQ,Bool.and_eq_true] at py;exact py.1
 have la1:=A.ky.l1
 have fb1:=B.ky.f1
 have sx:=A.ky.sg
 have sy:=B.ky.sg
 have lx:x.length=u.length+w.length:=by rw [ex,zal]
 have ly:y.length=v.length+t.length:=by rw [ey,zal]
 have lwv:(w++v).length=w.length+v.length:=zal w v
 obtain ⟨L,ps1,h1,d1,N⟩:=zfG S g (zhb (w:=w) (v:=v) (by lia) (by lia) pw pv) (by lia)
 have z1:=d1.dd.len
 obtain ⟨n2,ps2,h2,m2,f2,u2,v2,d2,ex2,lv2,T2,k1,k2⟩:=zfJ 90 d1.dd.sh d1.dd.gd (A.pre d1.dd.pre) N (by lia) (by lia) (by lia) (by lia)
 have z2:=d2.dd.len
 obtain ⟨rfl,rfl⟩:u=u2/\w=v2:=zhY (ex.symm.trans ex2) (by lia)
 have s2:m2.sg=u.length+(w.length+v.length):=by rw [T2.ky.sg,zal,zal]
 have p12:=d1.dd.pre.trans d2.dd.pre
 have lm:(lfMs (w++v) L).sg=w.length+v.length:=zal w v
 have tb:∀ q:Int,0<=q->q<=max ma.ht mb.ht->q.toNat<=(max ma.ht mb.ht).toNat:=fun q _ _=>by lia
 rcases zex 90 d2.dd.sh d2.dd.gd (B.pre p12) (by lia) (by lia) with ⟨r1,r2,d3⟩ | ⟨r1,n3,ps3,h3,m3,f3,u3,v3,d3,ey3,lu3,T3,r2,r3,r4⟩
 ·have t0:t.length=0:=by lia
  have te:t = "" := zaf (by rw [zad] at t0;rw [List.length_eq_zero_iff.mp t0];rfl)
  have rd:u++(w++v)=x++y:=by
   rw [ex,ey,te,zaj]
   congr 2
  rw [rd] at T2
  refine ⟨n2,ps2,h2,m2,f2,_,⟨?_,d1.dd.trans d2.dd (by lia),fun h4 ps4 S4 g4 p4=>?_⟩,T2,by lia⟩
  ·rw [wd_1 S A.ms B.ms l1 f1 el ef (by lia) d1.ev d2.ev d3.ev];rfl
  ·have q1:=d1.re h4 ps4 S4 g4 (d2.dd.pre.trans p4)
   have q2:=d2.re h4 ps4 S4 g4 p4
   have q3:=d3.re h4 ps4 S4 g4 p4
   rw [wd_1 S4 (zac (p12.trans p4) A.ms) (zac (p12.trans p4) B.ms) l1 f1 (ybn (p12.trans p4) el) (ybn (p12.trans p4) ef) (by lia) q1 q2 q3];rfl
 ·obtain ⟨rfl,rfl⟩:v=u3/\t=v3:=zfK (ey.symm.trans ey3) (by lia)
  have z3:=d3.dd.len
  have s3:m3.sg=t.length:=T3.ky.sg
  have m30:=T3.ky.ht
  obtain ⟨n4,ps4,h4,m4,d4,T4,r5,r6⟩:=zb0 90 (max ma.ht mb.ht).toNat d3.dd.sh d3.dd.gd (T2.pre d3.dd.pre) T3 (by lia) (by lia) (by lia) (by lia) (by lia)
  have rd:(u++(w++v))++t=x++y:=by rw [ex,ey,zaj,zaj,zaj]
  rw [rd] at T4
  have n3z : ¬ (n3:Int)=0:=by have:=T3.n1;lia
  have p123:=p12.trans d3.dd.pre
  refine ⟨n4,ps4,h4,m4,f2,lb,⟨?_,((d1.dd.trans d2.dd (Nat.le_refl _)).trans d3.dd (Nat.le_refl _)).trans d4.dd (by lia),fun h5 ps5 S5 g5 p5=>?_⟩,T4,by lia⟩
  ·rw [wd_1 S A.ms B.ms l1 f1 el ef (by lia) d1.ev d2.ev d3.ev,if_neg n3z];exact d4.ev
  ·have p45:=d4.dd.pre.trans p5
   have q1:=d1.re h5 ps5 S5 g5 (d2.dd.pre.trans (d3.dd.pre.trans p45))
   have q2:=d2.re h5 ps5 S5 g5 (d3.dd.pre.trans p45)
   have q3:=d3.re h5 ps5 S5 g5 p45
   have q4:=d4.re h5 ps5 S5 g5 p5
   have pa:=p123.trans p45
   rw [wd_1 S5 (zac pa A.ms) (zac pa B.ms) l1 f1 (ybn pa el) (ybn pa ef) (by lia) q1 q2 q3,if_neg n3z];exact q4
def TxZ (ps:List Pc) (n:Nat) (y:Str):Prop:=(n=0/\y = "")\/∃ m f l,Tx ps n m y f l
theorem TxZ.pre {ps ps':List Pc} {n:Nat} {y:Str} (t:TxZ ps n y) (h:ps <+: ps'):TxZ ps' n y:=by
 rcases t with t | ⟨m,f,l,t⟩
 ·exact .inl t
 ·exact .inr ⟨m,f,l,t.pre h⟩
theorem zbB (ps:List Pc):(meas ps)[0]? = some ms0:=by
 obtain ⟨r,e,_⟩:=zbr ydx ps [ms0]
 rw [meas,e];rfl
def htOf (ps:List Pc) (n:Nat):Int:=((meas ps).getD n ms0).ht
theorem yeR {ps:List Pc} {n:Nat} {m:Ms} (e:(meas ps)[n]? = some m):htOf ps n=m.ht:=by unfold htOf;rw [zaV e]
theorem zi6 (ps:List Pc):htOf ps 0 = -1:=yeR (zbB ps)
theorem zb1 {i:Int} (hi:i<=1000000000000000000) (h:AH):yc5 [.int i] h = .ok .non h:=by
 have : ¬ (1000000000000000000:Int)<i:=by lia
 simp [yc5,this]
theorem jn_0 {h:AH} {p:Nat} {ps:List Pc} {b:Nat} {mb:Ms} (S:ShelfAt h p ps) (eb:(meas ps)[b]? = some mb) (hm:mb.sg<=1000000000000000000):ybT [.ref p,.int (0:Nat),.int b] h = .ok (.int b) h:=by
 have e1:=za7 S (zbB ps)
 have e2:=za7 S eb
 have z:ms0.sg=0:=rfl
 rw [z] at e1
 have e1':ybo [.ref p,.int 0] h = .ok (.int 0) h:=e1
 have ck:=zb1 (i:=(0:Int)+mb.sg) (by lia) h
 have zz:fEq (.int 0) (.int 0) h = .ok (.bl true) h:=by simp
 have ad:fAdd (.int 0) (.int mb.sg) h = .ok (.int (0+mb.sg)) h:=rfl
 simp [ybT,S.ob,e1',e2,ad,ck,zz,-fEq,-fAdd,-Int.zero_add]
theorem jn_1 {h:AH} {p:Nat} {ps:List Pc} {a:Nat} {ma:Ms} (S:ShelfAt h p ps) (a1:1<=a) (ea:(meas ps)[a]? = some ma) (hm:ma.sg<=1000000000000000000):ybT [.ref p,.int a,.int (0:Nat)] h = .ok (.int a) h:=by
 have e1:=za7 S (zbB ps)
 have e2:=za7 S ea
 have z:ms0.sg=0:=rfl
 rw [z] at e1
 have e1':ybo [.ref p,.int 0] h = .ok (.int 0) h:=e1
 have ck:=zb1 (i:=(ma.sg:Int)+0) (by lia) h
 have zz:fEq (.int 0) (.int 0) h = .ok (.bl true) h:=by simp
 have z2:fEq (.int a) (.int 0) h = .ok (.bl false) h:=by
  have : ¬ a=0:=by lia
  simp [this]
 have ad:fAdd (.int ma.sg) (.int 0) h = .ok (.int (ma.sg+0)) h:=rfl
 simp [ybT,S.ob,e1',e2,ad,ck,zz,z2,-fEq,-fAdd,-Int.add_zero]
theorem jn_2 {h:AH} {p:Nat} {ps:List Pc} {a b:Nat} {ma mb la fb:Ms} (S:ShelfAt h p ps) (a1:1<=a) (b1:1<=b) (ea:(meas ps)[a]? = some ma) (eb:(meas ps)[b]? = some mb) (el:(meas ps)[ma.ll]? = some la) (ef:(meas ps)[mb.fl]? = some fb) (hm:ma.sg+mb.sg<=1000000000000000000) :
  ybT [.ref p,.int a,.int b] h=if 8<la.sg+fb.sg then ybg 90 [.ref p,.int a,.int b] h else ydm [.ref p,.int a,.int b] h:=by
 have e1:=za7 S ea
 have e2:=za7 S eb
 have cl:=zi5 S ea eb el ef
 have ck:=zb1 (i:=(ma.sg:Int)+mb.sg) (by lia) h
 have z1:fEq (.int a) (.int 0) h = .ok (.bl false) h:=by
  have : ¬ a=0:=by lia
  simp [this]
 have z2:fEq (.int b) (.int 0) h = .ok (.bl false) h:=by
  have : ¬ b=0:=by lia
  simp [this]
 have ad:fAdd (.int ma.sg) (.int mb.sg) h = .ok (.int (ma.sg+mb.sg)) h:=rfl
 unfold ybT
 generalize ybg 90=LK at *
 by_cases q:8<la.sg+fb.sg
 ·rw [if_pos q]
  generalize hR:LK [.ref p,.int a,.int b] h=R
  simp [S.ob,e1,e2,ad,ck,z1,z2,cl,q,hR,-fEq,-fAdd]
  cases R<;>rfl
 ·rw [if_neg q]
  generalize hR:ydm [.ref p,.int a,.int b] h=R
  simp [S.ob,e1,e2,ad,ck,z1,z2,cl,q,hR,-fEq,-fAdd]
  cases R<;>rfl
theorem TxZ.meas {ps:List Pc} {n:Nat} {y:Str} (t:TxZ ps n y):∃ m,(meas ps)[n]? = some m/\m.sg=y.length:=by
 rcases t with ⟨rfl,rfl⟩ | ⟨m,f,l,T⟩
 ·exact ⟨ms0,zbB ps,rfl⟩
 ·exact ⟨m,T.ms,T.ky.sg⟩
theorem zey {h:AH} {p:Nat} {ps:List Pc} {a b:Nat} {x y:Str} (S:ShelfAt h p ps) (g:Good ps) (A:TxZ ps a x) (B:TxZ ps b y) (hm:x.length+y.length<=1000000000000000000) (hz:ps.length<15000000) :
  ∃ (n:Nat) (ps':List Pc) (h':AH),Dn (ybT [.ref p,.int a,.int b]) p h h' ps ps' (16*(max (htOf ps a) (htOf ps b)+1).toNat) n/\TxZ ps' n (x++y):=by
 rcases A with ⟨rfl,rfl⟩ | ⟨ma,fa,la,A⟩
 ·obtain ⟨mb,eb,sb⟩:=B.meas
  have em:("" : Str)++y=y:=zaf (by rw [zap];rfl)
  have dv:Dn (ybT [.ref p,.int (0:Nat),.int b]) p h h ps ps 0 b:=Dn.val S g fun hh pp S' _ pr=>jn_0 S' (zac pr eb) (by rw [sb];lia)
  exact ⟨b,ps,h,dv.as S g (fun _ _ _ _ _=>rfl) (Nat.zero_le _),by rw [em];exact B⟩
 ·rcases B with ⟨rfl,rfl⟩ | ⟨mb,fb,lb,B⟩
  ·have em:x++("" : Str)=x:=zaf (by rw [zap];simp;rfl)
   have dv:Dn (ybT [.ref p,.int a,.int (0:Nat)]) p h h ps ps 0 a:=Dn.val S g fun hh pp S' _ pr=>jn_1 S' A.n1 (zac pr A.ms) A.ky.most
   exact ⟨a,ps,h,dv.as S g (fun _ _ _ _ _=>rfl) (Nat.zero_le _),by rw [em];exact .inr ⟨_,_,_,A⟩⟩
  ·have sa:=A.ky.sg
   have sb:=B.ky.sg
   have a0:=A.ky.ht
   have b0:=B.ky.ht
   have ha:=ht82 g A
   have hb:=ht82 g B
   rw [yeR A.ms,yeR B.ms]
   by_cases q:8<la.sg+fb.sg
   ·obtain ⟨n,ps',h',m,d,T,_⟩:=zb0 90 (max ma.ht mb.ht).toNat S g A B q (by lia) (by lia) (by lia) (by lia)
    exact ⟨n,ps',h',d.as S g (fun hh pp S' _ pr=>by rw [jn_2 S' A.n1 B.n1 (zac pr A.ms) (zac pr B.ms) (zac pr A.ky.ll) (zac pr B.ky.fl) (by lia),if_pos q]) (by lia),.inr ⟨_,_,_,T⟩⟩
   ·obtain ⟨n,ps',h',m,f,l,d,T,_⟩:=zh0 S g A B q (by lia) hz
    exact ⟨n,ps',h',d.as S g (fun hh pp S' _ pr=>by rw [jn_2 S' A.n1 B.n1 (zac pr A.ms) (zac pr B.ms) (zac pr A.ky.ll) (zac pr B.ky.fl) (by lia),if_neg q]) (by lia),.inr ⟨_,_,_,T⟩⟩
end Sk
namespace Sk
open PySem PySem.Spec L2 Sm
theorem zi7 {b e:Nat} {y:Str} (be:b<=e):(cutS y (some (b:Int)) (some (e:Int))).cps.toList=(y.cps.toList.drop b).take (e-b):=by
 unfold cutS
 rw [HT.sIx_nat,HT.sIx_nat]
 generalize y.cps.toList=l
 show (l.drop (min b l.length)).take (min e l.length-min b l.length)=_
 apply List.ext_getElem?
 intro i
 rw [List.getElem?_take,List.getElem?_take,List.getElem?_drop,List.getElem?_drop]
 by_cases q:b<=l.length
 ·rw [Nat.min_eq_left q]
  by_cases c1:i<e-b
  ·rw [if_pos c1]
   by_cases c2:i<min e l.length-b
   ·rw [if_pos c2]
   ·rw [if_neg c2,List.getElem?_eq_none (by lia)]
  ·rw [if_neg c1,if_neg (by lia)]
 ·rw [if_neg (by lia),List.getElem?_eq_none (l:=l) (i:=b+i) (by lia)]
  split<;>rfl
def cat:List Str->Str
 | [] => ""
 | w::ws=>w++cat ws
theorem zbL:∀ as bs:List Str,cat (as++bs)=cat as++cat bs
 | [],bs=>(zaf (by rw [zap];rfl):cat bs=("" : Str)++cat bs)
 | w::as,bs=>by
  show w++cat (as++bs)=(w++cat as)++cat bs
  rw [zbL as bs,zaj]
theorem zcG (w:Str):cat [w]=w:=zaf (by show (w++("" : Str)).cps.toList=_;rw [zap];simp;rfl)
def LS (ps:List Pc) (ns:List Nat) (ws:List Str):Prop:=ns.length=ws.length/\∀ (i n:Nat) (w:Str),ns[i]? = some n->ws[i]? = some w->Tx ps n (lfMs w n) w (lfMs w n) (lfMs w n)
theorem LS.pre {ps ps':List Pc} {ns:List Nat} {ws:List Str} (s:LS ps ns ws) (h:ps <+: ps'):LS ps' ns ws:=⟨s.1,fun i n w a b=>(s.2 i n w a b).pre h⟩
theorem LS.take {ps:List Pc} {ns:List Nat} {ws:List Str} (s:LS ps ns ws) (k:Nat):LS ps (ns.take k) (ws.take k):=by
 refine ⟨by simp [s.1],fun i n w a b=>?_⟩
 rw [List.getElem?_take] at a b
 by_cases q:i<k
 ·rw [if_pos q] at a b;exact s.2 i n w a b
 ·rw [if_neg q] at a;cases a
theorem LS.drop {ps:List Pc} {ns:List Nat} {ws:List Str} (s:LS ps ns ws) (k:Nat):LS ps (ns.drop k) (ws.drop k):=by
 refine ⟨by simp [s.1],fun i n w a b=>?_⟩
 rw [List.getElem?_drop] at a b
 exact s.2 _ n w a b
abbrev ivs (ns:List Nat):List AV:=ns.map fun n:Nat=>AV.int (n:Int)
theorem hv_1 {h:AH} {p d n:Nat}:ycb (d+1) [.ref p,.fl (ivs [n])] h = .ok (.int n) h:=by
 have ix:fIx (.fl [.int (n:Int)]) (.int 0) h = .ok (.int n) h:=rfl
 simp [ycb,yeq,ix,-fIx]
theorem zhc {α:Type} (l:List α) {k:Nat} (hk:k<=l.length):cutA l none (some (k:Int))=l.take k:=by
 unfold cutA
 rw [HT.sIx_nat,HT.sIx_none,Nat.min_eq_left hk];simp
theorem zhd {α:Type} (l:List α) {k:Nat} (hk:k<=l.length):cutA l (some (k:Int)) none=l.drop k:=by
 unfold cutA
 rw [HT.sIx_nat,HT.sIx_none,Nat.min_eq_left hk,List.take_of_length_le (by simp)]
theorem hv_2 {h h1 h2:AH} {p d:Nat} {ps:List Pc} {ns:List Nat} {v1 v2:Int} (S:ShelfAt h p ps) (hl:2<=ns.length) (e1:ycb d [.ref p,.fl (ivs (ns.take (ns.length / 2)))] h = .ok (.int v1) h1) (e2:ycb d [.ref p,.fl (ivs (ns.drop (ns.length / 2)))] h1 = .ok (.int v2) h2) :
  ycb (d+1) [.ref p,.fl (ivs ns)] h=yaf [.ref p,.int v1,.int v2] h2:=by
 have hh:ns.length / 2<=ns.length:=Nat.div_le_self _ _
 have ln:fLen [.fl (ivs ns)] h = .ok (.int ns.length) h:=by simp [fLen]
 have q:fEq (.int ns.length) (.int 1) h = .ok (.bl false) h:=by
  have : ¬ (ns.length:Int)=1:=by lia
  simp [this]
 have dv:fDiv (.int ns.length) (.int 2) h = .ok (.int (ns.length / 2:Nat)) h:=rfl
 have c1:ya4 (.fl (ivs ns)) none (some (ns.length / 2:Nat)) h = .ok (.fl (ivs (ns.take (ns.length / 2)))) h:=by
  have:=zhc (ivs ns) (k:=ns.length / 2) (by simpa using hh)
  simp only [ya4,this,ivs,List.map_take]
 have c2:∀ h,ya4 (.fl (ivs ns)) (some (ns.length / 2:Nat)) none h = .ok (.fl (ivs (ns.drop (ns.length / 2)))) h:=fun h=>by
  have:=zhd (ivs ns) (k:=ns.length / 2) (by simpa using hh)
  simp only [ya4,this,ivs,List.map_drop]
 generalize hF:yaf [.ref p,.int v1,.int v2] h2=R
 unfold ycb yeq
 generalize ivs ns=Z at *
 generalize ivs (ns.take (ns.length / 2))=Z1 at *
 generalize ivs (ns.drop (ns.length / 2))=Z2 at *
 generalize ((ns.length / 2:Nat):Int)=M at *
 generalize (ns.length:Int)=K at *
 simp [S.ob,ln,q,dv,c1,c2,e1,e2,hF,-fLen,-fEq,-fDiv,-ya4]
 cases R<;>rfl
theorem pw1 {a b ha hb:Nat} (ab:b<=a+1) (h1:a<=2 ^ ha) (h2:hb=0\/2 ^ (hb-1)<b):hb<=ha+1:=by
 rcases h2 with h2 | h2
 ·lia
 ·have:2 ^ (hb-1)<=2 ^ ha:=by lia
  have:=(Nat.pow_le_pow_iff_right (a:=2) (by decide)).mp this
  lia
theorem pw2 {a b ha hb:Nat} (ab:a<=b) (h1:b<=2 ^ hb) (h2:ha=0\/2 ^ (ha-1)<a):ha<=hb:=by
 rcases h2 with h2 | h2
 ·lia
 ·have:2 ^ (ha-1)<2 ^ hb:=by lia
  have:=(Nat.pow_lt_pow_iff_right (a:=2) (by decide)).mp this
  lia
theorem pw3 {k b hb:Nat} (h1:k<=2*b) (h2:2*b<=k+1) (h3:2<=k) (h4:b<=2 ^ hb) (h5:hb=0\/2 ^ (hb-1)<b):k<=2 ^ (hb+1)/\2 ^ (hb+1-1)<k:=by
 rw [Nat.pow_succ,Nat.add_sub_cancel]
 refine ⟨by lia,?_⟩
 rcases h5 with h5 | h5
 ·subst h5;simp;lia
 ·cases hb with
  | zero=>simp;lia
  | succ n =>
   rw [Nat.add_sub_cancel] at h5
   rw [Nat.pow_succ];lia
theorem pw4 {k e:Nat} (h:k<=2 ^ (e+1)):k / 2<=2 ^ e/\k-k / 2<=2 ^ e:=by rw [Nat.pow_succ] at h;lia
theorem zc5 {p:Nat}:∀ (d e:Nat) {h:AH} {ps:List Pc} {ns:List Nat} {ws:List Str},ShelfAt h p ps->Good ps->LS ps ns ws->1<=ns.length->ns.length<=2 ^ e->e<d->(∀ (i:Nat) (w:Str),ws[i]? = some w->i+1<ws.length->w.length=8)->ps.length+ns.length<16000000->ns.length<=10000 ->
  ∃ (n:Nat) (ps':List Pc) (h':AH) (m f l:Ms) (H:Nat),ycb d [.ref p,.fl (ivs ns)] h = .ok (.int n) h'/\Dd p h h' ps ps' (ns.length-1)/\Tx ps' n m (cat ws) f l/\m.ht=H/\ns.length<=2 ^ H/\(H=0\/2 ^ (H-1)<ns.length)/\((∀ w∈ws,w.length=8)->l.sg=8)/\m.sg<=8*ns.length
 | 0,e,h,ps,ns,ws,S,g,LL,h1,h2,h3,h4,h5,h6=>absurd h3 (Nat.not_lt_zero _)
 | d+1,e,h,ps,ns,ws,S,g,LL,h1,h2,h3,h4,h5,h6=>by
  by_cases q:ns.length=1
  ·obtain ⟨n,rfl⟩:∃ n,ns=[n]:=List.length_eq_one_iff.mp q
   obtain ⟨w,rfl⟩:∃ w,ws=[w]:=List.length_eq_one_iff.mp (LL.1.symm.trans q)
   have T:=LL.2 0 n w rfl rfl
   refine ⟨n,ps,h,_,_,_,0,hv_1,{ Dd.refl S g with len:=by lia },by rw [zcG];exact T,rfl,by simp,.inl rfl,fun hw=>hw w (by simp),?_⟩
   have:=T.ky.f8
   simpa using this
  ·have hh:2<=ns.length:=by lia
   obtain ⟨e',rfl⟩:∃ e',e=e'+1:=by
    cases e with
    | zero=>simp at h2;lia
    | succ e' => exact ⟨e',rfl⟩
   obtain ⟨w1,w2⟩:=pw4 h2
   have lt:(ns.take (ns.length / 2)).length=ns.length / 2:=by rw [List.length_take];lia
   have ld:(ns.drop (ns.length / 2)).length=ns.length-ns.length / 2:=List.length_drop ..
   have lw:=LL.1
   obtain ⟨n1,ps1,hh1,m1,f1,l1,H1,a1,a2,a3,a4,a5,a6,a7,a8⟩:=zc5 d e' S g (LL.take (ns.length / 2)) (by lia) (by lia) (by lia) (fun i w ew hi=>by
    rw [List.getElem?_take] at ew
    split at ew
    ·rw [List.length_take] at hi;exact h4 i w ew (by lia)
    ·cases ew) (by lia) (by lia)
   have z1:=a2.len
   obtain ⟨n2,ps2,hh2,m2,f2,l2,H2,b1,b2,b3,b4,b5,b6,b7,b8⟩:=zc5 d e' a2.sh a2.gd ((LL.drop (ns.length / 2)).pre a2.pre) (by lia) (by lia) (by lia) (fun i w ew hi=>by
    rw [List.getElem?_drop] at ew
    rw [List.length_drop] at hi
    exact h4 _ w ew (by lia)) (by lia) (by lia)
   have z2:=b2.len
   rw [lt] at a5 a6 a8
   rw [ld] at b5 b6 b8
   have g1:=pw1 (a:=ns.length / 2) (b:=ns.length-ns.length / 2) (by lia) a5 b6
   have g2:=pw2 (a:=ns.length / 2) (b:=ns.length-ns.length / 2) (by lia) b5 a6
   have l8:l1.sg=8:=a7 fun w hw=>by
    obtain ⟨i,hi,ei⟩:=List.getElem_of_mem hw
    have hi' := hi
    rw [List.length_take] at hi'
    have:(ws.take (ns.length / 2))[i]? = some w:=by rw [List.getElem?_eq_getElem hi,ei]
    rw [List.getElem?_take] at this
    split at this
    ·exact h4 i w this (by lia)
    ·cases this
   have f1' := b3.ky.f1
   obtain ⟨n3,ps3,hh3,d3,T3⟩:=zaA b2.sh b2.gd (a3.pre b2.pre) b3 (by lia) (by lia) (by lia) (by lia) (by lia)
   have rd:cat (ws.take (ns.length / 2))++cat (ws.drop (ns.length / 2))=cat ws:=by rw [<- zbL,List.take_append_drop]
   rw [rd] at T3
   have hv:=hv_2 S hh a1 b1
   obtain ⟨y1,y2⟩:=pw3 (k:=ns.length) (b:=ns.length-ns.length / 2) (by lia) (by lia) hh b5 b6
   refine ⟨n3,ps3,hh3,_,f1,l2,H2+1,hv.trans d3.ev,(a2.trans b2 (Nat.le_refl _)).trans d3.dd (by lia),T3,by rw [fmH,a4,b4];lia,y1,.inr y2,fun hw=>b7 fun w hm=>hw w (List.mem_of_mem_drop hm),by rw [fmS];lia⟩
end Sk
namespace Sk
open PySem PySem.Spec L2 Sm
def ydy (x:Str) (k:Nat):Str:=cutS x (some ((8*k:Nat):Int)) (some ((8*k+8:Nat):Int))
theorem zcn (x:Str) (k:Nat):(ydy x k).cps.toList=(x.cps.toList.drop (8*k)).take 8:=by
 unfold ydy
 rw [zi7 (by lia),show 8*k+8-8*k=8 by lia]
theorem zdW (x:Str) (k:Nat):(ydy x k).length=min 8 (x.length-8*k):=by
 rw [zad,zcn,List.length_take,List.length_drop,<- zad]
theorem zeZ {x:Str} (px:yau x=true) (k:Nat):yau (ydy x k)=true:=by
 unfold yau at *
 rw [zcn,List.all_eq_true]
 rw [List.all_eq_true] at px
 exact fun c hc=>px c (List.mem_of_mem_drop (List.mem_of_mem_take hc))
theorem zdi (x:Str):∀ j,(cat ((List.range j).map (ydy x))).cps.toList=x.cps.toList.take (8*j)
 | 0=>rfl
 | j+1=>by
  rw [List.range_succ,List.map_append,zbL,zap,zdi x j]
  show _++(cat [ydy x j]).cps.toList=_
  rw [zcG,zcn,show 8*(j+1)=8*j+8 by lia,List.take_add]
theorem zdX {α:Type} {f:Nat->α} {N i:Nat} {w:α} (e:((List.range N).map f)[i]? = some w):i<N/\w=f i:=by
 rw [List.getElem?_map] at e
 obtain ⟨j,ej,ew⟩:=Option.map_eq_some_iff.mp e
 have h1:=(List.getElem?_eq_some_iff.mp ej).1
 rw [List.length_range] at h1
 rw [List.getElem?_range h1] at ej
 cases ej
 exact ⟨h1,ew.symm⟩
theorem LS.snoc {ps ps':List Pc} {ns:List Nat} {ws:List Str} {n:Nat} {w:Str} (s:LS ps ns ws) (h:ps <+: ps') (T:Tx ps' n (lfMs w n) w (lfMs w n) (lfMs w n)):LS ps' (ns++[n]) (ws++[w]):=by
 have l:=s.1
 refine ⟨by simp [s.1],fun i a b ea eb=>?_⟩
 by_cases q:i<ns.length
 ·rw [List.getElem?_append_left q] at ea
  rw [List.getElem?_append_left (by lia)] at eb
  exact (s.2 i a b ea eb).pre h
 ·have h1:=(List.getElem?_eq_some_iff.mp ea).1
  have hi:i=ns.length:=by simp at h1;lia
  subst hi
  rw [List.getElem?_append_right (by lia)] at ea eb
  simp at ea
  rw [show ns.length-ws.length=0 by lia] at eb
  simp at eb
  subst ea eb
  exact T
theorem ze0 {h:AH} {p:Nat} {ps:List Pc} {x:Str} (S:ShelfAt h p ps) (g:Good ps) (px:yau x=true) (N:Nat) (hN:8*N<x.length+8) (hx:x.length<=10000) (hz:ps.length+N<16000000) (all:List AV) (js:List Nat) (en:En) (hj:js.map (fun j=>(en[j]?).join)=[some (.ref p),some (.str x)]) :
  ∃ (ns:List Nat) (ps':List Pc) (h':AH),ya2 js en none all sYes (yaq 0 ya6 (sVar 1) (yab (sCut (sVar 2) (some (sVar 0)) (some (sOp2 fAdd (sVar 0) (sLit (.int 8))))) sNil)) ((List.range N).map fun m:Nat=>AV.int (0+(m:Int)*8)) [] h = .ok (ivs ns) h'/\Dd p h h' ps ps' N/\LS ps' ns ((List.range N).map (ydy x)):=by
 obtain ⟨zs,h',c1,ns,ps',e1,D,LL⟩:=yhl (js:=js) (en:=en) (all:=all) (e:=yaq 0 ya6 (sVar 1) (yab (sCut (sVar 2) (some (sVar 0)) (some (sOp2 fAdd (sVar 0) (sLit (.int 8))))) sNil)) (xs:=(List.range N).map fun m:Nat=>AV.int (0+(m:Int)*8)) (h:=h)
  (fun j ys h' => ∃ (ns:List Nat) (ps':List Pc),ys=ivs ns/\Dd p h h' ps ps' j/\LS ps' ns ((List.range j).map (ydy x))) ⟨[],ps,rfl,Dd.refl S g,rfl,fun i n w a _=>by simp at a⟩ (by
   rintro j v ys h' hv ⟨ns,ps',rfl,D,LL⟩
   obtain ⟨jN,rfl⟩:=zdX hv
   have z:=D.len
   have lc:=zdW x j
   have sc:ybk (ydy x j)=true:=by
    unfold ybk
    rw [zeZ px j,lc]
    simp;lia
   obtain ⟨n,ps2,h2,d2,T⟩:=zfG D.sh D.gd sc (by lia)
   have i1:(0:Int)+(j:Int)*8=((8*j:Nat):Int):=by lia
   have i2:((8*j:Nat):Int)+8=((8*j+8:Nat):Int):=by lia
   have ct:ya4 (.str x) (some ((8*j:Nat):Int)) (some ((8*j+8:Nat):Int)) h' = .ok (.str (ydy x j)) h' := rfl
   have ev:=d2.ev
   rw [hj]
   have e:yaq 0 ya6 (sVar 1) (yab (sCut (sVar 2) (some (sVar 0)) (some (sOp2 fAdd (sVar 0) (sLit (.int 8))))) sNil) [some (.int (0+(j:Int)*8)),some (.ref p),some (.str x)] h' = .ok (.int n) h2:=by
    rw [i1]
    have ad:fAdd (.int ((8*j:Nat):Int)) (.int 8) h' = .ok (.int ((8*j+8:Nat):Int)) h' := by rw [<- i2];rfl
    generalize ((8*j:Nat):Int)=B1 at *
    generalize ((8*j+8:Nat):Int)=B2 at *
    simp [D.sh.ob,ad,ct,ev,-fAdd,-ya4]
   rw [e]
   refine ⟨ns++[n],ps2,by simp [ivs],D.trans d2.dd (by lia),?_⟩
   rw [List.range_succ,List.map_append]
   exact LL.snoc d2.dd.pre T) (by simp;exact Nat.le_trans (show N<=10000 by lia) (by decide))
 rw [List.length_map,List.length_range] at D LL
 exact ⟨ns,ps',h',by rw [c1,e1],D,LL⟩
theorem zfL {h:AH} {p:Nat} {ps:List Pc} {x:Str} (S:ShelfAt h p ps) (g:Good ps) (px:yau x=true) (hx:x.length<=10000) (hz:ps.length+2*x.length<16000000) :
  ∃ (n:Nat) (ps':List Pc) (h':AH),ydA [.ref p,.str x] h = .ok (.int n) h'/\Dd p h h' ps ps' (2*x.length)/\TxZ ps' n x:=by
 have sl:x.length<=sizeLine:=Nat.le_trans hx (by decide)
 have fp:=zfz x h sl
 rw [px] at fp
 have c1 : ¬ (10000:Int)<x.length:=by lia
 by_cases q:x.length=0
 ·have xe:x = "" := zaf (by rw [zad] at q;rw [List.length_eq_zero_iff.mp q];rfl)
  subst xe
  refine ⟨0,ps,h,?_,{ Dd.refl S g with len:=by lia },.inl ⟨rfl,rfl⟩⟩
  simp [ydA,fp,c1]
 ·obtain ⟨N,eN⟩:∃ N,N=(x.length-1) / 8+1:=⟨_,rfl⟩
  obtain ⟨ns,ps1,h1,e1,D1,LL⟩:=ze0 S g px N (by lia) hx (by lia) ((List.range N).map fun m:Nat=>AV.int (0+(m:Int)*8)) [0,1] [some (.ref p),some (.str x),none] rfl
  have z1:=D1.len
  have ln:ns.length=N:=by rw [LL.1];simp
  obtain ⟨n,ps2,h2,m,f,l,H,b1,b2,b3,_⟩:=zc5 (p:=p) 20 11 D1.sh D1.gd LL (by lia) (by rw [ln];have:(2:Nat) ^ 11=2048:=rfl;lia) (by decide) (fun i w ew hi=>by
   obtain ⟨iN,rfl⟩:=zdX ew
   rw [List.length_map,List.length_range] at hi
   rw [zdW];lia) (by lia) (by lia)
  have rd:cat ((List.range N).map (ydy x))=x:=zaf (by rw [zdi,List.take_of_length_le (by rw [<- zad];lia)])
  rw [rd] at b3
  have ir:yc3 (sLit (.int 0)) (yah fLen (yab (sVar 1) sNil)) (sLit (.int 8)) [some (.ref p),some (.str x),none] h = .ok ((List.range N).map (fun m:Nat=>AV.int (0+(m:Int)*8)),none) h:=by
   have r1:((if (0:Int)<x.length then ((x.length:Int)-0-1) / 8+1 else 0:Int)).toNat=N:=by
    rw [if_pos (by lia)];lia
   have r2:(0:Int).natAbs<2 ^ 40/\(x.length:Int).natAbs<2 ^ 40/\(0:Int)<8/\(8:Int)<2 ^ 20:=⟨by decide,by lia,by decide,by decide⟩
   show (if _ then _ else _)=_
   rw [if_pos r2,r1]
  have cp:ycC [0,1] (yc3 (sLit (.int 0)) (yah fLen (yab (sVar 1) sNil)) (sLit (.int 8))) sYes (yaq 0 ya6 (sVar 1) (yab (sCut (sVar 2) (some (sVar 0)) (some (sOp2 fAdd (sVar 0) (sLit (.int 8))))) sNil)) [some (.ref p),some (.str x),none] h = .ok (.fl (ivs ns)) h1:=by
   simp only [ycC,ir,e1]
  have ne:fEq (.str x) (.str "") h = .ok (.bl false) h:=by
   have : ¬ x=Str.ofString "" := fun z=>q (by rw [z];rfl)
   simp [this]
  refine ⟨n,ps2,h2,?_,D1.trans b2 (by lia),.inr ⟨_,_,_,b3⟩⟩
  unfold ydA
  generalize ycC [0,1] (yc3 (sLit (.int 0)) (yah fLen (yab (sVar 1) sNil)) (sLit (.int 8))) sYes (yaq 0 ya6 (sVar 1) (yab (sCut (sVar 2) (some (sVar 0)) (some (sOp2 fAdd (sVar 0) (sLit (.int 8))))) sNil))=CP at *
  generalize ycb 20=HV at *
  simp [fp,c1,ne,cp,b1,-fEq]
end Sk
namespace Sk
open PySem PySem.Spec L2 Sm
def tkS (x:Str) (a:Nat):Str:=⟨(x.cps.toList.take a).toArray⟩
def dpS (x:Str) (a:Nat):Str:=⟨(x.cps.toList.drop a).toArray⟩
theorem yce (x:Str) (a:Nat):(tkS x a).cps.toList=x.cps.toList.take a:=rfl
theorem ybZ (x:Str) (a:Nat):(dpS x a).cps.toList=x.cps.toList.drop a:=rfl
theorem yht {x:Str} {a:Nat} (h:a<=x.length):(tkS x a).length=a:=by
 rw [zad] at *
 rw [yce,List.length_take];lia
theorem ydh (x:Str) (a:Nat):(dpS x a).length=x.length-a:=by
 rw [zad,zad x,ybZ,List.length_drop]
theorem dp_0 (x:Str):dpS x 0=x:=zaf rfl
theorem yhu {x:Str} {a:Nat} (h:x.length<=a):tkS x a=x:=zaf (by rw [yce,List.take_of_length_le (by rw [<- zad];exact h)])
theorem yhv {x:Str} {a:Nat} (h:x.length<=a):dpS x a = "" := zaf (by rw [ybZ,List.drop_of_length_le (by rw [<- zad];exact h)];rfl)
theorem zh1 {x:Str} (h:yau x=true) (a:Nat):yau (tkS x a)=true:=by
 unfold yau at *
 rw [yce,List.all_eq_true]
 rw [List.all_eq_true] at h
 exact fun c hc=>h c (List.mem_of_mem_take hc)
theorem zh2 {x:Str} (h:yau x=true) (a:Nat):yau (dpS x a)=true:=by
 unfold yau at *
 rw [ybZ,List.all_eq_true]
 rw [List.all_eq_true] at h
 exact fun c hc=>h c (List.mem_of_mem_drop hc)
theorem yeD {x:Str} {a:Nat} (h:AH):ya4 (.str x) none (some (a:Int)) h = .ok (.str (tkS x a)) h:=by
 have:cutS x none (some (a:Int))=tkS x a:=zaf (by
  unfold cutS
  rw [HT.sIx_nat,HT.sIx_none,yce]
  show (x.cps.toList.drop 0).take (min a x.cps.toList.length-0)=_
  rw [List.drop_zero,Nat.sub_zero]
  by_cases q:a<=x.cps.toList.length
  ·rw [Nat.min_eq_left q]
  ·rw [Nat.min_eq_right (by lia),List.take_length,List.take_of_length_le (by lia)])
 simp only [ya4,this]
theorem ye5 {x:Str} {a:Nat} (ha:a<=x.length) (h:AH):ya4 (.str x) (some (a:Int)) none h = .ok (.str (dpS x a)) h:=by
 have:cutS x (some (a:Int)) none=dpS x a:=zaf (by
  unfold cutS
  rw [HT.sIx_nat,HT.sIx_none,ybZ]
  rw [zad] at ha
  rw [Nat.min_eq_left ha]
  show (x.cps.toList.drop a).take (x.cps.toList.length-a)=_
  rw [List.take_of_length_le (by rw [List.length_drop];exact Nat.le_refl _)])
 simp only [ya4,this]
def cst (z:Int):Nat:=8*((z+1).toNat*(z+2).toNat)
theorem zez {ps:List Pc} (g:Good ps) {a b:Nat} {x y:Str} (A:TxZ ps a x) (B:TxZ ps b y):16*(max (htOf ps a) (htOf ps b)+1).toNat<=1400:=by
 have key:∀ {n:Nat} {y:Str},TxZ ps n y->htOf ps n<=82:=fun {n y} t=>by
  rcases t with ⟨rfl,rfl⟩ | ⟨m,f,l,T⟩
  ·rw [zi6];lia
  ·rw [yeR T.ms];exact ht82 g T
 have:=key A
 have:=key B
 lia
end Sk
namespace Sk
open PySem PySem.Spec L2 Sm
inductive Un where
 | n (k:Nat)
 | s (z:Str)
@[simp] def uv:Un->AV
 | .n k=>.int k
 | .s z=>.str z
def ud:Un->PyData
 | .n k=>.int k
 | .s z=>.str z
def rdU (ps:List Pc):Un->List Nat
 | .n k=>((reads ps).getD k "").cps.toList
 | .s z=>z.cps.toList
def rdS (ps:List Pc):List Un->List Nat
 | []=>[]
 | u::r=>rdU ps u++rdS ps r
inductive OkU (ps:List Pc):Un->Prop
 | n {k:Nat} {m f l:Ms} {x:Str} (T:Tx ps k m x f l):OkU ps (.n k)
 | s {z:Str} (a:1<=z.length) (b:z.length<=8):OkU ps (.s z)
theorem yc7 {ps:List Pc} {k:Nat} {m f l:Ms} {x:Str} (T:Tx ps k m x f l):rdU ps (.n k)=x.cps.toList:=by
 show ((reads ps).getD k "").cps.toList=_
 rw [zaV T.rd]
theorem OkU.pos {ps:List Pc} {u:Un} (o:OkU ps u):1<=(rdU ps u).length:=by
 cases o with
 | n T =>
  rw [yc7 T,<- zad,<- T.ky.sg]
  obtain ⟨k,c⟩:=T.ky.cnt
  have:=T.ky.f1
  rcases c with c | c<;>lia
 | @s z a b =>
  show 1<=z.cps.toList.length
  rw [<- zad];exact a
def hU (ps:List Pc):List Un->Nat
 | .n k::_=>((meas ps).getD k ms0).ht.toNat+1
 | _=>0
theorem ybf {ps:List Pc} {k:Nat} {m f l:Ms} {x:Str} (T:Tx ps k m x f l) (st:List Un):hU ps (.n k::st)=m.ht.toNat+1:=by
 show ((meas ps).getD k ms0).ht.toNat+1=_
 rw [zaV T.ms]
theorem ycE {ps:List Pc} (g:Good ps) {st:List Un} (ok:∀ u∈st,OkU ps u):hU ps st<=83:=by
 match st,ok with
 | [],_=>exact Nat.zero_le _
 | .s _::_,_=>exact Nat.zero_le _
 | .n k::st,ok =>
  cases ok _ (List.mem_cons_self ..) with
  | @n _ m f l x T =>
   rw [ybf T]
   have:=ht82 g T
   have:=T.ky.ht
   lia
theorem zaZ {ps:List Pc} {a b:Nat} {ma mb fa la fb lb:Ms} {y z:Str} {u:Un} {st:List Un} (A:Tx ps a ma y fa la) (B:Tx ps b mb z fb lb) (ok:∀ v∈u::st,OkU ps v):∀ v∈(.n a :: .n b::st:List Un),OkU ps v:=by
 intro v hv
 rcases List.mem_cons.mp hv with rfl | hv
 ·exact .n A
 ·rcases List.mem_cons.mp hv with rfl | hv
  ·exact .n B
  ·exact ok v (List.mem_cons_of_mem _ hv)
def nxF (ps:List Pc):Nat->List Un->Str×List Un
 | _,[]=>("",[])
 | _,.s z::st=>(z,st)
 | 0,.n _::st=>("",st)
 | c+1,.n k::st=>match ps[k-1]? with
  | some (.fork a b)=>nxF ps c (.n a :: .n b::st)
  | some (.leaf z)=>(z,st)
  | none=>("",st)
structure NxOk (ps:List Pc) (c:Nat) (st:List Un) (r:Str×List Un):Prop where
 rd:rdS ps st=r.1.cps.toList++rdS ps r.2
 ok:∀ u∈r.2,OkU ps u
 z1:st≠[]->1<=r.1.length/\r.1.length<=8
 z0:st=[]->r=(("" : Str),([]:List Un))
 ln:r.2.length<=st.length+c
theorem yen {ps:List Pc} (g:Good ps):∀ (c:Nat) (st:List Un),(∀ u∈st,OkU ps u)->hU ps st<=c->NxOk ps c st (nxF ps c st)
 | c,[],ok,_=>by
  have e:nxF ps c []=(("" : Str),([]:List Un)):=by cases c<;>rfl
  rw [e]
  exact ⟨rfl,ok,fun z=>absurd rfl z,fun _=>rfl,Nat.zero_le _⟩
 | c,.s z::st,ok,_=>by
  have e:nxF ps c (.s z::st)=(z,st):=by cases c<;>rfl
  rw [e]
  cases ok _ (List.mem_cons_self ..) with
  | s a b=>exact ⟨rfl,fun u hu=>ok u (List.mem_cons_of_mem _ hu),fun _=>⟨a,b⟩,fun z=>(by cases z),by show st.length<=(st.length+1)+c;lia⟩
 | 0,.n k::st,ok,h=>by
  cases ok _ (List.mem_cons_self ..) with
  | n T=>rw [ybf T] at h;lia
 | c+1,.n k::st,ok,h=>by
  cases ok _ (List.mem_cons_self ..) with
  | @n _ m f l x T =>
   rw [ybf T] at h
   rcases g.kind T with ⟨e1,e2,e3,e4,e5⟩ | ⟨a,b,ma,mb,y,z,fa,la,fb,lb,e1,e2,e3,A,B,e4,e5,e6⟩
   ·have e:nxF ps (c+1) (.n k::st)=(x,st):=by unfold nxF;rw [e1]
    rw [e]
    exact ⟨by rw [rdS,yc7 T],fun u hu=>ok u (List.mem_cons_of_mem _ hu),fun _=>⟨e4,e5⟩,fun z=>(by cases z),by show st.length<=(st.length+1)+_;lia⟩
   ·have e:nxF ps (c+1) (.n k::st)=nxF ps c (.n a :: .n b::st):=by rw [nxF,e1]
    rw [e]
    have hh:=congrArg Ms.ht e5
    rw [fmH] at hh
    have a0:=A.ky.ht
    have b0:=B.ky.ht
    have r:=yen g c (.n a :: .n b::st) (zaZ A B ok) (by rw [ybf A];lia)
    refine ⟨?_,r.ok,fun _=>r.z1 (fun z=>by cases z),fun z=>(by cases z),?_⟩
    ·rw [<- r.rd,rdS,rdS,rdS,yc7 T,yc7 A,yc7 B,e4,zap,List.append_assoc]
    ·have:=r.ln
     rw [List.length_cons,List.length_cons] at this
     rw [List.length_cons];lia
def topF (ps:List Pc) (k:Nat):Nat->List Un->Option (List Un)
 | _,[]=>none
 | _,.s _::_=>none
 | 0,.n _::_=>none
 | c+1,.n j::st=>if j=k then some st else match ps[j-1]? with
  | some (.fork a b)=>topF ps k c (.n a :: .n b::st)
  | _=>none
theorem yfN {ps:List Pc} (g:Good ps) {k:Nat}:∀ (c:Nat) {st st':List Un},(∀ u∈st,OkU ps u)->topF ps k c st=some st'->rdS ps st=rdU ps (.n k)++rdS ps st'/\(∀ u∈st',OkU ps u)/\st'.length<=st.length+c
 | 0,[],st',_,h=>by cases h
 | 0,.s _::_,st',_,h=>by cases h
 | 0,.n _::_,st',_,h=>by cases h
 | c+1,[],st',_,h=>by cases h
 | c+1,.s _::_,st',_,h=>by cases h
 | c+1,.n j::st,st',ok,h=>by
  rw [topF] at h
  by_cases q:j=k
  ·rw [if_pos q] at h
   cases h
   subst q
   exact ⟨rfl,fun u hu=>ok u (List.mem_cons_of_mem _ hu),by rw [List.length_cons];lia⟩
  ·rw [if_neg q] at h
   cases ok _ (List.mem_cons_self ..) with
   | @n _ m f l x T =>
    rcases g.kind T with ⟨e1,_⟩ | ⟨a,b,ma,mb,y,z,fa,la,fb,lb,e1,e2,e3,A,B,e4,e5,e6⟩
    ·rw [e1] at h;cases h
    ·rw [e1] at h
     obtain ⟨r1,r2,r3⟩:=yfN g c (zaZ A B ok) h
     refine ⟨?_,r2,?_⟩
     ·rw [<- r1,rdS,rdS,rdS,yc7 T,yc7 A,yc7 B,e4,zap,List.append_assoc]
     ·rw [List.length_cons,List.length_cons] at r3
      rw [List.length_cons];lia
end Sk
namespace Sk
open PySem PySem.Spec L2 Sm
theorem popU {h:AH} {W:Nat} {Z:List AV} {v:AV} (e:h[W]? = some (.lst (Z++[v]))):mPop (.ref W) [] h = .ok v (h.set W (.lst Z)):=by
 simp [mPop,e]
theorem ycK (u:Un) (st:List Un):(u::st).reverse.map uv=st.reverse.map uv++[uv u]:=by simp
theorem zbM (h:AH):∀ l:List Un,toDs (toD 7 h) (l.map uv)=some (l.map ud)
 | []=>rfl
 | u::l=>by
  have e:toD 7 h (uv u)=some (ud u):=by cases u<;>rfl
  rw [List.map_cons,List.map_cons]
  unfold toDs
  rw [e,zbM h l]
theorem yd2 {c:SB} {b:SS} {n:Nat} {en:En} {h h2:AH} {v:AV} (e:c en h = .ok true h) (eb:b en h = .rt v h2):yaz c b (n+1) en h = .rt v h2:=by
 unfold yaz;rw [e];dsimp only;rw [eb]
theorem yeS {c:SB} {b:SS} {n:Nat} {en e2:En} {h h2:AH} (e:c en h = .ok true h) (eb:b en h = .nx e2 h2):yaz c b (n+1) en h=yaz c b n e2 h2:=by
 unfold yaz;rw [e];dsimp only;rw [eb];dsimp only
 cases n<;>rfl
theorem yeo {c:SB} {b:SS} {n:Nat} {en:En} {h:AH} (e:c en h = .ok false h):yaz c b (n+1) en h = .nx en h:=by
 unfold yaz;rw [e]
theorem ydZ {h:AH} {W:Nat} {l:List Un} (e:h[W]? = some (.lst (l.map uv))):eqA (.ref W) (.fl []) h=some l.isEmpty:=by
 have t:toD 8 h (.ref W)=some (.list (l.map ud)):=by
  show (match h[W]? with | some (.lst xs)=>(toDs (toD 7 h) xs).map PyData.list | _=>none)=_
  rw [e]
  show (toDs (toD 7 h) (l.map uv)).map PyData.list=_
  rw [zbM];rfl
 show (match toD 8 h (.ref W),toD 8 h (.fl []) with | some d,some e=>some (PyData.eqv d e) | _,_=>none)=_
 rw [t]
 show some (PyData.eqv (.list _) (.list []))=_
 cases l with
 | nil=>simp [PyData.eqv,PyData.eqvAll]
 | cons a b=>simp [PyData.eqv,PyData.eqvAll]
theorem yep {h:AH} {W:Nat} {u:Un} {st:List Un} (e:h[W]? = some (.lst ((u::st).reverse.map uv))):fNe (.ref W) (.fl []) h = .ok (.bl true) h:=by
 show (match eqA (.ref W) (.fl []) h with | some b=>Out.ok (AV.bl (!b)) h | none=>Out.bad)=_
 rw [ydZ e];simp
theorem yeE {h:AH} {W:Nat} (e:h[W]? = some (.lst [])):fNe (.ref W) (.fl []) h = .ok (.bl false) h:=by
 show (match eqA (.ref W) (.fl []) h with | some b=>Out.ok (AV.bl (!b)) h | none=>Out.bad)=_
 rw [ydZ (l:=[]) e];rfl
theorem of_s {h:AH} {p:Nat} {w:AV} (z:Str):ybA [.ref p,w,.str z] h = .ok (.bl false) h:=by
 simp [ybA]
theorem zfM {h:AH} {p k:Nat} {ps:List Pc} {w:AV} {x:Str} (S:ShelfAt h p ps) (k1:1<=k) (e:ps[k-1]? = some (.leaf x)):ybA [.ref p,w,.int k] h = .ok (.bl false) h:=by
 have q:=zaY S k1 e
 have i0:=i0L x h
 have eq:=eqL h
 simp [ybA,S.ob,q,i0,eq,-fIx,-fEq]
theorem zfN {h:AH} {p k a b W:Nat} {ps:List Pc} {Z:List AV} (S:ShelfAt h p ps) (k1:1<=k) (e:ps[k-1]? = some (.fork a b)) (hW:p+8<W) (eW:h[W]? = some (.lst Z)) (lz:Z.length<=1000000):ybA [.ref p,.ref W,.int k] h = .ok (.bl true) (h.set W (.lst (Z++[.int b]++[.int a]))):=by
 have q:=zaB S k1 e
 have i0:=i0F a b h
 have eq:=eqF h
 have l1:Z.length<sizeLine:=Nat.lt_of_le_of_lt lz (by decide)
 have ap:yat (.ref W) [.int b] h = .ok .non (h.set W (.lst (Z++[.int b]))):=by simp only [yat,eW,l1,if_true]
 obtain ⟨h1,eh1⟩:∃ h1,h1=h.set W (.lst (Z++[.int b])):=⟨_,rfl⟩
 have eW1:h1[W]? = some (.lst (Z++[.int b])):=by rw [eh1];exact List.getElem?_set_self (yaS eW)
 have l2:(Z++[AV.int b]).length<sizeLine:=Nat.lt_of_le_of_lt (m:=1000001) (by simp;lia) (by decide)
 have ap2:yat (.ref W) [.int a] h1 = .ok .non (h1.set W (.lst (Z++[.int b]++[.int a]))):=by simp only [yat,eW1,l2,if_true]
 rw [<- eh1] at ap
 have fin:h1.set W (.lst (Z++[.int b]++[.int a]))=h.set W (.lst (Z++[.int b]++[.int a])):=by rw [eh1,List.set_set]
 rw [fin] at ap2
 have is1:yan (.ref W) h=true:=by simp [eW]
 have is2:yan (.ref W) h1=true:=by simp [eW1]
 have j1:∀ hh,fIx (.tup [.str "fork",.int a,.int b]) (.int 1) hh = .ok (.int a) hh:=i1 _ _ _
 have j2:∀ hh,fIx (.tup [.str "fork",.int a,.int b]) (.int 2) hh = .ok (.int b) hh:=i2 _ _ _
 generalize h.set W (.lst (Z++[.int b]++[.int a]))=HF at *
 simp [ybA,S.ob,q,i0,eq,j1,j2,is1,is2,ap,ap2,-fIx,-fEq,-yan,-yat]
theorem zaD {h:AH} {p W:Nat} {ps:List Pc} (S:ShelfAt h p ps) (hW:p+8<W) (o:AO):ShelfAt (h.set W o) p ps:=S.keep fun i _ i8=>List.getElem?_set_ne (by lia)
abbrev CN:SB:=yas (sOp2 fNe (sVar 1) (sLst sNil))
theorem zfO {p W:Nat} {ps:List Pc} (g:Good ps) (hW:p+8<W):∀ (c fuel:Nat) (st:List Un) (h:AH) (o:Option AV),ShelfAt h p ps->(∀ u∈st,OkU ps u)->hU ps st<=c->c<fuel->st≠[]->st.length+c<=1000000->h[W]? = some (.lst (st.reverse.map uv)) ->
  yaz CN yaN fuel [some (.ref p),some (.ref W),o] h = .rt (.str (nxF ps c st).1) (h.set W (.lst ((nxF ps c st).2.reverse.map uv)))
 | c,0,st,h,o,S,ok,hc,hf,ne,ls,eW=>absurd hf (Nat.not_lt_zero _)
 | c,fu+1,[],h,o,S,ok,hc,hf,ne,ls,eW=>absurd rfl ne
 | c,fu+1,.s z::st,h,o,S,ok,hc,hf,ne,ls,eW=>by
  have nn:=yep eW
  rw [ycK] at eW
  have po:=popU eW
  have is1:yan (.ref W) h=true:=by simp [eW]
  have e:nxF ps c (.s z::st)=(z,st):=by cases c<;>rfl
  rw [e]
  have cn:CN [some (.ref p),some (.ref W),o] h = .ok true h:=by simp [nn,-fNe]
  have eb:yaN [some (.ref p),some (.ref W),o] h = .rt (.str z) (h.set W (.lst (st.reverse.map uv))):=by
   have po':mPop (.ref W) [] h = .ok (.str z) (h.set W (.lst (st.reverse.map uv))):=po
   generalize h.set W (.lst (st.reverse.map uv))=h1 at *
   simp [yaN,is1,po',-mPop,-yan]
  exact yd2 cn eb
 | 0,fu+1,.n k::st,h,o,S,ok,hc,hf,ne,ls,eW=>by
  cases ok _ (List.mem_cons_self ..) with
  | n T=>rw [ybf T] at hc;lia
 | c+1,fu+1,.n k::st,h,o,S,ok,hc,hf,ne,ls,eW=>by
  have nn:=yep eW
  rw [ycK] at eW
  have po:=popU eW
  have is1:yan (.ref W) h=true:=by simp [eW]
  have po':mPop (.ref W) [] h = .ok (.int k) (h.set W (.lst (st.reverse.map uv))):=po
  have cn:CN [some (.ref p),some (.ref W),o] h = .ok true h:=by simp [nn,-fNe]
  have S1:ShelfAt (h.set W (.lst (st.reverse.map uv))) p ps:=zaD S hW _
  have eW1:(h.set W (.lst (st.reverse.map uv)))[W]? = some (.lst (st.reverse.map uv)):=List.getElem?_set_self (yaS eW)
  obtain ⟨h1,eh1⟩:∃ h1,h1=h.set W (.lst (st.reverse.map uv)):=⟨_,rfl⟩
  rw [<- eh1] at po' S1 eW1
  cases ok _ (List.mem_cons_self ..) with
  | @n _ m f l x T =>
   rw [ybf T] at hc
   rw [List.length_cons] at ls
   rcases g.kind T with ⟨e1,e2,e3,e4,e5⟩ | ⟨a,b,ma,mb,y,z,fa,la,fb,lb,e1,e2,e3,A,B,e4,e5,e6⟩
   ·have e:nxF ps (c+1) (.n k::st)=(x,st):=by unfold nxF;rw [e1]
    rw [e]
    have op:=zfM (w:=.ref W) S1 T.n1 e1
    have fp:=zaY S1 T.n1 e1
    have eb:yaN [some (.ref p),some (.ref W),o] h = .rt (.str x) h1:=by
     have i1:=i1L x h1
     have ob:=S1.ob
     simp [yaN,is1,po',op,ob,fp,i1,-mPop,-yan,-fIx]
    rw [yd2 cn eb,eh1]
   ·have e:nxF ps (c+1) (.n k::st)=nxF ps c (.n a :: .n b::st):=by rw [nxF,e1]
    rw [e]
    have op:=zfN S1 T.n1 e1 hW eW1 (by simp;lia)
    have e3':st.reverse.map uv++[.int b]++[.int a]=(.n a :: .n b::st:List Un).reverse.map uv:=by rw [ycK,ycK];rfl
    rw [e3'] at op
    have eb:yaN [some (.ref p),some (.ref W),o] h = .nx [some (.ref p),some (.ref W),some (.int k)] (h1.set W (.lst ((.n a :: .n b::st:List Un).reverse.map uv))):=by
     generalize h1.set W (.lst ((.n a :: .n b::st:List Un).reverse.map uv))=h2 at *
     simp [yaN,is1,po',op,-mPop,-yan]
    rw [yeS cn eb]
    have hh:=congrArg Ms.ht e5
    rw [fmH] at hh
    have a0:=A.ky.ht
    have b0:=B.ky.ht
    have r:=zfO g hW c fu (.n a :: .n b::st) (h1.set W (.lst ((.n a :: .n b::st:List Un).reverse.map uv))) (some (.int k)) (zaD S1 hW _) (zaZ A B ok) (by rw [ybf A];lia) (by lia) (fun z=>by cases z) (by rw [List.length_cons,List.length_cons];lia) (List.getElem?_set_self (yaS eW1))
    rw [r,eh1,List.set_set,List.set_set]
theorem yhw {h:AH} {p W:Nat} {ps:List Pc} {st:List Un} (S:ShelfAt h p ps) (g:Good ps) (hW:p+8<W) (ok:∀ u∈st,OkU ps u) (ls:st.length<=900000) (eW:h[W]? = some (.lst (st.reverse.map uv))) :
  ycd [.ref p,.ref W] h = .ok (.str (nxF ps 90 st).1) (h.set W (.lst ((nxF ps 90 st).2.reverse.map uv))):=by
 by_cases q:st=[]
 ·subst q
  have nn:=yeE eW
  have e:nxF ps 90 []=((Str.ofString "" : Str),([]:List Un)):=rfl
  rw [e]
  have hs:h.set W (.lst (([]:List Un).reverse.map uv))=h:=by
   refine List.ext_getElem? fun i=>?_
   by_cases q:W=i
   ·subst q;rw [List.getElem?_set_self (yaS eW),eW]
   ·exact List.getElem?_set_ne q
  rw [hs]
  have wl:∀ n,yaz CN yaN (n+1) [some (.ref p),some (.ref W),none] h = .nx [some (.ref p),some (.ref W),none] h:=fun n=>yeo (by simp [nn,-fNe])
  have wl':yaz CN yaN ya5 [some (.ref p),some (.ref W),none] h = .nx [some (.ref p),some (.ref W),none] h:=wl _
  unfold ycd
  generalize yaz CN yaN ya5=WL at *
  simp [wl']
 ·have h82:=ycE g ok
  have wl:=zfO g hW 90 ya5 st h none S ok (by lia) (by decide) q (by lia) eW
  unfold ycd
  generalize yaz CN yaN ya5=WL at *
  generalize h.set W (.lst ((nxF ps 90 st).2.reverse.map uv))=HF at *
  simp [wl]
end Sk
namespace Sk
open PySem PySem.Spec L2 Sm
theorem eq_n (j k:Nat) (h:AH):fEq (.int j) (.int k) h = .ok (.bl (decide (j=k))) h:=by
 by_cases q:j=k
 ·subst q;simp
 ·have : ¬ (j:Int)=k:=by lia
  simp [q,this]
theorem ygh (z:Str) (k:Nat) (h:AH):fEq (.str z) (.int k) h = .ok (.bl false) h:=by
 show (match eqA (.str z) (.int k) h with | some b=>Out.ok (AV.bl b) h | none=>Out.bad)=_
 have:eqA (.str z) (.int k) h=some false:=by
  show some (PyData.eqv (.str z) (.int k))=_
  simp [PyData.eqv]
 rw [this]
def tpR (W:Nat) (h:AH) (r:Option (List Un)) (o:OutS):Prop:=match r with
 | some st' => o = .rt (.bl true) (h.set W (.lst (st'.reverse.map uv)))
 | none=>∃ (Z:List AV) (en:En),o = .rt (.bl false) (h.set W (.lst Z))\/o = .nx en (h.set W (.lst Z))
theorem zfP {p W k:Nat} {ps:List Pc} (g:Good ps) (hW:p+8<W):∀ (c fuel:Nat) (st:List Un) (h:AH) (o:Option AV),ShelfAt h p ps->(∀ u∈st,OkU ps u)->hU ps st<=c->c<fuel->st.length+c<=1000000->h[W]? = some (.lst (st.reverse.map uv)) ->
  tpR W h (topF ps k c st) (yaz CN yaH fuel [some (.ref p),some (.ref W),some (.int k),o] h)
 | c,0,st,h,o,S,ok,hc,hf,ls,eW=>absurd hf (Nat.not_lt_zero _)
 | c,fu+1,[],h,o,S,ok,hc,hf,ls,eW=>by
  have nn:=yeE eW
  have e:topF ps k c []=none:=by cases c<;>rfl
  rw [e,yeo (by simp [nn,-fNe])]
  have hs:h.set W (.lst [])=h:=by
   refine List.ext_getElem? fun i=>?_
   by_cases q:W=i
   ·subst q;rw [List.getElem?_set_self (yaS eW),eW];rfl
   ·exact List.getElem?_set_ne q
  exact ⟨[],_,.inr (by rw [hs])⟩
 | c,fu+1,.s z::st,h,o,S,ok,hc,hf,ls,eW=>by
  have nn:=yep eW
  rw [ycK] at eW
  have po:=popU eW
  have is1:yan (.ref W) h=true:=by simp [eW]
  have e:topF ps k c (.s z::st)=none:=by cases c<;>rfl
  rw [e]
  have cn:CN [some (.ref p),some (.ref W),some (.int k),o] h = .ok true h:=by simp [nn,-fNe]
  have eb:yaH [some (.ref p),some (.ref W),some (.int k),o] h = .rt (.bl false) (h.set W (.lst (st.reverse.map uv))):=by
   have po':mPop (.ref W) [] h = .ok (.str z) (h.set W (.lst (st.reverse.map uv))):=po
   generalize h.set W (.lst (st.reverse.map uv))=h1 at *
   have q:=ygh z k h1
   have op:=of_s (h:=h1) (p:=p) (w:=.ref W) z
   simp [yaH,is1,po',q,op,-mPop,-yan,-fEq]
  rw [yd2 cn eb]
  exact ⟨_,[],.inl rfl⟩
 | 0,fu+1,.n j::st,h,o,S,ok,hc,hf,ls,eW=>by
  cases ok _ (List.mem_cons_self ..) with
  | @n _ m f l x T=>rw [ybf T] at hc;lia
 | c+1,fu+1,.n j::st,h,o,S,ok,hc,hf,ls,eW=>by
  have nn:=yep eW
  rw [ycK] at eW
  have po:=popU eW
  have is1:yan (.ref W) h=true:=by simp [eW]
  have po':mPop (.ref W) [] h = .ok (.int j) (h.set W (.lst (st.reverse.map uv))):=po
  have cn:CN [some (.ref p),some (.ref W),some (.int k),o] h = .ok true h:=by simp [nn,-fNe]
  have S1:ShelfAt (h.set W (.lst (st.reverse.map uv))) p ps:=zaD S hW _
  have eW1:(h.set W (.lst (st.reverse.map uv)))[W]? = some (.lst (st.reverse.map uv)):=List.getElem?_set_self (yaS eW)
  obtain ⟨h1,eh1⟩:∃ h1,h1=h.set W (.lst (st.reverse.map uv)):=⟨_,rfl⟩
  rw [<- eh1] at po' S1 eW1
  have q0:=eq_n j k h1
  rw [topF]
  by_cases q:j=k
  ·rw [if_pos q]
   rw [decide_eq_true q] at q0
   have eb:yaH [some (.ref p),some (.ref W),some (.int k),o] h = .rt (.bl true) h1:=by
    simp [yaH,is1,po',q0,-mPop,-yan,-fEq]
   rw [yd2 cn eb,eh1]
   exact rfl
  ·rw [if_neg q]
   rw [decide_eq_false q] at q0
   cases ok _ (List.mem_cons_self ..) with
   | @n _ m f l x T =>
    rw [ybf T] at hc
    rw [List.length_cons] at ls
    rcases g.kind T with ⟨e1,e2,e3,e4,e5⟩ | ⟨a,b,ma,mb,y,z,fa,la,fb,lb,e1,e2,e3,A,B,e4,e5,e6⟩
    ·have op:=zfM (w:=.ref W) S1 T.n1 e1
     have eb:yaH [some (.ref p),some (.ref W),some (.int k),o] h = .rt (.bl false) h1:=by
      simp [yaH,is1,po',q0,op,-mPop,-yan,-fEq]
     rw [e1,yd2 cn eb,eh1]
     exact ⟨_,[],.inl rfl⟩
    ·have op:=zfN S1 T.n1 e1 hW eW1 (by simp;lia)
     have e3':st.reverse.map uv++[.int b]++[.int a]=(.n a :: .n b::st:List Un).reverse.map uv:=by rw [ycK,ycK];rfl
     rw [e3'] at op
     have eb:yaH [some (.ref p),some (.ref W),some (.int k),o] h = .nx [some (.ref p),some (.ref W),some (.int k),some (.int j)] (h1.set W (.lst ((.n a :: .n b::st:List Un).reverse.map uv))):=by
      generalize h1.set W (.lst ((.n a :: .n b::st:List Un).reverse.map uv))=h2 at *
      simp [yaH,is1,po',q0,op,-mPop,-yan,-fEq]
     rw [e1,yeS cn eb]
     have hh:=congrArg Ms.ht e5
     rw [fmH] at hh
     have a0:=A.ky.ht
     have b0:=B.ky.ht
     have r:=zfP (k:=k) g hW c fu (.n a :: .n b::st) (h1.set W (.lst ((.n a :: .n b::st:List Un).reverse.map uv))) (some (.int j)) (zaD S1 hW _) (zaZ A B ok) (by rw [ybf A];lia) (by lia) (by rw [List.length_cons,List.length_cons];lia) (List.getElem?_set_self (yaS eW1))
     rw [eh1,List.set_set] at r ⊢
     show tpR W h (topF ps k c (.n a :: .n b::st)) _
     cases ht:topF ps k c (.n a :: .n b::st) with
     | some st' =>
      rw [ht] at r
      have r' := r
      unfold tpR at r' ⊢
      rw [r',List.set_set]
     | none =>
      rw [ht] at r
      obtain ⟨Z,en,r'⟩:=r
      rw [List.set_set] at r'
      exact ⟨Z,en,r'⟩
theorem zh3 {h:AH} {p W k:Nat} {ps:List Pc} {st:List Un} (S:ShelfAt h p ps) (g:Good ps) (hW:p+8<W) (ok:∀ u∈st,OkU ps u) (ls:st.length<=900000) (eW:h[W]? = some (.lst (st.reverse.map uv))) :
  (∃ st',topF ps k 90 st=some st'/\ybq [.ref p,.ref W,.int k] h = .ok (.bl true) (h.set W (.lst (st'.reverse.map uv)))) \/
  (topF ps k 90 st=none/\∃ Z,ybq [.ref p,.ref W,.int k] h = .ok (.bl false) (h.set W (.lst Z))):=by
 have h82:=ycE g ok
 have r:=zfP (k:=k) g hW 90 ya5 st h none S ok (by lia) (by decide) (by lia) eW
 cases ht:topF ps k 90 st with
 | some st' =>
  rw [ht] at r
  unfold tpR at r
  dsimp only at r
  refine .inl ⟨st',rfl,?_⟩
  unfold ybq
  generalize yaz CN yaH ya5=WL at *
  generalize h.set W (.lst (st'.reverse.map uv))=HF at *
  simp [r]
 | none =>
  rw [ht] at r
  obtain ⟨Z,en,r | r⟩:=r
  ·refine .inr ⟨rfl,Z,?_⟩
   unfold ybq
   generalize yaz CN yaH ya5=WL at *
   generalize h.set W (.lst Z)=HF at *
   simp [r]
  ·refine .inr ⟨rfl,Z,?_⟩
   unfold ybq
   generalize yaz CN yaH ya5=WL at *
   generalize h.set W (.lst Z)=HF at *
   simp [r]
end Sk
namespace Sk
open PySem PySem.Spec L2 Sm
def psh (z:Str) (st:List Un):List Un:=if z = "" then st else .s z::st
def d1 (ps:List Pc) (st:List Un):List Un:=psh (dpS (nxF ps 90 st).1 1) (nxF ps 90 st).2
def dN (ps:List Pc):Nat->List Un->List Un
 | 0,st=>st
 | m+1,st=>dN ps m (d1 ps st)
theorem ye6 (ps:List Pc):∀ (a b:Nat) (st:List Un),dN ps (a+b) st=dN ps b (dN ps a st)
 | 0,b,st=>by rw [Nat.zero_add];rfl
 | a+1,b,st=>by rw [Nat.add_right_comm,dN,dN,ye6 ps a b]
theorem zaN {z:Str}:z = "" ↔ z.length=0:=by
 constructor
 ·rintro rfl;rfl
 ·intro h
  refine zaf ?_
  rw [zad] at h
  rw [List.length_eq_zero_iff.mp h];rfl
theorem ygi (z:Str) (a b:Nat):dpS (dpS z a) b=dpS z (a+b):=zaf (by rw [ybZ,ybZ,ybZ,List.drop_drop])
theorem nx_s (ps:List Pc) (c:Nat) (z:Str) (st:List Un):nxF ps c (.s z::st)=(z,st):=by cases c<;>rfl
theorem yfO (ps:List Pc):∀ (m:Nat) (z:Str) (st:List Un),m<=z.length->dN ps m (psh z st)=psh (dpS z m) st
 | 0,z,st,_=>by rw [dN,dp_0]
 | m+1,z,st,h=>by
  have ne : ¬ z = "" := fun q=>by rw [zaN] at q;lia
  have e:psh z st = .s z::st:=if_neg ne
  rw [dN,d1,e,nx_s]
  show dN ps m (psh (dpS z 1) st)=_
  rw [yfO ps m _ _ (by rw [ydh];lia),ygi,Nat.add_comm]
theorem ygj {ps:List Pc} {st st0:List Un} {z:Str} {m:Nat} (e:nxF ps 90 st=(z,st0)) (m1:1<=m) (hm:m<=z.length):dN ps m st=psh (dpS z m) st0:=by
 obtain ⟨j,rfl⟩:∃ j,m=j+1:=⟨m-1,by lia⟩
 rw [dN,d1,e]
 show dN ps j (psh (dpS z 1) st0)=_
 rw [yfO ps j _ _ (by rw [ydh];lia),ygi,Nat.add_comm]
theorem yfP (ps:List Pc) (z:Str) (st:List Un):rdS ps (psh z st)=z.cps.toList++rdS ps st:=by
 unfold psh
 split
 ·rename_i q;rw [q];rfl
 ·rfl
theorem yeF {ps:List Pc} {z:Str} {st:List Un} (hz:z.length<=8) (ok:∀ u∈st,OkU ps u):∀ u∈psh z st,OkU ps u:=by
 unfold psh
 split
 ·exact ok
 ·rename_i q
  intro u hu
  rcases List.mem_cons.mp hu with rfl | hu
  ·exact .s (by rw [zaN] at q;lia) hz
  ·exact ok u hu
theorem zfQ (z:Str) (st:List Un):(psh z st).length<=st.length+1:=by
 unfold psh
 split
 ·lia
 ·rw [List.length_cons];lia
def tkF (ps:List Pc):Nat->Str->List Un->Option (List Un)
 | 0,_,_=>none
 | c+1,w,st=>if w = "" then some st else
   if min (nxF ps 90 st).1.length w.length=0 \/ ¬ tkS (nxF ps 90 st).1 (min (nxF ps 90 st).1.length w.length)=tkS w (min (nxF ps 90 st).1.length w.length) then none else
    tkF ps c (dpS w (min (nxF ps 90 st).1.length w.length)) (psh (dpS (nxF ps 90 st).1 (min (nxF ps 90 st).1.length w.length)) (nxF ps 90 st).2)
structure TkOk (ps:List Pc) (w:Str) (st st':List Un) (c:Nat):Prop where
 rd:rdS ps st=w.cps.toList++rdS ps st'
 ok:∀ u∈st',OkU ps u
 ln:st'.length<=st.length+91*c
 dn:st'=dN ps w.length st
theorem zbs {ps:List Pc} (g:Good ps):∀ (c:Nat) {w:Str} {st st':List Un},(∀ u∈st,OkU ps u)->tkF ps c w st=some st'->TkOk ps w st st' c
 | 0,w,st,st',_,h=>by cases h
 | c+1,w,st,st',ok,h=>by
  rw [tkF] at h
  by_cases q:w = ""
  ·rw [if_pos q] at h
   cases h
   subst q
   exact ⟨rfl,ok,by lia,rfl⟩
  ·rw [if_neg q] at h
   have N:=yen g 90 st ok (by have:=ycE g ok;lia)
   obtain ⟨z,st0,e⟩:∃ z st0,nxF ps 90 st=(z,st0):=⟨_,_,rfl⟩
   rw [e] at h N
   dsimp only at h
   obtain ⟨m,em⟩:∃ m,m=min z.length w.length:=⟨_,rfl⟩
   rw [<- em] at h
   by_cases q2:m=0 \/ ¬ tkS z m=tkS w m
   ·rw [if_pos q2] at h;cases h
   ·rw [if_neg q2] at h
    have m0 : ¬ m=0:=fun z=>q2 (.inl z)
    have tq:tkS z m=tkS w m:=Decidable.byContradiction fun z=>q2 (.inr z)
    have sn:st≠[]:=fun z0=>by
     have:=N.z0 z0
     cases this
     have:("" : Str).length=0:=rfl
     lia
    have zb:=N.z1 sn
    dsimp only at zb
    have okp:=yeF (z:=dpS z m) (st:=st0) (by rw [ydh];lia) N.ok
    have r:=zbs g c okp h
    have rd:=N.rd
    dsimp only at rd
    have nl:=N.ln
    dsimp only at nl
    have pl:=zfQ (dpS z m) st0
    have ct:∀ v:Str,v.cps.toList=(tkS v m).cps.toList++(dpS v m).cps.toList:=fun v=>by rw [yce,ybZ,List.take_append_drop]
    refine ⟨?_,r.ok,by have:=r.ln;lia,?_⟩
    ·have r1:=r.rd
     rw [yfP] at r1
     rw [rd,ct z,tq,ct w,List.append_assoc,List.append_assoc,r1]
    ·rw [r.dn,<- ygj e (by lia) (by lia),<- ye6,ydh]
     congr 1
     lia
theorem zi8 {a b c d:List Nat} (e:a++b=c++d) {m:Nat} (h1:m<=a.length) (h2:m<=c.length):a.take m=c.take m/\a.drop m++b=c.drop m++d:=by
 have t:=congrArg (List.take m) e
 rw [List.take_append_of_le_length h1,List.take_append_of_le_length h2] at t
 have u:=congrArg (List.drop m) e
 rw [List.drop_append_of_le_length h1,List.drop_append_of_le_length h2] at u
 exact ⟨t,u⟩
theorem zfR {ps:List Pc} (g:Good ps):∀ (c:Nat) {w:Str} {st:List Un} {r:List Nat},(∀ u∈st,OkU ps u)->rdS ps st=w.cps.toList++r->w.length<c->∃ st',tkF ps c w st=some st'
 | 0,w,st,r,_,_,h=>absurd h (Nat.not_lt_zero _)
 | c+1,w,st,r,ok,rd,hc=>by
  rw [tkF]
  by_cases q:w = ""
  ·rw [if_pos q];exact ⟨_,rfl⟩
  ·rw [if_neg q]
   have w1:1<=w.length:=by rw [zaN] at q;lia
   have N:=yen g 90 st ok (by have:=ycE g ok;lia)
   obtain ⟨z,st0,e⟩:∃ z st0,nxF ps 90 st=(z,st0):=⟨_,_,rfl⟩
   rw [e] at N ⊢
   dsimp only
   have sn:st≠[]:=fun z0=>by
    rw [z0] at rd
    have:=congrArg List.length rd
    rw [List.length_append,<- zad] at this
    have:(rdS ps []).length=0:=rfl
    lia
   have zb:=N.z1 sn
   dsimp only at zb
   have rd2:=N.rd
   dsimp only at rd2
   obtain ⟨m,em⟩:∃ m,m=min z.length w.length:=⟨_,rfl⟩
   rw [<- em]
   have lz:=zad z
   have lw:=zad w
   obtain ⟨t1,t2⟩:=zi8 (rd2.symm.trans rd) (m:=m) (by lia) (by lia)
   have tq:tkS z m=tkS w m:=zaf t1
   rw [if_neg (by
    rintro (z0 | z0)
    ·lia
    ·exact z0 tq)]
   refine zfR g c (r:=r) (yeF (by rw [ydh];lia) N.ok) ?_ (by rw [ydh];lia)
   rw [yfP,ybZ,ybZ]
   exact t2
theorem zdw {ps:List Pc} (g:Good ps) {c:Nat} {w:Str} {st:List Un} {r:List Nat} (ok:∀ u∈st,OkU ps u) (rd:rdS ps st=w.cps.toList++r) (hc:w.length<c):tkF ps c w st=some (dN ps w.length st):=by
 obtain ⟨st',e⟩:=zfR g c ok rd hc
 rw [e,(zbs g c ok e).dn]
end Sk
namespace Sk
open PySem PySem.Spec L2 Sm
theorem zcH {h:AH} {W:Nat} {o:AO} (e:h[W]? = some o):h.set W o=h:=by
 refine List.ext_getElem? fun i=>?_
 by_cases q:W=i
 ·subst q;rw [List.getElem?_set_self (yaS e),e]
 ·exact List.getElem?_set_ne q
theorem yhx {h:AH} {W:Nat} {st:List Un} (z:Str) (eW:h[W]? = some (.lst (st.reverse.map uv))) (ls:st.length<=1000000):yde [.ref W,.str z] h = .ok .non (h.set W (.lst ((psh z st).reverse.map uv))):=by
 unfold psh
 by_cases q:z = ""
 ·rw [if_pos q,zcH eW]
  have ne:fNe (.str z) (.str "") h = .ok (.bl false) h:=by rw [q];simp
  simp [yde,ne,-fNe]
 ·rw [if_neg q,ycK]
  have ne:fNe (.str z) (.str "") h = .ok (.bl true) h:=by simp [q]
  have l1:(st.reverse.map uv).length<sizeLine:=Nat.lt_of_le_of_lt (m:=1000000) (by simpa using ls) (by decide)
  have ap:yat (.ref W) [.str z] h = .ok .non (h.set W (.lst (st.reverse.map uv++[.str z]))):=by simp only [yat,eW,l1,if_true]
  have is1:yan (.ref W) h=true:=by simp [eW]
  show _=Out.ok AV.non (h.set W (.lst (st.reverse.map uv++[.str z])))
  generalize h.set W (.lst (st.reverse.map uv++[.str z]))=HF at *
  simp [yde,ne,is1,ap,-fNe,-yan,-yat]
abbrev CP:SB:=yas (sOp2 fNe (sVar 3) (sLit (.str "")))
def tkR (W:Nat) (h:AH) (p:Nat) (w0:Str) (r:Option (List Un)) (o:OutS):Prop:=match r with
 | some st' => ∃ o3 o4 o5,o = .nx [some (.ref p),some (.ref W),some (.str w0),o3,o4,o5] (h.set W (.lst (st'.reverse.map uv)))
 | none=>∃ Z,o = .rt (.bl false) (h.set W (.lst Z))
theorem zfS {p W:Nat} {ps:List Pc} (g:Good ps) (hW:p+8<W) (w0:Str):∀ (c fuel:Nat) (w:Str) (st:List Un) (h:AH) (o4 o5:Option AV),ShelfAt h p ps->(∀ u∈st,OkU ps u)->w.length<c->c<=fuel->st.length+91*c<=900000->h[W]? = some (.lst (st.reverse.map uv)) ->
  tkR W h p w0 (tkF ps c w st) (yaz CP yaJ fuel [some (.ref p),some (.ref W),some (.str w0),some (.str w),o4,o5] h)
 | 0,fuel,w,st,h,o4,o5,S,ok,hc,hf,ls,eW=>absurd hc (Nat.not_lt_zero _)
 | c+1,0,w,st,h,o4,o5,S,ok,hc,hf,ls,eW=>by lia
 | c+1,fu+1,w,st,h,o4,o5,S,ok,hc,hf,ls,eW=>by
  rw [tkF]
  by_cases q:w = ""
  ·have ne:fNe (.str w) (.str "") h = .ok (.bl false) h:=by rw [q];simp
   rw [if_pos q,yeo (by simp [ne,-fNe])]
   exact ⟨_,_,_,by rw [zcH eW]⟩
  ·have ne:fNe (.str w) (.str "") h = .ok (.bl true) h:=by simp [q]
   have cn:CP [some (.ref p),some (.ref W),some (.str w0),some (.str w),o4,o5] h = .ok true h:=by simp [ne,-fNe]
   rw [if_neg q]
   have w1:1<=w.length:=by rw [zaN] at q;lia
   have N:=yen g 90 st ok (by have:=ycE g ok;lia)
   have fn:=yhw S g hW ok (by lia) eW
   obtain ⟨z,st0,e⟩:∃ z st0,nxF ps 90 st=(z,st0):=⟨_,_,rfl⟩
   rw [e] at N fn ⊢
   dsimp only at fn ⊢
   have nl:=N.ln
   dsimp only at nl
   obtain ⟨m,em⟩:∃ m,m=min z.length w.length:=⟨_,rfl⟩
   rw [<- em]
   have S1:ShelfAt (h.set W (.lst (st0.reverse.map uv))) p ps:=zaD S hW _
   have eW1:(h.set W (.lst (st0.reverse.map uv)))[W]? = some (.lst (st0.reverse.map uv)):=List.getElem?_set_self (yaS eW)
   obtain ⟨h1,eh1⟩:∃ h1,h1=h.set W (.lst (st0.reverse.map uv)):=⟨_,rfl⟩
   rw [<- eh1] at fn S1 eW1
   have l1:fLen [.str z] h1 = .ok (.int z.length) h1:=rfl
   have l2:fLen [.str w] h1 = .ok (.int w.length) h1:=rfl
   have mn:yds [.int z.length,.int w.length] h1 = .ok (.int m) h1:=by
    have:yds [.int z.length,.int w.length] h1 = .ok (.int (if (w.length:Int)<z.length then (w.length:Int) else z.length)) h1:=rfl
    rw [this]
    by_cases q:w.length<z.length
    ·rw [if_pos (by lia)];congr 2;lia
    ·rw [if_neg (by lia)];congr 2;lia
   have eq0:=eq_n m 0 h1
   have eq0':fEq (.int m) (.int 0) h1 = .ok (.bl (decide (m=0))) h1:=eq0
   have c1:=yeD (x:=z) (a:=m) h1
   have c2:=yeD (x:=w) (a:=m) h1
   have c3:∀ hh,ya4 (.str z) (some (m:Int)) none hh = .ok (.str (dpS z m)) hh:=ye5 (by lia)
   have c4:∀ hh,ya4 (.str w) (some (m:Int)) none hh = .ok (.str (dpS w m)) hh:=ye5 (by lia)
   by_cases q1:m=0
   ·rw [if_pos (.inl q1)]
    rw [decide_eq_true q1] at eq0'
    have eb:yaJ [some (.ref p),some (.ref W),some (.str w0),some (.str w),o4,o5] h = .rt (.bl false) h1:=by
     generalize (z.length:Int)=ZL at *
     generalize (w.length:Int)=WL at *
     generalize (m:Int)=MM at *
     simp [yaJ,fn,l1,l2,mn,eq0',-fLen,-yds,-fEq]
    rw [yd2 cn eb,eh1]
    exact ⟨_,rfl⟩
   ·rw [decide_eq_false q1] at eq0'
    by_cases q2:tkS z m=tkS w m
    ·rw [if_neg (by rintro (a | a);exact q1 a;exact a q2)]
     have n2:fNe (.str (tkS z m)) (.str (tkS w m)) h1 = .ok (.bl false) h1:=by rw [q2];simp
     have pb:=yhx (dpS z m) eW1 (by lia)
     have sn:st≠[]:=fun z0=>by
      have:=N.z0 z0
      cases this
      have:("" : Str).length=0:=rfl
      lia
     have zb:=N.z1 sn
     dsimp only at zb
     have pl:=zfQ (dpS z m) st0
     obtain ⟨h2,eh2⟩:∃ h2,h2=h1.set W (.lst ((psh (dpS z m) st0).reverse.map uv)):=⟨_,rfl⟩
     have S2:ShelfAt h2 p ps:=by rw [eh2];exact zaD S1 hW _
     have eW2:h2[W]? = some (.lst ((psh (dpS z m) st0).reverse.map uv)):=by rw [eh2];exact List.getElem?_set_self (yaS eW1)
     rw [<- eh2] at pb
     have eb:yaJ [some (.ref p),some (.ref W),some (.str w0),some (.str w),o4,o5] h = .nx [some (.ref p),some (.ref W),some (.str w0),some (.str (dpS w m)),some (.str z),some (.int m)] h2:=by
      generalize (z.length:Int)=ZL at *
      generalize (w.length:Int)=WL at *
      generalize (m:Int)=MM at *
      simp [yaJ,fn,l1,l2,mn,eq0',c1,c2,c3,c4,n2,pb,-fLen,-yds,-fEq,-fNe,-ya4]
     rw [yeS cn eb]
     have r:=zfS g hW w0 c fu (dpS w m) (psh (dpS z m) st0) h2 (some (.str z)) (some (.int m)) S2 (yeF (by rw [ydh];lia) N.ok) (by rw [ydh];lia) (by lia) (by lia) eW2
     cases ht:tkF ps c (dpS w m) (psh (dpS z m) st0) with
     | some st' =>
      rw [ht] at r
      obtain ⟨a,b,d,r⟩:=r
      exact ⟨a,b,d,by rw [r,eh2,eh1,List.set_set,List.set_set]⟩
     | none =>
      rw [ht] at r
      obtain ⟨Z,r⟩:=r
      exact ⟨Z,by rw [r,eh2,eh1,List.set_set,List.set_set]⟩
    ·rw [if_pos (.inr q2)]
     have n2:fNe (.str (tkS z m)) (.str (tkS w m)) h1 = .ok (.bl true) h1:=by simp [q2]
     have eb:yaJ [some (.ref p),some (.ref W),some (.str w0),some (.str w),o4,o5] h = .rt (.bl false) h1:=by
      generalize (z.length:Int)=ZL at *
      generalize (w.length:Int)=WL at *
      generalize (m:Int)=MM at *
      simp [yaJ,fn,l1,l2,mn,eq0',c1,c2,n2,-fLen,-yds,-fEq,-fNe,-ya4]
     rw [yd2 cn eb,eh1]
     exact ⟨_,rfl⟩
theorem zh4 {h:AH} {p W:Nat} {ps:List Pc} {st:List Un} {w:Str} (S:ShelfAt h p ps) (g:Good ps) (hW:p+8<W) (ok:∀ u∈st,OkU ps u) (ls:st.length<=890000) (hw:w.length<=8) (eW:h[W]? = some (.lst (st.reverse.map uv))) :
  (∃ st',tkF ps 10 w st=some st'/\ybE [.ref p,.ref W,.str w] h = .ok (.bl true) (h.set W (.lst (st'.reverse.map uv)))) \/
  (tkF ps 10 w st=none/\∃ Z,ybE [.ref p,.ref W,.str w] h = .ok (.bl false) (h.set W (.lst Z))):=by
 have r:=zfS g hW w 10 ya5 w st h none none S ok (by lia) (by decide) (by lia) eW
 cases ht:tkF ps 10 w st with
 | some st' =>
  rw [ht] at r
  obtain ⟨a,b,d,r⟩:=r
  refine .inl ⟨st',rfl,?_⟩
  unfold ybE
  generalize yaz CP yaJ ya5=WL at *
  generalize h.set W (.lst (st'.reverse.map uv))=HF at *
  simp [r]
 | none =>
  rw [ht] at r
  obtain ⟨Z,r⟩:=r
  refine .inr ⟨rfl,Z,?_⟩
  unfold ybE
  generalize yaz CP yaJ ya5=WL at *
  generalize h.set W (.lst Z)=HF at *
  simp [r]
end Sk
namespace Sk
open PySem PySem.Spec L2 Sm
inductive OkI (ps:List Pc):Un->Prop
 | n {k:Nat} {m f l:Ms} {x:Str} (T:Tx ps k m x f l):OkI ps (.n k)
 | s {z:Str} (a:ybk z=true):OkI ps (.s z)
inductive OkJ (ps:List Pc):Un->Prop
 | n {k:Nat} (k1:1<=k):OkJ ps (.n k)
 | s {z:Str} (a:ybk z=true):OkJ ps (.s z)
theorem OkI.j {ps:List Pc} {u:Un} (o:OkI ps u):OkJ ps u:=by
 cases o with
 | n T=>exact .n T.n1
 | s a=>exact .s a
theorem zfT {ps:List Pc} (g:Good ps) {k:Nat} (hk:ps.length<k):∀ (c:Nat) (st:List Un),(∀ u∈st,OkU ps u)->topF ps k c st=none
 | 0,[],_=>rfl
 | 0,.s _::_,_=>rfl
 | 0,.n _::_,_=>rfl
 | c+1,[],_=>rfl
 | c+1,.s _::_,_=>rfl
 | c+1,.n j::st,ok=>by
  cases ok _ (List.mem_cons_self ..) with
  | @n _ m f l x T =>
   have:=T.le
   rw [topF,if_neg (by lia)]
   rcases g.kind T with ⟨e,_⟩ | ⟨a,b,ma,mb,y,z,fa,la,fb,lb,e,e2,_,A,B,_⟩
   ·rw [e]
   ·rw [e]
    exact zfT g hk c _ (zaZ A B ok)
def itF (ps:List Pc):Un->List Un->Option (List Un)
 | .n k,st=>topF ps k 90 st
 | .s w,st=>tkF ps 10 w st
def lbF (ps:List Pc):List Un->List Un->Option (List Un)
 | [],st=>some st
 | i::r,st=>(itF ps i st).bind (lbF ps r)
theorem ye7 (ps:List Pc):∀ (a b:List Un) (st:List Un),lbF ps (a++b) st=(lbF ps a st).bind (lbF ps b)
 | [],b,st=>rfl
 | i::a,b,st=>by
  rw [List.cons_append,lbF,lbF]
  cases itF ps i st with
  | none=>rfl
  | some s=>exact ye7 ps a b s
theorem zb2 {ps:List Pc} (g:Good ps) {i:Un} {st st':List Un} (ok:∀ u∈st,OkU ps u) (e:itF ps i st=some st'):rdS ps st=rdU ps i++rdS ps st'/\(∀ u∈st',OkU ps u)/\st'.length<=st.length+1000:=by
 cases i with
 | n k =>
  obtain ⟨a,b,c⟩:=yfN g 90 ok e
  exact ⟨a,b,by lia⟩
 | s w =>
  have r:=zbs g 10 ok e
  exact ⟨r.rd,r.ok,by have:=r.ln;lia⟩
theorem zeA {ps:List Pc} (g:Good ps):∀ (its:List Un) {st st':List Un},(∀ u∈st,OkU ps u)->lbF ps its st=some st'->rdS ps st=rdS ps its++rdS ps st'/\(∀ u∈st',OkU ps u)
 | [],st,st',ok,e=>by cases e;exact ⟨rfl,ok⟩
 | i::its,st,st',ok,e=>by
  rw [lbF] at e
  obtain ⟨s1,e1,e2⟩:=Option.bind_eq_some_iff.mp e
  obtain ⟨a,b,_⟩:=zb2 g ok e1
  obtain ⟨c,d⟩:=zeA g its b e2
  exact ⟨by rw [a,c,rdS,List.append_assoc],d⟩
theorem yhy {h:AH} {p W:Nat} {ps:List Pc} {st:List Un} {i:Un} (S:ShelfAt h p ps) (g:Good ps) (hW:p+8<W) (ok:∀ u∈st,OkU ps u) (oi:OkJ ps i) (ls:st.length<=890000) (eW:h[W]? = some (.lst (st.reverse.map uv))) :
  (∃ st',itF ps i st=some st'/\yaR [.ref p,.ref W,uv i] h = .ok (.bl true) (h.set W (.lst (st'.reverse.map uv)))) \/
  (itF ps i st=none/\∃ Z,yaR [.ref p,.ref W,uv i] h = .ok (.bl false) (h.set W (.lst Z))):=by
 have ob:=S.ob
 cases oi with
 | @n k k1 =>
  by_cases hk:k<=ps.length
  case neg =>
   have hp:yaK [.ref p,.int k] h = .ok (.bl false) h:=by
    rw [yeB S]
    rw [decide_eq_false (by lia)]
   have sh:ybw [.int k] h = .ok (.bl false) h:=by simp [ybw,ycD]
   refine .inr ⟨zfT g (by lia) 90 st ok,st.reverse.map uv,?_⟩
   rw [zcH eW]
   simp [yaR,ob,hp,sh]
  have hp:yaK [.ref p,.int k] h = .ok (.bl true) h:=by
   rw [yeB S]
   rw [decide_eq_true (by lia)]
  show (∃ st',topF ps k 90 st=some st'/\yaR [.ref p,.ref W,.int k] h=_)\/(topF ps k 90 st=none/\∃ Z,yaR [.ref p,.ref W,.int k] h=_)
  rcases zh3 (k:=k) S g hW ok (by lia) eW with ⟨st',a,b⟩ | ⟨a,Z,b⟩
  ·refine .inl ⟨st',a,?_⟩
   generalize h.set W (.lst (st'.reverse.map uv))=HF at *
   simp [yaR,ob,hp,b]
  ·refine .inr ⟨a,Z,?_⟩
   generalize h.set W (.lst Z)=HF at *
   simp [yaR,ob,hp,b]
 | @s w a =>
  obtain ⟨w1,w8,_⟩:=zao a
  have hp:yaK [.ref p,.str w] h = .ok (.bl false) h:=by
   simp [yaK,yc4,ob]
  have sh:ybw [.str w] h = .ok (.bl true) h:=by rw [zcE w h (Nat.le_trans w8 (by decide)),a]
  show (∃ st',tkF ps 10 w st=some st'/\yaR [.ref p,.ref W,.str w] h=_)\/(tkF ps 10 w st=none/\∃ Z,yaR [.ref p,.ref W,.str w] h=_)
  rcases zh4 (w:=w) S g hW ok ls w8 eW with ⟨st',a,b⟩ | ⟨a,Z,b⟩
  ·refine .inl ⟨st',a,?_⟩
   generalize h.set W (.lst (st'.reverse.map uv))=HF at *
   simp [yaR,ob,hp,sh,b]
  ·refine .inr ⟨a,Z,?_⟩
   generalize h.set W (.lst Z)=HF at *
   simp [yaR,ob,hp,sh,b]
inductive SrcI (h:AH) (its:List Un):AV->Option Nat->Prop
 | ref {B:Nat} (e:h[B]? = some (.lst (its.map uv))):SrcI h its (.ref B) (some B)
 | fl:SrcI h its (.fl (its.map uv)) none
theorem SrcI.live {h:AH} {its:List Un} {v:AV} {w:Option Nat} (s:SrcI h its v w) {hh:AH} (k:∀ i,i<h.length->hh[i]? = h[i]?):ybO w (its.map uv) hh=true:=by
 cases s with
 | ref e=>simp [k _ (yaS e),e]
 | fl=>rfl
theorem SrcI.mono {h hh:AH} {its:List Un} {v:AV} {w:Option Nat} (s:SrcI h its v w) (k:∀ i,i<h.length->hh[i]? = h[i]?):SrcI hh its v w:=by
 cases s with
 | ref e=>exact .ref ((k _ (yaS e)).trans e)
 | fl=>exact .fl
def Bd (ps:List Pc) (H:Nat):List Un->Prop
 | []=>True
 | u::r=>r.length+hU ps (u::r)<=H/\Bd ps H r
theorem Bd.len {ps:List Pc} {H:Nat} {st:List Un} (b:Bd ps H st):st.length<=H+1:=by
 cases st with
 | nil=>exact Nat.zero_le _
 | cons u r =>
  have:=b.1
  rw [List.length_cons];lia
theorem zfU {ps:List Pc} {H j a b:Nat} {m ma mb f l fa la fb lb:Ms} {x y z:Str} {r:List Un} (T:Tx ps j m x f l) (A:Tx ps a ma y fa la) (B:Tx ps b mb z fb lb) (e5:m=ydg ma mb) (h:Bd ps H (.n j::r)):Bd ps H (.n a :: .n b::r):=by
 have h1:=h.1
 rw [ybf T] at h1
 have hh:=congrArg Ms.ht e5
 rw [fmH] at hh
 have a0:=A.ky.ht
 have b0:=B.ky.ht
 refine ⟨?_,?_,h.2⟩
 ·rw [ybf A,List.length_cons];lia
 ·rw [ybf B];lia
theorem ygk {ps:List Pc} (g:Good ps) {H:Nat}:∀ (c:Nat) (st:List Un),(∀ u∈st,OkU ps u)->hU ps st<=c->Bd ps H st->Bd ps H (nxF ps c st).2/\(nxF ps c st).2.length<=H
 | c,[],ok,_,b=>by
  have e:nxF ps c []=((Str.ofString "" : Str),([]:List Un)):=by cases c<;>rfl
  rw [e];exact ⟨trivial,Nat.zero_le _⟩
 | c,.s z::st,ok,_,b=>by
  rw [nx_s]
  have:=b.1
  exact ⟨b.2,by show st.length<=H;lia⟩
 | 0,.n k::st,ok,h,b=>by
  cases ok _ (List.mem_cons_self ..) with
  | @n _ m f l x T=>rw [ybf T] at h;lia
 | c+1,.n k::st,ok,h,b=>by
  cases ok _ (List.mem_cons_self ..) with
  | @n _ m f l x T =>
   have h' := h
   rw [ybf T] at h'
   rcases g.kind T with ⟨e1,e2,e3,e4,e5⟩ | ⟨a,d,ma,mb,y,z,fa,la,fb,lb,e1,e2,e3,A,B,e4,e5,e6⟩
   ·have e:nxF ps (c+1) (.n k::st)=(x,st):=by unfold nxF;rw [e1]
    rw [e]
    have:=b.1
    exact ⟨b.2,by show st.length<=H;lia⟩
   ·have e:nxF ps (c+1) (.n k::st)=nxF ps c (.n a :: .n d::st):=by rw [nxF,e1]
    rw [e]
    have hh:=congrArg Ms.ht e5
    rw [fmH] at hh
    have a0:=A.ky.ht
    have b0:=B.ky.ht
    exact ygk g c (.n a :: .n d::st) (zaZ A B ok) (by rw [ybf A];lia) (zfU T A B e5 b)
theorem yfQ {ps:List Pc} (g:Good ps) {H k:Nat}:∀ (c:Nat) {st st':List Un},(∀ u∈st,OkU ps u)->topF ps k c st=some st'->Bd ps H st->Bd ps H st'
 | 0,[],st',_,h,_=>by cases h
 | 0,.s _::_,st',_,h,_=>by cases h
 | 0,.n _::_,st',_,h,_=>by cases h
 | c+1,[],st',_,h,_=>by cases h
 | c+1,.s _::_,st',_,h,_=>by cases h
 | c+1,.n j::st,st',ok,h,b=>by
  rw [topF] at h
  by_cases q:j=k
  ·rw [if_pos q] at h
   cases h
   exact b.2
  ·rw [if_neg q] at h
   cases ok _ (List.mem_cons_self ..) with
   | @n _ m f l x T =>
    rcases g.kind T with ⟨e1,_⟩ | ⟨a,d,ma,mb,y,z,fa,la,fb,lb,e1,e2,e3,A,B,e4,e5,e6⟩
    ·rw [e1] at h;cases h
    ·rw [e1] at h
     exact yfQ g c (zaZ A B ok) h (zfU T A B e5 b)
theorem yhz {ps:List Pc} {H:Nat} {z:Str} {st:List Un} (b:Bd ps H st) (h:st.length<=H):Bd ps H (psh z st):=by
 unfold psh
 split
 ·exact b
 ·exact ⟨h,b⟩
theorem ygl {ps:List Pc} (g:Good ps) {H:Nat}:∀ (c:Nat) {w:Str} {st st':List Un},(∀ u∈st,OkU ps u)->tkF ps c w st=some st'->Bd ps H st->Bd ps H st'
 | 0,w,st,st',_,h,_=>by cases h
 | c+1,w,st,st',ok,h,b=>by
  rw [tkF] at h
  by_cases q:w = ""
  ·rw [if_pos q] at h
   cases h
   exact b
  ·rw [if_neg q] at h
   have N:=yen g 90 st ok (by have:=ycE g ok;lia)
   have M:=ygk (H:=H) g 90 st ok (by have:=ycE g ok;lia) b
   obtain ⟨z,st0,e⟩:∃ z st0,nxF ps 90 st=(z,st0):=⟨_,_,rfl⟩
   rw [e] at h N M
   dsimp only at h M
   obtain ⟨m,em⟩:∃ m,m=min z.length w.length:=⟨_,rfl⟩
   rw [<- em] at h
   by_cases q2:m=0 \/ ¬ tkS z m=tkS w m
   ·rw [if_pos q2] at h;cases h
   ·rw [if_neg q2] at h
    have m0 : ¬ m=0:=fun z=>q2 (.inl z)
    have sn:st≠[]:=fun z0=>by
     have:=N.z0 z0
     cases this
     have:("" : Str).length=0:=rfl
     lia
    have zb:=N.z1 sn
    dsimp only at zb
    exact ygl g c (yeF (by rw [ydh];lia) N.ok) h (yhz M.1 M.2)
theorem yiv {ps:List Pc} (g:Good ps) {H:Nat} {i:Un} {st st':List Un} (ok:∀ u∈st,OkU ps u) (e:itF ps i st=some st') (b:Bd ps H st):Bd ps H st' := by
 cases i with
 | n k=>exact yfQ g 90 ok e b
 | s w=>exact ygl g 10 ok e b
def lbR (W:Nat) (hh:AH) (e0:Option AV->En) (r:Option (List Un)) (o:OutS):Prop:=match r with
 | some st' => ∃ o4,o = .nx (e0 o4) (hh.set W (.lst (st'.reverse.map uv)))
 | none=>∃ Z,o = .rt .non (hh.set W (.lst Z))
theorem zfV {h:AH} {p t:Nat} {ps:List Pc} {all:List Un} {v:AV} {w:Option Nat} (S:ShelfAt h p ps) (g:Good ps) (sr:SrcI h all v w) (hW:p+8<h.length):∀ (its:List Un) (st:List Un) (hh:AH) (o4:Option AV),(∀ i∈its,OkJ ps i)->(∀ u∈st,OkU ps u)->Bd ps 83 st->ShelfAt hh p ps ->
  (∀ i,i<h.length->hh[i]? = h[i]?)->hh[h.length]? = some (.lst (st.reverse.map uv)) ->
  lbR h.length hh (fun o=>[some (.ref p),some (.int t),some v,some (.ref h.length),o]) (lbF ps its st) (ya8 w (all.map uv) (.nm 4) yaI (its.map uv) [some (.ref p),some (.int t),some v,some (.ref h.length),o4] hh)
 | [],st,hh,o4,oi,ok,bd,S',k,eW=>by
  unfold ya8
  rw [List.map_nil]
  dsimp only
  rw [if_pos (sr.live k)]
  exact ⟨o4,by rw [zcH eW]⟩
 | i::its,st,hh,o4,oi,ok,bd,S',k,eW=>by
  have bl:=bd.len
  rw [List.map_cons]
  unfold ya8
  rw [if_pos (sr.live k)]
  have st1:setT (.nm 4) (uv i) [some (.ref p),some (.int t),some v,some (.ref h.length),o4]=some [some (.ref p),some (.int t),some v,some (.ref h.length),some (uv i)]:=rfl
  rw [st1]
  dsimp only
  rw [lbF]
  rcases yhy S' g hW ok (oi i (List.mem_cons_self ..)) (by lia) eW with ⟨st',a,e⟩ | ⟨a,Z,e⟩
  ·rw [a]
   show lbR h.length hh _ (lbF ps its st') _
   have eb:yaI [some (.ref p),some (.int t),some v,some (.ref h.length),some (uv i)] hh = .nx [some (.ref p),some (.int t),some v,some (.ref h.length),some (uv i)] (hh.set h.length (.lst (st'.reverse.map uv))):=by
    generalize hh.set h.length (.lst (st'.reverse.map uv))=HF at *
    generalize uv i=I at *
    simp [yaI,e]
   rw [eb]
   dsimp only
   have r:=zfV (t:=t) S g sr hW its st' (hh.set h.length (.lst (st'.reverse.map uv))) (some (uv i)) (fun j hj=>oi j (List.mem_cons_of_mem _ hj)) (zb2 g ok a).2.1 (yiv g ok a bd) (zaD S' hW _) (fun j hj=>by rw [List.getElem?_set_ne (by lia)];exact k j hj) (List.getElem?_set_self (yaS eW))
   cases ht:lbF ps its st' with
   | some s2 =>
    rw [ht] at r
    obtain ⟨o,r⟩:=r
    exact ⟨o,by rw [r,List.set_set]⟩
   | none =>
    rw [ht] at r
    obtain ⟨Z,r⟩:=r
    exact ⟨Z,by rw [r,List.set_set]⟩
  ·rw [a]
   show lbR h.length hh _ none _
   have eb:yaI [some (.ref p),some (.int t),some v,some (.ref h.length),some (uv i)] hh = .rt .non (hh.set h.length (.lst Z)):=by
    generalize hh.set h.length (.lst Z)=HF at *
    generalize uv i=I at *
    simp [yaI,e]
   rw [eb]
   exact ⟨Z,rfl⟩
theorem yfR {h:AH} {p t:Nat} {ps:List Pc} {its:List Un} {v:AV} {w:Option Nat} {m f l:Ms} {x:Str} (S:ShelfAt h p ps) (g:Good ps) (T:Tx ps t m x f l) (sr:SrcI h its v w) (oi:∀ i∈its,OkJ ps i) :
  (∃ st',lbF ps its [.n t]=some st'/\ya3 [.ref p,.int t,v] h = .ok (.ref h.length) (h++[.lst (st'.reverse.map uv)])) \/
  (lbF ps its [.n t]=none/\∃ Z,ya3 [.ref p,.int t,v] h = .ok .non (h++[.lst Z])):=by
 have hW:p+8<h.length:=yaS S.h8
 have t1:=T.n1
 have t0:fEq (.int t) (.int 0) h = .ok (.bl false) h:=by
  have:=eq_n t 0 h
  rw [decide_eq_false (by lia)] at this
  exact this
 have ck:yaQ [.ref p,.int t] h = .ok .non h:=zbe S (by have:=T.le;lia)
 have wl:ycr [.ref p,.int t] h = .ok (.ref h.length) (h++[.lst [.int t]]):=by
  simp [ycr,S.ob,ck,t0,-fEq]
 have ok0:∀ u∈([.n t]:List Un),OkU ps u:=fun u hu=>by rw [List.mem_singleton] at hu;subst hu;exact .n T
 have bd0:Bd ps 83 [.n t]:=⟨by have:=ycE g ok0;show 0+_<=_;lia,trivial⟩
 have kk:∀ i,i<h.length->(h++[AO.lst [.int t]])[i]? = h[i]? := fun i hi=>List.getElem?_append_left hi
 have eW:(h++[AO.lst [.int t]])[h.length]? = some (.lst (([.n t]:List Un).reverse.map uv)):=by simp
 have r:=zfV (t:=t) S g sr hW its [.n t] (h++[.lst [.int t]]) none oi ok0 bd0 (S.app _) kk eW
 have it:iVal (sVar 2) [some (.ref p),some (.int t),some v,some (.ref h.length),none] (h++[.lst [.int t]]) = .ok (its.map uv,w) (h++[.lst [.int t]]):=by
  have sr' := sr.mono kk
  cases sr' with
  | ref e=>simp [e]
  | fl =>
   generalize its.map uv=Q at *
   simp
 have fo:=ycJ (t:=.nm 4) (b:=yaI) it
 cases ht:lbF ps its [.n t] with
 | some st' =>
  rw [ht] at r
  obtain ⟨o,r⟩:=r
  refine .inl ⟨st',rfl,?_⟩
  have fo' := fo.trans r
  have es:(h++[AO.lst [.int t]]).set h.length (.lst (st'.reverse.map uv))=h++[.lst (st'.reverse.map uv)]:=by simp
  rw [es] at fo'
  unfold ya3
  generalize sFor (iVal (sVar 2)) (.nm 4) yaI=FF at *
  generalize h++[.lst (st'.reverse.map uv)]=HF at *
  simp [wl,fo']
 | none =>
  rw [ht] at r
  obtain ⟨Z,r⟩:=r
  refine .inr ⟨rfl,Z,?_⟩
  have fo' := fo.trans r
  have es:(h++[AO.lst [.int t]]).set h.length (.lst Z)=h++[.lst Z]:=by simp
  rw [es] at fo'
  unfold ya3
  generalize sFor (iVal (sVar 2)) (.nm 4) yaI=FF at *
  generalize h++[.lst Z]=HF at *
  simp [wl,fo']
end Sk
namespace Sk
open PySem PySem.Spec L2 Sm
theorem zdx {ps:List Pc} (g:Good ps):∀ (c d:Nat) (st:List Un),(∀ u∈st,OkU ps u)->hU ps st<=c->hU ps st<=d->nxF ps c st=nxF ps d st
 | c,d,[],_,_,_=>by cases c<;>cases d<;>rfl
 | c,d,.s z::st,_,_,_=>by rw [nx_s,nx_s]
 | 0,d,.n k::st,ok,h,_=>by
  cases ok _ (List.mem_cons_self ..) with
  | @n _ m f l x T=>rw [ybf T] at h;lia
 | c+1,0,.n k::st,ok,_,h=>by
  cases ok _ (List.mem_cons_self ..) with
  | @n _ m f l x T=>rw [ybf T] at h;lia
 | c+1,d+1,.n k::st,ok,h1,h2=>by
  cases ok _ (List.mem_cons_self ..) with
  | @n _ m f l x T =>
   rw [ybf T] at h1 h2
   rcases g.kind T with ⟨e1,e2,e3,e4,e5⟩ | ⟨a,b,ma,mb,y,z,fa,la,fb,lb,e1,e2,e3,A,B,e4,e5,e6⟩
   ·rw [nxF,nxF,e1]
   ·rw [nxF,nxF,e1]
    have hh:=congrArg Ms.ht e5
    rw [fmH] at hh
    have a0:=A.ky.ht
    have b0:=B.ky.ht
    exact zdx g c d (.n a :: .n b::st) (zaZ A B ok) (by rw [ybf A];lia) (by rw [ybf A];lia)
theorem zc6 {ps:List Pc} (g:Good ps) {k:Nat}:∀ (c d:Nat) (st:List Un),(∀ u∈st,OkU ps u)->hU ps st<=c->hU ps st<=d->topF ps k c st=topF ps k d st
 | c,d,[],_,_,_=>by cases c<;>cases d<;>rfl
 | c,d,.s z::st,_,_,_=>by cases c<;>cases d<;>rfl
 | 0,d,.n k::st,ok,h,_=>by
  cases ok _ (List.mem_cons_self ..) with
  | @n _ m f l x T=>rw [ybf T] at h;lia
 | c+1,0,.n k::st,ok,_,h=>by
  cases ok _ (List.mem_cons_self ..) with
  | @n _ m f l x T=>rw [ybf T] at h;lia
 | c+1,d+1,.n j::st,ok,h1,h2=>by
  rw [topF,topF]
  by_cases q:j=k
  ·rw [if_pos q,if_pos q]
  ·rw [if_neg q,if_neg q]
   cases ok _ (List.mem_cons_self ..) with
   | @n _ m f l x T =>
    rw [ybf T] at h1 h2
    rcases g.kind T with ⟨e1,e2,e3,e4,e5⟩ | ⟨a,b,ma,mb,y,z,fa,la,fb,lb,e1,e2,e3,A,B,e4,e5,e6⟩
    ·rw [e1]
    ·rw [e1]
     have hh:=congrArg Ms.ht e5
     rw [fmH] at hh
     have a0:=A.ky.ht
     have b0:=B.ky.ht
     exact zc6 g c d (.n a :: .n b::st) (zaZ A B ok) (by rw [ybf A];lia) (by rw [ybf A];lia)
def Low (k:Nat):List Un->Prop
 | []=>True
 | .n j::r=>j<=k/\Low k r
 | .s z::r=>1<=z.length/\Low k r
theorem ygm {ps:List Pc} {c:Nat} {w:Str} {st st2:List Un} (w0 : ¬ w = "") (e:nxF ps 90 st=nxF ps 90 st2):tkF ps (c+1) w st=tkF ps (c+1) w st2:=by
 unfold tkF
 rw [if_neg w0,if_neg w0,e]
def sgl (cs:List Nat):List Un:=cs.map fun c=>.s ⟨#[c]⟩
theorem zeB {ps:List Pc} (g:Good ps):∀ (cs:List Nat) {st:List Un} {r:List Nat},(∀ u∈st,OkU ps u)->rdS ps st=cs++r->lbF ps (sgl cs) st=some (dN ps cs.length st)
 | [],st,r,ok,h=>rfl
 | c::cs,st,r,ok,h=>by
  show (tkF ps 10 ⟨#[c]⟩ st).bind (lbF ps (sgl cs))=_
  have e:=zdw (c:=10) (w:=⟨#[c]⟩) (st:=st) (r:=cs++r) g ok h (by show (1:Nat)<10;decide)
  have s:=zbs g 10 ok e
  rw [e]
  have rd:=s.rd
  rw [h] at rd
  have rd':c::(cs++r)=c::rdS ps (dN ps 1 st):=rd
  have tl:=(List.cons.inj rd').2
  have ok1:∀ u∈dN ps 1 st,OkU ps u:=s.ok
  show lbF ps (sgl cs) (dN ps 1 st)=_
  rw [zeB g cs ok1 tl.symm,<- ye6,List.length_cons,Nat.add_comm]
structure SpOk (ps:List Pc) (t:Nat) (its:List Un):Prop where
 ne:its≠[]
 lo:Low t its
 oi:∀ i∈its,OkI ps i
 sp:∀ st,(∀ u∈st,OkU ps u)->lbF ps its (.n t::st)=some st
theorem ye8 {ps:List Pc}:∀ (cs:List Nat),(∀ c∈cs,ydf c=true)->∀ i∈sgl cs,OkI ps i
 | [],_,i,hi=>by cases hi
 | c::cs,h,i,hi=>by
  rcases List.mem_cons.mp hi with rfl | hi
  ·refine .s ?_
   have:=h c (List.mem_cons_self ..)
   simp [ybk,yau,this]
   show (1:Nat)<=1/\(1:Nat)<=8
   decide
  ·exact ye8 cs (fun d hd=>h d (List.mem_cons_of_mem _ hd)) i hi
inductive Op (ps:List Pc):List Un->List Un->Prop
 | refl (st:List Un):Op ps st st
 | open {s st:List Un} {j a b:Nat} (h:Op ps s (.n j::st)) (e:ps[j-1]? = some (.fork a b)):Op ps s (.n a :: .n b::st)
theorem OkI.u {ps:List Pc} {u:Un} (o:OkI ps u):OkU ps u:=by
 cases o with
 | n T=>exact .n T
 | s a=>exact .s (zao a).1 (zao a).2.1
theorem zco {ps:List Pc} (g:Good ps) {j a b:Nat} {m f l:Ms} {x:Str} (T:Tx ps j m x f l) (e:ps[j-1]? = some (.fork a b)):∃ ma mb y z fa la fb lb,a<j/\Tx ps a ma y fa la/\Tx ps b mb z fb lb/\x=y++z/\m=ydg ma mb:=by
 rcases g.kind T with ⟨q,_⟩ | ⟨a',b',ma,mb,y,z,fa,la,fb,lb,e1,e2,_,A,B,x1,x2,_⟩
 ·rw [e] at q;cases q
 ·rw [e] at e1;cases e1
  exact ⟨ma,mb,y,z,fa,la,fb,lb,e2,A,B,x1,x2⟩
theorem zb3 {ps:List Pc} (g:Good ps) {j a b:Nat} {st:List Un} (ok:∀ u∈(.n j::st:List Un),OkI ps u) (e:ps[j-1]? = some (.fork a b)):∀ u∈(.n a :: .n b::st:List Un),OkI ps u:=by
 cases ok _ (List.mem_cons_self ..) with
 | n T =>
  obtain ⟨ma,mb,y,z,fa,la,fb,lb,_,A,B,_⟩:=zco g T e
  intro u hu
  rcases List.mem_cons.mp hu with rfl | hu
  ·exact .n A
  ·rcases List.mem_cons.mp hu with rfl | hu
   ·exact .n B
   ·exact ok u (List.mem_cons_of_mem _ hu)
theorem yei {ps:List Pc} (g:Good ps) {s L:List Un} (o:Op ps s L) (ok:∀ u∈s,OkI ps u):∀ u∈L,OkI ps u:=by
 induction o with
 | refl=>exact ok
 | «open» h e ih=>exact zb3 g ih e
theorem okis {ps:List Pc} {s:List Un} (ok:∀ u∈s,OkI ps u):∀ u∈s,OkU ps u:=fun u hu=>(ok u hu).u
theorem yiw {ps:List Pc} (g:Good ps) {s L:List Un} (o:Op ps s L) (ok:∀ u∈s,OkI ps u):nxF ps 90 s=nxF ps 90 L:=by
 induction o with
 | refl=>rfl
 | @«open» st j a b h e ih =>
  rw [ih]
  have k1:=okis (yei g h ok)
  have k2:=okis (zb3 g (yei g h ok) e)
  have q:nxF ps 90 (.n j::st)=nxF ps 89 (.n a :: .n b::st):=by
   show (match ps[j-1]? with
    | some (.fork a b)=>nxF ps 89 (.n a :: .n b::st)
    | some (.leaf z)=>(z,st)
    | none=>("",st))=_
   rw [e]
  rw [q]
  exact zdx g 89 90 _ k2 (by have:=ycE g k2;lia) (by have:=ycE g k2;lia)
theorem yhA {ps:List Pc} (g:Good ps) {s L:List Un} (o:Op ps s L) (ok:∀ u∈s,OkI ps u):∀ {k i:Nat} {r:List Un},L = .n i::r->k<=i->topF ps k 90 s=topF ps k 90 L:=by
 induction o with
 | refl=>intro k i r _ _;rfl
 | @«open» st j a b h e ih =>
  intro k i r q hk
  cases q
  have k0:=yei g h ok
  have k2:=okis (zb3 g k0 e)
  cases k0 _ (List.mem_cons_self ..) with
  | n T =>
   obtain ⟨_,_,_,_,_,_,_,_,hl,_⟩:=zco g T e
   rw [ih rfl (by lia)]
   have q:topF ps k 90 (.n j::st)=topF ps k 89 (.n a :: .n b::st):=by
    show (if j=k then some st else match ps[j-1]? with
     | some (.fork a b)=>topF ps k 89 (.n a :: .n b::st)
     | _=>none)=_
    rw [if_neg (by lia),e]
   rw [q]
   exact zc6 g 89 90 _ k2 (by have:=ycE g k2;lia) (by have:=ycE g k2;lia)
theorem zi9 {ps:List Pc} (g:Good ps) {s L:List Un} {k:Nat} (o:Op ps s (.n k::L)) (ok:∀ u∈s,OkI ps u):itF ps (.n k) s=some L:=by
 show topF ps k 90 s=_
 rw [yhA g o ok rfl (Nat.le_refl _)]
 show (if k=k then some L else _)=_
 rw [if_pos rfl]
theorem zja {ps:List Pc} (g:Good ps) {s L L0:List Un} {z:Str} {m:Nat} (o:Op ps s L) (ok:∀ u∈s,OkI ps u) (e:nxF ps 90 L=(z,L0)) (m1:1<=m) (hm:m<=z.length) (z8:z.length<=8):itF ps (.s (tkS z m)) s=some (psh (dpS z m) L0):=by
 show tkF ps 10 (tkS z m) s=_
 have en:=(yiw g o ok).trans e
 have lt:(tkS z m).length=m:=by rw [zad,yce,List.length_take,<- zad];lia
 have N:=yen g 90 s (okis ok) (by have:=ycE g (okis ok);lia)
 have rd:=N.rd
 rw [en] at rd
 have rd2:rdS ps s=(tkS z m).cps.toList++(z.cps.toList.drop m++rdS ps L0):=by
  rw [rd,yce,<- List.append_assoc,List.take_append_drop]
 rw [zdw g (okis ok) rd2 (by lia),lt,ygj en m1 hm]
theorem yhB {ps:List Pc} {s L:List Un} (o:Op ps s L):s=[] ↔ L=[]:=by
 induction o with
 | refl=>exact Iff.rfl
 | «open» h e ih=>exact ⟨fun q=>(by have:=ih.mp q;cases this),fun q=>(by cases q)⟩
theorem yfS {ps:List Pc} (g:Good ps):∀ (c:Nat) (st:List Un),(∀ u∈st,OkI ps u)->hU ps st<=c->(∀ u∈(nxF ps c st).2,OkI ps u)/\(st≠[]->ybk (nxF ps c st).1=true)
 | c,[],ok,_=>by
  have:nxF ps c []=((("" : Str),([]:List Un))):=by cases c<;>rfl
  rw [this]
  exact ⟨fun u hu=>(by cases hu),fun z=>absurd rfl z⟩
 | c,.s z::st,ok,_=>by
  rw [nx_s]
  refine ⟨fun u hu=>ok u (List.mem_cons_of_mem _ hu),fun _=>?_⟩
  cases ok _ (List.mem_cons_self ..) with
  | s a=>exact a
 | 0,.n k::st,ok,h=>absurd h (by show ¬ _+1<=0;lia)
 | c+1,.n k::st,ok,h=>by
  cases ok _ (List.mem_cons_self ..) with
  | @n k m f l x T =>
   rcases g.kind T with ⟨e,_⟩ | ⟨a,b,ma,mb,y,z,fa,la,fb,lb,e,e2,_,A,B,x1,x2,_⟩
   ·have q:nxF ps (c+1) (.n k::st)=(x,st):=by
     show (match ps[k-1]? with
      | some (.fork a b)=>nxF ps c (.n a :: .n b::st)
      | some (.leaf z)=>(z,st)
      | none=>("",st))=_
     rw [e]
    rw [q]
    exact ⟨fun u hu=>ok u (List.mem_cons_of_mem _ hu),fun _=>g.get e⟩
   ·have q:nxF ps (c+1) (.n k::st)=nxF ps c (.n a :: .n b::st):=by
     show (match ps[k-1]? with
      | some (.fork a b)=>nxF ps c (.n a :: .n b::st)
      | some (.leaf z)=>(z,st)
      | none=>("",st))=_
     rw [e]
    rw [q]
    rw [ybf T] at h
    have r:=yfS g c (.n a :: .n b::st) (zb3 g ok e) (by
     rw [ybf A]
     have:=A.ky.ht
     have:=B.ky.ht
     rw [x2] at h
     have:(ydg ma mb).ht=max ma.ht mb.ht+1:=rfl
     lia)
    exact ⟨r.1,fun _=>r.2 (fun z=>by cases z)⟩
structure Cs (ps:List Pc) (one items L:List Un):Prop where
 ex:∃ s,lbF ps items one=some s/\(∀ u∈s,OkI ps u)/\Op ps s L
theorem Cs.oki {ps:List Pc} (g:Good ps) {one items L:List Un} (c:Cs ps one items L):∀ u∈L,OkI ps u:=by
 obtain ⟨s,_,ok,o⟩:=c.ex
 exact yei g o ok
theorem Cs.opn {ps:List Pc} {one items L L2:List Un} (c:Cs ps one items L) (o:Op ps L L2):Cs ps one items L2:=by
 induction o with
 | refl=>exact c
 | «open» h e ih =>
  obtain ⟨s,a,b,d⟩:=ih.ex
  exact ⟨s,a,b,.open d e⟩
theorem zfW {ps:List Pc} {items one s r:List Un} {i:Un} (e:lbF ps items one=some s) (q:itF ps i s=some r):lbF ps (items++[i]) one=some r:=by
 rw [ye7,e]
 show (itF ps i s).bind (lbF ps [])=_
 rw [q]
 rfl
theorem Cs.num {ps:List Pc} (g:Good ps) {one items L:List Un} {k:Nat} (c:Cs ps one items (.n k::L)):Cs ps one (items++[.n k]) L:=by
 obtain ⟨s,a,b,o⟩:=c.ex
 exact ⟨L,zfW a (zi9 g o b),fun u hu=>yei g o b u (List.mem_cons_of_mem _ hu),.refl _⟩
theorem zh5 {z:Str} {m:Nat} (h:yau z=true):yau (dpS z m)=true:=by
 unfold yau at h ⊢
 rw [ybZ]
 exact List.all_eq_true.mpr fun c hc=>List.all_eq_true.mp h c (List.mem_of_mem_drop hc)
theorem zeC {z:Str} {m:Nat} (h:yau z=true):yau (tkS z m)=true:=by
 unfold yau at h ⊢
 rw [yce]
 exact List.all_eq_true.mpr fun c hc=>List.all_eq_true.mp h c (List.mem_of_mem_take hc)
theorem zbt {z:Str} (p:yau z=true) (a:1<=z.length) (b:z.length<=8):ybk z=true:=by simp [ybk,p,a,b]
theorem zjb {ps:List Pc} {z:Str} {st:List Un} (p:yau z=true) (b:z.length<=8) (ok:∀ u∈st,OkI ps u):∀ u∈psh z st,OkI ps u:=by
 unfold psh
 by_cases q:z = ""
 ·rw [if_pos q];exact ok
 ·rw [if_neg q]
  intro u hu
  rcases List.mem_cons.mp hu with rfl | hu
  ·exact .s (zbt p (by rcases Nat.eq_zero_or_pos z.length with w | w;exact absurd (zaN.mpr w) q;exact w) b)
  ·exact ok u hu
theorem Cs.txt {ps:List Pc} (g:Good ps) {one items L L0:List Un} {z:Str} {m:Nat} (c:Cs ps one items L) (e:nxF ps 90 L=(z,L0)) (m1:1<=m) (hm:m<=z.length):OkI ps (.s (tkS z m))/\Cs ps one (items++[.s (tkS z m)]) (psh (dpS z m) L0):=by
 have okL:=c.oki g
 obtain ⟨s,a,b,o⟩:=c.ex
 have N:=yfS g 90 L okL (by have:=ycE g (okis okL);lia)
 rw [e] at N
 have ne:L≠[]:=fun q=>by
  rw [q] at e
  cases e
  exact absurd hm (by show ¬ m<=0;lia)
 obtain ⟨l1,l8,pl⟩:=zao (show ybk z=true from N.2 ne)
 have lt:(tkS z m).length=m:=by rw [zad,yce,List.length_take,<- zad];lia
 have ld:(dpS z m).length=z.length-m:=by rw [zad,ybZ,List.length_drop,<- zad]
 exact ⟨.s (zbt (zeC pl) (by lia) (by lia)),_,zfW a (zja g o b e m1 hm l8),zjb (zh5 pl) (by lia) N.1,.refl _⟩
end Sk
namespace Sk
open PySem PySem.Spec L2 Sm
theorem yhC {ps:List Pc} {z:Str} {st:List Un} (q : ¬ z = ""):nxF ps 90 (psh z st)=(z,st):=by
 unfold psh
 rw [if_neg q,nx_s]
def yaB:List Un->List Un
 | []=>[]
 | .n k::r=>.n k::yaB r
 | .s w::r=>sgl w.cps.toList++yaB r
theorem zfX (ps:List Pc):∀ cs:List Nat,rdS ps (sgl cs)=cs
 | []=>rfl
 | c::cs=>by
  show [c]++rdS ps (sgl cs)=_
  rw [zfX ps cs]
  rfl
theorem yhD {ps:List Pc} (g:Good ps) {w:Str} {st:List Un} (ok:∀ u∈st,OkU ps u) (w8:w.length<=8):itF ps (.s w) st=lbF ps (sgl w.cps.toList) st:=by
 show tkF ps 10 w st=_
 cases h:tkF ps 10 w st with
 | some s =>
  have T:=zbs g 10 ok h
  rw [zeB g _ ok T.rd,<- zad,<- T.dn]
 | none =>
  cases h2:lbF ps (sgl w.cps.toList) st with
  | none=>rfl
  | some s =>
   have rd:=(zeA g _ ok h2).1
   rw [zfX] at rd
   rw [zdw g ok rd (by lia)] at h
   cases h
theorem zbN {ps:List Pc} (g:Good ps):∀ (its:List Un) {st:List Un},(∀ u∈st,OkU ps u)->(∀ i∈its,OkJ ps i)->lbF ps its st=lbF ps (yaB its) st
 | [],st,_,_=>rfl
 | .n k::r,st,ok,oi=>by
  show (itF ps (.n k) st).bind (lbF ps r)=(itF ps (.n k) st).bind (lbF ps (yaB r))
  cases h:itF ps (.n k) st with
  | none=>rfl
  | some s=>exact zbN g r (zb2 g ok h).2.1 (fun i hi=>oi i (List.mem_cons_of_mem _ hi))
 | .s w::r,st,ok,oi=>by
  have w8:w.length<=8:=by
   cases oi _ (List.mem_cons_self ..) with
   | s a=>exact (zao a).2.1
  show (itF ps (.s w) st).bind (lbF ps r)=lbF ps (sgl w.cps.toList++yaB r) st
  rw [ye7,<- yhD g ok w8]
  cases h:itF ps (.s w) st with
  | none=>rfl
  | some s=>exact zbN g r (zb2 g ok h).2.1 (fun i hi=>oi i (List.mem_cons_of_mem _ hi))
def yec:Un->Prop
 | .n _=>True
 | .s w=>w.length=1
theorem yhE {ps:List Pc} (g:Good ps) {j a b:Nat} {m f l:Ms} {x:Str} {st r:List Un} {i:Un} (T:Tx ps j m x f l) (e:ps[j-1]? = some (.fork a b)) (ok:∀ u∈st,OkU ps u) (ne:i ≠ .n j) (u1:yec i):lbF ps (i::r) (.n j::st)=lbF ps (i::r) (.n a :: .n b::st):=by
 obtain ⟨ma,mb,y,z,fa,la,fb,lb,_,A,B,_,_⟩:=zco g T e
 have k2:∀ u∈(.n a :: .n b::st:List Un),OkU ps u:=fun u hu=>by
  rcases List.mem_cons.mp hu with rfl | hu
  ·exact .n A
  ·rcases List.mem_cons.mp hu with rfl | hu
   ·exact .n B
   ·exact ok u hu
 have h82:=ycE g k2
 have q:itF ps i (.n j::st)=itF ps i (.n a :: .n b::st):=by
  cases i with
  | n k =>
   have nk : ¬ j=k:=fun z=>ne (by rw [z])
   show topF ps k 90 (.n j::st)=topF ps k 90 (.n a :: .n b::st)
   have q:topF ps k 90 (.n j::st)=topF ps k 89 (.n a :: .n b::st):=by
    show (if j=k then some st else match ps[j-1]? with
     | some (.fork a b)=>topF ps k 89 (.n a :: .n b::st)
     | _=>none)=_
    rw [if_neg nk,e]
   rw [q]
   exact zc6 g 89 90 _ k2 (by lia) (by lia)
  | s w =>
   have w0 : ¬ w = "" := fun z=>by
    have:w.length=1:=u1
    rw [zaN] at z
    lia
   refine ygm w0 ?_
   have q:nxF ps 90 (.n j::st)=nxF ps 89 (.n a :: .n b::st):=by
    show (match ps[j-1]? with
     | some (.fork a b)=>nxF ps 89 (.n a :: .n b::st)
     | some (.leaf z)=>(z,st)
     | none=>("",st))=_
    rw [e]
   rw [q]
   exact zdx g 89 90 _ k2 (by lia) (by lia)
 show (itF ps i (.n j::st)).bind _=(itF ps i (.n a :: .n b::st)).bind _
 rw [q]
inductive Af where
 | bad
 | out
 | at (r:List Un)
def ycU:List Nat->List Un->Af
 | [],us=>.at us
 | _::_,[]=>.out
 | c::cs,.s w::us=>if w=⟨#[c]⟩ then ycU cs us else .bad
 | _::_,.n _::_=>.bad
def AfOk (ps:List Pc) (us L st:List Un):Af->Prop
 | .bad=>lbF ps us L=none
 | .out=>∃ s,lbF ps us L=some s/\s≠[]
 | .at r=>lbF ps us L=lbF ps r st/\∀ u∈r,u∈us
theorem yhF {ps:List Pc} {z w:Str} {c:Nat} {cs:List Nat} {st:List Un} (ez:z.cps.toList=c::cs) (w1:w.length=1):tkF ps 10 w (.s z::st)=if w=⟨#[c]⟩ then some (psh (dpS z 1) st) else none:=by
 have w0 : ¬ w = "" := fun q=>by rw [zaN] at q;lia
 have zl:1<=z.length:=by rw [zad,ez,List.length_cons];lia
 have mn:min z.length w.length=1:=by lia
 have tz:tkS z 1=⟨#[c]⟩:=zaf (by rw [yce,ez];rfl)
 have tw:tkS w 1=w:=zaf (by rw [yce,List.take_of_length_le (by rw [<- zad];lia)])
 have dw:dpS w 1 = "" := zaf (by rw [ybZ,List.drop_of_length_le (by rw [<- zad];lia)];rfl)
 rw [tkF,if_neg w0,nx_s]
 dsimp only
 rw [mn,tz,tw,dw]
 by_cases q:w=⟨#[c]⟩
 ·rw [if_pos q,if_neg (by rintro (h | h);exact absurd h (by decide);exact h q.symm),tkF,if_pos rfl]
 ·rw [if_neg q,if_pos (.inr (fun h=>q h.symm))]
theorem zfY {ps:List Pc}:∀ (cs:List Nat) (us:List Un) {st:List Un} {z:Str},z.cps.toList=cs->(∀ u∈us,yec u)->AfOk ps us (psh z st) st (ycU cs us)
 | [],us,st,z,ez,u1=>by
  have:z = "" := zaf (by rw [ez];rfl)
  subst this
  have ep:psh "" st=st:=by unfold psh;rw [if_pos rfl]
  rw [ep]
  exact ⟨rfl,fun u hu=>hu⟩
 | c::cs,[],st,z,ez,u1=>by
  have zn : ¬ z = "" := fun q=>by rw [q] at ez;cases ez
  refine ⟨psh z st,rfl,fun q=>?_⟩
  unfold psh at q
  rw [if_neg zn] at q
  cases q
 | c::cs,.n k::us,st,z,ez,u1=>by
  have zn : ¬ z = "" := fun q=>by rw [q] at ez;cases ez
  show lbF ps (.n k::us) (psh z st)=none
  unfold psh
  rw [if_neg zn]
  rfl
 | c::cs,.s w::us,st,z,ez,u1=>by
  have zn : ¬ z = "" := fun q=>by rw [q] at ez;cases ez
  have w1:w.length=1:=u1 _ (List.mem_cons_self ..)
  have tk:=yhF (ps:=ps) (st:=st) ez w1
  have lb:lbF ps (.s w::us) (psh z st)=(if w=⟨#[c]⟩ then some (psh (dpS z 1) st) else none:Option (List Un)).bind (lbF ps us):=by
   rw [<- tk]
   unfold psh
   rw [if_neg zn]
   rfl
  rw [ycU]
  by_cases q:w=⟨#[c]⟩
  ·rw [if_pos q] at lb ⊢
   have ih:=zfY (ps:=ps) cs us (st:=st) (z:=dpS z 1) (by rw [ybZ,ez];rfl) (fun u hu=>u1 u (List.mem_cons_of_mem _ hu))
   have lb':lbF ps (.s w::us) (psh z st)=lbF ps us (psh (dpS z 1) st):=lb
   cases h:ycU cs us with
   | bad=>rw [h] at ih;exact lb'.trans ih
   | out =>
    rw [h] at ih
    obtain ⟨s,a,b⟩:=ih
    exact ⟨s,lb'.trans a,b⟩
   | «at» r =>
    rw [h] at ih
    exact ⟨lb'.trans ih.1,fun u hu=>List.mem_cons_of_mem _ (ih.2 u hu)⟩
  ·rw [if_neg q] at lb ⊢
   exact lb
def aft (ps:List Pc):Nat->Nat->List Un->Af
 | 0,_,_=>.bad
 | _+1,_,[]=>.out
 | d+1,t,u::us=>if (match u with | .n k=>decide (k=t) | .s _=>false)=true then .at us else match ps[t-1]? with
  | some (.leaf x)=>ycU x.cps.toList (u::us)
  | some (.fork a b)=>(match aft ps d a (u::us) with
   | .at r=>aft ps d b r
   | .bad=>.bad
   | .out=>.out)
  | none=>.bad
theorem yfT (ps:List Pc) (d t:Nat) (u:Un) (us:List Un):aft ps (d+1) t (u::us)=if (match u with | .n k=>decide (k=t) | .s _=>false)=true then .at us else match ps[t-1]? with
  | some (.leaf x)=>ycU x.cps.toList (u::us)
  | some (.fork a b)=>(match aft ps d a (u::us) with
   | .at r=>aft ps d b r
   | .bad=>.bad
   | .out=>.out)
  | none=>.bad:=by
 cases u<;>rfl
theorem ye9 {ps:List Pc} (g:Good ps):∀ (d:Nat) {t:Nat} {m f l:Ms} {x:Str} (us:List Un) {st:List Un},Tx ps t m x f l->m.ht.toNat<d->(∀ u∈st,OkU ps u)->(∀ u∈us,yec u)->AfOk ps us (.n t::st) st (aft ps d t us)
 | 0,t,m,f,l,x,us,st,T,hd,ok,u1=>absurd hd (Nat.not_lt_zero _)
 | d+1,t,m,f,l,x,[],st,T,hd,ok,u1=>⟨.n t::st,rfl,fun q=>by cases q⟩
 | d+1,t,m,f,l,x,u::us,st,T,hd,ok,u1=>by
  have uu:=u1 u (List.mem_cons_self ..)
  rw [yfT]
  by_cases q:u = .n t
  ·subst q
   rw [if_pos (by simp)]
   refine ⟨?_,fun v hv=>List.mem_cons_of_mem _ hv⟩
   show (topF ps t 90 (.n t::st)).bind _=_
   have:topF ps t 90 (.n t::st)=some st:=by
    show (if t=t then some st else _)=_
    rw [if_pos rfl]
   rw [this]
   rfl
  ·rw [if_neg (by
    cases u with
    | n k=>simp;intro z;exact q (by rw [z])
    | s w=>simp)]
   rcases g.kind T with ⟨e,_,_,x1,x8⟩ | ⟨a,b,ma,mb,y,z,fa,la,fb,lb,e,e2,_,A,B,x1,x2,_⟩
   ·rw [e]
    have xn : ¬ x = "" := fun z=>by rw [zaN] at z;lia
    have eq:lbF ps (u::us) (.n t::st)=lbF ps (u::us) (psh x st):=by
     show (itF ps u (.n t::st)).bind _=(itF ps u (psh x st)).bind _
     have:itF ps u (.n t::st)=itF ps u (psh x st):=by
      cases u with
      | n k =>
       have nk : ¬ t=k:=fun z=>q (by rw [z])
       have r1:topF ps k 90 (.n t::st)=none:=by
        show (if t=k then some st else match ps[t-1]? with
         | some (.fork a b)=>topF ps k 89 (.n a :: .n b::st)
         | _=>none)=_
        rw [if_neg nk,e]
       show topF ps k 90 (.n t::st)=topF ps k 90 (psh x st)
       rw [r1]
       unfold psh
       rw [if_neg xn]
       rfl
      | s w =>
       have w0 : ¬ w = "" := fun z=>by
        have:w.length=1:=uu
        rw [zaN] at z
        lia
       refine ygm w0 ?_
       rw [yhC xn]
       show (match ps[t-1]? with
        | some (.fork a b)=>nxF ps 89 (.n a :: .n b::st)
        | some (.leaf z)=>(z,st)
        | none=>("",st))=_
       rw [e]
     rw [this]
    have lf:=zfY (ps:=ps) x.cps.toList (u::us) (st:=st) rfl u1
    dsimp only
    cases h:ycU x.cps.toList (u::us) with
    | bad=>rw [h] at lf;exact eq.trans lf
    | out =>
     rw [h] at lf
     obtain ⟨s,a,b⟩:=lf
     exact ⟨s,eq.trans a,b⟩
    | «at» r =>
     rw [h] at lf
     exact ⟨eq.trans lf.1,lf.2⟩
   ·rw [e]
    dsimp only
    have op:=yhE (r:=us) g T e ok q uu
    have hh:m.ht=max ma.ht mb.ht+1:=by rw [x2];rfl
    have a0:=A.ky.ht
    have b0:=B.ky.ht
    have okb:∀ v∈(.n b::st:List Un),OkU ps v:=fun v hv=>by
     rcases List.mem_cons.mp hv with rfl | hv
     ·exact .n B
     ·exact ok v hv
    have ia:=ye9 g d (u::us) (st:=.n b::st) A (by lia) okb u1
    cases h:aft ps d a (u::us) with
    | bad=>rw [h] at ia;exact op.trans ia
    | out =>
     rw [h] at ia
     obtain ⟨s,c1,c2⟩:=ia
     exact ⟨s,op.trans c1,c2⟩
    | «at» r =>
     rw [h] at ia
     have ib:=ye9 g d r (st:=st) B (by lia) ok (fun v hv=>u1 v (ia.2 v hv))
     dsimp only
     have eq:=op.trans ia.1
     cases h2:aft ps d b r with
     | bad=>rw [h2] at ib;exact eq.trans ib
     | out =>
      rw [h2] at ib
      obtain ⟨s,c1,c2⟩:=ib
      exact ⟨s,eq.trans c1,c2⟩
     | «at» r2 =>
      rw [h2] at ib
      exact ⟨eq.trans ib.1,fun v hv=>ia.2 v (ib.2 v hv)⟩
end Sk
namespace Sk
open PySem PySem.Spec L2 Sm
theorem zjc (c k:Int) (h:AH):∃ m,ydL [.int c,.int k] h = .ok (.int m) h:=by
 have b1:0<=(c % 1000000007+7919*k+101)*48271 % 2147483647:=Int.emod_nonneg _ (by decide)
 have b2:(c % 1000000007+7919*k+101)*48271 % 2147483647<2147483647:=Int.emod_lt_of_pos _ (by decide)
 refine ⟨(c % 1000000007+7919*k+101)*48271 % 2147483647*((c % 1000000007+7919*k+101)*48271 % 2147483647) % 2147483629*69621 % 2147483647,?_⟩
 generalize he:(c % 1000000007+7919*k+101)*48271 % 2147483647=v at *
 have c1:v.natAbs<18446744073709551616:=by lia
 simp [ydL,he,c1]
theorem yhG {i j:Int} {h:AH} (hi:i.natAbs<2 ^ 4000) (hj:j.natAbs<2 ^ 4000):fMul (.int i) (.int j) h = .ok (.int (i*j)) h:=if_pos (.inr ⟨hi,hj⟩)
theorem zgt (ns:List Int):yeg (ns.map AV.int)=some ns:=by
 induction ns with
 | nil=>rfl
 | cons n r ih=>simp [ih]
abbrev T60:Int:=1000000000000000000000000000000000000000000000000000000000000000000000000000000000000000000000000000000000000000000000000
theorem yhH:(10:Nat) ^ 720<2 ^ 4000:=by decide +kernel
theorem yix:T60.natAbs<2 ^ 4000:=by decide +kernel
theorem ze1 (ns:List Int) (k:Nat) (i:Nat) (c:Nat) (o:Option AV) (h:AH) (hi:i<6) (hc:c<10 ^ (120*i)) (hj:k+i*12<ns.length) :
  ∃ c':Nat,c'<10 ^ (120*(i+1))/\yb4 [some (.fl (ns.map AV.int)),some (.int k),some (.int c),some (.int ((k:Int)+i*12)),o] h = .nx [some (.fl (ns.map AV.int)),some (.int k),some (.int c'),some (.int ((k:Int)+i*12)),o] h:=by
 obtain ⟨s,es⟩:∃ s,ns[k+i*12]? = some s:=⟨ns[k+i*12],by simp [hj]⟩
 have ix:fIx (.fl (ns.map AV.int)) (.int ((k:Int)+i*12)) h = .ok (.int s) h:=by
  rw [show ((k:Int)+i*12)=((k+i*12:Nat):Int) by simp]
  simp only [fIx,zer es]
 have p1:(10:Nat) ^ (120*i)<=10 ^ 720:=Nat.pow_le_pow_right (by decide) (by lia)
 have m1:((c:Int)).natAbs<2 ^ 4000:=by
  have:=yhH
  exact Nat.lt_trans (show c<10 ^ 720 by lia) this
 have mu:fMul (.int c) (.int T60) h = .ok (.int (c*T60)) h:=yhG m1 yix
 have r0:0<=s % T60:=Int.emod_nonneg _ (by decide)
 have r1:s % T60<T60:=Int.emod_lt_of_pos _ (by decide)
 obtain ⟨r,er⟩:∃ r:Nat,s % T60=(r:Int):=⟨(s % T60).toNat,(Int.toNat_of_nonneg r0).symm⟩
 have rl:r<10 ^ 120:=by
  have:(r:Int)<T60:=er▸r1
  have e:T60=((10 ^ 120:Nat):Int):=by decide +kernel
  rw [e] at this;exact Int.ofNat_lt.mp this
 obtain ⟨c',ec,lc⟩:∃ c':Nat,(c:Int)*T60+r=(c':Int)/\c'<10 ^ (120*(i+1)):=by
  refine ⟨c*10 ^ 120+r,?_,?_⟩
  ·have e:T60=((10 ^ 120:Nat):Int):=by decide +kernel
   rw [e,Int.natCast_add,Int.natCast_mul]
  ·rw [show 120*(i+1)=120*i+120 by lia,Nat.pow_add]
   have:(c+1)*10 ^ 120<=10 ^ (120*i)*10 ^ 120:=Nat.mul_le_mul_right _ hc
   have e2:(c+1)*10 ^ 120=c*10 ^ 120+10 ^ 120:=Nat.succ_mul _ _
   lia
 refine ⟨c',lc,?_⟩
 have pw:(sOp2 fMul (sOp2 fPow (sLit (.int 10)) (sLit (.int 60))) (sOp2 fPow (sLit (.int 10)) (sLit (.int 60)))) [some (.fl (ns.map AV.int)),some (.int k),some (.int c),some (.int ((k:Int)+i*12)),o] h = .ok (.int T60) h:=by simp
 have md:fMod (.int s) (.int T60) h = .ok (.int r) h:=by simp only [fMod];rw [if_pos (by decide),er]
 clear p1 m1 r0 r1 er rl hc lc hi
 unfold yb4
 generalize sOp2 fMul (sOp2 fPow (sLit (.int 10)) (sLit (.int 60))) (sOp2 fPow (sLit (.int 10)) (sLit (.int 60)))=PW at *
 generalize T60=t60 at *
 simp [pw,mu,ix,md,ec,-fMul,-fIx,-fMod]
theorem zeD (en0:Option AV) (ns:List Int) (k c f j:Int) (h:AH):∃ f',yb5 [some (.fl (ns.map AV.int)),some (.int k),some (.int c),some (.int j),some (.int f)] h = .nx [some (.fl (ns.map AV.int)),some (.int k),some (.int c),some (.int j),some (.int f')] h:=by
 obtain ⟨m,hm⟩:=zjc (c+1009*k+ns.length) j h
 refine ⟨f*2147483647+m,?_⟩
 have m1:fMul (.int f) (.int 2147483647) h = .ok (.int (f*2147483647)) h:=yhn (by decide)
 have m2:fMul (.int 1009) (.int k) h = .ok (.int (1009*k)) h:=yhm (by decide)
 simp [yb5,hm,m1,m2,-fMul]
theorem zc7 (ns:List Int) (hl:ns.length<=63) (k:Nat) (hk:k<=10) (h:AH):∃ N:Int,ybm [.fl (ns.map AV.int),.int k] h = .ok (.ref h.length) (h++[.lst [.int N]]):=by
 obtain ⟨M,eM⟩:∃ M:Nat,M=(if (k:Int)<(ns.length:Int) then ((ns.length:Int)-k-1) / 12+1 else 0).toNat:=⟨_,rfl⟩
 have hM:M<=6/\∀ i,i<M->k+i*12<ns.length:=by
  rw [eM]
  split
  ·refine ⟨by lia,fun i hi=>by lia⟩
  ·refine ⟨by lia,fun i hi=>by simp at hi⟩
 obtain ⟨e1,h1,r1,r2⟩:=ydw (w:=none) (all:=(List.range M).map (fun m:Nat=>AV.int ((k:Int)+m*12))) (t:=.nm 3) (b:=yb4) (xs:=(List.range M).map (fun m:Nat=>AV.int ((k:Int)+m*12))) (en:=[some (.fl (ns.map AV.int)),some (.int k),some (.int 0),none,none]) (h:=h)
  (fun i en h' => h'=h/\∃ (c:Nat) (o:Option AV),c<10 ^ (120*i)/\en=[some (.fl (ns.map AV.int)),some (.int k),some (.int c),o,none]) ⟨rfl,0,none,by decide,rfl⟩ (fun _ _ _ _=>rfl) (by
   rintro j x en h' hx ⟨rfl,c,o,hc,rfl⟩
   rw [List.getElem?_map] at hx
   obtain ⟨m,em,rfl⟩:=Option.map_eq_some_iff.mp hx
   have hj:j<M:=by
    have:=(List.getElem?_eq_some_iff.mp em).1;simpa using this
   rw [List.getElem?_range hj] at em
   cases em
   obtain ⟨c',l',e⟩:=ze1 ns k j c none h' (by have:=hM.1;lia) hc (hM.2 j hj)
   show thn (yb4 [some (.fl (ns.map AV.int)),some (.int k),some (.int c),some (.int ((k:Int)+j*12)),none] h') _
   rw [e]
   exact ⟨rfl,c',_,l',rfl⟩)
 obtain ⟨rfl,c,o,hc,rfl⟩:=r2
 have z1:(k:Int).natAbs<1099511627776:=by lia
 have z2:((ns.length:Nat):Int).natAbs<1099511627776:=by lia
 have it3:yc3 (sVar 1) (yah fLen (yab (sVar 0) sNil)) (sLit (.int 12)) [some (.fl (ns.map AV.int)),some (.int k),some (.int 0),none,none] h1 = .ok ((List.range M).map (fun m:Nat=>AV.int ((k:Int)+m*12)),none) h1:=by
  simp only [yc3,sVar,yah,yab,sNil,sLit,Out.bind,fLen,List.getElem?_cons_zero,List.getElem?_cons_succ,lenA]
  rw [if_pos ⟨z1,z2,by decide,by decide⟩,<- eM]
 have f1:=(ycJ (t:=.nm 3) (b:=yb4) it3).trans r1
 clear r1 it3
 by_cases hb:(1000000000000000000:Int)<=c
 ·exact ⟨c,by simp [ybm,f1,hb,-sFor]⟩
 ·have cm:=zbd (js:=[]) (en:=[some (.fl (ns.map AV.int)),some (.int k),some (.int c),o,none]) (w:=none) (all:=ns.map AV.int) (e:=sOp2 fMod (sVar 0) (sOp2 fPow (sLit (.int 10)) (sLit (.int 18)))) (g:=AV.int) (f:=fun i=>AV.int (i % 1000000000000000000)) (h:=h1) rfl ns [] (by intro i _;simp) (by
    simp only [List.length_nil];exact Nat.le_trans (show 0+ns.length<=63 by lia) (by decide))
  have im:(ns.map fun i=>AV.int (i % 1000000000000000000))=(ns.map fun i=>i % 1000000000000000000).map AV.int:=by simp
  obtain ⟨S,eS⟩:∃ S:Int,S=(ns.map fun i=>i % 1000000000000000000).sum:=⟨_,rfl⟩
  have sm:fSum [.fl (ns.map fun i=>AV.int (i % 1000000000000000000))] h1 = .ok (.int S) h1:=by
   rw [im,eS];simp only [fSum,zgt]
  obtain ⟨e2,h2,s1,s2⟩:=ydw (w:=none) (all:=ybb 0 12) (t:=.nm 3) (b:=yb5) (xs:=ybb 0 12) (en:=[some (.fl (ns.map AV.int)),some (.int k),some (.int (c+S)),o,some (.int 0)]) (h:=h1)
   (fun i en h' => h'=h1/\∃ (f:Int) (o:Option AV),en=[some (.fl (ns.map AV.int)),some (.int k),some (.int (c+S)),o,some (.int f)]) ⟨rfl,0,o,rfl⟩ (fun _ _ _ _=>rfl) (by
    rintro j x en h' hx ⟨rfl,f,o,rfl⟩
    rw [zcl] at hx
    by_cases q:j<12
    ·rw [if_pos q] at hx
     cases hx
     obtain ⟨f',e⟩:=zeD none ns k (c+S) f (0+(j:Int)) h'
     show thn (yb5 [some (.fl (ns.map AV.int)),some (.int k),some (.int (c+S)),some (.int (0+(j:Int))),some (.int f)] h') _
     rw [e]
     exact ⟨rfl,f',_,rfl⟩
    ·rw [if_neg q] at hx;cases hx)
  obtain ⟨rfl,f,o',rfl⟩:=s2
  have f2:=(ycJ (t:=.nm 3) (b:=yb5) (zby (a:=sLit (.int 12)) (en:=[some (.fl (ns.map AV.int)),some (.int k),some (.int (c+S)),o,some (.int 0)]) (h:=h2) (n:=12) rfl (by decide))).trans s1
  refine ⟨f,?_⟩
  simp at cm
  simp [ybm,f1,hb,cm,sm,f2,-sFor,-fSum]
theorem zjd {h:AH} {st:Nat} {n:Int} (m:Nat) (e:h[st]? = some (.lst [.int n])) (hm:0<m) (hm2:m<=10 ^ 50):∃ v:Nat,v<m/\yaA [.ref st,.int m] h = .ok (.int v) (h.set st (.lst [.int (n / m)])):=by
 have a0:atI [AV.int n] 0=some (.int n):=rfl
 have i0:ixN 1 0=some 0:=rfl
 have hm0:(0:Int)<m:=Int.ofNat_lt.mpr hm
 have hm3:m<1606938044258990275541962092341162602522202993782792835301376:=Nat.lt_of_le_of_lt hm2 (by decide)
 refine ⟨(n % m).toNat,?_,?_⟩
 ·have:=Int.emod_lt_of_pos n hm0;have:=Int.emod_nonneg n (show (m:Int)≠0 by lia);lia
 ·rw [Int.toNat_of_nonneg (Int.emod_nonneg n (show (m:Int)≠0 by lia))]
  simp [yaA,e,a0,hm0,hm,hm3,i0]
theorem zh6 {x:Str} {v:Nat} (hv:v<x.length) (hx:yau x=true) (h:AH):∃ c,ydf c=true/\fIx (.str x) (.int v) h = .ok (.str ⟨#[c]⟩) h:=by
 have hv':v<x.cps.toList.length:=by rw [<- zad];exact hv
 refine ⟨x.cps.toList[v],List.all_eq_true.mp hx _ (List.getElem_mem hv'),?_⟩
 have e:x.cps.toList[v]? = some x.cps.toList[v]:=List.getElem?_eq_getElem hv'
 simp only [fIx,zdp e]
theorem zbo {hh:AH} {L:Nat} {N:Int} (m:Nat) (e:hh[L]? = some (.lst [.int N])) (hm:0<m) (hm2:m<=10 ^ 50):∃ (v:Nat) (N':Int),v<m/\yaA [.ref L,.int m] hh = .ok (.int v) (hh.set L (.lst [.int N'])):=by
 obtain ⟨v,hv,e1⟩:=zjd m e hm hm2
 exact ⟨v,N / m,hv,e1⟩
theorem zgu {y:Str} {c:Nat} (hy:yau y=true) (hc:ydf c=true):yau (y++⟨#[c]⟩)=true/\(y++(⟨#[c]⟩:Str)).length=y.length+1:=by
 refine ⟨?_,by rw [zal];rfl⟩
 rw [zaQ,hy]
 simp [yau,hc]
def lowS:Str := "abcdefghijklmnopqrstuvwxyz"
def upS:Str := "ABCDEFGHIJKLMNOPQRSTUVWXYZ"
def restS:Str := " !#$&'()*+,-./0123456789:;<=>?\x40[]^_{|}~\n\\"
def sg46:List Str:=["a", "ab", "ab\n", "a \n~",(lowS++upS)++restS]
theorem zbO:∀ x∈sg46,yau x=true/\1<=x.length/\x.length<=200:=by decide +kernel
theorem yfU:Txt.upper lowS=upS:=by decide +kernel
theorem mup (h:AH):yeA (.str lowS) [] h = .ok (.str upS) h:=by
 have c:(Txt.upper lowS).length<=sizeLine/\(Txt.upper lowS).cps.all (· < 0x110000)=true:=by rw [yfU];decide +kernel
 show (if (Txt.upper lowS).length<=sizeLine/\(Txt.upper lowS).cps.all (· < 0x110000)=true then Out.ok (AV.str (Txt.upper lowS)) h else .bad)=_
 rw [if_pos c,yfU]
theorem yhI (v:Nat) (hv:v<5):∃ z:Str,(∀ h,fIx (.fl [.str "a",.str "ab",.str "ab\n",.str "a \n~",.str ((lowS++upS)++restS)]) (.int (v:Int)) h = .ok (.str z) h)/\yau z=true/\1<=z.length/\z.length<=200:=by
 have:v=0\/v=1\/v=2\/v=3\/v=4:=by lia
 rcases this with rfl | rfl | rfl | rfl | rfl
 ·exact ⟨_,fun _=>rfl,zbO _ (by simp [sg46])⟩
 ·exact ⟨_,fun _=>rfl,zbO _ (by simp [sg46])⟩
 ·exact ⟨_,fun _=>rfl,zbO _ (by simp [sg46])⟩
 ·exact ⟨_,fun _=>rfl,zbO _ (by simp [sg46])⟩
 ·exact ⟨_,fun _=>rfl,zbO _ (by simp [sg46])⟩
theorem zdY {hh:AH} {L:Nat} {N:Int} (most:Nat) (hm:most<=1000) (e:hh[L]? = some (.lst [.int N])):∃ (y:Str) (N':Int),yb0 [.ref L,.int most] hh = .ok (.str y) (hh.set L (.lst [.int N']))/\yau y=true/\y.length<=most:=by
 have Ll:=yaS e
 obtain ⟨v,N1,hv,t1⟩:=zbo 5 e (by decide) (by decide)
 have t1':yaA [.ref L,.int 5] hh = .ok (.int v) (hh.set L (.lst [.int N1])):=t1
 obtain ⟨z,ez,pz,z1,z2⟩:=yhI v hv
 have e1:(hh.set L (.lst [.int N1]))[L]? = some (.lst [.int N1]):=List.getElem?_set_self Ll
 obtain ⟨k,N2,hk,t2⟩:=zbo (most+1) e1 (Nat.succ_pos _) (Nat.le_trans (Nat.succ_le_succ hm) (by decide))
 rw [List.set_set] at t2
 have t2':yaA [.ref L,.int ((most:Int)+1)] (hh.set L (.lst [.int N1])) = .ok (.int k) (hh.set L (.lst [.int N2])):=by
  have:=t2;rw [Int.natCast_succ] at this;exact this
 obtain ⟨W3,eW3⟩:∃ W3:Str,W3=(lowS++upS)++restS:=⟨_,rfl⟩
 rw [<- eW3] at ez
 obtain ⟨e',h',r1,y,N3,o4,r2,r3,r4,r5⟩:=ydw (w:=none) (all:=ybb 0 k) (t:=.nm 6) (b:=ybS) (xs:=ybb 0 k) (en:=[some (.ref L),some (.int most),some (.str lowS),some (.str W3),some (.str z),some (.str ""),none]) (h:=hh.set L (.lst [.int N2]))
  (fun j en h' => ∃ (y:Str) (N':Int) (o4:Option AV),en=[some (.ref L),some (.int most),some (.str lowS),some (.str W3),some (.str z),some (.str y),o4]/\h'=hh.set L (.lst [.int N'])/\yau y=true/\y.length=j) ⟨"",N2,none,rfl,rfl,rfl,rfl⟩ (fun _ _ _ _=>rfl) (by
   rintro j u en h' hu ⟨y,N',o4,rfl,rfl,py,ly⟩
   have jk:j<k:=by have:=(List.getElem?_eq_some_iff.mp hu).1;rwa [zbn] at this
   have e3:(hh.set L (.lst [.int N']))[L]? = some (.lst [.int N']):=List.getElem?_set_self Ll
   obtain ⟨t,N4,ht,et⟩:=zbo z.length e3 (by lia) (Nat.le_trans z2 (by decide))
   rw [List.set_set] at et
   obtain ⟨c,pc,ec⟩:=zh6 ht pz (hh.set L (.lst [.int N4]))
   have ad:fAdd (.str y) (.str ⟨#[c]⟩) (hh.set L (.lst [.int N4])) = .ok (.str (y++⟨#[c]⟩)) (hh.set L (.lst [.int N4])):=by
    have:y.length+(⟨#[c]⟩:Str).length<=sizeLine:=Nat.le_trans (m:=1001) (by show y.length+1<=_;lia) (by decide)
    simp only [fAdd,this,if_true]
   have es:ybS [some (.ref L),some (.int most),some (.str lowS),some (.str W3),some (.str z),some (.str y),some u] (hh.set L (.lst [.int N'])) = .nx [some (.ref L),some (.int most),some (.str lowS),some (.str W3),some (.str z),some (.str (y++⟨#[c]⟩)),some u] (hh.set L (.lst [.int N4])):=by
    generalize hh.set L (.lst [.int N4])=h2 at *
    generalize hh.set L (.lst [.int N'])=h1 at *
    simp [ybS,et,ec,ad,-fIx,-fAdd]
   show thn (ybS [some (.ref L),some (.int most),some (.str lowS),some (.str W3),some (.str z),some (.str y),some u] (hh.set L (.lst [.int N']))) _
   rw [es]
   obtain ⟨q1,q2⟩:=zgu py pc
   exact ⟨_,N4,_,rfl,rfl,q1,by rw [q2,ly]⟩)
 rw [zbn] at r5
 have f1:=(ycJ (t:=.nm 6) (b:=ybS) (zby (a:=yah yaA (yab (sVar 0) (yab (sOp2 fAdd (sVar 1) (sLit (.int 1))) sNil))) (en:=[some (.ref L),some (.int most),some (.str lowS),some (.str W3),some (.str z),some (.str ""),none]) (h:=hh.set L (.lst [.int N1])) (n:=k) (by simp [t2']) (by lia))).trans r1
 refine ⟨y,N3,?_,r4,by lia⟩
 rw [<- r3]
 subst r2
 have a1:fAdd (.str lowS) (.str upS) hh = .ok (.str (lowS++upS)) hh:=by
  have:lowS.length+upS.length<=sizeLine:=by decide +kernel
  simp only [fAdd,this,if_true]
 have a2:fAdd (.str (lowS++upS)) (.str restS) hh = .ok (.str W3) hh:=by
  have:(lowS++upS).length+restS.length<=sizeLine:=by decide +kernel
  rw [eW3]
  simp only [fAdd,this,if_true]
 have mu:=mup hh
 have el:Str.ofString "abcdefghijklmnopqrstuvwxyz" = lowS:=rfl
 have er:Str.ofString " !#$&'()*+,-./0123456789:;<=>?\x40[]^_{|}~\n\\" = restS:=rfl
 unfold yb0
 rw [el,er]
 generalize sFor (yb2 (yah yaA (yab (sVar 0) (yab (sOp2 fAdd (sVar 1) (sLit (.int 1))) sNil)))) (.nm 6) ybS=F1 at *
 generalize hh.set L (.lst [.int N1])=h1 at *
 generalize lowS=LO at *
 generalize upS=UP at *
 generalize restS=RS at *
 generalize LO++UP=LU at *
 simp [mu,a1,a2,t1',ez,f1,-fAdd,-fIx]
structure Gx (p:Nat) (M:List Nat) (h h':AH) (ps ps':List Pc) (k:Nat):Prop where
 sh:ShelfAt h' p ps'
 gd:Good ps'
 pre:ps <+: ps'
 len:ps'.length<=ps.length+k
 fr:∀ i,(i<p\/p+8<i)->i∉M->i<h.length->h'[i]? = h[i]?
 hl:h.length<=h'.length
theorem Gx.refl {p:Nat} {h:AH} {ps:List Pc} (S:ShelfAt h p ps) (g:Good ps) (M:List Nat):Gx p M h h ps ps 0:=⟨S,g,List.prefix_refl _,by lia,fun _ _ _ _=>rfl,Nat.le_refl _⟩
theorem Gx.trans {p:Nat} {M:List Nat} {h h' h'':AH} {ps ps' ps'':List Pc} {k k' k2:Nat} (a:Gx p M h h' ps ps' k) (b:Gx p M h' h'' ps' ps'' k') (hk:k+k'<=k2):Gx p M h h'' ps ps'' k2 :=
 ⟨b.sh,b.gd,a.pre.trans b.pre,by have:=a.len;have:=b.len;lia,fun i hi hn hl=>(b.fr i hi hn (Nat.lt_of_lt_of_le hl a.hl)).trans (a.fr i hi hn hl),Nat.le_trans a.hl b.hl⟩
theorem Gx.set {p L:Nat} {h:AH} {ps:List Pc} (S:ShelfAt h p ps) (g:Good ps) (hL:L<p\/p+8<L) (M:List Nat) (hM:L∈M) (v:AO):Gx p M h (h.set L v) ps ps 0 :=
 ⟨S.keep fun i i1 i8=>List.getElem?_set_ne (by lia),g,List.prefix_refl _,by lia,fun i _ hn _=>List.getElem?_set_ne (fun (z:L=i)=>hn (z▸hM)),by simp⟩
theorem Gx.dd {p:Nat} {M:List Nat} {h h':AH} {ps ps':List Pc} {k k2:Nat} (d:Dd p h h' ps ps' k) (hk:k<=k2):Gx p M h h' ps ps' k2 :=
 ⟨d.sh,d.gd,d.pre,Nat.le_trans d.len (Nat.add_le_add_left hk _),fun i hi _ _=>d.fr i (hi.imp Nat.le_of_lt id),by rw [d.hl];exact Nat.le_refl _⟩
theorem Gx.app {p:Nat} {M:List Nat} {h h':AH} {ps ps':List Pc} {k:Nat} (a:Gx p M h h' ps ps' k) (r:AH):Gx p M h (h' ++ r) ps ps' k :=
 ⟨a.sh.app r,a.gd,a.pre,a.len,fun i hi hn hl=>by rw [List.getElem?_append_left (Nat.lt_of_lt_of_le hl a.hl)];exact a.fr i hi hn hl,by rw [List.length_append];exact Nat.le_trans a.hl (Nat.le_add_right _ _)⟩
theorem Gx.more {p:Nat} {M M':List Nat} {h h':AH} {ps ps':List Pc} {k:Nat} (a:Gx p M h h' ps ps' k) (s:∀ i∈M,i∈M'):Gx p M' h h' ps ps' k :=
 ⟨a.sh,a.gd,a.pre,a.len,fun i hi hn hl=>a.fr i hi (fun z=>hn (s i z)) hl,a.hl⟩
theorem zje {x:Str} {a:Nat} (h:AH):ya4 (.str x) (some (a:Int)) none h = .ok (.str (dpS x a)) h:=by
 by_cases ha:a<=x.length
 ·exact ye5 ha h
 ·have:cutS x (some (a:Int)) none=dpS x a:=zaf (by
   unfold cutS
   rw [HT.sIx_nat,HT.sIx_none,ybZ]
   rw [zad] at ha
   rw [Nat.min_eq_right (by lia)]
   show (x.cps.toList.drop x.cps.toList.length).take _=_
   rw [List.drop_length,List.drop_of_length_le (by lia),List.take_nil])
  simp only [ya4,this]
theorem yiy (x:Str) (a:Nat):tkS x a++dpS x a=x:=zaf (by rw [zap,yce,ybZ,List.take_append_drop])
theorem yhJ {z:Str} (q : ¬ z = ""):1<=z.length:=by
 apply Classical.byContradiction
 intro hc
 apply q
 apply zaf
 rw [zad] at hc
 have:z.cps.toList=[]:=List.length_eq_zero_iff.mp (by lia)
 rw [this];rfl
theorem zjf (z:Str):z++("" : Str)=z:=zaf (by rw [zap];simp;rfl)
theorem zjg (z:Str):("" : Str)++z=z:=zaf (by rw [zap];rfl)
theorem zjh {h:AH} {p L W:Nat} {y:Str} (py:yau y=true) (hy:y.length<=40) (hW:W=h.length) (eL:∃ N:Int,h[L]? = some (.lst [.int N])) (v:Int) :
  ∃ (ws:List Str) (N:Int) (o5:Option AV),yaz (yas (sOp2 fNe (sVar 2) (sLit (.str "")))) ybM ya5 [some (.ref p),some (.ref L),some (.str y),some (.int v),some (.ref W),none,none,none] (h++[.lst []]) = .nx [some (.ref p),some (.ref L),some (.str ""),some (.int v),some (.ref W),o5,none,none] (h.set L (.lst [.int N])++[.lst (ws.map AV.str)])/\cat ws=y/\(∀ w∈ws,yau w=true)/\ws.length<=40:=by
 obtain ⟨N0,eL⟩:=eL
 have Ll:=yaS eL
 have h0:h.set L (.lst [.int N0])=h:=by
  apply List.ext_getElem?
  intro i
  by_cases q:i=L
  ·subst q;rw [List.getElem?_set_self Ll,eL]
  ·rw [List.getElem?_set_ne (by lia)]
 obtain ⟨e',h',q1,ws,N,o5,q2,q3,q4,q5,q6⟩:=zfx (c:=yas (sOp2 fNe (sVar 2) (sLit (.str "")))) (b:=ybM) (fuel:=ya5) (n:=y.length) (en:=[some (.ref p),some (.ref L),some (.str y),some (.int v),some (.ref W),none,none,none]) (h:=h++[.lst []])
  (fun n en hh=>∃ (ws:List Str) (z:Str) (N:Int) (o5:Option AV),hh=h.set L (.lst [.int N])++[.lst (ws.map AV.str)]/\en=[some (.ref p),some (.ref L),some (.str z),some (.int v),some (.ref W),o5,none,none]/\cat ws++z=y/\(∀ w∈ws,yau w=true)/\yau z=true/\n=z.length/\ws.length+z.length<=40)
  (fun en hh=>∃ (ws:List Str) (N:Int) (o5:Option AV),hh=h.set L (.lst [.int N])++[.lst (ws.map AV.str)]/\en=[some (.ref p),some (.ref L),some (.str ""),some (.int v),some (.ref W),o5,none,none]/\cat ws=y/\(∀ w∈ws,yau w=true)/\ws.length<=40)
  ⟨[],y,N0,none,by rw [h0];rfl,rfl,zjg y,fun _ z=>(nomatch z),py,rfl,by simpa using hy⟩ (Nat.lt_of_le_of_lt hy (by decide)) (by
   rintro n en hh ⟨ws,z,N,o5,eh,een,cz,pw,pz,en',lw⟩
   have c:yas (sOp2 fNe (sVar 2) (sLit (.str ""))) en hh = .ok (!decide (z = "")) hh:=by
    subst een
    simp
   rw [c]
   by_cases q:z = ""
   ·have:(!decide (z = ""))=false:=by simp [q]
    rw [this]
    subst q
    exact ⟨ws,N,o5,eh,een,by rw [<- cz,zjf],pw,by lia⟩
   ·have:(!decide (z = ""))=true:=by simp [q]
    rw [this]
    have z1:=yhJ q
    have e1:hh[L]? = some (.lst [.int N]):=by rw [eh,List.getElem?_append_left (by simpa using Ll)];exact List.getElem?_set_self Ll
    obtain ⟨d,N',hd,t⟩:=zbo 12 e1 (by decide) (by decide)
    have t':yaA [.ref L,.int 12] hh = .ok (.int d) (hh.set L (.lst [.int N'])):=t
    have eh2:hh.set L (.lst [.int N'])=h.set L (.lst [.int N'])++[.lst (ws.map AV.str)]:=by
     rw [eh,List.set_append_left _ _ (by simpa using Ll),List.set_set]
    rw [eh2] at t'
    have lW:(h.set L (.lst [.int N'])).length=W:=by simp [hW]
    have eW:(h.set L (.lst [.int N'])++[AO.lst (ws.map AV.str)])[W]? = some (.lst (ws.map AV.str)):=by rw [<- lW];simp
    have eS:(h.set L (.lst [.int N'])++[AO.lst (ws.map AV.str)]).set W (.lst ((ws++[tkS z (1+d)]).map AV.str))=h.set L (.lst [.int N'])++[.lst ((ws++[tkS z (1+d)]).map AV.str)]:=by rw [<- lW];simp
    have ap:yat (.ref W) [.str (tkS z (1+d))] (h.set L (.lst [.int N'])++[AO.lst (ws.map AV.str)]) = .ok .non (h.set L (.lst [.int N'])++[.lst ((ws++[tkS z (1+d)]).map AV.str)]):=by
     have sz:(ws.map AV.str).length<sizeLine:=Nat.lt_of_le_of_lt (m:=40) (by simp;lia) (by decide)
     rw [<- eS]
     simp only [yat,eW,sz,if_true,List.map_append,List.map_cons,List.map_nil]
    have il:yan (.ref W) (h.set L (.lst [.int N'])++[AO.lst (ws.map AV.str)])=true:=by simp only [yan,ydi,eW];rfl
    generalize hk1:h.set L (.lst [.int N'])++[AO.lst (ws.map AV.str)]=h1 at *
    generalize hk2:h.set L (.lst [.int N'])++[AO.lst ((ws++[tkS z (1+d)]).map AV.str)]=h2 at *
    have c1:ya4 (.str z) none (some (1+(d:Int))) h1 = .ok (.str (tkS z (1+d))) h1:=by
     have:=yeD (x:=z) (a:=1+d) h1
     rw [Int.natCast_add] at this;exact this
    have c2:ya4 (.str z) (some (1+(d:Int))) none h2 = .ok (.str (dpS z (1+d))) h2:=by
     have:=zje (x:=z) (a:=1+d) h2
     rw [Int.natCast_add] at this;exact this
    have eB:ybM en hh = .nx [some (.ref p),some (.ref L),some (.str (dpS z (1+d))),some (.int v),some (.ref W),some (.int (1+(d:Int))),none,none] h2:=by
     subst een
     simp [ybM,t',il,c1,ap,c2,-yan,-ya4,-yat]
    show thn (ybM en hh) _
    rw [eB]
    have dl:=ydh z (1+d)
    refine ⟨(dpS z (1+d)).length,by lia,ws++[tkS z (1+d)],dpS z (1+d),N',_,hk2.symm,rfl,?_,?_,zh2 pz _,rfl,by simp;lia⟩
    ·rw [zbL,zcG,zaj,yiy,cz]
    ·intro w hw
     rcases List.mem_append.mp hw with hw | hw
     ·exact pw w hw
     ·rw [List.mem_singleton.mp hw];exact zh1 pz _)
 exact ⟨ws,N,o5,by rw [q1,q2,q3],q4,q5,q6⟩
theorem zfZ:∀ (ws:List Str) (w:Str),w∈ws->w.length<=(cat ws).length
 | [],w,h=>nomatch h
 | v::ws,w,h=>by
  show _<=(v++cat ws).length
  rw [zal]
  rcases List.mem_cons.mp h with rfl | h
  ·lia
  ·have:=zfZ ws w h;lia
theorem zdZ {h:AH} {p n:Nat} {ps:List Pc} {x w:Str} (S:ShelfAt h p ps) (g:Good ps) (T:TxZ ps n x) (hx:x.length<=2000) (pw:yau w=true) (hw:w.length<=40) (hz:ps.length<13900000) (o1 o2 o3 o4 o5:Option AV) :
  (∃ (n':Nat) (ps':List Pc) (h':AH),ybx [some (.ref p),o1,o2,o3,o4,o5,some (.int n),some (.str w)] h = .nx [some (.ref p),o1,o2,o3,o4,o5,some (.int n'),some (.str w)] h'/\Gx p [] h h' ps ps' 1500/\TxZ ps' n' (x++w)) /\
  (∃ (n':Nat) (ps':List Pc) (h':AH),yby [some (.ref p),o1,o2,o3,o4,o5,some (.int n),some (.str w)] h = .nx [some (.ref p),o1,o2,o3,o4,o5,some (.int n'),some (.str w)] h'/\Gx p [] h h' ps ps' 1500/\TxZ ps' n' (w++x)):=by
 obtain ⟨b,ps1,h1,eb,D,T1⟩:=zfL S g pw (by lia) (by lia)
 have l1:=D.len
 have T0:=T.pre D.pre
 have j1:=zez D.gd T0 T1
 have j2:=zez D.gd T1 T0
 obtain ⟨n1,ps2,h2,d1,T2⟩:=zey D.sh D.gd T0 T1 (by lia) (by lia)
 obtain ⟨n2,ps3,h3,d2,T3⟩:=zey D.sh D.gd T1 T0 (by lia) (by lia)
 have e1:=d1.ev
 have e2:=d2.ev
 exact ⟨⟨n1,ps2,h2,by simp [ybx,eb,e1],(Gx.dd (M:=[]) D (Nat.le_refl _)).trans (Gx.dd d1.dd j1) (by lia),T2⟩,⟨n2,ps3,h3,by simp [yby,eb,e2],(Gx.dd (M:=[]) D (Nat.le_refl _)).trans (Gx.dd d2.dd j2) (by lia),T3⟩⟩
theorem zd0 {α:Type} {xs:List α} {j:Nat} {w:α} (e:xs[j]? = some w):xs.take (j+1)=xs.take j++[w]:=by
 rw [List.take_succ,e];rfl
theorem zji {h:AH} {p W:Nat} {ps:List Pc} {ws:List Str} (S:ShelfAt h p ps) (g:Good ps) (hW:p+8<W) (eW:h[W]? = some (.lst (ws.map AV.str))) (pw:∀ w∈ws,yau w=true) (lw:∀ w∈ws,w.length<=40) (hl:ws.length<=40) (hz:ps.length<13000000) (o1 o2 o3 o4 o5:Option AV) :
  ∃ (n:Nat) (ps':List Pc) (h':AH) (o7:Option AV),ya8 (some W) (ws.map AV.str) (.nm 7) ybx (ws.map AV.str) [some (.ref p),o1,o2,o3,o4,o5,some (.int 0),none] h = .nx [some (.ref p),o1,o2,o3,o4,o5,some (.int n),o7] h'/\Gx p [] h h' ps ps' 60000/\TxZ ps' n (cat ws):=by
 obtain ⟨e',h',r1,r2⟩:=ydw (w:=some W) (all:=ws.map AV.str) (t:=.nm 7) (b:=ybx) (xs:=ws.map AV.str) (en:=[some (.ref p),o1,o2,o3,o4,o5,some (.int 0),none]) (h:=h)
  (fun j en hh=>∃ (n:Nat) (ps':List Pc) (o7:Option AV),en=[some (.ref p),o1,o2,o3,o4,o5,some (.int n),o7]/\Gx p [] h hh ps ps' (1500*j)/\TxZ ps' n (cat (ws.take j))/\(cat (ws.take j)).length<=40*j)
  ⟨0,ps,none,rfl,Gx.refl S g [],.inl ⟨rfl,rfl⟩,Nat.zero_le _⟩ (by
   rintro j en hh ⟨n,ps',o7,_,G,_⟩
   have:hh[W]? = some (.lst (ws.map AV.str)):=(G.fr W (.inr hW) (by simp) (yaS eW)).trans eW
   simp [this]) (by
   rintro j u en hh hu ⟨n,ps',o7,rfl,G,T,lc⟩
   rw [List.getElem?_map] at hu
   obtain ⟨w,ew,rfl⟩:=Option.map_eq_some_iff.mp hu
   have hj:=(List.getElem?_eq_some_iff.mp ew).1
   have mw:=List.mem_of_getElem? ew
   have gl:=G.len
   obtain ⟨n',ps2,h2,e,G2,T2⟩:=(zdZ G.sh G.gd T (by lia) (pw w mw) (lw w mw) (by lia) o1 o2 o3 o4 o5).1
   have ts:cat (ws.take (j+1))=cat (ws.take j)++w:=by rw [zd0 ew,zbL,zcG]
   show thn (ybx [some (.ref p),o1,o2,o3,o4,o5,some (.int n),some (.str w)] hh) _
   rw [e]
   exact ⟨n',ps2,_,rfl,G.trans G2 (by lia),by rw [ts];exact T2,by rw [ts,zal];have:=lw w mw;lia⟩)
 rw [List.length_map] at r2
 obtain ⟨n,ps',o7,rfl,G,T,_⟩:=r2
 rw [List.take_length] at T
 exact ⟨n,ps',h',o7,r1,{ G with len:=by have:=G.len;lia },T⟩
theorem zh7 {h:AH} {p W:Nat} {ps:List Pc} {ws:List Str} (S:ShelfAt h p ps) (g:Good ps) (hW:p+8<W) (eW:h[W]? = some (.lst (ws.map AV.str))) (pw:∀ w∈ws,yau w=true) (lw:∀ w∈ws,w.length<=40) (hl:ws.length<=40) (hz:ps.length<13000000) (o1 o2 o3 o4 o5:Option AV) :
  ∃ (n:Nat) (ps':List Pc) (h':AH) (o7:Option AV),ya8 (some W) (ws.map AV.str) (.nm 7) yby (ws.map AV.str).reverse [some (.ref p),o1,o2,o3,o4,o5,some (.int 0),none] h = .nx [some (.ref p),o1,o2,o3,o4,o5,some (.int n),o7] h'/\Gx p [] h h' ps ps' 60000/\TxZ ps' n (cat ws):=by
 rw [<- List.map_reverse]
 obtain ⟨vs,ev⟩:∃ vs,vs=ws.reverse:=⟨_,rfl⟩
 rw [<- ev]
 have lv:vs.length=ws.length:=by rw [ev,List.length_reverse]
 obtain ⟨e',h',r1,r2⟩:=ydw (w:=some W) (all:=ws.map AV.str) (t:=.nm 7) (b:=yby) (xs:=vs.map AV.str) (en:=[some (.ref p),o1,o2,o3,o4,o5,some (.int 0),none]) (h:=h)
  (fun j en hh=>∃ (n:Nat) (ps':List Pc) (o7:Option AV),en=[some (.ref p),o1,o2,o3,o4,o5,some (.int n),o7]/\Gx p [] h hh ps ps' (1500*j)/\TxZ ps' n (cat (vs.take j).reverse)/\(cat (vs.take j).reverse).length<=40*j)
  ⟨0,ps,none,rfl,Gx.refl S g [],.inl ⟨rfl,rfl⟩,Nat.zero_le _⟩ (by
   rintro j en hh ⟨n,ps',o7,_,G,_⟩
   have:hh[W]? = some (.lst (ws.map AV.str)):=(G.fr W (.inr hW) (by simp) (yaS eW)).trans eW
   simp [this]) (by
   rintro j u en hh hu ⟨n,ps',o7,rfl,G,T,lc⟩
   rw [List.getElem?_map] at hu
   obtain ⟨w,ew,rfl⟩:=Option.map_eq_some_iff.mp hu
   have hj:=(List.getElem?_eq_some_iff.mp ew).1
   have mw:w∈ws:=by have:=List.mem_of_getElem? ew;rw [ev] at this;exact List.mem_reverse.mp this
   have gl:=G.len
   obtain ⟨n',ps2,h2,e,G2,T2⟩:=(zdZ G.sh G.gd T (by lia) (pw w mw) (lw w mw) (by lia) o1 o2 o3 o4 o5).2
   have ts:cat (vs.take (j+1)).reverse=w++cat (vs.take j).reverse:=by rw [zd0 ew,List.reverse_append];rfl
   show thn (yby [some (.ref p),o1,o2,o3,o4,o5,some (.int n),some (.str w)] hh) _
   rw [e]
   exact ⟨n',ps2,_,rfl,G.trans G2 (by lia),by rw [ts];exact T2,by rw [ts,zal];have:=lw w mw;lia⟩)
 rw [List.length_map] at r2
 obtain ⟨n,ps',o7,rfl,G,T,_⟩:=r2
 rw [List.take_length,ev,List.reverse_reverse] at T
 exact ⟨n,ps',h',o7,r1,{ G with len:=by have:=G.len;lia },T⟩
theorem yhK {h:AH} {p L:Nat} {ps:List Pc} {y:Str} (S:ShelfAt h p ps) (g:Good ps) (hL:p+8<L) (eL:∃ N:Int,h[L]? = some (.lst [.int N])) (py:yau y=true) (hy:y.length<=40) (hz:ps.length<13000000) :
  ∃ (n:Nat) (ps':List Pc) (h':AH),yc6 [.ref p,.ref L,.str y] h = .ok (.int n) h'/\Gx p [L] h h' ps ps' 60000/\TxZ ps' n y:=by
 obtain ⟨N,eL⟩:=eL
 have Ll:=yaS eL
 obtain ⟨u,N1,hu,t1⟩:=zbo 3 eL (by decide) (by decide)
 have t1':yaA [.ref L,.int 3] h = .ok (.int u) (h.set L (.lst [.int N1])):=t1
 have G1:Gx p [L] h (h.set L (.lst [.int N1])) ps ps 0:=Gx.set S g (.inr hL) [L] (by simp) _
 have e1:(h.set L (.lst [.int N1]))[L]? = some (.lst [.int N1]):=List.getElem?_set_self Ll
 have l1:L<(h.set L (.lst [.int N1])).length:=yaS e1
 generalize h.set L (.lst [.int N1])=h1 at *
 by_cases q0:u=0
 ·subst q0
  obtain ⟨n,ps2,h2,eb,D,T⟩:=zfL G1.sh G1.gd py (by lia) (by lia)
  exact ⟨n,ps2,h2,by simp [yc6,t1',eb],G1.trans (Gx.dd D (Nat.le_refl _)) (by lia),T⟩
 ·obtain ⟨ws,N2,o5,ew,cw,pw,lw⟩:=zjh (p:=p) (W:=h1.length) py hy rfl ⟨N1,e1⟩ u
  have G2:Gx p [L] h1 (h1.set L (.lst [.int N2])) ps ps 0:=Gx.set G1.sh G1.gd (.inr hL) [L] (by simp) _
  have lnW:(h1.set L (.lst [.int N2])).length=h1.length:=by simp
  have G3:=(G1.trans G2 (Nat.le_refl _)).app [.lst (ws.map AV.str)]
  have eW:(h1.set L (.lst [.int N2])++[AO.lst (ws.map AV.str)])[h1.length]? = some (.lst (ws.map AV.str)):=by rw [<- lnW];simp
  generalize h1.set L (.lst [.int N2])++[AO.lst (ws.map AV.str)]=h3 at *
  have wl:∀ w∈ws,w.length<=40:=fun w hw=>by have:=zfZ ws w hw;rw [cw] at this;lia
  have lm:(ybN sNil) [some (.ref p),some (.ref L),some (.str y),some (.int u),none,none,none,none] h1 = .ok (.ref h1.length) (h1++[.lst []]):=rfl
  have z0:fEq (.int u) (.int 0) h1 = .ok (.bl false) h1:=by simp [q0]
  by_cases q1:u=1
  ·have z1:fEq (.int u) (.int 1) h3 = .ok (.bl true) h3:=by simp [q1]
   obtain ⟨n,ps4,h4,o7,ef,G4,T⟩:=zji G3.sh G3.gd (by lia) eW pw wl lw (by lia) (some (.ref L)) (some (.str "")) (some (.int u)) (some (.ref h1.length)) o5
   have it:iVal (sVar 4) [some (.ref p),some (.ref L),some (.str ""),some (.int u),some (.ref h1.length),o5,some (.int 0),none] h3 = .ok (ws.map AV.str,some h1.length) h3:=by simp [eW]
   have f1:=(ycJ (t:=.nm 7) (b:=ybx) it).trans ef
   refine ⟨n,ps4,h4,?_,G3.trans (G4.more (fun _ z=>(nomatch z))) (by lia),by rw [<- cw];exact T⟩
   unfold yc6
   generalize sFor (iVal (sVar 4)) (.nm 7) ybx=F1 at *
   generalize yd9 (sVar 4) (.nm 7) yby=F2 at *
   generalize yaz (yas (sOp2 fNe (sVar 2) (sLit (.str "")))) ybM ya5=WH at *
   generalize ybN sNil=LM at *
   generalize h1++[AO.lst []]=h2 at *
   simp [t1',z0,lm,ew,z1,f1,-fEq]
  ·have z1:fEq (.int u) (.int 1) h3 = .ok (.bl false) h3:=by
    have : ¬ (u:Int)=1:=by lia
    simp [this]
   obtain ⟨n,ps4,h4,o7,ef,G4,T⟩:=zh7 G3.sh G3.gd (by lia) eW pw wl lw (by lia) (some (.ref L)) (some (.str "")) (some (.int u)) (some (.ref h1.length)) o5
   have f2:yd9 (sVar 4) (.nm 7) yby [some (.ref p),some (.ref L),some (.str ""),some (.int u),some (.ref h1.length),o5,some (.int 0),none] h3 = .nx [some (.ref p),some (.ref L),some (.str ""),some (.int u),some (.ref h1.length),o5,some (.int n),o7] h4:=by
    rw [<- ef]
    have v4:sVar 4 [some (.ref p),some (.ref L),some (.str ""),some (.int u),some (.ref h1.length),o5,some (.int 0),none] h3 = .ok (.ref h1.length) h3:=rfl
    unfold yd9
    rw [v4]
    dsimp only
    rw [eW]
   refine ⟨n,ps4,h4,?_,G3.trans (G4.more (fun _ z=>(nomatch z))) (by lia),by rw [<- cw];exact T⟩
   unfold yc6
   generalize sFor (iVal (sVar 4)) (.nm 7) ybx=F1 at *
   generalize yd9 (sVar 4) (.nm 7) yby=F2 at *
   generalize yaz (yas (sOp2 fNe (sVar 2) (sLit (.str "")))) ybM ya5=WH at *
   generalize ybN sNil=LM at *
   generalize h1++[AO.lst []]=h2 at *
   simp [t1',z0,lm,ew,z1,f2,-fEq]
end Sk
namespace Sk
open PySem PySem.Spec L2 Sm
theorem yiz {h:AH} {W:Nat} {st:List Un} (e:h[W]? = some (.lst (st.reverse.map uv))):fEq (.ref W) (.fl []) h = .ok (.bl (decide (st=[]))) h:=by
 show (match eqA (.ref W) (.fl []) h with | some b=>Out.ok (AV.bl b) h | none=>Out.bad)=_
 rw [ydZ e]
 cases st with
 | nil=>rfl
 | cons a b=>simp
theorem zf0 (W:Nat) (h:AH):fIsN (.ref W) .non h = .ok (.bl false) h:=by
 simp only [fIsN]
 rw [decide_eq_false (fun z=>by cases z)]
theorem zf1 (h:AH):fIsN .non .non h = .ok (.bl true) h:=by
 simp [fIsN]
theorem yfa {ps:List Pc} {t:Nat} {m f l:Ms} {x:Str} (T:Tx ps t m x f l):∀ u∈([.n t]:List Un),OkU ps u:=fun u hu=>by rw [List.mem_singleton] at hu;subst hu;exact .n T
abbrev cS (c:Nat):AV:=.str ⟨#[c]⟩
theorem yfb (cs:List Nat):(sgl cs).map uv=cs.map cS:=by
 unfold sgl
 rw [List.map_map]
 rfl
theorem zf2 {h r:AH} {o o':AO}:(h++o::r).set h.length o'=h++o'::r:=zfC
theorem un_s {hh:AH} {R:Nat} {w:Str} {fs:List AV} {o0:Option AV} (eR:hh[R]? = some (.lst fs)) (w1:1<=w.length) (w8:w.length<=8) (lf:fs.length<=100000) :
  ybi [o0,some (.ref R),some (.str w),none] hh = .nx [o0,some (.ref R),some (.str w),none] ((hh++[AO.lst (w.cps.toList.map cS)]).set R (.lst (fs++w.cps.toList.map cS))):=by
 have lw:=zad w
 have cp:ycW [] (iVal (sVar 2)) sYes (sVar 0) [o0,some (.ref R),some (.str w),none] hh = .ok (.ref hh.length) (hh++[.lst (w.cps.toList.map cS)]):=by
  have:=zbd (js:=[]) (en:=[o0,some (.ref R),some (.str w),none]) (w:=none) (all:=w.cps.toList.map cS) (e:=sVar 0) (g:=cS) (f:=cS) (h:=hh) rfl w.cps.toList [] (fun c _=>rfl) (Nat.le_trans (m:=8) (by simp only [List.length_nil];lia) (by decide))
  simp only [ycW,iVal,sVar,Out.bind,List.getElem?_cons_succ,List.getElem?_cons_zero]
  rw [this]
  rfl
 have eR1:(hh++[AO.lst (w.cps.toList.map cS)])[R]? = some (.lst fs):=by rw [List.getElem?_append_left (yaS eR)];exact eR
 have eK:(hh++[AO.lst (w.cps.toList.map cS)])[hh.length]? = some (.lst (w.cps.toList.map cS)):=by simp
 have ex:ycR (.ref R) [.ref hh.length] (hh++[AO.lst (w.cps.toList.map cS)]) = .ok .non ((hh++[AO.lst (w.cps.toList.map cS)]).set R (.lst (fs++w.cps.toList.map cS))):=by
  have:fs.length+(w.cps.toList.map cS).length<=sizeLine:=Nat.le_trans (m:=100008) (by rw [List.length_map,<- zad];lia) (by decide)
  simp only [ycR,eR1,eK,this,if_true]
 have is1:yan (.ref R) hh=true:=by simp [eR]
 have ln:fLen [.str w] hh = .ok (.int w.length) hh:=rfl
 have l1:fLt (.int 0) (.int w.length) hh = .ok (.bl true) hh:=by simp;lia
 have l2:fLt (.int w.length) (.int 9) hh = .ok (.bl true) hh:=by simp;lia
 generalize (hh++[AO.lst (w.cps.toList.map cS)]).set R (.lst (fs++w.cps.toList.map cS))=HF at *
 generalize hh++[AO.lst (w.cps.toList.map cS)]=H1 at *
 unfold ybi
 generalize ycW [] (iVal (sVar 2)) sYes (sVar 0)=CM at *
 simp [is1,cp,ex,ln,l1,l2,-yan,-ycR,-fLen,-fLt]
theorem un_n {hh:AH} {R k:Nat} {fs:List AV} {o0:Option AV} (eR:hh[R]? = some (.lst fs)) (k1:1<=k) (lf:fs.length<=100000) :
  ybi [o0,some (.ref R),some (.int k),none] hh = .nx [o0,some (.ref R),some (.int k),none] (hh.set R (.lst (fs++[.int k]))):=by
 have ap:yat (.ref R) [.int k] hh = .ok .non (hh.set R (.lst (fs++[.int k]))):=by
  have:fs.length<sizeLine:=Nat.lt_of_le_of_lt lf (by decide)
  simp only [yat,eR,this,if_true]
 have is1:yan (.ref R) hh=true:=by simp [eR]
 have l1:fGt (.int k) (.int 0) hh = .ok (.bl true) hh:=by simp;lia
 generalize hh.set R (.lst (fs++[.int k]))=HF at *
 simp [ybi,is1,ap,l1,-yan,-yat,-fGt]
theorem zas:∀ a b:List Un,yaB (a++b)=yaB a++yaB b
 | [],b=>rfl
 | .n k::a,b=>by rw [List.cons_append,yaB,yaB,zas a b,List.cons_append]
 | .s w::a,b=>by rw [List.cons_append,yaB,yaB,zas a b,List.append_assoc]
theorem zcp {ps:List Pc}:∀ {its:List Un},(∀ i∈its,OkJ ps i)->(yaB its).length<=8*its.length
 | [],_=>Nat.le_refl _
 | .n k::r,ok=>by
  have:=zcp (its:=r) fun i hi=>ok i (List.mem_cons_of_mem _ hi)
  rw [yaB,List.length_cons,List.length_cons]
  lia
 | .s w::r,ok=>by
  have:=zcp (its:=r) fun i hi=>ok i (List.mem_cons_of_mem _ hi)
  have w8:w.length<=8:=by
   cases ok _ (List.mem_cons_self ..) with
   | s a=>exact (zao a).2.1
  rw [yaB,List.length_append,List.length_cons,sgl,List.length_map,<- zad]
  lia
theorem zjj {ps:List Pc} (cs:List Nat) (h:∀ c∈cs,ydf c=true):∀ i∈sgl cs,OkJ ps i:=fun i hi=>(ye8 cs h i hi).j
theorem zcI {ps:List Pc}:∀ {its:List Un},(∀ i∈its,OkJ ps i)->∀ u∈yaB its,yec u/\OkJ ps u
 | [],_,u,hu=>by cases hu
 | .n k::r,ok,u,hu=>by
  rcases List.mem_cons.mp hu with rfl | hu
  ·exact ⟨trivial,ok _ (List.mem_cons_self ..)⟩
  ·exact zcI (fun i hi=>ok i (List.mem_cons_of_mem _ hi)) u hu
 | .s w::r,ok,u,hu=>by
  rcases List.mem_append.mp hu with hu | hu
  ·have pl:yau w=true:=by
    cases ok _ (List.mem_cons_self ..) with
    | s a=>exact (zao a).2.2
   refine ⟨?_,zjj w.cps.toList (List.all_eq_true.mp (by simpa [yau] using pl)) u hu⟩
   obtain ⟨c,_,rfl⟩:=List.mem_map.mp hu
   rfl
  ·exact zcI (fun i hi=>ok i (List.mem_cons_of_mem _ hi)) u hu
theorem un_2 {h:AH} {ps:List Pc} {u:Un} {o0 o1 o2:Option AV} (u1:yec u) (ok:OkJ ps u):ybp [o0,o1,o2,some (uv u)] h = .nx [o0,o1,o2,some (uv u)] h:=by
 cases u with
 | n k=>simp [ybp]
 | s w =>
  obtain ⟨c,rfl⟩:∃ c,w=⟨#[c]⟩:=by
   have w1:w.length=1:=u1
   rw [zad] at w1
   obtain ⟨c,e⟩:=List.length_eq_one_iff.mp w1
   exact ⟨c,zaf (by rw [e])⟩
  have pc:ydf c=true:=by
   cases ok with
   | s a =>
    have:=(zao a).2.2
    simpa [yau] using this
  have a1:=yfK c h
  have ne:fNe (.str ⟨#[c]⟩) (.str "\n") h = .ok (.bl (!decide (c=10))) h:=by
   have:((⟨#[c]⟩:Str)=Str.ofString "\n") ↔ c=10:=by rw [ye3];simp
   simp [this]
  by_cases q:c=10
  ·rw [decide_eq_true q] at ne
   simp [ybp,ne,-fNe]
  ·rw [decide_eq_false q] at ne
   have le:ydc fLe fLe (sLit (.str " ")) (sVar 3) (sLit (.str "~")) [o0,o1,o2,some (.str ⟨#[c]⟩)] h = .ok (.bl true) h:=by
    have r:32<=c/\c<=126:=by simpa [ydf,q] using pc
    have l1:fLe (.str " ") (.str ⟨#[c]⟩) h = .ok (.bl true) h:=by
     simp only [fLe,yfI]
     have : ¬ ([c]<[32]):=by rw [lt1];lia
     simp [this]
    have l2:fLe (.str ⟨#[c]⟩) (.str "~") h = .ok (.bl true) h:=by
     simp only [fLe,yfJ]
     have : ¬ ([126]<[c]):=by rw [lt1];lia
     simp [this]
    simp [l1,l2,-fLe]
   unfold ybp
   generalize ydc fLe fLe (sLit (.str " ")) (sVar 3) (sLit (.str "~"))=CH at *
   simp [ne,le,-fNe]
theorem zf3 {h:AH} {ps:List Pc} {its:List Un} {v:AV} {w:Option Nat} (sr:SrcI h its v w) (oi:∀ i∈its,OkJ ps i) (hl:its.length<=1000) :
  ∃ r:AH,ydM [v] h = .ok (.ref h.length) (h ++ .lst ((yaB its).map uv)::r):=by
 have kp:∀ (r:AH) (i:Nat),i<h.length->(h++r)[i]? = h[i]? := fun r i hi=>List.getElem?_append_left hi
 obtain ⟨e',h',r1,r2⟩:=ydw (w:=w) (all:=its.map uv) (t:=.nm 2) (b:=ybi) (xs:=its.map uv) (en:=[some v,some (.ref h.length),none,none]) (h:=h++[.lst []])
  (fun j en hh=>(∃ r,hh=h++r)/\(j<=its.length->∃ (o2:Option AV) (r:AH),en=[some v,some (.ref h.length),o2,none]/\hh=h ++ .lst ((yaB (its.take j)).map uv)::r))
  ⟨⟨_,rfl⟩,fun _=>⟨none,[],rfl,rfl⟩⟩ (fun _ _ _ p=>by
   obtain ⟨⟨r,rfl⟩,_⟩:=p
   exact sr.live (kp r)) (by
   rintro j u en hh hu ⟨_,p2⟩
   rw [List.getElem?_map] at hu
   obtain ⟨i,ei,rfl⟩:=Option.map_eq_some_iff.mp hu
   have hj:=(List.getElem?_eq_some_iff.mp ei).1
   obtain ⟨o2,r,rfl,rfl⟩:=p2 (by lia)
   have oki:=oi i (List.mem_of_getElem? ei)
   have tk:its.take (j+1)=its.take j++[i]:=by rw [List.take_succ,ei];rfl
   have lf:((yaB (its.take j)).map uv).length<=100000:=by
    have:=zcp (its:=its.take j) fun i hi=>oi i (List.mem_of_mem_take hi)
    rw [List.length_map]
    rw [List.length_take] at this
    lia
   have eR:(h++AO.lst ((yaB (its.take j)).map uv)::r)[h.length]? = some (.lst ((yaB (its.take j)).map uv)):=by simp
   cases oki with
   | @n k k1 =>
    have ev:=un_n (o0:=some v) eR k1 lf
    rw [zf2] at ev
    show thn (ybi [some v,some (.ref h.length),some (.int k),none] _) _
    rw [ev]
    exact ⟨⟨_,rfl⟩,fun _=>⟨_,r,rfl,by rw [tk,zas,List.map_append];rfl⟩⟩
   | @s z a =>
    obtain ⟨z1,z8,_⟩:=zao a
    have ev:=un_s (o0:=some v) eR z1 z8 lf
    have e2:h++AO.lst ((yaB (its.take j)).map uv)::r++[AO.lst (z.cps.toList.map cS)]=h++AO.lst ((yaB (its.take j)).map uv)::(r++[AO.lst (z.cps.toList.map cS)]):=by simp
    rw [e2,zf2] at ev
    show thn (ybi [some v,some (.ref h.length),some (.str z),none] _) _
    rw [ev]
    exact ⟨⟨_,rfl⟩,fun _=>⟨_,r++[AO.lst (z.cps.toList.map cS)],rfl,by rw [tk,zas,List.map_append,yaB,yaB,List.append_nil,yfb]⟩⟩)
 rw [List.length_map] at r2
 obtain ⟨_,r2⟩:=r2
 obtain ⟨o2,r,rfl,rfl⟩:=r2 (Nat.le_refl _)
 rw [List.take_length] at r1
 have it:iVal (sVar 0) [some v,some (.ref h.length),none,none] (h++[.lst []]) = .ok (its.map uv,w) (h++[.lst []]):=by
  have sr' := sr.mono (kp [.lst []])
  cases sr' with
  | ref e=>simp [e]
  | fl =>
   generalize its.map uv=Q at *
   simp
 have l1:=(ycJ (t:=.nm 2) (b:=ybi) it).trans r1
 obtain ⟨H2,eH2⟩:∃ H2,H2=h++AO.lst ((yaB its).map uv)::r:=⟨_,rfl⟩
 rw [<- eH2] at l1
 have eR2:H2[h.length]? = some (.lst ((yaB its).map uv)):=by rw [eH2];simp
 have fu:=zcI oi
 obtain ⟨e',h',r3,r4⟩:=ydw (w:=some h.length) (all:=(yaB its).map uv) (t:=.nm 3) (b:=ybp) (xs:=(yaB its).map uv) (en:=[some v,some (.ref h.length),o2,none]) (h:=H2)
  (fun j en hh=>hh=H2/\∃ o3:Option AV,en=[some v,some (.ref h.length),o2,o3])
  ⟨rfl,none,rfl⟩ (fun _ _ _ p=>by
   obtain ⟨rfl,_⟩:=p
   simp [eR2]) (by
   rintro j u en hh hu ⟨rfl,o3,rfl⟩
   rw [List.getElem?_map] at hu
   obtain ⟨i,ei,rfl⟩:=Option.map_eq_some_iff.mp hu
   obtain ⟨a,b⟩:=fu i (List.mem_of_getElem? ei)
   show thn (ybp [some v,some (.ref h.length),o2,some (uv i)] hh) _
   rw [un_2 a b]
   exact ⟨rfl,_,rfl⟩)
 obtain ⟨rfl,o3,rfl⟩:=r4
 have it2:iVal (sVar 1) [some v,some (.ref h.length),o2,none] h' = .ok ((yaB its).map uv,some h.length) h' := by simp [eR2]
 have l2:=(ycJ (t:=.nm 3) (b:=ybp) it2).trans r3
 refine ⟨r,?_⟩
 rw [<- eH2]
 clear r1 r3 it it2 eR2 eH2 sr
 unfold ydM
 generalize sFor (iVal (sVar 0)) (.nm 2) ybi=L1 at *
 generalize sFor (iVal (sVar 1)) (.nm 3) ybp=L2 at *
 simp [l1,l2]
end Sk
namespace Sk
open PySem PySem.Spec L2 Sm
theorem yhL {x y:Un}:PyData.eqv (ud x) (ud y)=true ↔ x=y:=by
 cases x with
 | n a =>
  cases y with
  | n b =>
   show PyData.eqv (.int a) (.int b)=true ↔ _
   constructor
   ·intro q
    have:(a:Int)=b:=by simpa [PyData.eqv] using q
    rw [show a=b by lia]
   ·intro q;cases q;simp [PyData.eqv]
  | s z=>exact ⟨fun q=>by simp [ud,PyData.eqv] at q,fun q=>by cases q⟩
 | s z =>
  cases y with
  | n b=>exact ⟨fun q=>by simp [ud,PyData.eqv] at q,fun q=>by cases q⟩
  | s w =>
   show PyData.eqv (.str z) (.str w)=true ↔ _
   constructor
   ·intro q
    have:z=w:=by simpa [PyData.eqv] using q
    rw [this]
   ·intro q;cases q;simp [PyData.eqv]
theorem zcJ:∀ {a b:List Un},PyData.eqvAll (a.map ud) (b.map ud)=true ↔ a=b
 | [],[]=>by simp [PyData.eqvAll]
 | [],_::_=>by simp [PyData.eqvAll]
 | _::_,[]=>by simp [PyData.eqvAll]
 | x::a,y::b=>by
  rw [List.map_cons,List.map_cons]
  have i:=zcJ (a:=a) (b:=b)
  have j:=yhL (x:=x) (y:=y)
  have e:PyData.eqvAll (ud x::a.map ud) (ud y::b.map ud)=(PyData.eqv (ud x) (ud y) && PyData.eqvAll (a.map ud) (b.map ud)):=by simp [PyData.eqvAll]
  rw [e,Bool.and_eq_true,i,j,List.cons.injEq]
theorem yfV (a b:List Un) (h:AH):eqA (.fl (a.map uv)) (.fl (b.map uv)) h=some (PyData.eqvAll (a.map ud) (b.map ud)):=by
 have t:∀ l:List Un,toD 8 h (.fl (l.map uv))=some (.list (l.map ud)):=fun l=>by
  show (toDs (toD 7 h) (l.map uv)).map PyData.list=_
  rw [zbM];rfl
 show (match toD 8 h (.fl (a.map uv)),toD 8 h (.fl (b.map uv)) with | some d,some e=>some (PyData.eqv d e) | _,_=>none)=_
 rw [t,t]
 simp [PyData.eqv]
theorem yiA {a b:List Un} {h:AH} (q:a≠b):fNe (.fl (a.map uv)) (.fl (b.map uv)) h = .ok (.bl true) h:=by
 show (match eqA (.fl (a.map uv)) (.fl (b.map uv)) h with | some b=>Out.ok (AV.bl (!b)) h | none=>Out.bad)=_
 rw [yfV]
 have:PyData.eqvAll (a.map ud) (b.map ud)=false:=by
  cases z:PyData.eqvAll (a.map ud) (b.map ud) with
  | false=>rfl
  | true=>exact absurd (zcJ.mp z) q
 rw [this];rfl
theorem yfW (a:List Un) (h:AH):fNe (.fl (a.map uv)) (.fl (a.map uv)) h = .ok (.bl false) h:=by
 show (match eqA (.fl (a.map uv)) (.fl (a.map uv)) h with | some b=>Out.ok (AV.bl (!b)) h | none=>Out.bad)=_
 rw [yfV,zcJ.mpr rfl];rfl
theorem zeE:∀ (cs:List Nat) (us:List Un),us.take cs.length=sgl (cs.take us.length)->ycU cs us=if cs.length<=us.length then .at (us.drop cs.length) else .out
 | [],us,_=>by rw [ycU,if_pos (show ([]:List Nat).length<=us.length from Nat.zero_le _)];rfl
 | c::cs,[],_=>by rw [ycU,if_neg (by simp)]
 | c::cs,.n k::us,q=>by
  have:=(List.cons.inj q).1
  cases this
 | c::cs,.s w::us,q=>by
  obtain ⟨q1,q2⟩:=List.cons.inj q
  cases q1
  rw [ycU,if_pos rfl,zeE cs us q2]
  by_cases z:cs.length<=us.length
  ·rw [if_pos z,if_pos (by rw [List.length_cons,List.length_cons];lia)];rfl
  ·rw [if_neg z,if_neg (by rw [List.length_cons,List.length_cons];lia)]
theorem zd1:∀ (cs:List Nat) (us:List Un),us.take cs.length≠sgl (cs.take us.length)->ycU cs us = .bad
 | [],us,q=>absurd (by simp [sgl]) q
 | c::cs,[],q=>absurd rfl q
 | c::cs,.n k::us,q=>rfl
 | c::cs,.s w::us,q=>by
  rw [ycU]
  by_cases z:w=⟨#[c]⟩
  ·rw [if_pos z]
   refine zd1 cs us fun e=>q ?_
   subst z
   show _::us.take cs.length=_::sgl (cs.take us.length)
   rw [e]
  ·rw [if_neg z]
def AfR (U:List Un) (h:AH) (a:Af) (o:Out AV):Prop:=match a with
 | .bad=>o = .ok .non h
 | .out=>o = .ok (.int (-1)) h
 | .at r=>∃ k:Nat,k<=U.length/\r=U.drop k/\o = .ok (.int k) h
theorem ygn {u:Un} {t:Nat} (h:AH) (ne:u ≠ .n t):fEq (uv u) (.int t) h = .ok (.bl false) h:=by
 cases u with
 | n k=>exact (eq_n k t h).trans (by rw [decide_eq_false fun z=>ne (by rw [z])])
 | s z=>exact ygh z t h
theorem yeG {h:AH} {R k:Nat} {U:List Un} {u:Un} (eR:h[R]? = some (.lst (U.map uv))) (eu:U[k]? = some u):fIx (.ref R) (.int k) h = .ok (uv u) h:=by
 have:=zer (f:=uv) eu
 simp only [fIx,eR,this]
theorem eqi (a b:Int) (h:AH):fEq (.int a) (.int b) h = .ok (.bl (decide (a=b))) h:=by simp
theorem neg1 (h:AH):fNeg (.int 1) h = .ok (.int (-1)) h:=rfl
theorem yiB {h:AH} {p t R d:Nat}:yaw (d+1) [.ref p,.int t,.ref R,.int (-1)] h = .ok (.int (-1)) h:=by
 have q:=eqi (-1) (-1) h
 rw [decide_eq_true rfl] at q
 have n:=neg1 h
 show ybj (yaw d) _ h=_
 generalize yaw d=G
 simp [ybj,q,n,-fEq,-fNeg]
theorem zh8 {α:Type} (l:List α) {k n:Nat} (hk:k<=l.length):cutA l (some (k:Int)) (some ((k+n:Nat):Int))=(l.drop k).take n:=by
 unfold cutA
 rw [HT.sIx_nat,HT.sIx_nat,Nat.min_eq_left hk]
 by_cases q:k+n<=l.length
 ·rw [Nat.min_eq_left q];congr 1;lia
 ·rw [Nat.min_eq_right (by lia),List.take_of_length_le (i:=l.length-k) (by rw [List.length_drop];lia),List.take_of_length_le (by rw [List.length_drop];lia)]
theorem yhM {h:AH} {p t R d:Nat} {U:List Un} (eR:h[R]? = some (.lst (U.map uv))):yaw (d+1) [.ref p,.int t,.ref R,.int U.length] h = .ok (.int (-1)) h:=by
 have q:=eqi (U.length) (-1) h
 rw [decide_eq_false (by lia)] at q
 have q2:=eqi U.length U.length h
 rw [decide_eq_true rfl] at q2
 have n:=neg1 h
 have ln:fLen [.ref R] h = .ok (.int U.length) h:=by simp only [fLen,eR,List.length_map]
 show ybj (yaw d) _ h=_
 generalize yaw d=G
 generalize (U.length:Int)=UL at *
 simp [ybj,q,q2,n,ln,-fEq,-fNeg,-fLen]
theorem yiC {h:AH} {p t R d k:Nat} {U:List Un} (eR:h[R]? = some (.lst (U.map uv))) (eu:U[k]? = some (.n t)):yaw (d+1) [.ref p,.int t,.ref R,.int k] h = .ok (.int ((k+1:Nat):Int)) h:=by
 have hk:=(List.getElem?_eq_some_iff.mp eu).1
 have q:=eqi k (-1) h
 rw [decide_eq_false (by lia)] at q
 have q2:=eqi k U.length h
 rw [decide_eq_false (by lia)] at q2
 have n:=neg1 h
 have ln:fLen [.ref R] h = .ok (.int U.length) h:=by simp only [fLen,eR,List.length_map]
 have ix:=yeG eR eu
 have qe:=eqi t t h
 rw [decide_eq_true rfl] at qe
 have ad:fAdd (.int k) (.int 1) h = .ok (.int ((k+1:Nat):Int)) h:=rfl
 have ix':fIx (.ref R) (.int k) h = .ok (.int t) h:=ix
 show ybj (yaw d) _ h=_
 generalize yaw d=G
 generalize (U.length:Int)=UL at *
 generalize ((k+1:Nat):Int)=K1 at *
 simp [ybj,q,q2,n,ln,ix',qe,ad,-fEq,-fNeg,-fLen,-fIx,-fAdd]
theorem zjk {h:AH} {p t R d k:Nat} {ps:List Pc} {U:List Un} {u:Un} {x:Str} (S:ShelfAt h p ps) (t1:1<=t) (e:ps[t-1]? = some (.leaf x)) (x8:x.length<=8) (eR:h[R]? = some (.lst (U.map uv))) (eu:U[k]? = some u) (ne:u ≠ .n t) :
  AfR U h (ycU x.cps.toList (U.drop k)) (yaw (d+1) [.ref p,.int t,.ref R,.int k] h):=by
 have hk:=(List.getElem?_eq_some_iff.mp eu).1
 have q:=eqi k (-1) h
 rw [decide_eq_false (by lia)] at q
 have q2:=eqi k U.length h
 rw [decide_eq_false (by lia)] at q2
 have n:=neg1 h
 have ln:fLen [.ref R] h = .ok (.int U.length) h:=by simp only [fLen,eR,List.length_map]
 have ix:=yeG eR eu
 have qe:=ygn h ne
 have fp:=zaY S t1 e
 have i0:=i0L x h
 have j1:=i1L x h
 have el:=eqL h
 have lx:fLen [.str x] h = .ok (.int x.length) h:=rfl
 have ad:fAdd (.int k) (.int x.length) h = .ok (.int ((k+x.length:Nat):Int)) h:=rfl
 obtain ⟨us,eus⟩:∃ us,us=U.drop k:=⟨_,rfl⟩
 have lus:us.length=U.length-k:=by rw [eus,List.length_drop]
 have cu:ya4 (.ref R) (some (k:Int)) (some ((k+x.length:Nat):Int)) h = .ok (.fl ((us.take x.length).map uv)) h:=by
  simp only [ya4,eR]
  rw [zh8 _ (by rw [List.length_map];lia),<- List.map_drop,<- List.map_take,eus]
 obtain ⟨n',en⟩:∃ n',n'=(us.take x.length).length:=⟨_,rfl⟩
 have en2:n'=min x.length us.length:=by rw [en,List.length_take]
 have l5:fLen [.fl ((us.take x.length).map uv)] h = .ok (.int n') h:=by rw [en];simp only [fLen,List.length_map]
 have tkx:x.cps.toList.take us.length=x.cps.toList.take n' := by
  by_cases z:x.length<=us.length
  ·rw [List.take_of_length_le (by rw [<- zad];lia),List.take_of_length_le (by rw [<- zad];lia)]
  ·rw [en2,Nat.min_eq_right (by lia)]
 have ct:ya4 (.str x) none (some (n':Int)) h = .ok (.str (tkS x n')) h:=yeD (x:=x) (a:=n') h
 have cm:∀ en:En,ya2 [] en none ((tkS x n').cps.toList.map cS) sYes (sVar 0) ((tkS x n').cps.toList.map cS) [] h = .ok ((tkS x n').cps.toList.map cS) h:=fun en =>
  zbd (js:=[]) (en:=en) (w:=none) (all:=(tkS x n').cps.toList.map cS) (e:=sVar 0) (g:=cS) (f:=cS) (h:=h) rfl (tkS x n').cps.toList [] (fun c _=>rfl) (Nat.le_trans (m:=8) (by simp only [List.length_nil];rw [yce,List.length_take,<- zad];lia) (by decide))
 have esg:(tkS x n').cps.toList.map cS=(sgl (x.cps.toList.take us.length)).map uv:=by rw [yfb,yce,tkx]
 have lxs:=zad x
 obtain ⟨Q1,eQ1⟩:∃ Q1,Q1=(us.take x.length).map uv:=⟨_,rfl⟩
 obtain ⟨Q2,eQ2⟩:∃ Q2,Q2=(tkS x n').cps.toList.map cS:=⟨_,rfl⟩
 rw [<- eQ1] at cu l5
 rw [<- eQ2] at cm esg
 have cmx:ycC [] (iVal (sCut (sOp2 fIx (sVar 4) (sLit (.int 1))) none (some (yah fLen (yab (sVar 5) sNil))))) sYes (sVar 0) [some (.ref p),some (.int t),some (.ref R),some (.int k),some (.tup [.str "leaf",.str x]),some (.fl Q1),none] h = .ok (.fl Q2) h:=by
  have iv:iVal (sCut (sOp2 fIx (sVar 4) (sLit (.int 1))) none (some (yah fLen (yab (sVar 5) sNil)))) [some (.ref p),some (.int t),some (.ref R),some (.int k),some (.tup [.str "leaf",.str x]),some (.fl Q1),none] h = .ok (Q2,none) h:=by
   simp [j1,l5,ct,eQ2,-fIx,-fLen,-ya4]
  unfold ycC
  rw [iv]
  dsimp only
  rw [cm]
 show AfR U h _ (ybj (yaw d) _ h)
 rw [<- eus]
 generalize yaw d=G
 have a2:fAdd (.int k) (.int n') h = .ok (.int ((k+n':Nat):Int)) h:=rfl
 unfold ybj
 generalize ycC [] (iVal (sCut (sOp2 fIx (sVar 4) (sLit (.int 1))) none (some (yah fLen (yab (sVar 5) sNil))))) sYes (sVar 0)=CM at *
 have ob:=S.ob
 by_cases z:us.take x.length=sgl (x.cps.toList.take us.length)
 ·have nq:fNe (.fl Q1) (.fl Q2) h = .ok (.bl false) h:=by rw [esg,<- z,eQ1];exact yfW _ h
  rw [zeE _ _ (by rw [<- lxs];exact z),<- lxs]
  by_cases y:x.length<=us.length
  ·rw [if_pos y]
   have q3:=eqi n' x.length h
   rw [decide_eq_true (by lia)] at q3
   refine ⟨k+x.length,by lia,by rw [eus,List.drop_drop],?_⟩
   have e3:((k+x.length:Nat):Int)=((k+n':Nat):Int):=by lia
   have ix2:fIx (.fl [.int (-1),.int ((k+n':Nat):Int)]) (.int 1) h = .ok (.int ((k+n':Nat):Int)) h:=rfl
   rw [e3] at ad cu ⊢
   clear eus lus en en2 tkx esg z e3 cm eQ1 eQ2 ct S eR eu ne
   generalize uv u=UU at *
   generalize (U.length:Int)=UL at *
   generalize ((k+n':Nat):Int)=KN at *
   simp [ob,q,q2,n,ln,ix,qe,fp,i0,j1,el,lx,ad,cu,l5,cmx,nq,a2,q3,ix2,-fEq,-fNe,-fNeg,-fLen,-fIx,-fAdd,-ya4]
  ·rw [if_neg y]
   have q3:=eqi n' x.length h
   rw [decide_eq_false (by lia)] at q3
   show _=_
   have ix2:fIx (.fl [.int (-1),.int ((k+n':Nat):Int)]) (.int 0) h = .ok (.int (-1)) h:=rfl
   clear eus lus en en2 tkx esg z cm eQ1 eQ2 ct S eR eu ne
   generalize uv u=UU at *
   generalize (U.length:Int)=UL at *
   generalize ((k+x.length:Nat):Int)=KX at *
   generalize ((k+n':Nat):Int)=KN at *
   simp [ob,q,q2,n,ln,ix,qe,fp,i0,j1,el,lx,ad,cu,l5,cmx,nq,a2,q3,ix2,-fEq,-fNe,-fNeg,-fLen,-fIx,-fAdd,-ya4]
 ·have nq:fNe (.fl Q1) (.fl Q2) h = .ok (.bl true) h:=by rw [esg,eQ1];exact yiA z
  rw [zd1 _ _ (by rw [<- lxs];exact z)]
  show _=_
  clear eus lus en en2 tkx esg z cm eQ1 eQ2 ct S eR eu ne
  generalize uv u=UU at *
  generalize (U.length:Int)=UL at *
  generalize ((k+x.length:Nat):Int)=KX at *
  simp [ob,q,q2,n,ln,ix,qe,fp,i0,j1,el,lx,ad,cu,l5,cmx,nq,-fEq,-fNe,-fNeg,-fLen,-fIx,-fAdd,-ya4]
theorem zjl {h:AH} {p t R d k a b:Nat} {ps:List Pc} {U:List Un} {u:Un} {o:Out AV} (S:ShelfAt h p ps) (t1:1<=t) (e:ps[t-1]? = some (.fork a b)) (eR:h[R]? = some (.lst (U.map uv))) (eu:U[k]? = some u) (ne:u ≠ .n t)
  (fa:o=yaw d [.ref p,.int a,.ref R,.int k] h) :
  (o = .ok .non h->yaw (d+1) [.ref p,.int t,.ref R,.int k] h = .ok .non h)/\∀ i:Int,o = .ok (.int i) h->yaw (d+1) [.ref p,.int t,.ref R,.int k] h=yaw d [.ref p,.int b,.ref R,.int i] h:=by
 have hk:=(List.getElem?_eq_some_iff.mp eu).1
 have q:=eqi k (-1) h
 rw [decide_eq_false (by lia)] at q
 have q2:=eqi k U.length h
 rw [decide_eq_false (by lia)] at q2
 have n:=neg1 h
 have ln:fLen [.ref R] h = .ok (.int U.length) h:=by simp only [fLen,eR,List.length_map]
 have ix:=yeG eR eu
 have qe:=ygn h ne
 have fp:=zaB S t1 e
 have i0:=i0F a b h
 have j1:fIx (.tup [.str "fork",.int a,.int b]) (.int 1) h = .ok (.int a) h:=rfl
 have j2:fIx (.tup [.str "fork",.int a,.int b]) (.int 2) h = .ok (.int b) h:=rfl
 have el:=eqF h
 have ob:=S.ob
 have n1:=zf1 h
 have e1:yaw (d+1)=ybj (yaw d):=rfl
 rw [e1]
 generalize yaw d=G at *
 clear eu ne eR S e e1
 generalize uv u=UU at *
 generalize (U.length:Int)=UL at *
 refine ⟨fun z=>?_,fun i z=>?_⟩
 ·rw [z] at fa
  simp [ybj,ob,q,q2,n,ln,ix,qe,fp,i0,j1,j2,el,<- fa,n1,-fEq,-fNeg,-fLen,-fIx,-fIsN]
 ·rw [z] at fa
  have n2:fIsN (.int i) .non h = .ok (.bl false) h:=by simp [fIsN]
  simp [ybj,ob,q,q2,n,ln,ix,qe,fp,i0,j1,j2,el,<- fa,n2,-fEq,-fNeg,-fLen,-fIx,-fIsN]
  cases G [.ref p,.int b,.ref R,.int i] h<;>rfl
theorem zdy {h:AH} {p R:Nat} {ps:List Pc} {U:List Un} (S:ShelfAt h p ps) (g:Good ps) (eR:h[R]? = some (.lst (U.map uv))):∀ (d:Nat) {t:Nat} {m f l:Ms} {x:Str},Tx ps t m x f l->m.ht.toNat<d->∀ k,k<=U.length ->
  AfR U h (aft ps d t (U.drop k)) (yaw d [.ref p,.int t,.ref R,.int k] h)
 | 0,t,m,f,l,x,T,hd,k,hk=>absurd hd (Nat.not_lt_zero _)
 | d+1,t,m,f,l,x,T,hd,k,hk=>by
  by_cases q:k=U.length
  ·subst q
   rw [List.drop_length]
   exact yhM eR
  ·have hk':k<U.length:=by lia
   obtain ⟨u,eu⟩:∃ u,U[k]? = some u:=⟨_,List.getElem?_eq_getElem hk'⟩
   have ed:U.drop k=u::U.drop (k+1):=by
    rw [List.drop_eq_getElem_cons hk']
    congr 1
    exact (List.getElem?_eq_some_iff.mp eu).2
   rw [ed,yfT]
   by_cases z:u = .n t
   ·subst z
    rw [if_pos (by simp)]
    exact ⟨k+1,by lia,rfl,yiC eR eu⟩
   ·rw [if_neg (by
     cases u with
     | n j=>simp;intro y;exact z (by rw [y])
     | s w=>simp)]
    rcases g.kind T with ⟨e,_,_,x1,x8⟩ | ⟨a,b,ma,mb,y,w,fa,la,fb,lb,e,e2,_,A,B,x1,x2,_⟩
    ·rw [e]
     dsimp only
     rw [<- ed]
     exact zjk S T.n1 e x8 eR eu z
    ·rw [e]
     dsimp only
     have hh:m.ht=max ma.ht mb.ht+1:=by rw [x2];rfl
     have a0:=A.ky.ht
     have b0:=B.ky.ht
     have ia:=zdy S g eR d A (by lia) k hk
     rw [ed] at ia
     obtain ⟨f1,f2⟩:=zjl (d:=d) S T.n1 e eR eu z rfl
     cases h1:aft ps d a (u::U.drop (k+1)) with
     | bad =>
      rw [h1] at ia
      exact f1 ia
     | out =>
      rw [h1] at ia
      obtain ⟨d',rfl⟩:∃ d',d=d'+1:=⟨d-1,by lia⟩
      exact (f2 _ ia).trans yiB
     | «at» r =>
      rw [h1] at ia
      obtain ⟨k',k1,rfl,k2⟩:=ia
      have ib:=zdy S g eR d B (by lia) k' k1
      dsimp only
      rw [f2 _ k2]
      exact ib
end Sk
namespace Sk
open PySem PySem.Spec L2 Sm
theorem zeF (h:AH):fEq .non (.fl []) h = .ok (.bl false) h:=by
 show (match eqA .non (.fl []) h with | some b=>Out.ok (AV.bl b) h | none=>Out.bad)=_
 have:eqA .non (.fl []) h=some false:=by
  show some (PyData.eqv .none (.list []))=_
  simp [PyData.eqv]
 rw [this]
theorem zeG {h:AH} {p t:Nat} {ps:List Pc} {its:List Un} {v:AV} {w:Option Nat} {m f l:Ms} {x:Str} (S:ShelfAt h p ps) (g:Good ps) (T:Tx ps t m x f l) (sr:SrcI h its v w) (oi:∀ i∈its,OkJ ps i) :
  ∃ (o:AO) (b:Bool),ybU [.ref p,.int t,v] h = .ok (.bl b) (h++[o])/\(b=true ↔ lbF ps its [.n t]=some []):=by
 rcases yfR S g T sr oi with ⟨s1,e1,f1⟩ | ⟨e1,Z,f1⟩
 ·have W1:(h++[AO.lst (s1.reverse.map uv)])[h.length]? = some (.lst (s1.reverse.map uv)):=by simp
  have q:=yiz W1
  refine ⟨.lst (s1.reverse.map uv),decide (s1=[]),?_,?_⟩
  ·generalize h++[AO.lst (s1.reverse.map uv)]=H1 at *
   simp [ybU,f1,q,-fEq]
  ·rw [e1,decide_eq_true_iff]
   exact ⟨fun z=>by rw [z],fun z=>Option.some.inj z⟩
 ·refine ⟨.lst Z,false,?_,by rw [e1];exact ⟨fun z=>(by cases z),fun z=>(by cases z)⟩⟩
  have q:=zeF (h++[.lst Z])
  generalize h++[AO.lst Z]=H1 at *
  simp [ybU,f1,q,-fEq]
theorem zh9 (W:Nat) (h:AH):ycq (.ref W) .non h = .ok (.bl true) h:=by
 simp only [ycq]
 rw [decide_eq_false (fun z=>by cases z)];rfl
theorem zeH (h:AH):ycq .non .non h = .ok (.bl false) h:=by
 simp [ycq]
theorem zeI {h:AH} {p t:Nat} {ps:List Pc} {its:List Un} {v:AV} {w:Option Nat} {m f l:Ms} {x:Str} (S:ShelfAt h p ps) (g:Good ps) (T:Tx ps t m x f l) (sr:SrcI h its v w) (oi:∀ i∈its,OkJ ps i) :
  ∃ (o:AO) (b:Bool),ya9 [.ref p,.int t,v] h = .ok (.bl b) (h++[o])/\(b=true ↔ lbF ps its [.n t]≠none):=by
 rcases yfR S g T sr oi with ⟨s1,e1,f1⟩ | ⟨e1,Z,f1⟩
 ·have q:=zh9 h.length (h++[AO.lst (s1.reverse.map uv)])
  refine ⟨.lst (s1.reverse.map uv),true,?_,?_⟩
  ·generalize h++[AO.lst (s1.reverse.map uv)]=H1 at *
   simp [ya9,f1,q,-ycq]
  ·rw [e1]
   exact ⟨fun _ z=>(by cases z),fun _=>rfl⟩
 ·refine ⟨.lst Z,false,?_,by rw [e1];exact ⟨fun z=>(by cases z),fun z=>absurd rfl z⟩⟩
  have q:=zeH (h++[.lst Z])
  generalize h++[AO.lst Z]=H1 at *
  simp [ya9,f1,q,-ycq]
theorem yhN {ps:List Pc} {r:List Un} (ne:r≠[]) (u1:∀ u∈r,yec u):lbF ps r []=none:=by
 match r,ne,u1 with
 | .n k::r,_,_=>rfl
 | .s w::r,_,u1 =>
  have w1:w.length=1:=u1 _ (List.mem_cons_self ..)
  have w0 : ¬ w = "" := fun z=>by rw [zaN] at z;lia
  show (tkF ps 10 w []).bind _=_
  have:tkF ps 10 w []=none:=by
   rw [tkF,if_neg w0]
   have e:nxF ps 90 []=((Str.ofString "" : Str),([]:List Un)):=rfl
   rw [e]
   dsimp only
   rw [if_pos (.inl (by show min 0 w.length=0;lia))]
  rw [this];rfl
theorem yiD {h:AH} {p t:Nat} {ps:List Pc} {its:List Un} {v:AV} {w:Option Nat} {m f l:Ms} {x:Str} (S:ShelfAt h p ps) (g:Good ps) (T:Tx ps t m x f l) (sr:SrcI h its v w) (oi:∀ i∈its,OkJ ps i) (hl:its.length<=1000) :
  ∃ (r:AH) (b c:Bool),yb1 [.ref p,.int t,v] h = .ok (.fl [.bl b,.bl c]) (h++r)/\(b=true ↔ lbF ps its [.n t]=some [])/\(c=true ↔ lbF ps its [.n t]≠none):=by
 obtain ⟨r,fu⟩:=zf3 sr oi hl
 have ok0:=yfa T
 have lf:=zbN g its ok0 oi
 have u1:∀ u∈yaB its,yec u:=fun u hu=>(zcI oi u hu).1
 obtain ⟨U,eU⟩:∃ U,U=yaB its:=⟨_,rfl⟩
 rw [<- eU] at fu lf u1
 have eR:(h++AO.lst (U.map uv)::r)[h.length]? = some (.lst (U.map uv)):=by simp
 have S1:ShelfAt (h++AO.lst (U.map uv)::r) p ps:=S.app _
 obtain ⟨H1,eH1⟩:∃ H1,H1=h++AO.lst (U.map uv)::r:=⟨_,rfl⟩
 rw [<- eH1] at fu eR S1
 have n1:=zf0 h.length H1
 have t1:=T.n1
 have q0:=eqi t 0 H1
 rw [decide_eq_false (by lia)] at q0
 have qU:fEq (.ref h.length) (.fl []) H1 = .ok (.bl U.isEmpty) H1:=by
  show (match eqA (.ref h.length) (.fl []) H1 with | some b=>Out.ok (AV.bl b) H1 | none=>Out.bad)=_
  rw [ydZ eR]
 rw [lf]
 by_cases z:U=[]
 ·have qU':fEq (.ref h.length) (.fl []) H1 = .ok (.bl true) H1:=by rw [qU,z];rfl
  refine ⟨AO.lst (U.map uv)::r,false,true,?_,?_,?_⟩
  ·rw [<- eH1]
   generalize h.length=RR at *
   simp [yb1,fu,n1,q0,qU',-fEq,-fIsN]
  ·rw [z]
   exact ⟨fun q=>(by cases q),fun q=>(by cases q)⟩
  ·rw [z]
   exact ⟨fun _ q=>(by cases q),fun _=>rfl⟩
 ·have qU':fEq (.ref h.length) (.fl []) H1 = .ok (.bl false) H1:=by
   rw [qU]
   cases U with
   | nil=>exact absurd rfl z
   | cons a b=>rfl
  have h82:=ht82 g T
  have h0:=T.ky.ht
  have fa:=zdy S1 g eR 90 T (by lia) 0 (Nat.zero_le _)
  have al:=ye9 g 90 U (st:=[]) T (by lia) (fun u hu=>(by cases hu)) u1
  rw [List.drop_zero] at fa
  have ln:fLen [.ref h.length] H1 = .ok (.int U.length) H1:=by simp only [fLen,eR,List.length_map]
  have ng:=neg1 H1
  have q1:∀ a b:Int,fEq (.int a) (.int b) H1 = .ok (.bl (decide (a=b))) H1:=fun a b=>eqi a b H1
  cases ha:aft ps 90 t U with
  | bad =>
   rw [ha] at fa al
   have al':lbF ps U [.n t]=none:=al
   have fa':yaw 90 [.ref p,.int t,.ref h.length,.int 0] H1 = .ok .non H1:=fa
   refine ⟨AO.lst (U.map uv)::r,false,false,?_,by rw [al'];exact ⟨fun q=>(by cases q),fun q=>(by cases q)⟩,by rw [al'];exact ⟨fun q=>(by cases q),fun q=>absurd rfl q⟩⟩
   rw [<- eH1]
   have n2:=zf1 H1
   generalize h.length=RR at *
   unfold yb1
   generalize yaw 90=FA at *
   simp [fu,n1,q0,qU',fa',n2,-fEq,-fIsN]
  | out =>
   rw [ha] at fa al
   obtain ⟨s,al1,al2⟩:=al
   have fa':yaw 90 [.ref p,.int t,.ref h.length,.int 0] H1 = .ok (.int (-1)) H1:=fa
   refine ⟨AO.lst (U.map uv)::r,false,true,?_,by rw [al1];exact ⟨fun q=>(by cases q),fun q=>absurd (Option.some.inj q) al2⟩,by rw [al1];exact ⟨fun _ q=>(by cases q),fun _=>rfl⟩⟩
   rw [<- eH1]
   have n2:fIsN (.int (-1)) .non H1 = .ok (.bl false) H1:=by simp [fIsN]
   have q2:=q1 (-1) U.length
   rw [decide_eq_false (by lia)] at q2
   have q3:=q1 (-1) (-1)
   rw [decide_eq_true rfl] at q3
   generalize h.length=RR at *
   generalize (U.length:Int)=UL at *
   unfold yb1
   generalize yaw 90=FA at *
   simp [fu,n1,q0,qU',fa',n2,ln,ng,q2,q3,-fEq,-fIsN,-fLen,-fNeg]
  | «at» r2 =>
   rw [ha] at fa al
   obtain ⟨al1,al2⟩:=al
   obtain ⟨k,k1,rfl,fa'⟩:=fa
   have fa':yaw 90 [.ref p,.int t,.ref h.length,.int 0] H1 = .ok (.int k) H1:=fa'
   have n2:fIsN (.int k) .non H1 = .ok (.bl false) H1:=by simp [fIsN]
   have q2:=q1 k U.length
   have q3:=q1 k (-1)
   rw [decide_eq_false (by lia)] at q3
   by_cases y:k=U.length
   ·rw [decide_eq_true (by lia)] at q2
    have lb:lbF ps U [.n t]=some []:=by rw [al1,y,List.drop_length];rfl
    refine ⟨AO.lst (U.map uv)::r,true,true,?_,by rw [lb];exact ⟨fun _=>rfl,fun _=>rfl⟩,by rw [lb];exact ⟨fun _ q=>(by cases q),fun _=>rfl⟩⟩
    rw [<- eH1]
    generalize h.length=RR at *
    generalize (U.length:Int)=UL at *
    unfold yb1
    generalize yaw 90=FA at *
    simp [fu,n1,q0,qU',fa',n2,ln,ng,q2,q3,-fEq,-fIsN,-fLen,-fNeg]
   ·rw [decide_eq_false (by lia)] at q2
    have lb:lbF ps U [.n t]=none:=by
     rw [al1]
     refine yhN (fun q=>y ?_) fun u hu=>u1 u (List.mem_of_mem_drop hu)
     have:=congrArg List.length q
     rw [List.length_drop,List.length_nil] at this
     lia
    refine ⟨AO.lst (U.map uv)::r,false,false,?_,by rw [lb];exact ⟨fun q=>(by cases q),fun q=>(by cases q)⟩,by rw [lb];exact ⟨fun q=>(by cases q),fun q=>absurd rfl q⟩⟩
    rw [<- eH1]
    generalize h.length=RR at *
    generalize (U.length:Int)=UL at *
    unfold yb1
    generalize yaw 90=FA at *
    simp [fu,n1,q0,qU',fa',n2,ln,ng,q2,q3,-fEq,-fIsN,-fLen,-fNeg]
theorem yfX {a b:Bool} {P:Prop} (x:a=true ↔ P) (y:b=true ↔ P):a=b:=by
 exact Bool.eq_iff_iff.mpr (x.trans y.symm)
theorem yfY (a b:Bool) (h:AH):fEq (.fl [.bl a,.bl b]) (.fl [.bl a,.bl b]) h = .ok (.bl true) h:=by
 cases a<;>cases b<;>simp [toD,toDs,PyData.eqv,PyData.eqvAll]
theorem yhO {h:AH} {p t:Nat} {ps:List Pc} {its:List Un} {v:AV} {w:Option Nat} {m f l:Ms} {x:Str} (S:ShelfAt h p ps) (g:Good ps) (T:Tx ps t m x f l) (sr:SrcI h its v w) (oi:∀ i∈its,OkJ ps i) (hl:its.length<=1000) :
  ∃ r:AH,yaO [.ref p,.int t,v] h = .ok (.bl true) (h++r):=by
 have kp:∀ (r:AH) (i:Nat),i<h.length->(h++r)[i]? = h[i]? := fun r i hi=>List.getElem?_append_left hi
 obtain ⟨r1,b,c,f1,hb,hc⟩:=yiD S g T sr oi hl
 obtain ⟨o2,b2,f2,hb2⟩:=zeG (S.app r1) g T (sr.mono (kp r1)) oi
 rw [List.append_assoc] at f2
 obtain ⟨o3,c3,f3,hc3⟩:=zeI (S.app (r1++[o2])) g T (sr.mono (kp (r1++[o2]))) oi
 rw [List.append_assoc] at f3
 have eb:=yfX hb hb2
 have ec:=yfX hc hc3
 subst eb ec
 refine ⟨r1++[o2]++[o3],?_⟩
 ·have eq:=yfY b c (h++(r1++[o2]++[o3]))
  generalize h++(r1++[o2]++[o3])=H3 at *
  generalize h++(r1++[o2])=H2 at *
  generalize h++r1=H1 at *
  have cp:∀ en:En,ya2 [] en none [.bl b,.bl c] sYes (sIsB "bool" (sVar 0)) [.bl b,.bl c] [] H3 = .ok [.bl true,.bl true] H3:=fun en =>
   zbd (js:=[]) (en:=en) (w:=none) (all:=[.bl b,.bl c]) (e:=sIsB "bool" (sVar 0)) (g:=AV.bl) (f:=fun _=>AV.bl true) (h:=H3) rfl [b,c] [] (fun c _=>rfl) (show (2:Nat)<=sizeLine by decide)
  simp [yaO,f1,f2,f3,eq,cp,-fEq]
end Sk
namespace Sk
open PySem PySem.Spec L2 Sm
structure Fr (L:Nat) (h h':AH):Prop where
 fr:∀ i,i<h.length->i≠L->h'[i]? = h[i]?
 hl:h.length<=h'.length
 ro:∃ N:Int,h'[L]? = some (.lst [.int N])
theorem Fr.trans {L:Nat} {h h' h'':AH} (a:Fr L h h') (b:Fr L h' h''):Fr L h h'' :=
 ⟨fun i hi n=>(b.fr i (Nat.lt_of_lt_of_le hi a.hl) n).trans (a.fr i hi n),Nat.le_trans a.hl b.hl,b.ro⟩
theorem Fr.app {L:Nat} {h h':AH} (a:Fr L h h') (r:AH):Fr L h (h' ++ r):=by
 obtain ⟨N,e⟩:=a.ro
 exact ⟨fun i hi n=>by rw [List.getElem?_append_left (Nat.lt_of_lt_of_le hi a.hl)];exact a.fr i hi n,by rw [List.length_append];have:=a.hl;lia,N,by rw [List.getElem?_append_left (yaS e)];exact e⟩
theorem Fr.set {L:Nat} {h h':AH} (a:Fr L h h') (N':Int):Fr L h (h'.set L (.lst [.int N'])):=by
 obtain ⟨N,e⟩:=a.ro
 exact ⟨fun i hi n=>by rw [List.getElem?_set_ne (Ne.symm n)];exact a.fr i hi n,by rw [List.length_set];exact a.hl,N',List.getElem?_set_self (yaS e)⟩
theorem Fr.new {L R:Nat} {h h':AH} (a:Fr L h h') (hR:h.length<=R) (hL:L<h.length) (o:AO):Fr L h (h'.set R o):=by
 obtain ⟨N,e⟩:=a.ro
 exact ⟨fun i hi n=>by rw [List.getElem?_set_ne (by lia)];exact a.fr i hi n,by rw [List.length_set];exact a.hl,N,by rw [List.getElem?_set_ne (by lia)];exact e⟩
theorem Fr.take {L:Nat} {h h':AH} (a:Fr L h h') (m:Nat) (hm:0<m) (hm2:m<=10 ^ 50):∃ (v:Nat) (N:Int),v<m/\yaA [.ref L,.int m] h' = .ok (.int v) (h'.set L (.lst [.int N]))/\Fr L h (h'.set L (.lst [.int N])):=by
 obtain ⟨N,e⟩:=a.ro
 obtain ⟨v,N',hv,t⟩:=zbo m e hm hm2
 exact ⟨v,N',hv,t,a.set N'⟩
theorem zd2:∀ cs:List Nat,yaB (sgl cs)=sgl cs
 | []=>rfl
 | c::cs=>by
  show sgl [c]++yaB (sgl cs)=_
  rw [zd2 cs];rfl
theorem zia {α:Type} (l:List α) (k:Nat):cutA l none (some (k:Int))=l.take k:=by
 unfold cutA
 rw [HT.sIx_nat,HT.sIx_none]
 by_cases hk:k<=l.length
 ·rw [Nat.min_eq_left hk];simp
 ·rw [Nat.min_eq_right (by lia),List.take_of_length_le (l:=l) (by lia)];simp
theorem yhP {x:Str} (x1:1<=x.length) (h:AH):ya4 (.str x) none (some (-1)) h = .ok (.str (tkS x (x.length-1))) h:=by
 have:cutS x none (some (-1))=tkS x (x.length-1):=zaf (by
  rw [yce]
  unfold cutS
  rw [HT.sIx_none]
  have:HT.sIx x.cps.toList.length x.cps.toList.length (some (-1))=x.length-1:=by
   rw [<- zad]
   simp [HT.sIx]
   lia
  rw [this]
  simp)
 simp only [ya4,this]
theorem zeJ {ps:List Pc}:∀ {st:List Un},(∀ u∈st,OkU ps u)->st.length<=(rdS ps st).length
 | [],_=>Nat.le_refl _
 | u::st,ok=>by
  have a:=(ok u (List.mem_cons_self ..)).pos
  have b:=zeJ (st:=st) fun v hv=>ok v (List.mem_cons_of_mem _ hv)
  rw [rdS,List.length_append,List.length_cons]
  lia
abbrev eS (p t L R:Nat) (o5 o6 o7:Option AV):En:=[some (.ref p),some (.int t),some (.ref L),some (.ref R),some (.ref (R+1)),o5,o6,o7]
abbrev CN4:SB:=yas (sOp2 fNe (sVar 4) (sLst sNil))
structure Sq (p L R:Nat) (h0 hh:AH) (ps:List Pc) (its st:List Un):Prop where
 sh:ShelfAt hh p ps
 eI:hh[R]? = some (.lst (its.map uv))
 eW:hh[R+1]? = some (.lst (st.reverse.map uv))
 fr:Fr L h0 hh
 rl:h0.length<=R
 pl:p+8<L
 ll:L<h0.length
theorem Sq.setI {p L R:Nat} {h0 hh:AH} {ps:List Pc} {its st its2:List Un} (s:Sq p L R h0 hh ps its st):Sq p L R h0 (hh.set R (.lst (its2.map uv))) ps its2 st:=by
 have a:=s.pl
 have b:=s.ll
 have c:=s.rl
 exact ⟨zaD s.sh (by lia) _,List.getElem?_set_self (yaS s.eI),by rw [List.getElem?_set_ne (by lia)];exact s.eW,s.fr.new c b _,c,a,b⟩
theorem Sq.setW {p L R:Nat} {h0 hh:AH} {ps:List Pc} {its st st2:List Un} (s:Sq p L R h0 hh ps its st):Sq p L R h0 (hh.set (R+1) (.lst (st2.reverse.map uv))) ps its st2:=by
 have a:=s.pl
 have b:=s.ll
 have c:=s.rl
 exact ⟨zaD s.sh (by lia) _,by rw [List.getElem?_set_ne (by lia)];exact s.eI,List.getElem?_set_self (yaS s.eW),s.fr.new (by lia) b _,c,a,b⟩
theorem Sq.app {p L R:Nat} {h0 hh:AH} {ps:List Pc} {its st:List Un} (s:Sq p L R h0 hh ps its st) (r:AH):Sq p L R h0 (hh++r) ps its st :=
 ⟨s.sh.app r,by rw [List.getElem?_append_left (yaS s.eI)];exact s.eI,by rw [List.getElem?_append_left (yaS s.eW)];exact s.eW,s.fr.app r,s.rl,s.pl,s.ll⟩
theorem Sq.take {p L R:Nat} {h0 hh:AH} {ps:List Pc} {its st:List Un} (s:Sq p L R h0 hh ps its st) (m:Nat) (hm:0<m) (hm2:m<=10 ^ 50):∃ (v:Nat) (h2:AH),v<m/\yaA [.ref L,.int m] hh = .ok (.int v) h2/\Sq p L R h0 h2 ps its st:=by
 obtain ⟨v,N,hv,t,F⟩:=s.fr.take m hm hm2
 have a:=s.pl
 have b:=s.ll
 have c:=s.rl
 exact ⟨v,_,hv,t,zaD s.sh a _,by rw [List.getElem?_set_ne (by lia)];exact s.eI,by rw [List.getElem?_set_ne (by lia)];exact s.eW,F,c,a,b⟩
theorem Sq.pop {p L R:Nat} {h0 hh:AH} {ps:List Pc} {its st:List Un} {u:Un} (s:Sq p L R h0 hh ps its (u::st)):∃ h2,yan (.ref (R+1)) hh=true/\mPop (.ref (R+1)) [] hh = .ok (uv u) h2/\Sq p L R h0 h2 ps its st:=by
 have e:=s.eW
 rw [ycK] at e
 exact ⟨_,by simp [e],popU e,s.setW⟩
theorem Sq.addI {p L R:Nat} {h0 hh:AH} {ps:List Pc} {its st:List Un} (s:Sq p L R h0 hh ps its st) (hl:its.length<=1000) (i:Un):∃ h2,yan (.ref R) hh=true/\yat (.ref R) [uv i] hh = .ok .non h2/\Sq p L R h0 h2 ps (its++[i]) st:=by
 refine ⟨_,by simp [s.eI],?_,s.setI⟩
 have:(its.map uv).length<sizeLine:=Nat.lt_of_le_of_lt (m:=1000) (by rw [List.length_map];exact hl) (by decide)
 simp only [yat,s.eI,this,if_true,List.map_append]
 rfl
theorem Sq.extI {p L R:Nat} {h0 hh:AH} {ps:List Pc} {its st js:List Un} (s:Sq p L R h0 hh ps its st) (hl:its.length<=1000) (hj:js.length<=1000):∃ h2,yan (.ref R) hh=true/\ycR (.ref R) [.ref hh.length] (hh++[.lst (js.map uv)]) = .ok .non h2/\Sq p L R h0 h2 ps (its++js) st:=by
 have s1:=s.app [.lst (js.map uv)]
 refine ⟨_,by simp [s.eI],?_,s1.setI⟩
 have e2:(hh++[AO.lst (js.map uv)])[hh.length]? = some (.lst (js.map uv)):=by simp
 have:(its.map uv).length+(js.map uv).length<=sizeLine:=Nat.le_trans (m:=2000) (by rw [List.length_map,List.length_map];lia) (by decide)
 simp only [ycR,s1.eI,e2,this,if_true,List.map_append]
theorem Sq.extW {p L R a b:Nat} {h0 hh:AH} {ps:List Pc} {its st:List Un} (s:Sq p L R h0 hh ps its st) (hl:st.length<=1000):∃ h2,yan (.ref (R+1)) hh=true/\ycR (.ref (R+1)) [.ref hh.length] (hh++[.lst [.int b,.int a]]) = .ok .non h2/\Sq p L R h0 h2 ps its (.n a :: .n b::st):=by
 have s1:=s.app [.lst [.int b,.int a]]
 have e2:(hh++[AO.lst [.int b,.int a]])[hh.length]? = some (.lst [.int b,.int a]):=by simp
 have:(st.reverse.map uv).length+([AV.int b,AV.int a]).length<=sizeLine:=Nat.le_trans (m:=2000) (by rw [List.length_map,List.length_reverse];show _+2<=_;lia) (by decide)
 have e3:st.reverse.map uv++[.int b,.int a]=(.n a :: .n b::st:List Un).reverse.map uv:=by rw [ycK,ycK];simp
 refine ⟨_,by simp [s.eW],?_,s1.setW (st2:=.n a :: .n b::st)⟩
 simp only [ycR,s1.eW,e2,this,if_true,e3]
theorem cmpS {hh:AH} {en:En} {x:Str} {e:SE} (ee:e en hh = .ok (.str x) hh) (hx:x.length<=8):ycW [] (iVal e) sYes (sVar 0) en hh = .ok (.ref hh.length) (hh++[.lst (x.cps.toList.map cS)]):=by
 have:=zbd (js:=[]) (en:=en) (w:=none) (all:=x.cps.toList.map cS) (e:=sVar 0) (g:=cS) (f:=cS) (h:=hh) rfl x.cps.toList [] (fun c _=>rfl) (Nat.le_trans (m:=8) (by simp only [List.length_nil];rw [<- zad];lia) (by decide))
 simp only [ycW,iVal,ee,Out.bind]
 rw [this]
 rfl
structure Sk5 (ps:List Pc) (t:Nat) (N:Nat) (its st:List Un):Prop where
 ex:∃ its',yaB its'=yaB its/\(∀ i∈its',OkI ps i)/\Cs ps [.n t] its' st
 nu:∀ u∈st,∃ j,u=Un.n j
 oi:∀ i∈its,OkI ps i
 ln:its.length+(rdS ps st).length<=N
theorem zjm {p t L R j N:Nat} {h0 hh:AH} {ps:List Pc} {its st:List Un} {o5 o6 o7:Option AV} (g:Good ps) (hN:N<=100) (s:Sq p L R h0 hh ps its (.n j::st)) (q:Sk5 ps t N its (.n j::st)) :
  ∃ (h2:AH) (its2 st2:List Un) (c5 c6 c7:Option AV),yaV (eS p t L R o5 o6 o7) hh = .nx (eS p t L R c5 c6 c7) h2/\Sq p L R h0 h2 ps its2 st2/\Sk5 ps t N its2 st2/\2*(rdS ps st2).length-st2.length<2*(rdS ps (.n j::st)).length-(st.length+1):=by
 obtain ⟨⟨its',ef,oi',cs⟩,nu,oi,ln⟩:=q
 have nu':∀ u∈st,∃ j,u=Un.n j:=fun u hu=>nu u (List.mem_cons_of_mem _ hu)
 have snoc:∀ {l:List Un} {i:Un},(∀ j∈l,OkI ps j)->OkI ps i->∀ j∈l++[i],OkI ps j:=fun a b j hj=>(List.mem_append.mp hj).elim (a j) fun z=>by rw [List.mem_singleton] at z;subst z;exact b
 have okL:=cs.oki g
 have okst:∀ u∈st,OkI ps u:=fun u hu=>okL u (List.mem_cons_of_mem _ hu)
 have lst:=zeJ (okis okst)
 have rdj:(rdS ps (.n j::st)).length=(rdU ps (.n j)).length+(rdS ps st).length:=by rw [rdS,List.length_append]
 obtain ⟨h1,il1,po,s1⟩:=s.pop
 cases okL _ (List.mem_cons_self ..) with
 | @n _ m f l x T =>
  have t1:=T.n1
  have po':mPop (.ref (R+1)) [] hh = .ok (.int j) h1:=po
  have pj:=(OkU.n T).pos
  have ne:fNe (.int j) (.int 0) h1 = .ok (.bl true) h1:=by simp;lia
  obtain ⟨v,h2,hv,tk,s2⟩:=s1.take 4 (by decide) (by decide)
  have tk':yaA [.ref L,.int 4] h1 = .ok (.int v) h2:=tk
  have ob1:=s1.sh.ob
  have q0:=eqi v 0 h2
  have q1:=eqi v 1 h2
  have len1:its.length<=1000:=by lia
  by_cases v0:v=0
  ·rw [decide_eq_true (by lia)] at q0
   obtain ⟨h3,il3,ap,s3⟩:=s2.addI len1 (.n j)
   have ap':yat (.ref R) [.int j] h2 = .ok .non h3:=ap
   obtain ⟨pv,fp⟩:∃ pv,yaC [.ref p,.int j] h1 = .ok pv h1:=by
    rcases g.kind T with ⟨e,_⟩ | ⟨a,b,ma,mb,y,z,fa,la,fb,lb,e,_⟩
    ·exact ⟨_,zaY s1.sh t1 e⟩
    ·exact ⟨_,zaB s1.sh t1 e⟩
   refine ⟨h3,its++[.n j],st,some (.int j),some pv,some (.int v),?_,s3,⟨⟨its' ++ [.n j],by rw [zas,zas,ef],snoc oi' (.n T),cs.num g⟩,nu',fun i hi=>?_,by rw [List.length_append];show _+1+_<=_;lia⟩,by lia⟩
   ·simp only [eS]
    generalize R+1=R1 at *
    simp [yaV,il1,po',ne,ob1,fp,tk',q0,il3,ap',-yan,-mPop,-fNe,-fEq,-yat]
   ·rcases List.mem_append.mp hi with hi | hi
    ·exact oi i hi
    ·rw [List.mem_singleton] at hi;subst hi;exact .n T
  ·rw [decide_eq_false (by lia)] at q0
   rcases g.kind T with ⟨e,_,_,x1,x8⟩ | ⟨a,b,ma,mb,y,z,fa,la,fb,lb,e,e2,_,A,B,y1,y2,_⟩
   ·have fp:=zaY s1.sh t1 e
    have i0:=i0L x h2
    have j1:=i1L x h2
    have el:fEq (.str "leaf") (.str "fork") h2 = .ok (.bl false) h2:=by
     have : ¬ (Str.ofString "leaf" : Str)=Str.ofString "fork" := by decide +kernel
     simp [this]
    have nx:nxF ps 90 (.n j::st)=(x,st):=by unfold nxF;rw [e]
    have tx:=cs.txt g nx x1 (Nat.le_refl _)
    have et:tkS x x.length=x:=yhu (Nat.le_refl _)
    have ed:dpS x x.length = "" := yhv (Nat.le_refl _)
    have ep:psh "" st=st:=by unfold psh;rw [if_pos rfl]
    rw [et,ed,ep] at tx
    have rx:(rdU ps (.n j)).length=x.length:=by rw [yc7 T,<- zad]
    by_cases v1:v=1
    ·rw [decide_eq_true (by lia)] at q1
     obtain ⟨h3,il3,ap,s3⟩:=s2.addI len1 (.s x)
     have ap':yat (.ref R) [.str x] h2 = .ok .non h3:=ap
     refine ⟨h3,its++[.s x],st,some (.int j),some (.tup [.str "leaf",.str x]),some (.int v),?_,s3,⟨⟨its' ++ [.s x],by rw [zas,zas,ef],snoc oi' tx.1,tx.2⟩,nu',fun i hi=>?_,by rw [List.length_append];show _+1+_<=_;lia⟩,by lia⟩
     ·simp only [eS]
      generalize R+1=R1 at *
      simp [yaV,il1,po',ne,ob1,fp,tk',q0,q1,i0,j1,el,il3,ap',-yan,-mPop,-fNe,-fEq,-yat,-fIx]
     ·rcases List.mem_append.mp hi with hi | hi
      ·exact oi i hi
      ·rw [List.mem_singleton] at hi;subst hi;exact tx.1
    ·rw [decide_eq_false (by lia)] at q1
     obtain ⟨h3,il3,ex,s3⟩:=s2.extI (js:=sgl x.cps.toList) len1 (by rw [sgl,List.length_map,<- zad];lia)
     rw [yfb] at ex
     have cm:=cmpS (en:=[some (.ref p),some (.int t),some (.ref L),some (.ref R),some (.ref (R+1)),some (.int j),some (.tup [.str "leaf",.str x]),some (.int v)]) (e:=sOp2 fIx (sVar 6) (sLit (.int 1))) (hh:=h2) (x:=x) (by simp [j1,-fIx]) x8
     have pl:yau x=true:=T.ky.pl
     refine ⟨h3,its++sgl x.cps.toList,st,some (.int j),some (.tup [.str "leaf",.str x]),some (.int v),?_,s3,⟨⟨its' ++ [.s x],?_,snoc oi' tx.1,tx.2⟩,nu',fun i hi=>?_,?_⟩,by lia⟩
     ·simp only [eS]
      generalize R+1=R1 at *
      generalize h2++[AO.lst (x.cps.toList.map cS)]=H9 at *
      unfold yaV
      generalize ycW [] (iVal (sOp2 fIx (sVar 6) (sLit (.int 1)))) sYes (sVar 0)=CM at *
      simp [il1,po',ne,ob1,fp,tk',q0,q1,i0,j1,el,il3,cm,ex,-yan,-mPop,-fNe,-fEq,-ycR,-fIx]
     ·rw [zas,zas,ef,zd2]
      congr 1
      exact List.append_nil _
     ·rcases List.mem_append.mp hi with hi | hi
      ·exact oi i hi
      ·exact ye8 _ (List.all_eq_true.mp (by simpa [yau] using pl)) i hi
     ·rw [List.length_append,sgl,List.length_map,<- zad]
      lia
   ·have fp:=zaB s1.sh t1 e
    have i0:=i0F a b h2
    have j1:∀ hh,fIx (.tup [.str "fork",.int a,.int b]) (.int 1) hh = .ok (.int a) hh:=fun _=>rfl
    have j2:∀ hh,fIx (.tup [.str "fork",.int a,.int b]) (.int 2) hh = .ok (.int b) hh:=fun _=>rfl
    have el:fEq (.str "fork") (.str "fork") h2 = .ok (.bl true) h2:=by simp
    obtain ⟨h3,il3,ex,s3⟩:=s2.extW (a:=a) (b:=b) (by lia)
    have cs2:=cs.opn (.open (.refl _) e)
    have rd2:rdS ps (.n a :: .n b::st)=rdS ps (.n j::st):=by rw [rdS,rdS,rdS,yc7 T,yc7 A,yc7 B,y1,zap,List.append_assoc]
    refine ⟨h3,its,.n a :: .n b::st,some (.int j),some (.tup [.str "fork",.int a,.int b]),some (.int v),?_,s3,⟨⟨its',ef,oi',cs2⟩,fun u hu=>?_,oi,by rw [rd2];exact ln⟩,?_⟩
    ·simp only [eS]
     generalize R+1=R1 at *
     simp [yaV,il1,po',ne,ob1,fp,tk',q0,i0,j1,j2,el,il3,ex,-yan,-mPop,-fNe,-fEq,-ycR,-fIx]
    ·rcases List.mem_cons.mp hu with rfl | hu
     ·exact ⟨a,rfl⟩
     ·rcases List.mem_cons.mp hu with rfl | hu
      ·exact ⟨b,rfl⟩
      ·exact nu' u hu
    ·rw [rd2,List.length_cons,List.length_cons]
     have:=(OkU.n A).pos
     have:=(OkU.n B).pos
     have z1:=congrArg List.length rd2
     rw [rdS,rdS,List.length_append,List.length_append] at z1
     lia
theorem zhe {h:AH} {p L t:Nat} {ps:List Pc} {x:Str} (S:ShelfAt h p ps) (g:Good ps) (hL:p+8<L) (eL:∃ N:Int,h[L]? = some (.lst [.int N])) (T:TxZ ps t x) (lx:x.length<=100) :
  ∃ (its:List Un) (h':AH),ycI [.ref p,.int t,.ref L] h = .ok (.ref h.length) h'/\h'[h.length]? = some (.lst (its.map uv))/\Fr L h h'/\ShelfAt h' p ps/\(∀ i∈its,OkI ps i)/\its.length<=100/\(t=0->its=[])/\(t≠0->lbF ps (yaB its) [.n t]=some []):=by
 obtain ⟨N0,eN⟩:=eL
 have Ll:=yaS eN
 have F0:Fr L h h:=⟨fun _ _ _=>rfl,Nat.le_refl _,N0,eN⟩
 have s0:∀ (l:List Un),Sq p L h.length h (h++[.lst [],.lst (l.reverse.map uv)]) ps [] l:=fun l =>
  ⟨S.app _,by simp,by rw [List.getElem?_append_right (by lia)];simp,F0.app _,Nat.le_refl _,hL,Ll⟩
 have l2:(h++[AO.lst []]).length=h.length+1:=by simp
 have a2:∀ o,h++[AO.lst []]++[o]=h++[.lst [],o]:=fun o=>by simp
 have fin:∀ (its:List Un) (hf:AH) (o5 o6 o7:Option AV),yaz CN4 yaV ya5 (eS p t L h.length none none none) (h++[.lst [],.lst [.int t]]) = .nx (eS p t L h.length o5 o6 o7) hf->ycI [.ref p,.int t,.ref L] h = .ok (.ref h.length) hf:=fun its hf o5 o6 o7 wl=>by
  have wl':yaz CN4 yaV ya5 [some (.ref p),some (.int t),some (.ref L),some (.ref h.length),some (.ref (h.length+1)),none,none,none] (h++[.lst [],.lst [.int t]]) = .nx [some (.ref p),some (.int t),some (.ref L),some (.ref h.length),some (.ref (h.length+1)),o5,o6,o7] hf:=wl
  unfold ycI
  generalize yaz CN4 yaV ya5=WL at *
  simp [l2,a2,wl']
 rcases T with ⟨rfl,rfl⟩ | ⟨m,f,l,T⟩
 ·have s1:Sq p L h.length h (h++[.lst [],.lst (([.n 0]:List Un).reverse.map uv)]) ps [] [.n 0]:=s0 [.n 0]
  obtain ⟨h1,il1,po,s2⟩:=s1.pop
  have cn:CN4 (eS p 0 L h.length none none none) (h++[.lst [],.lst [.int 0]]) = .ok true (h++[.lst [],.lst [.int 0]]):=by
   have nn:=yep (u:=.n 0) (st:=[]) s1.eW
   have nn':fNe (.ref (h.length+1)) (.fl []) (h++[.lst [],.lst [.int 0]]) = .ok (.bl true) (h++[.lst [],.lst [.int 0]]):=nn
   simp only [eS]
   generalize h++[AO.lst [],AO.lst [.int 0]]=H0 at *
   generalize h.length+1=R1 at *
   simp [CN4,nn',-fNe]
  have eb:yaV (eS p 0 L h.length none none none) (h++[.lst [],.lst [.int 0]]) = .nx (eS p 0 L h.length (some (.int 0)) none none) h1:=by
   have po':mPop (.ref (h.length+1)) [] (h++[.lst [],.lst [.int 0]]) = .ok (.int 0) h1:=po
   have il1':yan (.ref (h.length+1)) (h++[.lst [],.lst [.int 0]])=true:=il1
   have ne:fNe (.int 0) (.int 0) h1 = .ok (.bl false) h1:=by simp
   simp only [eS]
   generalize h++[AO.lst [],AO.lst [.int 0]]=H0 at *
   generalize h.length+1=R1 at *
   simp [yaV,il1',po',ne,-yan,-mPop,-fNe]
  have cn2:CN4 (eS p 0 L h.length (some (.int 0)) none none) h1 = .ok false h1:=by
   have nn:=yeE s2.eW
   simp only [eS]
   generalize h.length+1=R1 at *
   simp [CN4,nn,-fNe]
  have wl:∀ n,yaz CN4 yaV (n+2) (eS p 0 L h.length none none none) (h++[.lst [],.lst [.int 0]]) = .nx (eS p 0 L h.length (some (.int 0)) none none) h1:=fun n=>by
   rw [yeS cn eb,yeo cn2]
  exact ⟨[],h1,fin [] h1 _ _ _ (wl _),s2.eI,s2.fr,s2.sh,fun i hi=>(by cases hi),Nat.zero_le _,fun _=>rfl,fun z=>absurd rfl z⟩
 ·have t1:=T.n1
  have c0:Cs ps [.n t] [] [.n t]:=⟨[.n t],rfl,fun u hu=>(by rw [List.mem_singleton] at hu;subst hu;exact .n T),.refl _⟩
  have rd0:(rdS ps [.n t]).length=x.length:=by
   show (rdU ps (.n t)++[]).length=_
   rw [List.append_nil,yc7 T,<- zad]
  obtain ⟨e',h',r1,r2⟩:=zfx (c:=CN4) (b:=yaV) (fuel:=ya5) (n:=2*(rdS ps [.n t]).length-1) (en:=eS p t L h.length none none none) (h:=h++[.lst [],.lst [.int t]])
   (fun n en hh=>∃ (its st:List Un) (o5 o6 o7:Option AV),en=eS p t L h.length o5 o6 o7/\Sq p L h.length h hh ps its st/\Sk5 ps t x.length its st/\n=2*(rdS ps st).length-st.length)
   (fun en hh=>∃ (its:List Un) (o5 o6 o7:Option AV),en=eS p t L h.length o5 o6 o7/\Sq p L h.length h hh ps its []/\Sk5 ps t x.length its [])
   ⟨[],[.n t],none,none,none,rfl,s0 [.n t],⟨⟨[],rfl,fun i hi=>(by cases hi),c0⟩,fun u hu=>⟨t,by rw [List.mem_singleton] at hu;exact hu⟩,fun i hi=>(by cases hi),by show 0+_<=_;lia⟩,rfl⟩ (Nat.lt_of_le_of_lt (m:=1000) (by lia) (by decide)) (by
    rintro n en hh ⟨its,st,o5,o6,o7,rfl,s,q,rfl⟩
    match st,s,q with
    | [],s,q =>
     have cn:CN4 (eS p t L h.length o5 o6 o7) hh = .ok false hh:=by
      have nn:=yeE s.eW
      simp only [eS]
      generalize h.length+1=R1 at *
      simp [CN4,nn,-fNe]
     rw [cn]
     exact ⟨its,o5,o6,o7,rfl,s,q⟩
    | u::st,s,q =>
     have cn:CN4 (eS p t L h.length o5 o6 o7) hh = .ok true hh:=by
      have nn:=yep s.eW
      simp only [eS]
      generalize h.length+1=R1 at *
      simp [CN4,nn,-fNe]
     rw [cn]
     obtain ⟨j,rfl⟩:∃ j,u = .n j:=q.nu u (List.mem_cons_self ..)
     obtain ⟨h2,its2,st2,c5,c6,c7,ev,s2,q2,lt⟩:=zjm (o5:=o5) (o6:=o6) (o7:=o7) g lx s q
     dsimp only
     rw [ev]
     exact ⟨_,lt,its2,st2,c5,c6,c7,rfl,s2,q2,rfl⟩)
  obtain ⟨its,o5,o6,o7,rfl,s,⟨⟨its',ef,oi',cs⟩,_,oi,ln⟩⟩:=r2
  obtain ⟨sl,e1,ok1,op⟩:=cs.ex
  have sl0:=(yhB op).mpr rfl
  subst sl0
  refine ⟨its,h',fin its h' o5 o6 o7 r1,s.eI,s.fr,s.sh,oi,by lia,fun z=>absurd z (by lia),fun _=>?_⟩
  rw [<- ef,<- zbN g its' (yfa T) fun i hi=>(oi' i hi).j]
  exact e1
end Sk
namespace Sk
open PySem PySem.Spec L2 Sm
theorem yiE {h:AH} {R:Nat} {fd:List Un} {u:Un} (e:h[R]? = some (.lst ((fd++[u]).map uv))):fIx (.ref R) (.int (-1)) h = .ok (uv u) h:=by
 rw [List.map_append] at e
 have e':h[R]? = some (.lst (fd.map uv++[uv u])):=e
 simp only [fIx,e',zhw]
theorem neU {h:AH} {R:Nat} {fd:List Un} (e:h[R]? = some (.lst (fd.map uv))):fNe (.ref R) (.fl []) h = .ok (.bl (!fd.isEmpty)) h:=by
 show (match eqA (.ref R) (.fl []) h with | some b=>Out.ok (AV.bl (!b)) h | none=>Out.bad)=_
 rw [ydZ e]
structure Sf (p L R:Nat) (h0 hh:AH) (ps:List Pc) (fd:List Un):Prop where
 sh:ShelfAt hh p ps
 eF:hh[R]? = some (.lst (fd.map uv))
 fr:Fr L h0 hh
 rl:h0.length<=R
 pl:p+8<L
 ll:L<h0.length
theorem Sf.set {p L R:Nat} {h0 hh:AH} {ps:List Pc} {fd fd2:List Un} (s:Sf p L R h0 hh ps fd):Sf p L R h0 (hh.set R (.lst (fd2.map uv))) ps fd2:=by
 have a:=s.pl
 have b:=s.ll
 have c:=s.rl
 exact ⟨zaD s.sh (by lia) _,List.getElem?_set_self (yaS s.eF),s.fr.new c b _,c,a,b⟩
theorem Sf.take {p L R:Nat} {h0 hh:AH} {ps:List Pc} {fd:List Un} (s:Sf p L R h0 hh ps fd) (m:Nat) (hm:0<m) (hm2:m<=10 ^ 50):∃ (v:Nat) (h2:AH),v<m/\yaA [.ref L,.int m] hh = .ok (.int v) h2/\Sf p L R h0 h2 ps fd:=by
 obtain ⟨v,N,hv,t,F⟩:=s.fr.take m hm hm2
 have a:=s.pl
 have b:=s.ll
 have c:=s.rl
 exact ⟨v,_,hv,t,zaD s.sh a _,by rw [List.getElem?_set_ne (by lia)];exact s.eF,F,c,a,b⟩
theorem Sf.add {p L R:Nat} {h0 hh:AH} {ps:List Pc} {fd:List Un} (s:Sf p L R h0 hh ps fd) (hl:fd.length<=1000) (i:Un):∃ h2,yan (.ref R) hh=true/\yat (.ref R) [uv i] hh = .ok .non h2/\Sf p L R h0 h2 ps (fd++[i]):=by
 refine ⟨_,by simp [s.eF],?_,s.set⟩
 have:(fd.map uv).length<sizeLine:=Nat.lt_of_le_of_lt (m:=1000) (by rw [List.length_map];exact hl) (by decide)
 simp only [yat,s.eF,this,if_true,List.map_append]
 rfl
theorem Sf.pop {p L R:Nat} {h0 hh:AH} {ps:List Pc} {fd:List Un} {u:Un} (s:Sf p L R h0 hh ps (fd++[u])):∃ h2,yan (.ref R) hh=true/\mPop (.ref R) [] hh = .ok (uv u) h2/\Sf p L R h0 h2 ps fd:=by
 have e:=s.eF
 rw [List.map_append] at e
 exact ⟨_,by simp [e],popU e,s.set⟩
theorem yfm {P:Un->Prop} {l:List Un} {i:Un} (a:∀ j∈l,P j) (b:P i):∀ j∈l++[i],P j:=fun j hj=>(List.mem_append.mp hj).elim (a j) fun z=>by rw [List.mem_singleton] at z;subst z;exact b
abbrev eP (v:AV) (L R:Nat) (i:Un):En:=[some v,some (.ref L),some (.ref R),some (uv i)]
theorem zjn {p L R:Nat} {h0 hh:AH} {ps:List Pc} {fd:List Un} {i:Un} {v:AV} (s:Sf p L R h0 hh ps fd) (oi:∀ j∈fd,OkI ps j) (o:OkI ps i) (hl:fd.length<=900) :
  ∃ (h2:AH) (fd2:List Un) (i2:Un),yaU (eP v L R i) hh = .nx (eP v L R i2) h2/\Sf p L R h0 h2 ps fd2/\yaB fd2=yaB fd++yaB [i]/\(∀ j∈fd2,OkI ps j)/\fd2.length<=fd.length+1:=by
 have nq:=neU s.eF
 obtain ⟨h1,il,ap,s1⟩:=s.add (by lia) i
 have plain:yaU (eP v L R i) hh = .nx (eP v L R i) h1->∃ (h2:AH) (fd2:List Un) (i2:Un),yaU (eP v L R i) hh = .nx (eP v L R i2) h2/\Sf p L R h0 h2 ps fd2/\yaB fd2=yaB fd++yaB [i]/\(∀ j∈fd2,OkI ps j)/\fd2.length<=fd.length+1:=fun e =>
  ⟨h1,fd++[i],i,e,s1,zas _ _,yfm oi o,by simp⟩
 rcases List.eq_nil_or_concat fd with rfl | ⟨fd',u,efd⟩
 ·have nq':fNe (.ref R) (.fl []) hh = .ok (.bl false) hh:=nq
  refine plain ?_
  simp only [eP]
  generalize uv i=UI at *
  simp [yaU,nq',il,ap,-fNe,-yan,-yat]
 ·rw [List.concat_eq_append] at efd
  subst efd
  have nq':fNe (.ref R) (.fl []) hh = .ok (.bl true) hh:=by
   rw [nq]
   cases fd' <;> rfl
  have la:=yiE s.eF
  have ng:=neg1 hh
  cases i with
  | n k =>
   refine plain ?_
   have ap':yat (.ref R) [.int k] hh = .ok .non h1:=ap
   simp [yaU,nq',il,ap',-fNe,-yan,-yat]
  | s w =>
   have ap':yat (.ref R) [.str w] hh = .ok .non h1:=ap
   cases u with
   | n k =>
    refine plain ?_
    have la':fIx (.ref R) (.int (-1)) hh = .ok (.int k) hh:=la
    simp [yaU,nq',la',ng,il,ap',-fNe,-yan,-yat,-fIx,-fNeg]
   | s z =>
    have la':fIx (.ref R) (.int (-1)) hh = .ok (.str z) hh:=la
    have lz:fLen [.str z] hh = .ok (.int z.length) hh:=rfl
    have lw:fLen [.str w] hh = .ok (.int w.length) hh:=rfl
    have ad:fAdd (.int z.length) (.int w.length) hh = .ok (.int ((z.length+w.length:Nat):Int)) hh:=rfl
    have lt:fLt (.int ((z.length+w.length:Nat):Int)) (.int 9) hh = .ok (.bl (decide (z.length+w.length<9))) hh:=by
     show Out.ok (AV.bl (decide (((z.length+w.length:Nat):Int)<9))) hh=_
     congr 2
     exact decide_eq_decide.mpr (by lia)
    by_cases q:z.length+w.length<9
    ·rw [decide_eq_true q] at lt
     obtain ⟨d,h3,hd,tk,s3⟩:=s.take 3 (by decide) (by decide)
     have tk':yaA [.ref L,.int 3] hh = .ok (.int d) h3:=tk
     by_cases d0:d=0
     ·obtain ⟨h4,il4,ap4,s4⟩:=s3.add (by lia) (.s w)
      have ap4':yat (.ref R) [.str w] h3 = .ok .non h4:=ap4
      have gt:fGt (.int d) (.int 0) h3 = .ok (.bl false) h3:=by simp;lia
      refine ⟨h4,fd' ++ [.s z]++[.s w],.s w,?_,s4,zas _ _,yfm oi o,by simp⟩
      simp only [eP,uv]
      generalize ((z.length+w.length:Nat):Int)=ZW at *
      simp [yaU,nq',la',ng,lz,lw,ad,lt,tk',gt,il4,ap4',-fNe,-yan,-yat,-fIx,-fNeg,-fLen,-fAdd,-fLt,-fGt]
     ·have gt:fGt (.int d) (.int 0) h3 = .ok (.bl true) h3:=by simp;lia
      obtain ⟨h4,il4,po,s4⟩:=s3.pop
      have po':mPop (.ref R) [] h3 = .ok (.str z) h4:=po
      have adS:fAdd (.str z) (.str w) h4 = .ok (.str (z++w)) h4:=by
       have:z.length+w.length<=sizeLine:=Nat.le_trans (m:=9) (by lia) (by decide)
       simp only [fAdd,this,if_true]
      obtain ⟨h5,il5,ap5,s5⟩:=s4.add (by rw [List.length_append] at hl;lia) (.s (z++w))
      have ap5':yat (.ref R) [.str (z++w)] h4 = .ok .non h5:=ap5
      have oz:OkI ps (.s (z++w)):=by
       have a:=oi (.s z) (by simp)
       cases a with
       | s a =>
        cases o with
        | s b =>
         obtain ⟨a1,a8,ap⟩:=zao a
         obtain ⟨b1,b8,bp⟩:=zao b
         exact .s (zbt (by rw [zaQ,ap,bp];rfl) (by rw [zal];lia) (by rw [zal];lia))
      refine ⟨h5,fd' ++ [.s (z++w)],.s (z++w),?_,s5,?_,yfm (fun j hj=>oi j (List.mem_append_left _ hj)) oz,by simp⟩
      ·simp only [eP,uv]
       generalize ((z.length+w.length:Nat):Int)=ZW at *
       generalize z++w=ZS at *
       simp [yaU,nq',la',ng,lz,lw,ad,lt,tk',gt,il4,po',adS,il5,ap5',-fNe,-yan,-yat,-mPop,-fIx,-fNeg,-fLen,-fAdd,-fLt,-fGt]
      ·rw [zas,zas]
       show yaB fd' ++ (sgl (z++w).cps.toList++[])=yaB fd' ++ (sgl z.cps.toList++[])++(sgl w.cps.toList++[])
       rw [zap,sgl,sgl,sgl,List.map_append]
       simp
    ·rw [decide_eq_false q] at lt
     refine plain ?_
     simp only [eP,uv]
     generalize ((z.length+w.length:Nat):Int)=ZW at *
     simp [yaU,nq',la',ng,lz,lw,ad,lt,il,ap',-fNe,-yan,-yat,-fIx,-fNeg,-fLen,-fAdd,-fLt]
theorem zib {h:AH} {p L RI:Nat} {ps:List Pc} {its:List Un} (S:ShelfAt h p ps) (hL:p+8<L) (eL:∃ N:Int,h[L]? = some (.lst [.int N])) (eI:h[RI]? = some (.lst (its.map uv))) (nI:RI≠L) (oi:∀ i∈its,OkI ps i) (hl:its.length<=800) :
  ∃ (fd:List Un) (h':AH),ydv [.ref RI,.ref L] h = .ok (.ref h.length) h'/\h'[h.length]? = some (.lst (fd.map uv))/\Fr L h h'/\ShelfAt h' p ps/\yaB fd=yaB its/\(∀ i∈fd,OkI ps i)/\fd.length<=its.length:=by
 obtain ⟨N0,eN⟩:=eL
 have Ll:=yaS eN
 have Il:=yaS eI
 have F0:Fr L h h:=⟨fun _ _ _=>rfl,Nat.le_refl _,N0,eN⟩
 have s0:Sf p L h.length h (h++[.lst []]) ps []:=⟨S.app _,by simp,F0.app _,Nat.le_refl _,hL,Ll⟩
 obtain ⟨e',h',r1,r2⟩:=ydw (w:=some RI) (all:=its.map uv) (t:=.nm 3) (b:=yaU) (xs:=its.map uv) (en:=[some (.ref RI),some (.ref L),some (.ref h.length),none]) (h:=h++[.lst []])
  (fun j en hh=>hh[RI]? = some (.lst (its.map uv))/\(j<=its.length->∃ (fd:List Un) (o3:Option AV),en=[some (.ref RI),some (.ref L),some (.ref h.length),o3]/\Sf p L h.length h hh ps fd/\yaB fd=yaB (its.take j)/\(∀ i∈fd,OkI ps i)/\fd.length<=j))
  ⟨by rw [List.getElem?_append_left Il];exact eI,fun _=>⟨[],none,rfl,s0,rfl,fun i hi=>(by cases hi),Nat.le_refl _⟩⟩ (fun _ _ _ p=>by simp [p.1]) (by
   rintro j u en hh hu ⟨p1,p2⟩
   rw [List.getElem?_map] at hu
   obtain ⟨i,ei,rfl⟩:=Option.map_eq_some_iff.mp hu
   have hj:=(List.getElem?_eq_some_iff.mp ei).1
   obtain ⟨fd,o3,rfl,s,ef,of,lf⟩:=p2 (by lia)
   have tk:its.take (j+1)=its.take j++[i]:=by rw [List.take_succ,ei];rfl
   obtain ⟨h2,fd2,i2,ev,s2,ef2,of2,lf2⟩:=zjn (v:=.ref RI) s of (oi i (List.mem_of_getElem? ei)) (by lia)
   show thn (yaU (eP (.ref RI) L h.length i) hh) _
   rw [ev]
   exact ⟨(s2.fr.fr RI Il nI).trans eI,fun _=>⟨fd2,_,rfl,s2,by rw [ef2,ef,tk,zas],of2,by lia⟩⟩)
 rw [List.length_map] at r2
 obtain ⟨fd,o3,rfl,s,ef,of,lf⟩:=r2.2 (Nat.le_refl _)
 rw [List.take_length] at ef
 have it:iVal (sVar 0) [some (.ref RI),some (.ref L),some (.ref h.length),none] (h++[.lst []]) = .ok (its.map uv,some RI) (h++[.lst []]):=by
  have e:(h++[AO.lst []])[RI]? = some (.lst (its.map uv)):=by rw [List.getElem?_append_left Il];exact eI
  simp [e]
 have l1:=(ycJ (t:=.nm 3) (b:=yaU) it).trans r1
 refine ⟨fd,h',?_,s.eF,s.fr,s.sh,ef,of,lf⟩
 clear r1 it s r2 s0 F0
 unfold ydv
 generalize sFor (iVal (sVar 0)) (.nm 3) yaU=L1 at *
 simp [l1]
end Sk
namespace Sk
open PySem PySem.Spec L2 Sm
theorem ixNn {n k:Nat} (h:k<n):ixN n (k:Int)=some k:=by
 unfold ixN
 simp
 lia
theorem ygo {a b:Nat} (h0:1<=b) (h:AH):fMod (.int a) (.int b) h = .ok (.int ((a % b:Nat):Int)) h:=by
 have:(0:Int)<b:=by lia
 simp only [fMod,this,if_true]
 rfl
theorem yfZ {hh:AH} {R k:Nat} {fd:List Un} {i:Un} {en:En} {o ix v:SE} {h2:AH} (ev:v en hh = .ok (uv i) h2) (eo:o en h2 = .ok (.ref R) h2) (ei:ix en h2 = .ok (.int k) h2) (eR:h2[R]? = some (.lst (fd.map uv))) (hk:k<fd.length):ycG o ix v en hh = .nx en (h2.set R (.lst ((fd.set k i).map uv))):=by
 have q:ixN (fd.map uv).length (k:Int)=some k:=ixNn (by rw [List.length_map];exact hk)
 simp only [ycG,ev,eo,ei,Out.go,eR,q,List.map_set]
theorem ixU {hh:AH} {R k:Nat} {fd:List Un} {u:Un} (eR:hh[R]? = some (.lst (fd.map uv))) (e:fd[k]? = some u):fIx (.ref R) (.int k) hh = .ok (uv u) hh:=yeG eR e
theorem Sf.ins {p L R k:Nat} {h0 hh:AH} {ps:List Pc} {fd:List Un} (s:Sf p L R h0 hh ps fd) (hl:fd.length<=1000) (hk:k<=fd.length) (i:Un):∃ h2,yb3 (.ref R) [.int k,uv i] hh = .ok .non h2/\Sf p L R h0 h2 ps (fd.take k++i::fd.drop k):=by
 refine ⟨_,?_,s.set⟩
 have l1:(fd.map uv).length<sizeLine:=Nat.lt_of_le_of_lt (m:=1000) (by rw [List.length_map];exact hl) (by decide)
 have l2:(k:Int).toNat=k:=by lia
 have c:0<=(k:Int)/\(k:Int)<2 ^ 40/\(k:Int).toNat<=(fd.map uv).length/\(fd.map uv).length<sizeLine:=⟨by lia,by lia,by rw [List.length_map];lia,l1⟩
 have e:yb3 (.ref R) [.int k,uv i] hh=if 0<=(k:Int)/\(k:Int)<2 ^ 40/\(k:Int).toNat<=(fd.map uv).length/\(fd.map uv).length<sizeLine then .ok .non (hh.set R (.lst ((fd.map uv).take (k:Int).toNat++uv i::(fd.map uv).drop (k:Int).toNat))) else .bad:=by
  simp only [yb3,s.eF]
 rw [e,if_pos c,l2,List.map_append,List.map_cons,List.map_take,List.map_drop]
theorem Sf.popAt {p L R k:Nat} {h0 hh:AH} {ps:List Pc} {fd:List Un} (s:Sf p L R h0 hh ps fd) (hl:fd.length<=1000) (hk:k<fd.length):∃ (u:Un) (h2:AH),yd7 (.ref R) [.int k] hh = .ok (uv u) h2/\Sf p L R h0 h2 ps (fd.eraseIdx k):=by
 obtain ⟨u,eu⟩:∃ u,fd[k]? = some u:=⟨_,List.getElem?_eq_getElem hk⟩
 refine ⟨u,_,?_,s.set⟩
 have l2:(k:Int).toNat=k:=by lia
 have c:0<=(k:Int)/\(k:Int)<2 ^ 40:=⟨by lia,by lia⟩
 have e2:(fd.map uv)[k]? = some (uv u):=by rw [List.getElem?_map,eu];rfl
 simp only [yd7,s.eF]
 rw [if_pos c,l2,e2]
 dsimp only
 rw [List.eraseIdx_eq_take_drop_succ,List.eraseIdx_eq_take_drop_succ,List.map_append,List.map_take,List.map_drop]
theorem Sf.rev {p L R:Nat} {h0 hh:AH} {ps:List Pc} {fd:List Un} (s:Sf p L R h0 hh ps fd):∃ h2,ydz (.ref R) [] hh = .ok .non h2/\Sf p L R h0 h2 ps fd.reverse:=by
 refine ⟨_,?_,s.set⟩
 simp only [ydz,s.eF,List.map_reverse]
theorem Sf.il {p L R:Nat} {h0 hh:AH} {ps:List Pc} {fd:List Un} (s:Sf p L R h0 hh ps fd):yan (.ref R) hh=true:=by simp [s.eF]
theorem Sf.plain {p L R:Nat} {h0 hh:AH} {ps:List Pc} {fd:List Un} (s:Sf p L R h0 hh ps fd) (most:Nat) (hm:most<=1000):∃ (y:Str) (h2:AH),yb0 [.ref L,.int most] hh = .ok (.str y) h2/\Sf p L R h0 h2 ps fd/\yau y=true/\y.length<=most:=by
 obtain ⟨N,e⟩:=s.fr.ro
 obtain ⟨y,N1,f,a,b⟩:=zdY most hm e
 have q1:=s.pl
 have q2:=s.ll
 have q3:=s.rl
 exact ⟨y,_,f,⟨zaD s.sh q1 _,by rw [List.getElem?_set_ne (by lia)];exact s.eF,s.fr.set N1,q3,q1,q2⟩,a,b⟩
theorem Sf.len {p L R:Nat} {h0 hh:AH} {ps:List Pc} {fd:List Un} (s:Sf p L R h0 hh ps fd):fLen [.ref R] hh = .ok (.int fd.length) hh:=by simp only [fLen,s.eF,List.length_map]
theorem eqU {h:AH} {R:Nat} {fd:List Un} (e:h[R]? = some (.lst (fd.map uv))):fEq (.ref R) (.fl []) h = .ok (.bl fd.isEmpty) h:=by
 show (match eqA (.ref R) (.fl []) h with | some b=>Out.ok (AV.bl b) h | none=>Out.bad)=_
 rw [ydZ e]
theorem cutU {hh:AH} {R k:Nat} {fd:List Un} (e:hh[R]? = some (.lst (fd.map uv))):ya4 (.ref R) none (some (k:Int)) hh = .ok (.fl ((fd.take k).map uv)) hh:=by
 simp only [ya4,e,zia,List.map_take]
end Sk
namespace Sk
open PySem PySem.Spec L2 Sm
abbrev eO (v:AV) (L R:Nat) (kd a:Nat) (o6:Option AV):En:=[some (.ref 0),some v,some (.ref L),some (.ref R),some (.int kd),some (.int a),o6]
theorem zic {h:AH} {L:Nat} {ps:List Pc} {its:List Un} {v:AV} {w:Option Nat} (S:ShelfAt h 0 ps) (hL:8<L) (eL:∃ N:Int,h[L]? = some (.lst [.int N])) (sr:SrcI h its v w) (oi:∀ i∈its,OkJ ps i) (hl:its.length<=800) (hz:ps.length<=1000000) :
  ∃ (its2:List Un) (v2:AV) (w2:Option Nat) (h':AH),yaY [.ref 0,v,.ref L] h = .ok v2 h'/\SrcI h' its2 v2 w2/\v2 ≠ .ref L/\(∀ i∈its2,OkJ ps i)/\its2.length<=its.length+1/\Fr L h h'/\ShelfAt h' 0 ps:=by
 obtain ⟨N0,eN⟩:=eL
 have Ll:=yaS eN
 have F0:Fr L h h:=⟨fun _ _ _=>rfl,Nat.le_refl _,N0,eN⟩
 have s0:Sf 0 L h.length h (h++[.lst (its.map uv)]) ps its:=⟨S.app _,by simp,F0.app _,Nat.le_refl _,by lia,Ll⟩
 have lm:yb9 [v] h = .ok (.ref h.length) (h++[.lst (its.map uv)]):=by
  cases sr with
  | ref e=>simp only [yb9,e]
  | fl=>rfl
 obtain ⟨H0,eH0⟩:∃ H0,H0=h++[AO.lst (its.map uv)]:=⟨_,rfl⟩
 rw [<- eH0] at s0 lm
 obtain ⟨kd,h1,hkd,t1,s1⟩:=s0.take 8 (by decide) (by decide)
 have t1':yaA [.ref L,.int 8] H0 = .ok (.int kd) h1:=t1
 have ln1:=s1.len
 have ad1:fAdd (.int its.length) (.int 1) h1 = .ok (.int ((its.length+1:Nat):Int)) h1:=rfl
 obtain ⟨a,h2,ha,t2,s2⟩:=s1.take (its.length+1) (by lia) (Nat.le_trans (m:=1000) (by lia) (by decide))
 obtain ⟨R,eR⟩:∃ R,R=h.length:=⟨_,rfl⟩
 rw [<- eR] at s0 s1 s2 lm ln1
 have RL:R≠L:=by lia
 have il:=s2.il
 have e0:=eqi kd 0 h2
 have e1:=eqi kd 1 h2
 have e2:=eqi kd 2 h2
 have e3:=eqi kd 3 h2
 have e4:=eqi kd 4 h2
 have e5:=eqi kd 5 h2
 have e6:=eqi kd 6 h2
 have eq:=eqU s2.eF
 have ob2:=s2.sh.ob
 have mn:=ye4 s2.sh
 have mk:∀ {its2:List Un} {h3:AH},yaY [.ref 0,v,.ref L] h = .ok (.ref R) h3->Sf 0 L R h h3 ps its2->(∀ i∈its2,OkJ ps i)->its2.length<=its.length+1->∃ (its2:List Un) (v2:AV) (w2:Option Nat) (h':AH),yaY [.ref 0,v,.ref L] h = .ok v2 h'/\SrcI h' its2 v2 w2/\v2 ≠ .ref L/\(∀ i∈its2,OkJ ps i)/\its2.length<=its.length+1/\Fr L h h'/\ShelfAt h' 0 ps:=fun {its2 h3} f s o l =>
  ⟨its2,.ref R,some R,h3,f,.ref s.eF,fun z=>by injection z with z;exact RL z,o,l,s.fr,s.sh⟩
 have oins:∀ (k:Nat) (i:Un),OkJ ps i->∀ j∈its.take k++i::its.drop k,OkJ ps j:=fun k i o j hj=>by
  rcases List.mem_append.mp hj with hj | hj
  ·exact oi j (List.mem_of_mem_take hj)
  ·rcases List.mem_cons.mp hj with rfl | hj
   ·exact o
   ·exact oi j (List.mem_of_mem_drop hj)
 have lins:∀ (k:Nat) (i:Un),k<=its.length->(its.take k++i::its.drop k).length<=its.length+1:=fun k i hk=>by
  rw [List.length_append,List.length_cons,List.length_take,List.length_drop];lia
 by_cases k0:kd=0
 ·rw [decide_eq_true (by lia)] at e0
  have ad2:fAdd (.int ps.length) (.int 2) h2 = .ok (.int ((ps.length+2:Nat):Int)) h2:=rfl
  obtain ⟨d,h3,hd,t3,s3⟩:=s2.take (ps.length+2) (by lia) (Nat.le_trans (m:=2000000) (by lia) (by decide))
  have ad3:fAdd (.int 1) (.int d) h3 = .ok (.int ((1+d:Nat):Int)) h3:=rfl
  obtain ⟨h4,ins,s4⟩:=s3.ins (k:=a) (by lia) (by lia) (.n (1+d))
  have ins':yb3 (.ref R) [.int a,.int ((1+d:Nat):Int)] h3 = .ok .non h4:=ins
  refine mk (h3:=h4) ?_ s4 (oins _ _ (.n (by lia))) (lins _ _ (by lia))
  clear s0 s1 s2 s3 s4 mk oins lins sr S oi eH0 eR F0 eN ins e1 e2 e3 e4 e5 e6 eq
  generalize ((its.length+1:Nat):Int)=L1 at *
  generalize (its.length:Int)=L0 at *
  generalize ((ps.length+2:Nat):Int)=P2 at *
  generalize (ps.length:Int)=P0 at *
  generalize ((1+d:Nat):Int)=D1 at *
  simp [yaY,lm,t1',ln1,ad1,t2,e0,il,ob2,mn,ad2,t3,ad3,ins',-yb9,-fLen,-fAdd,-fEq,-yan,-yb3]
 rw [decide_eq_false (by lia)] at e0
 by_cases k1:kd=1
 ·rw [decide_eq_true (by lia)] at e1
  obtain ⟨y,h3,py,s3,pl,ly⟩:=s2.plain 3 (by decide)
  have py':yb0 [.ref L,.int 3] h2 = .ok (.str y) h3:=py
  have pa:yau "a" = true/\("a" : Str).length=1:=by decide +kernel
  have ad3:fAdd (.str y) (.str "a") h3 = .ok (.str (y ++ "a")) h3:=by
   have:y.length+("a" : Str).length<=sizeLine:=Nat.le_trans (m:=9) (by lia) (by decide)
   simp only [fAdd,this,if_true]
  obtain ⟨h4,ins,s4⟩:=s3.ins (k:=a) (by lia) (by lia) (.s (y ++ "a"))
  have ins':yb3 (.ref R) [.int a,.str (y ++ "a")] h3 = .ok .non h4:=ins
  refine mk (h3:=h4) ?_ s4 (oins _ _ (.s (zbt (by rw [zaQ,pl,pa.1];rfl) (by rw [zal];lia) (by rw [zal];lia)))) (lins _ _ (by lia))
  clear s0 s1 s2 s3 s4 mk oins lins sr S oi eH0 eR F0 eN ins e2 e3 e4 e5 e6 eq
  generalize ((its.length+1:Nat):Int)=L1 at *
  generalize (its.length:Int)=L0 at *
  generalize y++("a" : Str)=YA at *
  simp [yaY,lm,t1',ln1,ad1,t2,e0,e1,il,py',ad3,ins',-yb9,-fLen,-fAdd,-fEq,-yan,-yb3]
 rw [decide_eq_false (by lia)] at e1
 by_cases n0:its=[]
 ·have eq':fEq (.ref R) (.fl []) h2 = .ok (.bl true) h2:=by rw [eq,n0];rfl
  refine mk (h3:=h2) ?_ s2 oi (by lia)
  clear s0 s1 s2 mk oins lins sr S oi eH0 eR F0 eN e2 e3 e4 e5 e6 eq
  generalize ((its.length+1:Nat):Int)=L1 at *
  generalize (its.length:Int)=L0 at *
  simp [yaY,lm,t1',ln1,ad1,t2,e0,e1,eq',-yb9,-fLen,-fAdd,-fEq]
 have il1:1<=its.length:=by
  rcases Nat.eq_zero_or_pos its.length with z | z
  ·exact absurd (List.length_eq_zero_iff.mp z) n0
  ·exact z
 have eq':fEq (.ref R) (.fl []) h2 = .ok (.bl false) h2:=by
  rw [eq]
  cases its with
  | nil=>exact absurd rfl n0
  | cons _ _=>rfl
 have ln2:=s2.len
 have md:=ygo (a:=a) il1 h2
 obtain ⟨k,ek⟩:∃ k,k=a % its.length:=⟨_,rfl⟩
 have hk:k<its.length:=by rw [ek];exact Nat.mod_lt _ (by lia)
 rw [<- ek] at md
 obtain ⟨u,eu⟩:∃ u,its[k]? = some u:=⟨_,List.getElem?_eq_getElem hk⟩
 have ix:=ixU s2.eF eu
 by_cases k2:kd=2
 ·rw [decide_eq_true (by lia)] at e2
  obtain ⟨z,h3,pop,s3⟩:=s2.popAt (by lia) hk
  refine mk (h3:=h3) ?_ s3 (fun i hi=>oi i (List.mem_of_mem_eraseIdx hi)) (by rw [List.length_eraseIdx];split<;>lia)
  clear s0 s1 s2 s3 mk oins lins sr S oi eH0 eR F0 eN e3 e4 e5 e6 eq
  generalize ((its.length+1:Nat):Int)=L1 at *
  generalize (its.length:Int)=L0 at *
  generalize uv z=UZ at *
  simp [yaY,lm,t1',ln1,ad1,t2,e0,e1,eq',e2,il,ln2,md,pop,-yb9,-fLen,-fAdd,-fEq,-yan,-fMod,-yd7]
 rw [decide_eq_false (by lia)] at e2
 by_cases k3:kd=3
 ·rw [decide_eq_true (by lia)] at e3
  obtain ⟨h3,ins,s3⟩:=s2.ins (k:=a) (by lia) (by lia) u
  refine mk (h3:=h3) ?_ s3 (oins _ _ (oi u (List.mem_of_getElem? eu))) (lins _ _ (by lia))
  clear s0 s1 s2 s3 mk oins lins sr S oi eH0 eR F0 eN e4 e5 e6 eq
  generalize ((its.length+1:Nat):Int)=L1 at *
  generalize (its.length:Int)=L0 at *
  generalize uv u=UU at *
  simp [yaY,lm,t1',ln1,ad1,t2,e0,e1,eq',e2,e3,il,ln2,md,ix,ins,-yb9,-fLen,-fAdd,-fEq,-yan,-fMod,-fIx,-yb3]
 rw [decide_eq_false (by lia)] at e3
 have oset:∀ (i:Un),OkJ ps i->∀ j∈its.set k i,OkJ ps j:=fun i o j hj=>by
  rcases List.mem_or_eq_of_mem_set hj with hj | rfl
  ·exact oi j hj
  ·exact o
 by_cases k4:kd=4
 ·rw [decide_eq_true (by lia)] at e4
  have ad2:fAdd (.int ps.length) (.int 1) h2 = .ok (.int ((ps.length+1:Nat):Int)) h2:=rfl
  obtain ⟨d,h3,hd,t3,s3⟩:=s2.take (ps.length+1) (by lia) (Nat.le_trans (m:=2000000) (by lia) (by decide))
  have ad3:fAdd (.int 1) (.int d) h3 = .ok (.int ((1+d:Nat):Int)) h3:=rfl
  have ln3:=s3.len
  have md3:=ygo (a:=a) il1 h3
  rw [<- ek] at md3
  have ex:ycG (sVar 3) (sOp2 fMod (sVar 5) (yah fLen (yab (sVar 3) sNil))) (sOp2 fAdd (sLit (.int 1)) (yah yaA (yab (sVar 2) (yab (sOp2 fAdd (yaq 0 ybz (sVar 0) sNil) (sLit (.int 1))) sNil)))) (eO v L R kd a none) h2 = .nx (eO v L R kd a none) (h3.set R (.lst ((its.set k (.n (1+d))).map uv))):=by
   refine yfZ (h2:=h3) (i:=.n (1+d)) ?_ rfl ?_ s3.eF hk
   ·show _=Out.ok (AV.int ((1+d:Nat):Int)) h3
    simp only [eO]
    generalize ((ps.length+1:Nat):Int)=P2 at *
    generalize (ps.length:Int)=P0 at *
    generalize ((1+d:Nat):Int)=D1 at *
    simp [ob2,mn,ad2,t3,ad3,-fAdd]
   ·simp only [eO]
    generalize (its.length:Int)=L0 at *
    simp [ln3,md3,-fLen,-fMod]
  have s4:=s3.set (fd2:=its.set k (.n (1+d)))
  refine mk (h3:=h3.set R (.lst ((its.set k (.n (1+d))).map uv))) ?_ s4 (oset _ (.n (by lia))) (by rw [List.length_set];lia)
  simp only [eO] at ex
  clear s0 s1 s2 s3 s4 mk oins lins oset sr S oi eH0 eR F0 eN e5 e6 eq
  generalize h3.set R (.lst ((its.set k (.n (1+d))).map uv))=H9 at *
  unfold yaY
  generalize ycG (sVar 3) (sOp2 fMod (sVar 5) (yah fLen (yab (sVar 3) sNil))) (sOp2 fAdd (sLit (.int 1)) (yah yaA (yab (sVar 2) (yab (sOp2 fAdd (yaq 0 ybz (sVar 0) sNil) (sLit (.int 1))) sNil))))=SX at *
  generalize ((its.length+1:Nat):Int)=L1 at *
  generalize (its.length:Int)=L0 at *
  simp [lm,t1',ln1,ad1,t2,e0,e1,eq',e2,e3,e4,ex,-yb9,-fLen,-fAdd,-fEq]
 rw [decide_eq_false (by lia)] at e4
 by_cases k5:kd=5
 ·rw [decide_eq_true (by lia)] at e5
  obtain ⟨h3,rv,s3⟩:=s2.rev
  refine mk (h3:=h3) ?_ s3 (fun i hi=>oi i (List.mem_reverse.mp hi)) (by rw [List.length_reverse];lia)
  clear s0 s1 s2 s3 mk oins lins oset sr S oi eH0 eR F0 eN e6 eq
  generalize ((its.length+1:Nat):Int)=L1 at *
  generalize (its.length:Int)=L0 at *
  simp [yaY,lm,t1',ln1,ad1,t2,e0,e1,eq',e2,e3,e4,e5,il,rv,-yb9,-fLen,-fAdd,-fEq,-yan,-ydz]
 rw [decide_eq_false (by lia)] at e5
 by_cases k6:kd=6
 ·rw [decide_eq_true (by lia)] at e6
  have ct:=cutU (k:=a) s2.eF
  refine ⟨its.take a,.fl ((its.take a).map uv),none,h2,?_,.fl,fun z=>(by cases z),fun i hi=>oi i (List.mem_of_mem_take hi),by rw [List.length_take];lia,s2.fr,s2.sh⟩
  clear s0 s1 s2 mk oins lins oset sr S oi eH0 eR F0 eN eq
  generalize ((its.length+1:Nat):Int)=L1 at *
  generalize (its.length:Int)=L0 at *
  generalize (its.take a).map uv=TA at *
  simp [yaY,lm,t1',ln1,ad1,t2,e0,e1,eq',e2,e3,e4,e5,e6,ct,-yb9,-fLen,-fAdd,-fEq,-ya4]
 rw [decide_eq_false (by lia)] at e6
 cases u with
 | n j =>
  have ix':fIx (.ref R) (.int k) h2 = .ok (.int j) h2:=ix
  refine mk (h3:=h2) ?_ s2 oi (by lia)
  clear s0 s1 s2 mk oins lins oset sr S oi eH0 eR F0 eN eq
  generalize ((its.length+1:Nat):Int)=L1 at *
  generalize (its.length:Int)=L0 at *
  simp [yaY,lm,t1',ln1,ad1,t2,e0,e1,eq',e2,e3,e4,e5,e6,ln2,md,ix',-yb9,-fLen,-fAdd,-fEq,-fMod,-fIx]
 | s z =>
  have ix':fIx (.ref R) (.int k) h2 = .ok (.str z) h2:=ix
  have oz:ybk z=true:=by
   cases oi _ (List.mem_of_getElem? eu) with
   | s b=>exact b
  obtain ⟨z1,z8,zp⟩:=zao oz
  have cm:=yhP z1 h2
  have ng:=neg1 h2
  have pb:yau "b" = true/\("b" : Str).length=1:=by decide +kernel
  have tl:=yht (x:=z) (a:=z.length-1) (by lia)
  obtain ⟨zb,ezb⟩:∃ zb:Str,zb=tkS z (z.length-1) ++ "b" := ⟨_,rfl⟩
  have ab:fAdd (.str (tkS z (z.length-1))) (.str "b") h2 = .ok (.str zb) h2:=by
   have:(tkS z (z.length-1)).length+("b" : Str).length<=sizeLine:=Nat.le_trans (m:=9) (by lia) (by decide)
   rw [ezb]
   simp only [fAdd,this,if_true]
  have ob:OkJ ps (.s zb):=by
   rw [ezb]
   exact .s (zbt (by rw [zaQ,zeC zp,pb.1];rfl) (by rw [zal];lia) (by rw [zal];lia))
  have ex:ycG (sVar 3) (sOp2 fMod (sVar 5) (yah fLen (yab (sVar 3) sNil))) (sOp2 fAdd (sCut (sVar 6) none (some (sOp1 fNeg (sLit (.int 1))))) (sLit (.str "b"))) (eO v L R kd a (some (.str z))) h2 = .nx (eO v L R kd a (some (.str z))) (h2.set R (.lst ((its.set k (.s zb)).map uv))):=by
   refine yfZ (h2:=h2) (i:=.s zb) ?_ rfl ?_ s2.eF hk
   ·show _=Out.ok (AV.str zb) h2
    simp only [eO]
    generalize tkS z (z.length-1)=TZ at *
    simp [ng,cm,ab,-fAdd,-ya4,-fNeg]
   ·simp only [eO]
    generalize (its.length:Int)=L0 at *
    simp [ln2,md,-fLen,-fMod]
  have s4:=s2.set (fd2:=its.set k (.s zb))
  refine mk (h3:=h2.set R (.lst ((its.set k (.s zb)).map uv))) ?_ s4 (oset _ ob) (by rw [List.length_set];lia)
  simp only [eO] at ex
  clear s0 s1 s2 s4 mk oins lins oset sr S oi eH0 eR F0 eN eq
  generalize h2.set R (.lst ((its.set k (.s zb)).map uv))=H9 at *
  unfold yaY
  generalize ycG (sVar 3) (sOp2 fMod (sVar 5) (yah fLen (yab (sVar 3) sNil))) (sOp2 fAdd (sCut (sVar 6) none (some (sOp1 fNeg (sLit (.int 1))))) (sLit (.str "b")))=SX at *
  generalize ((its.length+1:Nat):Int)=L1 at *
  generalize (its.length:Int)=L0 at *
  simp [lm,t1',ln1,ad1,t2,e0,e1,eq',e2,e3,e4,e5,e6,ln2,md,ix',ex,-yb9,-fLen,-fAdd,-fEq,-fMod,-fIx]
end Sk
namespace Sk
open PySem PySem.Spec L2 Sm
theorem yhQ {h:AH} {p:Nat}:ycd [.ref p,.fl []] h = .ok (.str "") h:=by
 have nn:fNe (.fl []) (.fl []) h = .ok (.bl false) h:=by simp [toD,toDs,PyData.eqv,PyData.eqvAll]
 have wl:∀ n,yaz CN yaN (n+1) [some (.ref p),some (.fl []),none] h = .nx [some (.ref p),some (.fl []),none] h:=fun n=>yeo (by simp [nn,-fNe])
 have wl':yaz CN yaN ya5 [some (.ref p),some (.fl []),none] h = .nx [some (.ref p),some (.fl []),none] h:=wl _
 unfold ycd
 generalize yaz CN yaN ya5=WL at *
 simp [wl']
theorem zid {h:AH} {p:Nat} {ps:List Pc} {i:Un} (S:ShelfAt h p ps) (oi:OkJ ps i):yaR [.ref p,.fl [],uv i] h = .ok (.bl false) h:=by
 have ob:=S.ob
 have nn:fNe (.fl []) (.fl []) h = .ok (.bl false) h:=by simp [toD,toDs,PyData.eqv,PyData.eqvAll]
 cases oi with
 | @n k k1 =>
  by_cases hk:k<=ps.length
  case neg =>
   have hp:yaK [.ref p,.int k] h = .ok (.bl false) h:=by
    rw [yeB S]
    rw [decide_eq_false (by lia)]
   have sh:ybw [.int k] h = .ok (.bl false) h:=by simp [ybw,ycD]
   simp [yaR,ob,hp,sh]
  have hp:yaK [.ref p,.int k] h = .ok (.bl true) h:=by
   rw [yeB S]
   rw [decide_eq_true (by lia)]
  have wl:∀ n,yaz CN yaH (n+1) [some (.ref p),some (.fl []),some (.int k),none] h = .nx [some (.ref p),some (.fl []),some (.int k),none] h:=fun n=>yeo (by simp [nn,-fNe])
  have wl':yaz CN yaH ya5 [some (.ref p),some (.fl []),some (.int k),none] h = .nx [some (.ref p),some (.fl []),some (.int k),none] h:=wl _
  have tp:ybq [.ref p,.fl [],.int k] h = .ok (.bl false) h:=by
   unfold ybq
   generalize yaz CN yaH ya5=WL at *
   simp [wl']
  simp [yaR,ob,hp,tp]
 | @s w a =>
  obtain ⟨w1,w8,_⟩:=zao a
  have hp:yaK [.ref p,.str w] h = .ok (.bl false) h:=by
   simp [yaK,yc4,ob]
  have sh:ybw [.str w] h = .ok (.bl true) h:=by rw [zcE w h (Nat.le_trans w8 (by decide)),a]
  have ne:fNe (.str w) (.str "") h = .ok (.bl true) h:=by
   have : ¬ w = "" := fun q=>by rw [zaN] at q;lia
   simp [this]
  have cn:CP [some (.ref p),some (.fl []),some (.str w),some (.str w),none,none] h = .ok true h:=by simp [ne,-fNe]
  have nx:=yhQ (h:=h) (p:=p)
  have l1:fLen [.str ""] h = .ok (.int 0) h:=rfl
  have l2:fLen [.str w] h = .ok (.int w.length) h:=rfl
  have mn:yds [.int 0,.int w.length] h = .ok (.int 0) h:=by
   have:yds [.int 0,.int w.length] h = .ok (.int (if (w.length:Int)<0 then (w.length:Int) else 0)) h:=rfl
   rw [this,if_neg (by lia)]
  have e0:fEq (.int 0) (.int 0) h = .ok (.bl true) h:=by simp
  have eb:yaJ [some (.ref p),some (.fl []),some (.str w),some (.str w),none,none] h = .rt (.bl false) h:=by
   generalize (w.length:Int)=WL at *
   simp [yaJ,nx,l1,l2,mn,e0,-fLen,-yds,-fEq]
  have wl:∀ n,yaz CP yaJ (n+1) [some (.ref p),some (.fl []),some (.str w),some (.str w),none,none] h = .rt (.bl false) h:=fun n=>yd2 cn eb
  have wl':yaz CP yaJ ya5 [some (.ref p),some (.fl []),some (.str w),some (.str w),none,none] h = .rt (.bl false) h:=wl _
  have tp:ybE [.ref p,.fl [],.str w] h = .ok (.bl false) h:=by
   unfold ybE
   generalize yaz CP yaJ ya5=WL at *
   simp [wl']
  simp [yaR,ob,hp,sh,tp]
theorem yhR {h:AH} {p:Nat} {ps:List Pc} (S:ShelfAt h p ps):ycr [.ref p,.int 0] h = .ok (.fl []) h:=by
 have ck:yaQ [.ref p,.int 0] h = .ok .non h:=zbe S (Nat.zero_le _)
 have t0:fEq (.int 0) (.int 0) h = .ok (.bl true) h:=by simp
 simp [ycr,S.ob,ck,t0,-fEq]
theorem zf4 {h:AH} {p:Nat} {ps:List Pc} {its:List Un} {v:AV} {w:Option Nat} (S:ShelfAt h p ps) (sr:SrcI h its v w) (oi:∀ i∈its,OkJ ps i):ya3 [.ref p,.int 0,v] h = .ok (if its.isEmpty then .fl [] else .non) h:=by
 have wl:=yhR S
 have it:iVal (sVar 2) [some (.ref p),some (.int 0),some v,some (.fl []),none] h = .ok (its.map uv,w) h:=by
  cases sr with
  | ref e=>simp [e]
  | fl =>
   generalize its.map uv=Q at *
   simp
 have fo:=ycJ (t:=.nm 4) (b:=yaI) it
 have lv:=sr.live (hh:=h) (fun _ _=>rfl)
 cases its with
 | nil =>
  have go:ya8 w ([]:List AV) (.nm 4) yaI [] [some (.ref p),some (.int 0),some v,some (.fl []),none] h = .nx [some (.ref p),some (.int 0),some v,some (.fl []),none] h:=by
   unfold ya8
   rw [if_pos (show ybO w [] h=true from lv)]
  have fo' := fo.trans go
  unfold ya3
  generalize sFor (iVal (sVar 2)) (.nm 4) yaI=FF at *
  simp [wl,fo']
 | cons i r =>
  have ti:=zid S (oi i (List.mem_cons_self ..))
  have eb:yaI [some (.ref p),some (.int 0),some v,some (.fl []),some (uv i)] h = .rt .non h:=by
   generalize uv i=UI at *
   simp [yaI,ti]
  have go:ya8 w ((i::r).map uv) (.nm 4) yaI ((i::r).map uv) [some (.ref p),some (.int 0),some v,some (.fl []),none] h = .rt .non h:=by
   rw [List.map_cons] at lv ⊢
   unfold ya8
   rw [if_pos lv]
   have st1:setT (.nm 4) (uv i) [some (.ref p),some (.int 0),some v,some (.fl []),none]=some [some (.ref p),some (.int 0),some v,some (.fl []),some (uv i)]:=rfl
   rw [st1]
   dsimp only
   rw [eb]
  have fo' := fo.trans go
  unfold ya3
  generalize sFor (iVal (sVar 2)) (.nm 4) yaI=FF at *
  simp [wl,fo']
theorem zie {ps:List Pc} {its:List Un} (oi:∀ i∈its,OkJ ps i):(yaB its).isEmpty=its.isEmpty:=by
 cases its with
 | nil=>rfl
 | cons i r =>
  cases i with
  | n k=>rfl
  | s z =>
   cases oi _ (List.mem_cons_self ..) with
   | s a =>
    have z1:=(zao a).1
    rw [zad] at z1
    show (sgl z.cps.toList++yaB r).isEmpty=false
    cases e:z.cps.toList with
    | nil=>rw [e] at z1;exact absurd z1 (by decide)
    | cons c cs=>rfl
theorem zf5 {h:AH} {p:Nat} {ps:List Pc} {its:List Un} {v:AV} {w:Option Nat} (S:ShelfAt h p ps) (sr:SrcI h its v w) (oi:∀ i∈its,OkJ ps i) (hl:its.length<=1000):∃ r:AH,yaO [.ref p,.int 0,v] h = .ok (.bl true) (h++r):=by
 obtain ⟨r,fu⟩:=zf3 sr oi hl
 have kp:∀ (r:AH) (i:Nat),i<h.length->(h++r)[i]? = h[i]? := fun r i hi=>List.getElem?_append_left hi
 refine ⟨AO.lst ((yaB its).map uv)::r,?_⟩
 have eR:(h++AO.lst ((yaB its).map uv)::r)[h.length]? = some (.lst ((yaB its).map uv)):=by simp
 have S1:=S.app (AO.lst ((yaB its).map uv)::r)
 have sr1:=sr.mono (kp (AO.lst ((yaB its).map uv)::r))
 generalize h++AO.lst ((yaB its).map uv)::r=H1 at *
 have fl:=zf4 S1 sr1 oi
 have qU:fEq (.ref h.length) (.fl []) H1 = .ok (.bl its.isEmpty) H1:=by
  show (match eqA (.ref h.length) (.fl []) H1 with | some b=>Out.ok (AV.bl b) H1 | none=>Out.bad)=_
  rw [ydZ eR,zie oi]
 have n1:=zf0 h.length H1
 have q0:=eqi 0 0 H1
 rw [decide_eq_true rfl] at q0
 have eq:=yfY its.isEmpty its.isEmpty H1
 have cp:∀ (b:Bool) (en:En),ya2 [] en none [.bl b,.bl b] sYes (sIsB "bool" (sVar 0)) [.bl b,.bl b] [] H1 = .ok [.bl true,.bl true] H1:=fun b en =>
  zbd (js:=[]) (en:=en) (w:=none) (all:=[.bl b,.bl b]) (e:=sIsB "bool" (sVar 0)) (g:=AV.bl) (f:=fun _=>AV.bl true) (h:=H1) rfl [b,b] [] (fun c _=>rfl) (show (2:Nat)<=sizeLine by decide)
 have qe:fEq (.fl []) (.fl []) H1 = .ok (.bl true) H1:=by simp [toD,toDs,PyData.eqv,PyData.eqvAll]
 have qn:=zeF H1
 have nf:ycq (.fl []) .non H1 = .ok (.bl true) H1:=by
  simp only [ycq]
  rw [decide_eq_false (fun z=>by cases z)];rfl
 have nn:=zeH H1
 generalize h.length=RR at *
 cases z:its.isEmpty with
 | true =>
  rw [z] at fl qU eq
  have fl':ya3 [.ref p,.int 0,v] H1 = .ok (.fl []) H1:=fl
  simp [yaO,yb1,ybU,ya9,fu,n1,q0,qU,fl',qe,nf,eq,cp,-fEq,-fIsN,-ycq]
 | false =>
  rw [z] at fl qU eq
  have fl':ya3 [.ref p,.int 0,v] H1 = .ok .non H1:=fl
  simp [yaO,yb1,ybU,ya9,fu,n1,q0,qU,fl',qn,nn,eq,cp,-fEq,-fIsN,-ycq]
end Sk
namespace Sk
open PySem PySem.Spec L2 Sm
structure Rr (L:Nat) (h:AH) (ps:List Pc):Prop where
 sh:ShelfAt h 0 ps
 gd:Good ps
 far:8<L
 ro:∃ N:Int,h[L]? = some (.lst [.int N])
theorem Rr.fr {L:Nat} {h h':AH} {ps:List Pc} (s:Rr L h ps) (f:Fr L h h'):Rr L h' ps:=by
 have l8:=yaS s.sh.h8
 have fa:=s.far
 exact ⟨s.sh.keep fun i i1 i8=>f.fr i (by lia) (by lia),s.gd,s.far,f.ro⟩
theorem Rr.app {L:Nat} {h:AH} {ps:List Pc} (s:Rr L h ps) (r:AH):Rr L (h++r) ps:=by
 obtain ⟨N,e⟩:=s.ro
 exact ⟨s.sh.app r,s.gd,s.far,N,by rw [List.getElem?_append_left (yaS e)];exact e⟩
theorem Rr.dd {L:Nat} {h h':AH} {ps ps':List Pc} {k:Nat} (s:Rr L h ps) (d:Dd 0 h h' ps ps' k):Rr L h' ps' := by
 obtain ⟨N,e⟩:=s.ro
 have:=s.far
 exact ⟨d.sh,d.gd,s.far,N,(d.fr L (.inr (by lia))).trans e⟩
theorem SrcI.fr {h h':AH} {L:Nat} {its:List Un} {v:AV} {w:Option Nat} (s:SrcI h its v w) (n:v ≠ .ref L) (f:Fr L h h'):SrcI h' its v w:=by
 cases s with
 | @ref B e=>exact .ref ((f.fr B (yaS e) fun z=>n (by rw [z])).trans e)
 | fl=>exact .fl
theorem SrcI.app {h:AH} {its:List Un} {v:AV} {w:Option Nat} (s:SrcI h its v w) (r:AH):SrcI (h++r) its v w:=s.mono fun i hi=>List.getElem?_append_left hi
theorem zdz {h:AH} {p t:Nat} {ps:List Pc} {its:List Un} {v:AV} {w:Option Nat} {x:Str} (S:ShelfAt h p ps) (g:Good ps) (T:TxZ ps t x) (sr:SrcI h its v w) (oi:∀ i∈its,OkJ ps i) (hl:its.length<=1000):∃ r:AH,yaO [.ref p,.int t,v] h = .ok (.bl true) (h++r):=by
 rcases T with ⟨rfl,rfl⟩ | ⟨m,f,l,T⟩
 ·exact zf5 S sr oi hl
 ·exact yhO S g T sr oi hl
abbrev e53 (o0 o2:Option AV) (t L:Nat) (o5 o6 o7 o8 o9 o10:Option AV):En:=[o0,some (.ref 0),o2,some (.int t),some (.ref L),o5,o6,o7,o8,o9,o10]
theorem yiF {h:AH} {t L k:Nat} {ps:List Pc} {its:List Un} {x:Str} {o0 o2 o5 o6 o7 o8:Option AV} (S:ShelfAt h 0 ps) (g:Good ps) (T:TxZ ps k x) (oi:∀ i∈its,OkJ ps i) (hl:its.length<=1000) :
  ∃ r:AH,ydB (e53 o0 o2 t L o5 o6 o7 o8 (some (.fl (its.map uv))) (some (.int k))) h = .nx (e53 o0 o2 t L o5 o6 o7 o8 (some (.fl (its.map uv))) (some (.int k))) (h++r):=by
 obtain ⟨r1,l1⟩:=zdz S g T (.fl (its:=its)) oi hl
 obtain ⟨r2,l2⟩:=zdz (S.app r1) g T (.fl (its:=its)) oi hl
 refine ⟨r1++r2,?_⟩
 rw [<- List.append_assoc]
 simp only [e53]
 generalize h++r1++r2=H2 at *
 generalize h++r1=H1 at *
 generalize its.map uv=Q at *
 simp [ydB,l1,l2]
theorem yhS {h:AH} {its:List Un} {v:AV} {w:Option Nat} (s:SrcI h its v w):fNe (.fl (its.map uv)) v h = .ok (.bl false) h:=by
 cases s with
 | fl=>exact yfW its h
 | @ref B e =>
  have t1:toD 8 h (.fl (its.map uv))=some (.list (its.map ud)):=by
   show (toDs (toD 7 h) (its.map uv)).map PyData.list=_
   rw [zbM];rfl
  have t2:toD 8 h (.ref B)=some (.list (its.map ud)):=by
   show (match h[B]? with | some (.lst xs)=>(toDs (toD 7 h) xs).map PyData.list | _=>none)=_
   rw [e]
   show (toDs (toD 7 h) (its.map uv)).map PyData.list=_
   rw [zbM];rfl
  show (match eqA (.fl (its.map uv)) (.ref B) h with | some b=>Out.ok (AV.bl (!b)) h | none=>Out.bad)=_
  have:eqA (.fl (its.map uv)) (.ref B) h=some true:=by
   show (match toD 8 h (.fl (its.map uv)),toD 8 h (.ref B) with | some d,some e=>some (PyData.eqv d e) | _,_=>none)=_
   rw [t1,t2]
   show some (PyData.eqv (.list _) (.list _))=_
   have:PyData.eqv (.list (its.map ud)) (.list (its.map ud))=PyData.eqvAll (its.map ud) (its.map ud):=by simp [PyData.eqv]
   rw [this,zcJ.mpr rfl]
  rw [this];rfl
theorem yiG {h:AH} {t L:Nat} {ps:List Pc} {its:List Un} {v:AV} {w:Option Nat} {x:Str} {o0 o2 o5 o6 o8 o9 o10:Option AV} (s:Rr L h ps) (T:TxZ ps t x) (sr:SrcI h its v w) (nv:v ≠ .ref L) (oi:∀ i∈its,OkJ ps i) (hl:its.length<=800) (hz:ps.length<=1000000) :
  ∃ (h':AH) (its2:List Un) (v2:AV) (w2:Option Nat) (c9 c10:Option AV),ydC (e53 o0 o2 t L o5 o6 (some v) o8 o9 o10) h = .nx (e53 o0 o2 t L o5 o6 (some v2) o8 c9 c10) h'/\Rr L h' ps/\SrcI h' its2 v2 w2/\v2 ≠ .ref L/\(∀ i∈its2,OkJ ps i)/\its2.length<=its.length+1:=by
 have li:yek [v] h = .ok (.fl (its.map uv)) h:=by
  cases sr with
  | ref e=>simp only [yek,e]
  | fl=>rfl
 obtain ⟨e',h1,r1,r2⟩:=ydw (w:=none) (all:=[.int t,.int 0]) (t:=.nm 10) (b:=ydB) (xs:=[.int t,.int 0]) (en:=e53 o0 o2 t L o5 o6 (some v) o8 (some (.fl (its.map uv))) o10) (h:=h)
  (fun j en hh=>(∃ r,hh=h++r)/\∃ c10,en=e53 o0 o2 t L o5 o6 (some v) o8 (some (.fl (its.map uv))) c10)
  ⟨⟨[],by simp⟩,o10,rfl⟩ (fun _ _ _ _=>rfl) (by
   rintro j u en hh hu ⟨⟨r,rfl⟩,c10,rfl⟩
   obtain ⟨k,y,rfl,Tk⟩:∃ (k:Nat) (y:Str),u = .int k/\TxZ ps k y:=by
    match j,hu with
    | 0,hu=>cases hu;exact ⟨t,x,rfl,T⟩
    | 1,hu=>cases hu;exact ⟨0, "",rfl,.inl ⟨rfl,rfl⟩⟩
    | j+2,hu=>cases hu
   obtain ⟨r2,ev⟩:=yiF (t:=t) (L:=L) (o0:=o0) (o2:=o2) (o5:=o5) (o6:=o6) (o7:=some v) (o8:=o8) (s.app r).sh s.gd Tk oi (by lia)
   show thn (ydB (e53 o0 o2 t L o5 o6 (some v) o8 (some (.fl (its.map uv))) (some (.int k))) (h++r)) _
   rw [ev]
   exact ⟨⟨r++r2,by rw [List.append_assoc]⟩,_,rfl⟩)
 obtain ⟨⟨r,rfl⟩,c10,rfl⟩:=r2
 have it:iVal (sLst (yab (sVar 3) (yab (sLit (.int 0)) sNil))) (e53 o0 o2 t L o5 o6 (some v) o8 (some (.fl (its.map uv))) o10) h = .ok ([.int t,.int 0],none) h:=by
  simp [e53]
 have l1:=(ycJ (t:=.nm 10) (b:=ydB) it).trans r1
 have s1:=s.app r
 have sr1:=sr.app r
 have ne:=yhS sr1
 obtain ⟨its2,v2,w2,h',f,sr2,nv2,oi2,hl2,F2,S2⟩:=zic s1.sh s1.far s1.ro sr1 oi hl hz
 refine ⟨h',its2,v2,w2,some (.fl (its.map uv)),c10,?_,s1.fr F2,sr2,nv2,oi2,hl2⟩
 clear r1 it s s1 sr sr1 sr2 T oi oi2 F2 S2
 simp only [e53] at *
 unfold ydC
 generalize sFor (iVal (sLst (yab (sVar 3) (yab (sLit (.int 0)) sNil)))) (.nm 10) ydB=L1 at *
 generalize h++r=H1 at *
 generalize its.map uv=Q at *
 simp [li,l1,ne,f,-yek,-fNe]
theorem yiH {h:AH} {t L:Nat} {ps:List Pc} {x:Str} {o0 o2 o5 o6 o7 o8 o9 o10:Option AV} (s:Rr L h ps) (T:TxZ ps t x) (lx:x.length<=100) (hz:ps.length<=1000000) :
  ∃ (h':AH) (c7 c8 c9 c10:Option AV),ydD (e53 o0 o2 t L o5 o6 o7 o8 o9 o10) h = .nx (e53 o0 o2 t L o5 o6 c7 c8 c9 c10) h'/\Rr L h' ps:=by
 obtain ⟨its,h1,f1,eI,F1,S1,oi,li,z0,z1⟩:=zhe s.sh s.gd s.far s.ro T lx
 have R1:=s.fr F1
 obtain ⟨N0,eN⟩:=s.ro
 have hL:=yaS eN
 obtain ⟨fd,h2,f2,eF,F2,S2,ef,of,lf⟩:=zib R1.sh R1.far R1.ro eI (by lia) oi (by lia)
 have R2:=R1.fr F2
 have oj:∀ i∈fd,OkJ ps i:=fun i hi=>(of i hi).j
 obtain ⟨A,eA⟩:∃ A,A=h1.length:=⟨_,rfl⟩
 rw [<- eA] at f2 eF
 have AL:A≠L:=by have:=F1.hl;lia
 have sr:SrcI h2 fd (.ref A) (some A):=.ref eF
 have sb:∃ r3 r4:AH,ybU [.ref 0,.int t,.ref A] h2 = .ok (.bl true) (h2++r3)/\ya9 [.ref 0,.int t,.ref A] (h2++r3) = .ok (.bl true) (h2++r3++r4):=by
  rcases T with ⟨rfl,rfl⟩ | ⟨m,f,l,T⟩
  ·have i0:=z0 rfl
   have fd0:fd=[]:=List.length_eq_zero_iff.mp (by rw [i0] at lf;exact Nat.le_zero.mp lf)
   have fl:=zf4 R2.sh sr oj
   rw [fd0] at fl
   have fl':ya3 [.ref 0,.int 0,.ref A] h2 = .ok (.fl []) h2:=fl
   have qe:fEq (.fl []) (.fl []) h2 = .ok (.bl true) h2:=by simp [toD,toDs,PyData.eqv,PyData.eqvAll]
   have nf:ycq (.fl []) .non h2 = .ok (.bl true) h2:=by
    simp only [ycq]
    rw [decide_eq_false (fun z=>by cases z)];rfl
   refine ⟨[],[],?_,?_⟩
   ·rw [List.append_nil]
    have z:ybU [.ref 0,.int ((0:Nat):Int),.ref A] h2=ybU [.ref 0,.int 0,.ref A] h2:=rfl
    rw [z]
    simp [ybU,fl',qe,-fEq]
   ·rw [List.append_nil,List.append_nil]
    have z:ya9 [.ref 0,.int ((0:Nat):Int),.ref A] h2=ya9 [.ref 0,.int 0,.ref A] h2:=rfl
    rw [z]
    simp [ya9,fl',nf,-ycq]
  ·have lb:lbF ps fd [.n t]=some []:=by
    rw [zbN R2.gd fd (yfa T) oj,ef]
    exact z1 (by have:=T.n1;lia)
   obtain ⟨o3,b,g1,hb⟩:=zeG R2.sh R2.gd T sr oj
   obtain ⟨o4,c,g2,hc⟩:=zeI (R2.app [o3]).sh R2.gd T (sr.app [o3]) oj
   have bt:=hb.mpr lb
   have ct:=hc.mpr (by rw [lb];exact fun z=>(by cases z))
   subst bt ct
   exact ⟨[o3],[o4],g1,g2⟩
 obtain ⟨r3,r4,g1,g2⟩:=sb
 have R4:=(R2.app r3).app r4
 have sr4:=(sr.app r3).app r4
 obtain ⟨H4,eH4⟩:∃ H4,H4=h2++r3++r4:=⟨_,rfl⟩
 rw [<- eH4] at R4 sr4 g2
 obtain ⟨e',h5,r5,r6⟩:=ydw (w:=none) (all:=ybb 0 4) (t:=.nm 8) (b:=ydC) (xs:=ybb 0 4) (en:=e53 o0 o2 t L o5 o6 (some (.ref A)) o8 o9 o10) (h:=H4)
  (fun j en hh=>j<=4->∃ (its:List Un) (v:AV) (w:Option Nat) (c8 c9 c10:Option AV),en=e53 o0 o2 t L o5 o6 (some v) c8 c9 c10/\Rr L hh ps/\SrcI hh its v w/\v ≠ .ref L/\(∀ i∈its,OkJ ps i)/\its.length<=100+j)
  (fun _=>⟨fd,.ref A,some A,o8,o9,o10,rfl,R4,sr4,fun z=>by injection z with z;exact AL z,oj,by lia⟩) (fun _ _ _ _=>rfl) (by
   intro j u en hh hu hp
   by_cases q:j<4
   ·obtain ⟨its,v,w,c8,c9,c10,rfl,Rj,sj,nj,oj,lj⟩:=hp (by lia)
    obtain ⟨h',its2,v2,w2,d9,d10,ev,R',s',n',o',l'⟩:=yiG (o0:=o0) (o2:=o2) (o5:=o5) (o6:=o6) (o8:=some u) (o9:=c9) (o10:=c10) Rj T sj nj oj (by lia) hz
    show thn (ydC (e53 o0 o2 t L o5 o6 (some v) (some u) c9 c10) hh) _
    rw [ev]
    exact fun _=>⟨its2,v2,w2,_,d9,d10,rfl,R',s',n',o',by lia⟩
   ·rw [zcl,if_neg q] at hu;cases hu)
 rw [zbn] at r6
 obtain ⟨its9,v9,w9,c8,c9,c10,rfl,R9,_⟩:=r6 (Nat.le_refl _)
 have it:yb2 (sLit (.int 4)) (e53 o0 o2 t L o5 o6 (some (.ref A)) o8 o9 o10) H4 = .ok (ybb 0 4,none) H4:=zby (n:=4) rfl (by decide)
 have l1:=(ycJ (t:=.nm 8) (b:=ydC) it).trans r5
 refine ⟨h5,some v9,c8,c9,c10,?_,R9⟩
 clear r5 it s R1 R2 R4 R9 sr sr4 T oi of oj F1 F2 S1 S2 eI eF eN ef eH4 z0 z1
 simp only [e53] at *
 unfold ydD
 generalize sFor (yb2 (sLit (.int 4))) (.nm 8) ydC=L1 at *
 generalize h2++r3=H3 at *
 generalize h.length=HL at *
 simp [f1,f2,g1,g2,l1]
end Sk
namespace Sk
open PySem PySem.Spec L2 Sm
theorem law_true (ns:List Int) (hl:ns.length<=63):∃ h',yfl [.fl (ns.map AV.int)] [] = .ok (.bl true) h' := by
 have mk:=yhp [some (.fl (ns.map AV.int)),none,none,none,none,none,none,none,none,none,none] []
 have l0:([]:AH).length=0:=rfl
 rw [l0,List.nil_append] at mk
 have S0:ShelfAt (ydl 0) 0 []:=by have:=yhq [] [];simpa using this
 obtain ⟨N0,s0⟩:=zc7 ns hl 0 (by decide) (ydl 0)
 have s0':ybm [.fl (ns.map AV.int),.int 0] (ydl 0) = .ok (.ref 9) (ydl 0++[.lst [.int N0]]):=s0
 have e1:(ydl 0++[AO.lst [.int N0]])[9]? = some (.lst [.int N0]):=rfl
 have n1:(ydl 0++[AO.lst [.int N0]]).length=10:=rfl
 have S1:ShelfAt (ydl 0++[AO.lst [.int N0]]) 0 []:=S0.app _
 generalize ydl 0++[AO.lst [.int N0]]=H1 at *
 obtain ⟨y,N2,p2,py,ly⟩:=zdY 40 (by decide) e1
 have p2':yb0 [.ref 9,.int 40] H1 = .ok (.str y) (H1.set 9 (.lst [.int N2])):=p2
 have S2:ShelfAt (H1.set 9 (.lst [.int N2])) 0 []:=zaD S1 (by decide) _
 have n2:(H1.set 9 (.lst [.int N2])).length=10:=by rw [List.length_set,n1]
 generalize H1.set 9 (.lst [.int N2])=H2 at *
 obtain ⟨N3,s3⟩:=zc7 ns hl 1 (by decide) H2
 have s3':ybm [.fl (ns.map AV.int),.int 1] H2 = .ok (.ref 10) (H2++[.lst [.int N3]]):=by rw [<- n2];exact s3
 have S3:ShelfAt (H2++[.lst [.int N3]]) 0 []:=S2.app _
 have e3:(H2++[AO.lst [.int N3]])[10]? = some (.lst [.int N3]):=by rw [<- n2];simp
 generalize H2++[AO.lst [.int N3]]=H3 at *
 obtain ⟨n,ps,H4,f4,G4,T4⟩:=yhK S3 .nil (show 0+8<10 by decide) ⟨N3,e3⟩ py ly (by decide)
 have z4:ps.length<=60000:=Nat.le_trans G4.len (by show 0+60000<=_;lia)
 obtain ⟨N5,s5⟩:=zc7 ns hl 2 (by decide) H4
 obtain ⟨L,eL⟩:∃ L,L=H4.length:=⟨_,rfl⟩
 rw [<- eL] at s5
 have l8:=yaS G4.sh.h8
 have R5:Rr L (H4++[.lst [.int N5]]) ps:=⟨G4.sh.app _,G4.gd,by lia,N5,by rw [eL];simp⟩
 have s5':ybm [.fl (ns.map AV.int),.int 2] H4 = .ok (.ref L) (H4++[.lst [.int N5]]):=s5
 generalize H4++[AO.lst [.int N5]]=H5 at *
 have fm:=ye4 R5.sh
 have ob5:=R5.sh.ob
 obtain ⟨sc,esc⟩:∃ sc:Option AV,sc=some (.fl (ns.map AV.int)):=⟨_,rfl⟩
 obtain ⟨e',H6,r1,r2⟩:=ydw (w:=none) (all:=ybb 0 5) (t:=.nm 6) (b:=ydD) (xs:=ybb 0 5) (en:=e53 sc (some (.str y)) n L (some (.int ps.length)) none none none none none) (h:=H5)
  (fun j en hh=>∃ (o6 o7 o8 o9 o10:Option AV),en=e53 sc (some (.str y)) n L (some (.int ps.length)) o6 o7 o8 o9 o10/\Rr L hh ps)
  ⟨none,none,none,none,none,rfl,R5⟩ (fun _ _ _ _=>rfl) (by
   rintro j u en hh hu ⟨o6,o7,o8,o9,o10,rfl,Rj⟩
   obtain ⟨h',c7,c8,c9,c10,ev,R'⟩:=yiH (o0:=sc) (o2:=some (.str y)) (o5:=some (.int ps.length)) (o6:=some u) (o7:=o7) (o8:=o8) (o9:=o9) (o10:=o10) Rj T4 (by lia) (by lia)
   show thn (ydD (e53 sc (some (.str y)) n L (some (.int ps.length)) (some u) o7 o8 o9 o10) hh) _
   rw [ev]
   exact ⟨_,_,_,_,_,rfl,R'⟩)
 obtain ⟨o6,o7,o8,o9,o10,rfl,R6⟩:=r2
 have it:yb2 (sLit (.int 5)) (e53 sc (some (.str y)) n L (some (.int ps.length)) none none none none none) H5 = .ok (ybb 0 5,none) H5:=zby (n:=5) rfl (by decide)
 have l1:=(ycJ (t:=.nm 6) (b:=ydD) it).trans r1
 obtain ⟨r7,k7⟩:=zdz R6.sh R6.gd T4 (.fl (its:=[])) (fun i hi=>(by cases hi)) (by decide)
 have R7:=R6.app r7
 obtain ⟨r8,k8⟩:=zf5 R7.sh (.fl (its:=[])) (fun i hi=>(by cases hi)) (by decide)
 have R8:=R7.app r8
 have k7':yaO [.ref 0,.int n,.fl []] H6 = .ok (.bl true) (H6++r7):=k7
 have k8':yaO [.ref 0,.int 0,.fl []] (H6++r7) = .ok (.bl true) (H6++r7++r8):=k8
 have fm8:=ye4 R8.sh
 have ob8:=R8.sh.ob
 have q8:=eqi ps.length ps.length (H6++r7++r8)
 rw [decide_eq_true rfl] at q8
 refine ⟨H6++r7++r8,?_⟩
 clear S0 S1 S2 S3 G4 T4 R5 R6 R7 R8 r1 it s0 s3 s5 e1 e3 k7 k8
 subst esc
 simp only [e53] at l1
 generalize H6++r7++r8=H8 at *
 generalize H6++r7=H7 at *
 unfold yfl
 generalize sFor (yb2 (sLit (.int 5))) (.nm 6) ydD=L1 at *
 generalize yeM 0 8 ycY sNil=MK at *
 generalize ydl 0=HN at *
 generalize (ps.length:Int)=PL at *
 generalize ns.map AV.int=ZN at *
 simp [mk,s0',p2',s3',f4,s5',ob5,fm,l1,k7',k8',ob8,fm8,q8,-fEq]
end Sk
namespace Sk
open PySem PySem.Spec L2 Sm
theorem zf6:bootBuiltins "list" = some (.type "list"):=by decide +kernel
def top (i:Nat):Stmt:=PySem.Challenge.pw_skeinwood_k53_spells_just.main.body.getD i (.Pass ⟨0,0,0,0⟩)
abbrev ycs:Stmt:=ybB (top 28) 0
abbrev yc8:Stmt:=top 44
abbrev ycL:Stmt:=top 45
abbrev yc9:Stmt:=top 3
abbrev ybC:Stmt:=ybB (top 28) 11
abbrev ybl:Stmt:=ybB (top 28) 12
abbrev ybs:Stmt:=ybB (top 28) 14
abbrev ycM:Stmt:=ybB (top 28) 17
abbrev ybH:Stmt:=ybB (top 28) 16
abbrev yct:Stmt:=ybB (top 28) 2
abbrev ydE:Stmt:=top 40
abbrev ybQ:Stmt:=top 5
abbrev ycF:Stmt:=top 4
abbrev yda:Stmt:=top 6
abbrev ydn:Stmt:=top 7
abbrev ybI:Stmt:=ybB (top 28) 15
abbrev ycu:Stmt:=ybB (top 28) 1
abbrev ydF:Stmt:=top 31
abbrev yb6:Stmt:=top 32
abbrev ybt:Stmt:=ybB (top 28) 13
abbrev ycg:Stmt:=ybB (top 28) 5
abbrev ybD:Stmt:=ybB (top 28) 10
abbrev ybu:Stmt:=ybB (top 28) 9
abbrev ycN:Stmt:=top 33
abbrev ych:Stmt:=ybB (top 28) 4
abbrev ycO:Stmt:=top 38
abbrev yb7:Stmt:=ybB (top 28) 8
abbrev yci:Stmt:=top 35
abbrev ybR:Stmt:=top 39
abbrev yb8:Stmt:=top 36
abbrev ydG:Stmt:=top 34
abbrev ydH:Stmt:=top 37
abbrev ydI:Stmt:=top 30
abbrev ydb:Stmt:=top 46
abbrev ycP:Stmt:=top 42
abbrev ycf:Stmt:=top 43
abbrev ycv:Stmt:=ybB (top 28) 3
abbrev ycw:Stmt:=top 48
abbrev yco:Stmt:=top 49
abbrev ycp:Stmt:=top 50
abbrev ydo:Stmt:=top 51
abbrev ycx:Stmt:=top 12
abbrev ycy:Stmt:=top 17
abbrev ycj:Stmt:=top 14
abbrev ycz:Stmt:=top 16
abbrev ycQ:Stmt:=top 18
abbrev yck:Stmt:=top 15
abbrev ycA:Stmt:=top 13
abbrev ycl:Stmt:=top 11
abbrev ydJ:Stmt:=top 9
abbrev ycm:Stmt:=top 10
abbrev ybr:Stmt:=top 52
abbrev ybV:Stmt:=top 47
abbrev ycB:Stmt:=top 53
abbrev yed:Stmt:=top 54
def flds:Nat->List Str
 | 0=>["pieces", "numbers", "sign_counts", "end_counts", "leaf_counts", "heights", "first_leaves", "last_leaves"]
 | _=>[]
theorem zjo:∀ c,(flds c).Nodup
 | 0=>by decide +kernel
 | _+1=>List.nodup_nil
theorem zif:∀ c,(flds c).length<=500
 | 0=>by decide +kernel
 | _+1=>Nat.zero_le _
abbrev mkT (K:PySem.W.Frag) (cls exc:Nat->Option Addr):Tb:=⟨K,cls,exc,flds,zjo,zif⟩
structure Facts (P:Program) (w:World) (K:PySem.W.Frag) (cls exc:Nat->Option Addr) (mg:Str->Option Value) (base:Heap):Prop where
 b_abs:mg "abs" = none
 b_all:mg "all" = none
 b_bool:mg "bool" = none
 b_int:mg "int" = none
 b_isinstance:mg "isinstance" = none
 b_len:mg "len" = none
 b_list:mg "list" = none
 b_max:mg "max" = none
 b_min:mg "min" = none
 b_range:mg "range" = none
 b_reversed:mg "reversed" = none
 b_str:mg "str" = none
 b_sum:mg "sum" = none
 c_LEAF_SIGNS:∃ t,mg "LEAF_SIGNS" = some (.int 8 t)
 c_MOST_PLAIN:∃ t,mg "MOST_PLAIN" = some (.int 10000 t)
 c_MOST_SIGNS:∃ t,mg "MOST_SIGNS" = some (.int 1000000000000000000 t)
 cf_Shelf:CF (mkT K cls exc) 0
 x_NoText:GX (mkT K cls exc) mg base 1 "NoText"
 x_NoPiece:GX (mkT K cls exc) mg base 2 "NoPiece"
 x_Loose:GX (mkT K cls exc) mg base 3 "Loose"
 x_Unlevel:GX (mkT K cls exc) mg base 4 "Unlevel"
 x_TooLong:GX (mkT K cls exc) mg base 5 "TooLong"
 d_Shelf_init:∃ C f fd,cls 0=some C/\mg "Shelf" = some (.ref C)/\Mk K C f/\Binds K fd ["self"] []/\Fun K "__init__" "Shelf.__init__" ycs f fd
 d_law_take:DG K mg "_law_take" yc8 ["stream", "many"]
 d_law_plain:DG K mg "_law_plain" ycL ["stream", "most"]
 d_is_whole:DG K mg "is_whole" yc9 ["thing"]
 d_Shelf_has_piece:∃ C f fd,cls 0=some C/\Cls K C/\Meth K C "has_piece" f/\Binds K fd ["self", "number"] []/\Fun K "has_piece" "Shelf.has_piece" ybC f fd
 d_Shelf_check_piece:∃ C f fd,cls 0=some C/\Cls K C/\Meth K C "check_piece" f/\Binds K fd ["self", "number"] []/\Fun K "check_piece" "Shelf.check_piece" ybl f fd
 d_Shelf_check_fork:∃ C f fd,cls 0=some C/\Cls K C/\Meth K C "check_fork" f/\Binds K fd ["self", "one", "other"] []/\Fun K "check_fork" "Shelf.check_fork" ybs f fd
 d_Shelf_lay:∃ C f fd,cls 0=some C/\Cls K C/\Meth K C "lay" f/\Binds K fd ["self", "made"] []/\Fun K "lay" "Shelf.lay" ycM f fd
 d_Shelf_lay_fork:∃ C f fd,cls 0=some C/\Cls K C/\Meth K C "lay_fork" f/\Binds K fd ["self", "made"] []/\Fun K "lay_fork" "Shelf.lay_fork" ybH f fd
 d_Shelf_fork:∃ C f fd,cls 0=some C/\Cls K C/\Meth K C "fork" f/\Binds K fd ["self", "one", "other"] []/\Fun K "fork" "Shelf.fork" yct f fd
 d_halved:DG K mg "halved" ydE ["shelf", "leaves"]
 d_is_plain_sign:DG K mg "is_plain_sign" ybQ ["sign"]
 d_is_plain:DG K mg "is_plain" ycF ["thing"]
 d_is_short:DG K mg "is_short" yda ["thing"]
 d_ends_in:DG K mg "ends_in" ydn ["plain"]
 d_Shelf_lay_leaf:∃ C f fd,cls 0=some C/\Cls K C/\Meth K C "lay_leaf" f/\Binds K fd ["self", "made"] []/\Fun K "lay_leaf" "Shelf.lay_leaf" ybI f fd
 d_Shelf_leaf:∃ C f fd,cls 0=some C/\Cls K C/\Meth K C "leaf" f/\Binds K fd ["self", "plain"] []/\Fun K "leaf" "Shelf.leaf" ycu f fd
 d_built:DG K mg "built" ydF ["shelf", "plain"]
 d_check_length:DG K mg "check_length" yb6 ["signs"]
 d_Shelf_check_text:∃ C f fd,cls 0=some C/\Cls K C/\Meth K C "check_text" f/\Binds K fd ["self", "text"] []/\Fun K "check_text" "Shelf.check_text" ybt f fd
 d_Shelf_signs:∃ C f fd,cls 0=some C/\Cls K C/\Meth K C "signs" f/\Binds K fd ["self", "text"] []/\Fun K "signs" "Shelf.signs" ycg f fd
 d_Shelf_last_leaf:∃ C f fd,cls 0=some C/\Cls K C/\Meth K C "last_leaf" f/\Binds K fd ["self", "text"] []/\Fun K "last_leaf" "Shelf.last_leaf" ybD f fd
 d_Shelf_first_leaf:∃ C f fd,cls 0=some C/\Cls K C/\Meth K C "first_leaf" f/\Binds K fd ["self", "text"] []/\Fun K "first_leaf" "Shelf.first_leaf" ybu f fd
 d_are_close:DG K mg "are_close" ycN ["shelf", "one", "other"]
 d_Shelf_piece:∃ C f fd,cls 0=some C/\Cls K C/\Meth K C "piece" f/\Binds K fd ["self", "number"] []/\Fun K "piece" "Shelf.piece" ych f fd
 d_with_last:DG K mg "with_last" ycO ["shelf", "text", "leaf"]
 d_Shelf_height:∃ C f fd,cls 0=some C/\Cls K C/\Meth K C "height" f/\Binds K fd ["self", "text"] []/\Fun K "height" "Shelf.height" yb7 f fd
 d_turned_left:DG K mg "turned_left" yci ["shelf", "one", "other"]
 d_without_first:DG K mg "without_first" ybR ["shelf", "text"]
 d_turned_right:DG K mg "turned_right" yb8 ["shelf", "one", "other"]
 d_linked:DG K mg "linked" ydG ["shelf", "one", "other"]
 d_welded:DG K mg "welded" ydH ["shelf", "one", "other"]
 d_joined:DG K mg "joined" ydI ["shelf", "one", "other"]
 d_law_made:DG K mg "_law_made" ydb ["shelf", "stream", "plain"]
 d_law_mixed:DG K mg "_law_mixed" ycP ["cell", "k"]
 d_law_stream:DG K mg "_law_stream" ycf ["script", "k"]
 d_Shelf_many:∃ C f fd,cls 0=some C/\Cls K C/\Meth K C "many" f/\Binds K fd ["self"] []/\Fun K "many" "Shelf.many" ycv f fd
 d_law_poured:DG K mg "_law_poured" ycw ["items", "stream"]
 d_law_units:DG K mg "_law_units" yco ["items"]
 d_law_after:DG K mg "_law_after" ycp ["shelf", "text", "units", "at"]
 d_law_due:DG K mg "_law_due" ydo ["shelf", "text", "items"]
 d_whole_left:DG K mg "whole_left" ycx ["shelf", "text"]
 d_opens_fork:DG K mg "opens_fork" ycy ["shelf", "left", "first"]
 d_takes_piece:DG K mg "takes_piece" ycj ["shelf", "left", "number"]
 d_next_signs:DG K mg "next_signs" ycz ["shelf", "left"]
 d_puts_back:DG K mg "puts_back" ycQ ["left", "signs"]
 d_takes_plain:DG K mg "takes_plain" yck ["shelf", "left", "plain"]
 d_takes_item:DG K mg "takes_item" ycA ["shelf", "left", "item"]
 d_left_behind:DG K mg "left_behind" ycl ["shelf", "text", "items"]
 d_spells:DG K mg "spells" ydJ ["shelf", "text", "items"]
 d_begins_text:DG K mg "begins_text" ycm ["shelf", "text", "items"]
 d_law_look_right:DG K mg "_law_look_right" ybr ["shelf", "text", "items"]
 d_law_spelled:DG K mg "_law_spelled" ybV ["shelf", "text", "stream"]
 d_law_spoilt:DG K mg "_law_spoilt" ycB ["shelf", "items", "stream"]
 d_law:DG K mg "law" yed ["script"]
theorem zd6:FnScope ["self"] ["self"] (yad ycs):=⟨rfl,rfl,rfl,by decide +kernel,rfl,by decide +kernel,by decide +kernel⟩
theorem zeK {P:Program} {w:World} {K:PySem.W.Frag} {cls exc:Nat->Option Addr} {mg:Str->Option Value} {base:Heap} (Z:Facts P w K cls exc mg base):GK P w (mkT K cls exc) mg base 1 0 "Shelf" ycY:=by
 obtain ⟨C0,f,fd,h0,h1,h2,h3,h4⟩:=Z.d_Shelf_init
 refine ⟨C0,f,fd,_,h0,h1,h2,h3,okA h4 rfl zd6 fun cdv A outer s H E hr C=>?_⟩
 have hu:=hu64 hr
 exact (zab (zaT rfl Z.cf_Shelf (yaa 0) (ybX yac))
  (zab (zaT rfl Z.cf_Shelf (yaa 0) ziO)
  (zab (zaT rfl Z.cf_Shelf (yaa 0) (ybX (zaa yag yac)))
  (zab (zaT rfl Z.cf_Shelf (yaa 0) (ybX (zaa yag yac)))
  (zab (zaT rfl Z.cf_Shelf (yaa 0) (ybX (zaa yag yac)))
  (zab (zaT rfl Z.cf_Shelf (yaa 0) (ybX (zaa (ydU yag) yac)))
  (zab (zaT rfl Z.cf_Shelf (yaa 0) (ybX (zaa yag yac)))
  (yae (zaT rfl Z.cf_Shelf (yaa 0) (ybX (zaa yag yac)))))))))))
theorem zcS:FnScope ["stream", "many", "digit"] ["stream", "many"] (yad yc8):=⟨rfl,rfl,rfl,by decide +kernel,rfl,by decide +kernel,by decide +kernel⟩
theorem zaw {P:Program} {w:World} {K:PySem.W.Frag} {cls exc:Nat->Option Addr} {mg:Str->Option Value} {base:Heap} (Z:Facts P w K cls exc mg base):GF P w (mkT K cls exc) mg base 1 "_law_take" yaA:=by
 obtain ⟨f,fd,h1,h2,h3,h4⟩:=Z.d_law_take
 refine ⟨f,fd,_,h1,h2,h3,okA h4 rfl zcS fun cdv A outer s H E hr C=>?_⟩
 have hu:=hu64 hr
 exact (zab (yao (i:=2) zcS.nd (yav ydj (r_ix rfl hu (yaa 0) yag) (yaa 1)))
  (zab (zcD hu (yaa 0) yag (yav yga (r_ix rfl hu (yaa 0) yag) (yaa 1)))
  (yae (yaj (yaa 2)))))
theorem zaG:FnScope ["stream", "most", "letters", "wide", "signs", "plain", "k"] ["stream", "most"] (yad ycL):=⟨rfl,rfl,rfl,by decide +kernel,rfl,by decide +kernel,by decide +kernel⟩
theorem zcT {P:Program} {w:World} {K:PySem.W.Frag} {cls exc:Nat->Option Addr} {mg:Str->Option Value} {base:Heap} (Z:Facts P w K cls exc mg base):GF P w (mkT K cls exc) mg base 2 "_law_plain" yb0:=by
 obtain ⟨f,fd,h1,h2,h3,h4⟩:=Z.d_law_plain
 refine ⟨f,fd,_,h1,h2,h3,okA h4 rfl zaG fun cdv A outer s H E hr C=>?_⟩
 have hu:=hu64 hr
 exact (zab (yao (i:=2) zaG.nd ya1)
  (zab (yao (i:=3) zaG.nd (yav (ya7 rfl) (yav (ya7 rfl) (yaa 2) (yem rfl PySem.F.plainAttrs_str PySem.F.slot_str_upper PySem.F.type_str_upper (ziZ) zft (yaa 2))) ya1))
  (zab (yao (i:=4) zaG.nd (r_ix rfl hu (ybP (zaa ya1 (zaa ya1 (zaa ya1 (zaa ya1 (zaa (yaa 3) yac)))))) (yak rfl C (zaw Z) (hr.mono (show 1<=1 by decide)) rfl (zaa (yaa 0) (zaa yag yac)))))
  (zab (yao (i:=5) zaG.nd ya1)
  (zab (ydu rfl (zbx (E:=EN) rfl Z.b_range (yak rfl (C.nox) (zaw Z) (hr.mono (show 1<=1 by decide)) rfl (zaa (yaa 0) (zaa (yav (ya7 rfl) (yaa 1) yag) yac)))) (zaI (i:=6) zaG.nd) (yae (yao (i:=5) zaG.nd (yav (ya7 rfl) (yaa 5) (r_ix rfl hu (yaa 4) (yak rfl (C.nox) (zaw Z) (hr.mono (show 1<=1 by decide)) rfl (zaa (yaa 0) (zaa (r_bi (b_len rfl) rfl Z.b_len PySem.boot_len (zaa (yaa 4) yac)) yac))))))))
  (yae (yaj (yaa 5))))))))
theorem ze2:FnScope ["thing"] ["thing"] (yad yc9):=⟨rfl,rfl,rfl,by decide +kernel,rfl,by decide +kernel,by decide +kernel⟩
theorem zgv {P:Program} {w:World} {K:PySem.W.Frag} {cls exc:Nat->Option Addr} {mg:Str->Option Value} {base:Heap} (Z:Facts P w K cls exc mg base):GF P w (mkT K cls exc) mg base 1 "is_whole" yc4:=by
 obtain ⟨f,fd,h1,h2,h3,h4⟩:=Z.d_is_whole
 refine ⟨f,fd,_,h1,h2,h3,okA h4 rfl ze2 fun cdv A outer s H E hr C=>?_⟩
 have hu:=hu64 hr
 exact (yae (yaj (yd0 (yc2 rfl rfl Z.b_isinstance (yaa 0) rfl Z.b_int yeV (by decide)) (ydV (yil (yc2 rfl rfl Z.b_isinstance (yaa 0) rfl Z.b_bool zdq (by decide)))))))
theorem zcq:FnScope ["self", "number"] ["self", "number"] (yad ybC):=⟨rfl,rfl,rfl,by decide +kernel,rfl,by decide +kernel,by decide +kernel⟩
theorem zbk {P:Program} {w:World} {K:PySem.W.Frag} {cls exc:Nat->Option Addr} {mg:Str->Option Value} {base:Heap} (Z:Facts P w K cls exc mg base):GM P w (mkT K cls exc) mg base 2 0 "has_piece" yaK:=by
 obtain ⟨C0,f,fd,h0,hc,h1,h3,h4⟩:=Z.d_Shelf_has_piece
 refine ⟨⟨C0,f,fd,_,h0,hc,h1,h3,okA h4 rfl zcq fun cdv A outer s H E hr C=>?_⟩,(show ("has_piece" : Str)∉flds 0 from by decide +kernel)⟩
 have hu:=hu64 hr
 exact (yae (yaj (yd0 (yak rfl C (zgv Z) (hr.mono (show 1<=1 by decide)) rfl (zaa (yaa 1) yac)) (ydV (zdt o_le o_le yag (yaa 1) (r_bi (b_len rfl) rfl Z.b_len PySem.boot_len (zaa (yaM rfl Z.cf_Shelf (yaa 0)) yac)))))))
theorem zb4:FnScope ["self", "number"] ["self", "number"] (yad ybl):=⟨rfl,rfl,rfl,by decide +kernel,rfl,by decide +kernel,by decide +kernel⟩
theorem zaH {P:Program} {w:World} {K:PySem.W.Frag} {cls exc:Nat->Option Addr} {mg:Str->Option Value} {base:Heap} (Z:Facts P w K cls exc mg base):GM P w (mkT K cls exc) mg base 3 0 "check_piece" ybe:=by
 obtain ⟨C0,f,fd,h0,hc,h1,h3,h4⟩:=Z.d_Shelf_check_piece
 refine ⟨⟨C0,f,fd,_,h0,hc,h1,h3,okA h4 rfl zb4 fun cdv A outer s H E hr C=>?_⟩,(show ("check_piece" : Str)∉flds 0 from by decide +kernel)⟩
 have hu:=hu64 hr
 exact (yae (r_if (ycX (zan rfl (yar rfl C (zbk Z) (hr.mono (show 2<=2 by decide)) (yaa 0) (zaa (yaa 1) yac)))) (yae (za6 Z.x_NoPiece za5 rfl (zaa ya1 yac))) yay))
theorem zbb:FnScope ["self", "one", "other", "seam"] ["self", "one", "other"] (yad ybs):=⟨rfl,rfl,rfl,by decide +kernel,rfl,by decide +kernel,by decide +kernel⟩
theorem zcr {P:Program} {w:World} {K:PySem.W.Frag} {cls exc:Nat->Option Addr} {mg:Str->Option Value} {base:Heap} (Z:Facts P w K cls exc mg base):GM P w (mkT K cls exc) mg base 4 0 "check_fork" ybc:=by
 obtain ⟨C0,f,fd,h0,hc,h1,h3,h4⟩:=Z.d_Shelf_check_fork
 refine ⟨⟨C0,f,fd,_,h0,hc,h1,h3,okA h4 rfl zbb fun cdv A outer s H E hr C=>?_⟩,(show ("check_fork" : Str)∉flds 0 from by decide +kernel)⟩
 have hu:=hu64 hr
 exact (zab (yaE (yar rfl C (zaH Z) (hr.mono (show 3<=3 by decide)) (yaa 0) (zaa (yaa 1) yac)))
  (zab (yaE (yar rfl C (zaH Z) (hr.mono (show 3<=3 by decide)) (yaa 0) (zaa (yaa 2) yac)))
  (zab (yao (i:=3) zbb.nd (yav (ya7 rfl) (r_ix rfl hu (yaM rfl Z.cf_Shelf (yaa 0)) (r_ix rfl hu (yaM rfl Z.cf_Shelf (yaa 0)) (yaa 1))) (r_ix rfl hu (yaM rfl Z.cf_Shelf (yaa 0)) (r_ix rfl hu (yaM rfl Z.cf_Shelf (yaa 0)) (yaa 2)))))
  (zab (r_if (yap o_le (yaa 3) (r_gI rfl Z.c_LEAF_SIGNS) (yai _)) (yae (za6 Z.x_Loose za5 rfl (zaa ya1 yac))) yay)
  (zab (r_if (yap o_gt (r_bi (b_abs) rfl Z.b_abs PyProof.Rows.boot_abs (zaa (yav yev (r_ix rfl hu (yaM rfl Z.cf_Shelf (yaa 0)) (yaa 1)) (r_ix rfl hu (yaM rfl Z.cf_Shelf (yaa 0)) (yaa 2))) yac)) yag (yai _)) (yae (za6 Z.x_Unlevel za5 rfl (zaa ya1 yac))) yay)
  (yae (r_if (yap o_gt (yav (ya7 rfl) (r_ix rfl hu (yaM rfl Z.cf_Shelf (yaa 0)) (yaa 1)) (r_ix rfl hu (yaM rfl Z.cf_Shelf (yaa 0)) (yaa 2))) (r_gI rfl Z.c_MOST_SIGNS) (yai _)) (yae (za6 Z.x_TooLong za5 rfl (zaa ya1 yac))) yay)))))))
theorem zcs:FnScope ["self", "made", "number"] ["self", "made"] (yad ycM):=⟨rfl,rfl,rfl,by decide +kernel,rfl,by decide +kernel,by decide +kernel⟩
theorem zcU {P:Program} {w:World} {K:PySem.W.Frag} {cls exc:Nat->Option Addr} {mg:Str->Option Value} {base:Heap} (Z:Facts P w K cls exc mg base):GM P w (mkT K cls exc) mg base 1 0 "lay" ydd:=by
 obtain ⟨C0,f,fd,h0,hc,h1,h3,h4⟩:=Z.d_Shelf_lay
 refine ⟨⟨C0,f,fd,_,h0,hc,h1,h3,okA h4 rfl zcs fun cdv A outer s H E hr C=>?_⟩,(show ("lay" : Str)∉flds 0 from by decide +kernel)⟩
 have hu:=hu64 hr
 exact (zab (yaE (r_bm rfl PySem.F.plainAttrs_list PySem.F.slot_list_append PySem.F.type_list_append (zam) zae (yaM rfl Z.cf_Shelf (yaa 0)) (zaa (yaa 1) yac)))
  (zab (yao (i:=2) zcs.nd (r_bi (b_len rfl) rfl Z.b_len PySem.boot_len (zaa (yaM rfl Z.cf_Shelf (yaa 0)) yac)))
  (zab (zcD hu (yaM rfl Z.cf_Shelf (yaa 0)) (yaa 1) (yaa 2))
  (yae (yaj (yaa 2))))))
theorem za0:FnScope ["self", "made", "one", "other"] ["self", "made"] (yad ybH):=⟨rfl,rfl,rfl,by decide +kernel,rfl,by decide +kernel,by decide +kernel⟩
theorem zc8 {P:Program} {w:World} {K:PySem.W.Frag} {cls exc:Nat->Option Addr} {mg:Str->Option Value} {base:Heap} (Z:Facts P w K cls exc mg base):GM P w (mkT K cls exc) mg base 2 0 "lay_fork" yca:=by
 obtain ⟨C0,f,fd,h0,hc,h1,h3,h4⟩:=Z.d_Shelf_lay_fork
 refine ⟨⟨C0,f,fd,_,h0,hc,h1,h3,okA h4 rfl za0 fun cdv A outer s H E hr C=>?_⟩,(show ("lay_fork" : Str)∉flds 0 from by decide +kernel)⟩
 have hu:=hu64 hr
 exact (zab (yaE (yar rfl C (zcU Z) (hr.mono (show 1<=1 by decide)) (yaa 0) (zaa (yaa 1) yac)))
  (zab (yao (i:=2) za0.nd (r_ix rfl hu (yaa 1) yag))
  (zab (yao (i:=3) za0.nd (r_ix rfl hu (yaa 1) yag))
  (zab (yaE (r_bm rfl PySem.F.plainAttrs_list PySem.F.slot_list_append PySem.F.type_list_append (zam) zae (yaM rfl Z.cf_Shelf (yaa 0)) (zaa (yav (ya7 rfl) (r_ix rfl hu (yaM rfl Z.cf_Shelf (yaa 0)) (yaa 2)) (r_ix rfl hu (yaM rfl Z.cf_Shelf (yaa 0)) (yaa 3))) yac)))
  (zab (yaE (r_bm rfl PySem.F.plainAttrs_list PySem.F.slot_list_append PySem.F.type_list_append (zam) zae (yaM rfl Z.cf_Shelf (yaa 0)) (zaa (yav (ya7 rfl) (r_ix rfl hu (yaM rfl Z.cf_Shelf (yaa 0)) (yaa 2)) (r_ix rfl hu (yaM rfl Z.cf_Shelf (yaa 0)) (yaa 3))) yac)))
  (zab (yaE (r_bm rfl PySem.F.plainAttrs_list PySem.F.slot_list_append PySem.F.type_list_append (zam) zae (yaM rfl Z.cf_Shelf (yaa 0)) (zaa (yav (ya7 rfl) (r_ix rfl hu (yaM rfl Z.cf_Shelf (yaa 0)) (yaa 2)) (r_ix rfl hu (yaM rfl Z.cf_Shelf (yaa 0)) (yaa 3))) yac)))
  (zab (yaE (r_bm rfl PySem.F.plainAttrs_list PySem.F.slot_list_append PySem.F.type_list_append (zam) zae (yaM rfl Z.cf_Shelf (yaa 0)) (zaa (yav (ya7 rfl) (r_bi (yhf) rfl Z.b_max PyProof.Rows.boot_max (zaa (r_ix rfl hu (yaM rfl Z.cf_Shelf (yaa 0)) (yaa 2)) (zaa (r_ix rfl hu (yaM rfl Z.cf_Shelf (yaa 0)) (yaa 3)) yac))) yag) yac)))
  (zab (yaE (r_bm rfl PySem.F.plainAttrs_list PySem.F.slot_list_append PySem.F.type_list_append (zam) zae (yaM rfl Z.cf_Shelf (yaa 0)) (zaa (r_ix rfl hu (yaM rfl Z.cf_Shelf (yaa 0)) (yaa 2)) yac)))
  (yae (yaE (r_bm rfl PySem.F.plainAttrs_list PySem.F.slot_list_append PySem.F.type_list_append (zam) zae (yaM rfl Z.cf_Shelf (yaa 0)) (zaa (r_ix rfl hu (yaM rfl Z.cf_Shelf (yaa 0)) (yaa 3)) yac))))))))))))
theorem zb7:FnScope ["self", "one", "other", "made"] ["self", "one", "other"] (yad yct):=⟨rfl,rfl,rfl,by decide +kernel,rfl,by decide +kernel,by decide +kernel⟩
theorem zai {P:Program} {w:World} {K:PySem.W.Frag} {cls exc:Nat->Option Addr} {mg:Str->Option Value} {base:Heap} (Z:Facts P w K cls exc mg base):GM P w (mkT K cls exc) mg base 5 0 "fork" yaf:=by
 obtain ⟨C0,f,fd,h0,hc,h1,h3,h4⟩:=Z.d_Shelf_fork
 refine ⟨⟨C0,f,fd,_,h0,hc,h1,h3,okA h4 rfl zb7 fun cdv A outer s H E hr C=>?_⟩,(show ("fork" : Str)∉flds 0 from by decide +kernel)⟩
 have hu:=hu64 hr
 exact (zab (yaE (yar rfl C (zcr Z) (hr.mono (show 4<=4 by decide)) (yaa 0) (zaa (yaa 1) (zaa (yaa 2) yac))))
  (zab (yao (i:=3) zb7.nd (ygc (zaa ya1 (zaa (yaa 1) (zaa (yaa 2) yac)))))
  (zab (r_if (yap (zfs rfl hu) (yaa 3) (yaM rfl Z.cf_Shelf (yaa 0)) rfl) (yae (yaE (yar rfl C (zc8 Z) (hr.mono (show 2<=4 by decide)) (yaa 0) (zaa (yaa 3) yac)))) yay)
  (yae (yaj (r_ix rfl hu (yaM rfl Z.cf_Shelf (yaa 0)) (yaa 3)))))))
theorem zct:FnScope ["shelf", "leaves", "middle"] ["shelf", "leaves"] (yad ydE):=⟨rfl,rfl,rfl,by decide +kernel,rfl,by decide +kernel,by decide +kernel⟩
theorem zc9 {P:Program} {w:World} {K:PySem.W.Frag} {cls exc:Nat->Option Addr} {mg:Str->Option Value} {base:Heap} (Z:Facts P w K cls exc mg base):∀ d,GF P w (mkT K cls exc) mg base (5+d+1) "halved" (ycb d)
 | 0=>by
  obtain ⟨f,fd,h1,h2,h3,h4⟩:=Z.d_halved
  refine ⟨f,fd,_,h1,h2,h3,okA h4 rfl zct fun cdv A outer s H E hr C=>?_⟩
  exact yeh
 | d+1=>by
  obtain ⟨f,fd,h1,h2,h3,h4⟩:=Z.d_halved
  refine ⟨f,fd,_,h1,h2,h3,okA h4 rfl zct fun cdv A outer s H E hr C=>?_⟩
  have hu:=hu64 hr
  exact (zab (r_if (yap (o_eq rfl hu) (r_bi (b_len rfl) rfl Z.b_len PySem.boot_len (zaa (yaa 1) yac)) yag (yai _)) (yae (yaj (r_ix rfl hu (yaa 1) yag))) yay)
  (zab (yao (i:=2) zct.nd (yav yga (r_bi (b_len rfl) rfl Z.b_len PySem.boot_len (zaa (yaa 1) yac)) yag))
  (yae (yaj (yar rfl C (zai Z) (hr.mono (show 5<=5+(d+1) by lia)) (yaa 0) (zaa (yak rfl C (zc9 Z d) (hr.mono (by lia)) rfl (zaa (yaa 0) (zaa (zaE rfl (yaa 1) zaM (zaz (yaa 2))) yac))) (zaa (yak rfl C (zc9 Z d) (hr.mono (by lia)) rfl (zaa (yaa 0) (zaa (zaE rfl (yaa 1) (zaz (yaa 2)) zaM) yac))) yac)))))))
theorem zda:FnScope ["sign"] ["sign"] (yad ybQ):=⟨rfl,rfl,rfl,by decide +kernel,rfl,by decide +kernel,by decide +kernel⟩
theorem zdj {P:Program} {w:World} {K:PySem.W.Frag} {cls exc:Nat->Option Addr} {mg:Str->Option Value} {base:Heap} (Z:Facts P w K cls exc mg base):GF P w (mkT K cls exc) mg base 1 "is_plain_sign" ycn:=by
 obtain ⟨f,fd,h1,h2,h3,h4⟩:=Z.d_is_plain_sign
 refine ⟨f,fd,_,h1,h2,h3,okA h4 rfl zda fun cdv A outer s H E hr C=>?_⟩
 have hu:=hu64 hr
 exact (yae (yaj (r_or (yc1 (o_eq rfl hu) (yaa 0) ya1 (yai _)) (ydV (zdt o_le o_le ya1 (yaa 0) ya1)))))
theorem ze3:FnScope ["thing"] ["thing"] (yad ycF):=⟨rfl,rfl,rfl,by decide +kernel,rfl,by decide +kernel,by decide +kernel⟩
theorem zdk {P:Program} {w:World} {K:PySem.W.Frag} {cls exc:Nat->Option Addr} {mg:Str->Option Value} {base:Heap} (Z:Facts P w K cls exc mg base):GF P w (mkT K cls exc) mg base 2 "is_plain" ycD:=by
 obtain ⟨f,fd,h1,h2,h3,h4⟩:=Z.d_is_plain
 refine ⟨f,fd,_,h1,h2,h3,okA h4 rfl ze3 fun cdv A outer s H E hr C=>?_⟩
 have hu:=hu64 hr
 exact (zab (r_if (ycX (zan rfl (yc2 rfl rfl Z.b_isinstance (yaa 0) rfl Z.b_str ydN (by decide)))) (yae (yaj r_bl)) yay)
  (yae (yaj (r_bi (b_all rfl) rfl Z.b_all PyProof.Rows.boot_all (zaa (yey (jf:=[]) (zaU (N:=["thing"]) (sc:=yad ycF) rfl (fun _=>rfl) (by decide +kernel)) rfl (ycH (E:=(fun _=>E)) rfl (yaa 0)) (fun _ _ _ _ _=>zbc) (fun _ _ _ _ _=>(yak rfl (CA.never rfl) (zdj Z) (hr.mono (show 1<=1 by decide)) rfl (zaa (yaa 0) yac)))) yac)))))
theorem ze4:FnScope ["thing"] ["thing"] (yad yda):=⟨rfl,rfl,rfl,by decide +kernel,rfl,by decide +kernel,by decide +kernel⟩
theorem zdl {P:Program} {w:World} {K:PySem.W.Frag} {cls exc:Nat->Option Addr} {mg:Str->Option Value} {base:Heap} (Z:Facts P w K cls exc mg base):GF P w (mkT K cls exc) mg base 3 "is_short" ybw:=by
 obtain ⟨f,fd,h1,h2,h3,h4⟩:=Z.d_is_short
 refine ⟨f,fd,_,h1,h2,h3,okA h4 rfl ze4 fun cdv A outer s H E hr C=>?_⟩
 have hu:=hu64 hr
 exact (yae (yaj (yd0 (yak rfl C (zdk Z) (hr.mono (show 2<=2 by decide)) rfl (zaa (yaa 0) yac)) (ydV (zdt o_le o_le yag (r_bi (b_len rfl) rfl Z.b_len PySem.boot_len (zaa (yaa 0) yac)) (r_gI rfl Z.c_LEAF_SIGNS))))))
theorem zgw:FnScope ["plain"] ["plain"] (yad ydn):=⟨rfl,rfl,rfl,by decide +kernel,rfl,by decide +kernel,by decide +kernel⟩
theorem zhf {P:Program} {w:World} {K:PySem.W.Frag} {cls exc:Nat->Option Addr} {mg:Str->Option Value} {base:Heap} (Z:Facts P w K cls exc mg base):GF P w (mkT K cls exc) mg base 1 "ends_in" yd1:=by
 obtain ⟨f,fd,h1,h2,h3,h4⟩:=Z.d_ends_in
 refine ⟨f,fd,_,h1,h2,h3,okA h4 rfl zgw fun cdv A outer s H E hr C=>?_⟩
 have hu:=hu64 hr
 exact (yae (yaj (r_bm rfl PySem.F.plainAttrs_str PySem.F.slot_str_count PySem.F.type_str_count (zhT) zft (yaa 0) (zaa ya1 yac))))
theorem za1:FnScope ["self", "made", "number", "plain"] ["self", "made"] (yad ybI):=⟨rfl,rfl,rfl,by decide +kernel,rfl,by decide +kernel,by decide +kernel⟩
theorem zdb {P:Program} {w:World} {K:PySem.W.Frag} {cls exc:Nat->Option Addr} {mg:Str->Option Value} {base:Heap} (Z:Facts P w K cls exc mg base):GM P w (mkT K cls exc) mg base 2 0 "lay_leaf" ycc:=by
 obtain ⟨C0,f,fd,h0,hc,h1,h3,h4⟩:=Z.d_Shelf_lay_leaf
 refine ⟨⟨C0,f,fd,_,h0,hc,h1,h3,okA h4 rfl za1 fun cdv A outer s H E hr C=>?_⟩,(show ("lay_leaf" : Str)∉flds 0 from by decide +kernel)⟩
 have hu:=hu64 hr
 exact (zab (yao (i:=2) za1.nd (yar rfl C (zcU Z) (hr.mono (show 1<=1 by decide)) (yaa 0) (zaa (yaa 1) yac)))
  (zab (yao (i:=3) za1.nd (r_ix rfl hu (yaa 1) yag))
  (zab (yaE (r_bm rfl PySem.F.plainAttrs_list PySem.F.slot_list_append PySem.F.type_list_append (zam) zae (yaM rfl Z.cf_Shelf (yaa 0)) (zaa (r_bi (b_len rfl) rfl Z.b_len PySem.boot_len (zaa (yaa 3) yac)) yac)))
  (zab (yaE (r_bm rfl PySem.F.plainAttrs_list PySem.F.slot_list_append PySem.F.type_list_append (zam) zae (yaM rfl Z.cf_Shelf (yaa 0)) (zaa (yak rfl C (zhf Z) (hr.mono (show 1<=1 by decide)) rfl (zaa (yaa 3) yac)) yac)))
  (zab (yaE (r_bm rfl PySem.F.plainAttrs_list PySem.F.slot_list_append PySem.F.type_list_append (zam) zae (yaM rfl Z.cf_Shelf (yaa 0)) (zaa yag yac)))
  (zab (yaE (r_bm rfl PySem.F.plainAttrs_list PySem.F.slot_list_append PySem.F.type_list_append (zam) zae (yaM rfl Z.cf_Shelf (yaa 0)) (zaa yag yac)))
  (zab (yaE (r_bm rfl PySem.F.plainAttrs_list PySem.F.slot_list_append PySem.F.type_list_append (zam) zae (yaM rfl Z.cf_Shelf (yaa 0)) (zaa (yaa 2) yac)))
  (yae (yaE (r_bm rfl PySem.F.plainAttrs_list PySem.F.slot_list_append PySem.F.type_list_append (zam) zae (yaM rfl Z.cf_Shelf (yaa 0)) (zaa (yaa 2) yac)))))))))))
theorem zb8:FnScope ["self", "plain", "made"] ["self", "plain"] (yad ycu):=⟨rfl,rfl,rfl,by decide +kernel,rfl,by decide +kernel,by decide +kernel⟩
theorem zcu {P:Program} {w:World} {K:PySem.W.Frag} {cls exc:Nat->Option Addr} {mg:Str->Option Value} {base:Heap} (Z:Facts P w K cls exc mg base):GM P w (mkT K cls exc) mg base 4 0 "leaf" ya6:=by
 obtain ⟨C0,f,fd,h0,hc,h1,h3,h4⟩:=Z.d_Shelf_leaf
 refine ⟨⟨C0,f,fd,_,h0,hc,h1,h3,okA h4 rfl zb8 fun cdv A outer s H E hr C=>?_⟩,(show ("leaf" : Str)∉flds 0 from by decide +kernel)⟩
 have hu:=hu64 hr
 exact (zab (r_if (ycX (zan rfl (yak rfl C (zdl Z) (hr.mono (show 3<=3 by decide)) rfl (zaa (yaa 1) yac)))) (yae (za6 Z.x_NoText za5 rfl (zaa ya1 yac))) yay)
  (zab (yao (i:=2) zb8.nd (ygc (zaa ya1 (zaa (yaa 1) yac))))
  (zab (r_if (yap (zfs rfl hu) (yaa 2) (yaM rfl Z.cf_Shelf (yaa 0)) rfl) (yae (yaE (yar rfl C (zdb Z) (hr.mono (show 2<=3 by decide)) (yaa 0) (zaa (yaa 2) yac)))) yay)
  (yae (yaj (r_ix rfl hu (yaM rfl Z.cf_Shelf (yaa 0)) (yaa 2)))))))
theorem zeL:FnScope ["shelf", "plain", "leaves"] ["shelf", "plain"] (yad ydF):=⟨rfl,rfl,rfl,by decide +kernel,rfl,by decide +kernel,by decide +kernel⟩
theorem zdA {P:Program} {w:World} {K:PySem.W.Frag} {cls exc:Nat->Option Addr} {mg:Str->Option Value} {base:Heap} (Z:Facts P w K cls exc mg base):GF P w (mkT K cls exc) mg base 27 "built" ydA:=by
 obtain ⟨f,fd,h1,h2,h3,h4⟩:=Z.d_built
 refine ⟨f,fd,_,h1,h2,h3,okA h4 rfl zeL fun cdv A outer s H E hr C=>?_⟩
 have hu:=hu64 hr
 exact (zab (r_if (ycX (zan rfl (yak rfl C (zdk Z) (hr.mono (show 2<=26 by decide)) rfl (zaa (yaa 1) yac)))) (yae (za6 Z.x_NoText za5 rfl (zaa ya1 yac))) yay)
  (zab (r_if (yap o_gt (r_bi (b_len rfl) rfl Z.b_len PySem.boot_len (zaa (yaa 1) yac)) (r_gI rfl Z.c_MOST_PLAIN) (yai _)) (yae (za6 Z.x_TooLong za5 rfl (zaa ya1 yac))) yay)
  (zab (r_if (yap (o_eq rfl hu) (yaa 1) ya1 (yai _)) (yae (yaj yag)) yay)
  (zab (ziR (jf:=[(0, "shelf"),(1, "plain")]) (zaU (N:=["shelf", "plain", "leaves"]) (sc:=yad ydF) rfl (fun _=>rfl) (by decide +kernel)) rfl (zdS (E:=(fun _=>E)) rfl Z.b_range yag (r_bi (b_len rfl) rfl Z.b_len PySem.boot_len (zaa (yaa 1) yac)) (r_gI rfl Z.c_LEAF_SIGNS)) (fun _ _ _ _ _=>zbc) (fun _ _ _ _ _=>(yar rfl (CA.never rfl) (zcu Z) (hr.mono (show 4<=26 by decide)) (yaa 1) (zaa (zaE rfl (yaa 2) (zaz (yaa 0)) (zaz (yav (ya7 rfl) (yaa 0) (r_gI rfl Z.c_LEAF_SIGNS)))) yac))) zeL.nd (i:=2))
  (yae (yaj (yak rfl C (zc9 Z 20) (hr.mono (show 26<=26 by decide)) rfl (zaa (yaa 0) (zaa (yaa 2) yac)))))))))
theorem zdm:FnScope ["signs"] ["signs"] (yad yb6):=⟨rfl,rfl,rfl,by decide +kernel,rfl,by decide +kernel,by decide +kernel⟩
theorem zdB {P:Program} {w:World} {K:PySem.W.Frag} {cls exc:Nat->Option Addr} {mg:Str->Option Value} {base:Heap} (Z:Facts P w K cls exc mg base):GF P w (mkT K cls exc) mg base 1 "check_length" yc5:=by
 obtain ⟨f,fd,h1,h2,h3,h4⟩:=Z.d_check_length
 refine ⟨f,fd,_,h1,h2,h3,okA h4 rfl zdm fun cdv A outer s H E hr C=>?_⟩
 have hu:=hu64 hr
 exact (yae (r_if (yap o_gt (yaa 0) (r_gI rfl Z.c_MOST_SIGNS) (yai _)) (yae (za6 Z.x_TooLong za5 rfl (zaa ya1 yac))) yay))
theorem zce:FnScope ["self", "text"] ["self", "text"] (yad ybt):=⟨rfl,rfl,rfl,by decide +kernel,rfl,by decide +kernel,by decide +kernel⟩
theorem zaC {P:Program} {w:World} {K:PySem.W.Frag} {cls exc:Nat->Option Addr} {mg:Str->Option Value} {base:Heap} (Z:Facts P w K cls exc mg base):GM P w (mkT K cls exc) mg base 4 0 "check_text" yaQ:=by
 obtain ⟨C0,f,fd,h0,hc,h1,h3,h4⟩:=Z.d_Shelf_check_text
 refine ⟨⟨C0,f,fd,_,h0,hc,h1,h3,okA h4 rfl zce fun cdv A outer s H E hr C=>?_⟩,(show ("check_text" : Str)∉flds 0 from by decide +kernel)⟩
 have hu:=hu64 hr
 exact (yae (r_if (yap (o_ne rfl hu) (yaa 1) yag (yai _)) (yae (yaE (yar rfl C (zaH Z) (hr.mono (show 3<=3 by decide)) (yaa 0) (zaa (yaa 1) yac)))) yay))
theorem zdC:FnScope ["self", "text"] ["self", "text"] (yad ycg):=⟨rfl,rfl,rfl,by decide +kernel,rfl,by decide +kernel,by decide +kernel⟩
theorem za3 {P:Program} {w:World} {K:PySem.W.Frag} {cls exc:Nat->Option Addr} {mg:Str->Option Value} {base:Heap} (Z:Facts P w K cls exc mg base):GM P w (mkT K cls exc) mg base 5 0 "signs" ybo:=by
 obtain ⟨C0,f,fd,h0,hc,h1,h3,h4⟩:=Z.d_Shelf_signs
 refine ⟨⟨C0,f,fd,_,h0,hc,h1,h3,okA h4 rfl zdC fun cdv A outer s H E hr C=>?_⟩,(show ("signs" : Str)∉flds 0 from by decide +kernel)⟩
 have hu:=hu64 hr
 exact (zab (yaE (yar rfl C (zaC Z) (hr.mono (show 4<=4 by decide)) (yaa 0) (zaa (yaa 1) yac)))
  (yae (yaj (r_ix rfl hu (yaM rfl Z.cf_Shelf (yaa 0)) (yaa 1)))))
theorem zcv:FnScope ["self", "text"] ["self", "text"] (yad ybD):=⟨rfl,rfl,rfl,by decide +kernel,rfl,by decide +kernel,by decide +kernel⟩
theorem zbl {P:Program} {w:World} {K:PySem.W.Frag} {cls exc:Nat->Option Addr} {mg:Str->Option Value} {base:Heap} (Z:Facts P w K cls exc mg base):GM P w (mkT K cls exc) mg base 5 0 "last_leaf" ybY:=by
 obtain ⟨C0,f,fd,h0,hc,h1,h3,h4⟩:=Z.d_Shelf_last_leaf
 refine ⟨⟨C0,f,fd,_,h0,hc,h1,h3,okA h4 rfl zcv fun cdv A outer s H E hr C=>?_⟩,(show ("last_leaf" : Str)∉flds 0 from by decide +kernel)⟩
 have hu:=hu64 hr
 exact (zab (yaE (yar rfl C (zaC Z) (hr.mono (show 4<=4 by decide)) (yaa 0) (zaa (yaa 1) yac)))
  (yae (yaj (r_ix rfl hu (yaM rfl Z.cf_Shelf (yaa 0)) (yaa 1)))))
theorem zcf:FnScope ["self", "text"] ["self", "text"] (yad ybu):=⟨rfl,rfl,rfl,by decide +kernel,rfl,by decide +kernel,by decide +kernel⟩
theorem zbi {P:Program} {w:World} {K:PySem.W.Frag} {cls exc:Nat->Option Addr} {mg:Str->Option Value} {base:Heap} (Z:Facts P w K cls exc mg base):GM P w (mkT K cls exc) mg base 5 0 "first_leaf" ybL:=by
 obtain ⟨C0,f,fd,h0,hc,h1,h3,h4⟩:=Z.d_Shelf_first_leaf
 refine ⟨⟨C0,f,fd,_,h0,hc,h1,h3,okA h4 rfl zcf fun cdv A outer s H E hr C=>?_⟩,(show ("first_leaf" : Str)∉flds 0 from by decide +kernel)⟩
 have hu:=hu64 hr
 exact (zab (yaE (yar rfl C (zaC Z) (hr.mono (show 4<=4 by decide)) (yaa 0) (zaa (yaa 1) yac)))
  (yae (yaj (r_ix rfl hu (yaM rfl Z.cf_Shelf (yaa 0)) (yaa 1)))))
theorem zeM:FnScope ["shelf", "one", "other"] ["shelf", "one", "other"] (yad ycN):=⟨rfl,rfl,rfl,by decide +kernel,rfl,by decide +kernel,by decide +kernel⟩
theorem ze5 {P:Program} {w:World} {K:PySem.W.Frag} {cls exc:Nat->Option Addr} {mg:Str->Option Value} {base:Heap} (Z:Facts P w K cls exc mg base):GF P w (mkT K cls exc) mg base 6 "are_close" ydK:=by
 obtain ⟨f,fd,h1,h2,h3,h4⟩:=Z.d_are_close
 refine ⟨f,fd,_,h1,h2,h3,okA h4 rfl zeM fun cdv A outer s H E hr C=>?_⟩
 have hu:=hu64 hr
 exact (yae (yaj (yc1 o_gt (yav (ya7 rfl) (yar rfl C (za3 Z) (hr.mono (show 5<=5 by decide)) (yaa 0) (zaa (yar rfl C (zbl Z) (hr.mono (show 5<=5 by decide)) (yaa 0) (zaa (yaa 1) yac)) yac)) (yar rfl C (za3 Z) (hr.mono (show 5<=5 by decide)) (yaa 0) (zaa (yar rfl C (zbi Z) (hr.mono (show 5<=5 by decide)) (yaa 0) (zaa (yaa 2) yac)) yac))) (r_gI rfl Z.c_LEAF_SIGNS) (yai _))))
theorem zdD:FnScope ["self", "number"] ["self", "number"] (yad ych):=⟨rfl,rfl,rfl,by decide +kernel,rfl,by decide +kernel,by decide +kernel⟩
theorem zah {P:Program} {w:World} {K:PySem.W.Frag} {cls exc:Nat->Option Addr} {mg:Str->Option Value} {base:Heap} (Z:Facts P w K cls exc mg base):GM P w (mkT K cls exc) mg base 4 0 "piece" yaC:=by
 obtain ⟨C0,f,fd,h0,hc,h1,h3,h4⟩:=Z.d_Shelf_piece
 refine ⟨⟨C0,f,fd,_,h0,hc,h1,h3,okA h4 rfl zdD fun cdv A outer s H E hr C=>?_⟩,(show ("piece" : Str)∉flds 0 from by decide +kernel)⟩
 have hu:=hu64 hr
 exact (zab (yaE (yar rfl C (zaH Z) (hr.mono (show 3<=3 by decide)) (yaa 0) (zaa (yaa 1) yac)))
  (yae (yaj (r_ix rfl hu (yaM rfl Z.cf_Shelf (yaa 0)) (yav yev (yaa 1) yag)))))
theorem zbu:FnScope ["shelf", "text", "leaf", "piece"] ["shelf", "text", "leaf"] (yad ycO):=⟨rfl,rfl,rfl,by decide +kernel,rfl,by decide +kernel,by decide +kernel⟩
theorem zcV {P:Program} {w:World} {K:PySem.W.Frag} {cls exc:Nat->Option Addr} {mg:Str->Option Value} {base:Heap} (Z:Facts P w K cls exc mg base):∀ d,GF P w (mkT K cls exc) mg base (5+d+1) "with_last" (ybh d)
 | 0=>by
  obtain ⟨f,fd,h1,h2,h3,h4⟩:=Z.d_with_last
  refine ⟨f,fd,_,h1,h2,h3,okA h4 rfl zbu fun cdv A outer s H E hr C=>?_⟩
  exact yeh
 | d+1=>by
  obtain ⟨f,fd,h1,h2,h3,h4⟩:=Z.d_with_last
  refine ⟨f,fd,_,h1,h2,h3,okA h4 rfl zbu fun cdv A outer s H E hr C=>?_⟩
  have hu:=hu64 hr
  exact (zab (yao (i:=3) zbu.nd (yar rfl C (zah Z) (hr.mono (show 4<=5+(d+1) by lia)) (yaa 0) (zaa (yaa 1) yac)))
  (zab (r_if (yap (o_eq rfl hu) (r_ix rfl hu (yaa 3) yag) ya1 (yai _)) (yae (yaj (yaa 2))) yay)
  (yae (yaj (yar rfl C (zai Z) (hr.mono (show 5<=5+(d+1) by lia)) (yaa 0) (zaa (r_ix rfl hu (yaa 3) yag) (zaa (yak rfl C (zcV Z d) (hr.mono (by lia)) rfl (zaa (yaa 0) (zaa (r_ix rfl hu (yaa 3) yag) (zaa (yaa 2) yac)))) yac)))))))
theorem zdn:FnScope ["self", "text"] ["self", "text"] (yad yb7):=⟨rfl,rfl,rfl,by decide +kernel,rfl,by decide +kernel,by decide +kernel⟩
theorem zaq {P:Program} {w:World} {K:PySem.W.Frag} {cls exc:Nat->Option Addr} {mg:Str->Option Value} {base:Heap} (Z:Facts P w K cls exc mg base):GM P w (mkT K cls exc) mg base 5 0 "height" yaW:=by
 obtain ⟨C0,f,fd,h0,hc,h1,h3,h4⟩:=Z.d_Shelf_height
 refine ⟨⟨C0,f,fd,_,h0,hc,h1,h3,okA h4 rfl zdn fun cdv A outer s H E hr C=>?_⟩,(show ("height" : Str)∉flds 0 from by decide +kernel)⟩
 have hu:=hu64 hr
 exact (zab (yaE (yar rfl C (zaC Z) (hr.mono (show 4<=4 by decide)) (yaa 0) (zaa (yaa 1) yac)))
  (yae (yaj (r_ix rfl hu (yaM rfl Z.cf_Shelf (yaa 0)) (yaa 1)))))
theorem zaO:FnScope ["shelf", "one", "other", "piece", "near", "far", "inner"] ["shelf", "one", "other"] (yad yci):=⟨rfl,rfl,rfl,by decide +kernel,rfl,by decide +kernel,by decide +kernel⟩
theorem zb9 {P:Program} {w:World} {K:PySem.W.Frag} {cls exc:Nat->Option Addr} {mg:Str->Option Value} {base:Heap} (Z:Facts P w K cls exc mg base):GF P w (mkT K cls exc) mg base 6 "turned_left" yaX:=by
 obtain ⟨f,fd,h1,h2,h3,h4⟩:=Z.d_turned_left
 refine ⟨f,fd,_,h1,h2,h3,okA h4 rfl zaO fun cdv A outer s H E hr C=>?_⟩
 have hu:=hu64 hr
 exact (zab (r_if (yap o_lt (yav yev (yar rfl C (zaq Z) (hr.mono (show 5<=5 by decide)) (yaa 0) (zaa (yaa 2) yac)) (yar rfl C (zaq Z) (hr.mono (show 5<=5 by decide)) (yaa 0) (zaa (yaa 1) yac))) yag (yai _)) (yae (yaj (yar rfl C (zai Z) (hr.mono (show 5<=5 by decide)) (yaa 0) (zaa (yaa 1) (zaa (yaa 2) yac))))) yay)
  (zab (yao (i:=3) zaO.nd (yar rfl C (zah Z) (hr.mono (show 4<=5 by decide)) (yaa 0) (zaa (yaa 2) yac)))
  (zab (yao (i:=4) zaO.nd (r_ix rfl hu (yaa 3) yag))
  (zab (yao (i:=5) zaO.nd (r_ix rfl hu (yaa 3) yag))
  (zab (r_if (yap o_le (yar rfl C (zaq Z) (hr.mono (show 5<=5 by decide)) (yaa 0) (zaa (yaa 4) yac)) (yar rfl C (zaq Z) (hr.mono (show 5<=5 by decide)) (yaa 0) (zaa (yaa 5) yac)) (yai _)) (yae (yaj (yar rfl C (zai Z) (hr.mono (show 5<=5 by decide)) (yaa 0) (zaa (yar rfl C (zai Z) (hr.mono (show 5<=5 by decide)) (yaa 0) (zaa (yaa 1) (zaa (yaa 4) yac))) (zaa (yaa 5) yac))))) yay)
  (zab (yao (i:=6) zaO.nd (yar rfl C (zah Z) (hr.mono (show 4<=5 by decide)) (yaa 0) (zaa (yaa 4) yac)))
  (yae (yaj (yar rfl C (zai Z) (hr.mono (show 5<=5 by decide)) (yaa 0) (zaa (yar rfl C (zai Z) (hr.mono (show 5<=5 by decide)) (yaa 0) (zaa (yaa 1) (zaa (r_ix rfl hu (yaa 6) yag) yac))) (zaa (yar rfl C (zai Z) (hr.mono (show 5<=5 by decide)) (yaa 0) (zaa (r_ix rfl hu (yaa 6) yag) (zaa (yaa 5) yac))) yac)))))))))))
theorem zaR:FnScope ["shelf", "text", "piece", "rest"] ["shelf", "text"] (yad ybR):=⟨rfl,rfl,rfl,by decide +kernel,rfl,by decide +kernel,by decide +kernel⟩
theorem zbC {P:Program} {w:World} {K:PySem.W.Frag} {cls exc:Nat->Option Addr} {mg:Str->Option Value} {base:Heap} (Z:Facts P w K cls exc mg base):∀ d,GF P w (mkT K cls exc) mg base (6+d+1) "without_first" (yaG d)
 | 0=>by
  obtain ⟨f,fd,h1,h2,h3,h4⟩:=Z.d_without_first
  refine ⟨f,fd,_,h1,h2,h3,okA h4 rfl zaR fun cdv A outer s H E hr C=>?_⟩
  exact yeh
 | d+1=>by
  obtain ⟨f,fd,h1,h2,h3,h4⟩:=Z.d_without_first
  refine ⟨f,fd,_,h1,h2,h3,okA h4 rfl zaR fun cdv A outer s H E hr C=>?_⟩
  have hu:=hu64 hr
  exact (zab (yao (i:=2) zaR.nd (yar rfl C (zah Z) (hr.mono (show 4<=6+(d+1) by lia)) (yaa 0) (zaa (yaa 1) yac)))
  (zab (r_if (yap (o_eq rfl hu) (r_ix rfl hu (yaa 2) yag) ya1 (yai _)) (yae (yaj yag)) yay)
  (zab (yao (i:=3) zaR.nd (yak rfl C (zbC Z d) (hr.mono (by lia)) rfl (zaa (yaa 0) (zaa (r_ix rfl hu (yaa 2) yag) yac))))
  (zab (r_if (yap (o_eq rfl hu) (yaa 3) yag (yai _)) (yae (yaj (r_ix rfl hu (yaa 2) yag))) yay)
  (yae (yaj (yak rfl C (zb9 Z) (hr.mono (show 6<=6+(d+1) by lia)) rfl (zaa (yaa 0) (zaa (yaa 3) (zaa (r_ix rfl hu (yaa 2) yag) yac))))))))))
theorem zaL:FnScope ["shelf", "one", "other", "piece", "far", "near", "inner"] ["shelf", "one", "other"] (yad yb8):=⟨rfl,rfl,rfl,by decide +kernel,rfl,by decide +kernel,by decide +kernel⟩
theorem zdE {P:Program} {w:World} {K:PySem.W.Frag} {cls exc:Nat->Option Addr} {mg:Str->Option Value} {base:Heap} (Z:Facts P w K cls exc mg base):GF P w (mkT K cls exc) mg base 6 "turned_right" yba:=by
 obtain ⟨f,fd,h1,h2,h3,h4⟩:=Z.d_turned_right
 refine ⟨f,fd,_,h1,h2,h3,okA h4 rfl zaL fun cdv A outer s H E hr C=>?_⟩
 have hu:=hu64 hr
 exact (zab (r_if (yap o_lt (yav yev (yar rfl C (zaq Z) (hr.mono (show 5<=5 by decide)) (yaa 0) (zaa (yaa 1) yac)) (yar rfl C (zaq Z) (hr.mono (show 5<=5 by decide)) (yaa 0) (zaa (yaa 2) yac))) yag (yai _)) (yae (yaj (yar rfl C (zai Z) (hr.mono (show 5<=5 by decide)) (yaa 0) (zaa (yaa 1) (zaa (yaa 2) yac))))) yay)
  (zab (yao (i:=3) zaL.nd (yar rfl C (zah Z) (hr.mono (show 4<=5 by decide)) (yaa 0) (zaa (yaa 1) yac)))
  (zab (yao (i:=4) zaL.nd (r_ix rfl hu (yaa 3) yag))
  (zab (yao (i:=5) zaL.nd (r_ix rfl hu (yaa 3) yag))
  (zab (r_if (yap o_le (yar rfl C (zaq Z) (hr.mono (show 5<=5 by decide)) (yaa 0) (zaa (yaa 5) yac)) (yar rfl C (zaq Z) (hr.mono (show 5<=5 by decide)) (yaa 0) (zaa (yaa 4) yac)) (yai _)) (yae (yaj (yar rfl C (zai Z) (hr.mono (show 5<=5 by decide)) (yaa 0) (zaa (yaa 4) (zaa (yar rfl C (zai Z) (hr.mono (show 5<=5 by decide)) (yaa 0) (zaa (yaa 5) (zaa (yaa 2) yac))) yac))))) yay)
  (zab (yao (i:=6) zaL.nd (yar rfl C (zah Z) (hr.mono (show 4<=5 by decide)) (yaa 0) (zaa (yaa 5) yac)))
  (yae (yaj (yar rfl C (zai Z) (hr.mono (show 5<=5 by decide)) (yaa 0) (zaa (yar rfl C (zai Z) (hr.mono (show 5<=5 by decide)) (yaa 0) (zaa (yaa 4) (zaa (r_ix rfl hu (yaa 6) yag) yac))) (zaa (yar rfl C (zai Z) (hr.mono (show 5<=5 by decide)) (yaa 0) (zaa (r_ix rfl hu (yaa 6) yag) (zaa (yaa 2) yac))) yac)))))))))))
theorem zbj:FnScope ["shelf", "one", "other", "tilt", "piece"] ["shelf", "one", "other"] (yad ydG):=⟨rfl,rfl,rfl,by decide +kernel,rfl,by decide +kernel,by decide +kernel⟩
theorem zb5 {P:Program} {w:World} {K:PySem.W.Frag} {cls exc:Nat->Option Addr} {mg:Str->Option Value} {base:Heap} (Z:Facts P w K cls exc mg base):∀ d,GF P w (mkT K cls exc) mg base (6+d+1) "linked" (ybg d)
 | 0=>by
  obtain ⟨f,fd,h1,h2,h3,h4⟩:=Z.d_linked
  refine ⟨f,fd,_,h1,h2,h3,okA h4 rfl zbj fun cdv A outer s H E hr C=>?_⟩
  exact yeh
 | d+1=>by
  obtain ⟨f,fd,h1,h2,h3,h4⟩:=Z.d_linked
  refine ⟨f,fd,_,h1,h2,h3,okA h4 rfl zbj fun cdv A outer s H E hr C=>?_⟩
  have hu:=hu64 hr
  exact (zab (yao (i:=3) zbj.nd (yav yev (yar rfl C (zaq Z) (hr.mono (show 5<=6+(d+1) by lia)) (yaa 0) (zaa (yaa 1) yac)) (yar rfl C (zaq Z) (hr.mono (show 5<=6+(d+1) by lia)) (yaa 0) (zaa (yaa 2) yac))))
  (zab (r_if (yap o_gt (yaa 3) yag (yai _)) (zab (yao (i:=4) zbj.nd (yar rfl C (zah Z) (hr.mono (show 4<=6+(d+1) by lia)) (yaa 0) (zaa (yaa 1) yac)))
  (yae (yaj (yak rfl C (zb9 Z) (hr.mono (show 6<=6+(d+1) by lia)) rfl (zaa (yaa 0) (zaa (r_ix rfl hu (yaa 4) yag) (zaa (yak rfl C (zb5 Z d) (hr.mono (by lia)) rfl (zaa (yaa 0) (zaa (r_ix rfl hu (yaa 4) yag) (zaa (yaa 2) yac)))) yac))))))) yay)
  (zab (r_if (yap o_lt (yaa 3) (ydU yag) (yai _)) (zab (yao (i:=4) zbj.nd (yar rfl C (zah Z) (hr.mono (show 4<=6+(d+1) by lia)) (yaa 0) (zaa (yaa 2) yac)))
  (yae (yaj (yak rfl C (zdE Z) (hr.mono (show 6<=6+(d+1) by lia)) rfl (zaa (yaa 0) (zaa (yak rfl C (zb5 Z d) (hr.mono (by lia)) rfl (zaa (yaa 0) (zaa (yaa 1) (zaa (r_ix rfl hu (yaa 4) yag) yac)))) (zaa (r_ix rfl hu (yaa 4) yag) yac))))))) yay)
  (yae (yaj (yar rfl C (zai Z) (hr.mono (show 5<=6+(d+1) by lia)) (yaa 0) (zaa (yaa 1) (zaa (yaa 2) yac))))))))
theorem zbD:FnScope ["shelf", "one", "other", "seam", "front", "back"] ["shelf", "one", "other"] (yad ydH):=⟨rfl,rfl,rfl,by decide +kernel,rfl,by decide +kernel,by decide +kernel⟩
theorem zig {P:Program} {w:World} {K:PySem.W.Frag} {cls exc:Nat->Option Addr} {mg:Str->Option Value} {base:Heap} (Z:Facts P w K cls exc mg base):GF P w (mkT K cls exc) mg base 98 "welded" ydm:=by
 obtain ⟨f,fd,h1,h2,h3,h4⟩:=Z.d_welded
 refine ⟨f,fd,_,h1,h2,h3,okA h4 rfl zbD fun cdv A outer s H E hr C=>?_⟩
 have hu:=hu64 hr
 exact (zab (yao (i:=3) zbD.nd (yav (ya7 rfl) (r_ix rfl hu (yar rfl C (zah Z) (hr.mono (show 4<=97 by decide)) (yaa 0) (zaa (yar rfl C (zbl Z) (hr.mono (show 5<=97 by decide)) (yaa 0) (zaa (yaa 1) yac)) yac)) yag) (r_ix rfl hu (yar rfl C (zah Z) (hr.mono (show 4<=97 by decide)) (yaa 0) (zaa (yar rfl C (zbi Z) (hr.mono (show 5<=97 by decide)) (yaa 0) (zaa (yaa 2) yac)) yac)) yag)))
  (zab (yao (i:=4) zbD.nd (yak rfl C (zcV Z 90) (hr.mono (show 96<=97 by decide)) rfl (zaa (yaa 0) (zaa (yaa 1) (zaa (yar rfl C (zcu Z) (hr.mono (show 4<=97 by decide)) (yaa 0) (zaa (yaa 3) yac)) yac)))))
  (zab (yao (i:=5) zbD.nd (yak rfl C (zbC Z 90) (hr.mono (show 97<=97 by decide)) rfl (zaa (yaa 0) (zaa (yaa 2) yac))))
  (zab (r_if (yap (o_eq rfl hu) (yaa 5) yag (yai _)) (yae (yaj (yaa 4))) yay)
  (yae (yaj (yak rfl C (zb5 Z 90) (hr.mono (show 97<=97 by decide)) rfl (zaa (yaa 0) (zaa (yaa 4) (zaa (yaa 5) yac))))))))))
theorem zhg:FnScope ["shelf", "one", "other"] ["shelf", "one", "other"] (yad ydI):=⟨rfl,rfl,rfl,by decide +kernel,rfl,by decide +kernel,by decide +kernel⟩
theorem zeN {P:Program} {w:World} {K:PySem.W.Frag} {cls exc:Nat->Option Addr} {mg:Str->Option Value} {base:Heap} (Z:Facts P w K cls exc mg base):GF P w (mkT K cls exc) mg base 99 "joined" ybT:=by
 obtain ⟨f,fd,h1,h2,h3,h4⟩:=Z.d_joined
 refine ⟨f,fd,_,h1,h2,h3,okA h4 rfl zhg fun cdv A outer s H E hr C=>?_⟩
 have hu:=hu64 hr
 exact (zab (yaE (yak rfl C (zdB Z) (hr.mono (show 1<=98 by decide)) rfl (zaa (yav (ya7 rfl) (yar rfl C (za3 Z) (hr.mono (show 5<=98 by decide)) (yaa 0) (zaa (yaa 1) yac)) (yar rfl C (za3 Z) (hr.mono (show 5<=98 by decide)) (yaa 0) (zaa (yaa 2) yac))) yac)))
  (zab (r_if (yap (o_eq rfl hu) (yaa 1) yag (yai _)) (yae (yaj (yaa 2))) yay)
  (zab (r_if (yap (o_eq rfl hu) (yaa 2) yag (yai _)) (yae (yaj (yaa 1))) yay)
  (zab (r_if (zan rfl (yak rfl C (ze5 Z) (hr.mono (show 6<=98 by decide)) rfl (zaa (yaa 0) (zaa (yaa 1) (zaa (yaa 2) yac))))) (yae (yaj (yak rfl C (zb5 Z 90) (hr.mono (show 97<=98 by decide)) rfl (zaa (yaa 0) (zaa (yaa 1) (zaa (yaa 2) yac)))))) yay)
  (yae (yaj (yak rfl C (zig Z) (hr.mono (show 98<=98 by decide)) rfl (zaa (yaa 0) (zaa (yaa 1) (zaa (yaa 2) yac))))))))))
theorem zau:FnScope ["shelf", "stream", "plain", "way", "parts", "many", "text", "part"] ["shelf", "stream", "plain"] (yad ydb):=⟨rfl,rfl,rfl,by decide +kernel,rfl,by decide +kernel,by decide +kernel⟩
theorem zgx {P:Program} {w:World} {K:PySem.W.Frag} {cls exc:Nat->Option Addr} {mg:Str->Option Value} {base:Heap} (Z:Facts P w K cls exc mg base):GF P w (mkT K cls exc) mg base 100 "_law_made" yc6:=by
 obtain ⟨f,fd,h1,h2,h3,h4⟩:=Z.d_law_made
 refine ⟨f,fd,_,h1,h2,h3,okA h4 rfl zau fun cdv A outer s H E hr C=>?_⟩
 have hu:=hu64 hr
 exact (zab (yao (i:=3) zau.nd (yak rfl C (zaw Z) (hr.mono (show 1<=99 by decide)) rfl (zaa (yaa 1) (zaa yag yac))))
  (zab (r_if (yap (o_eq rfl hu) (yaa 3) yag (yai _)) (yae (yaj (yak rfl C (zdA Z) (hr.mono (show 27<=99 by decide)) rfl (zaa (yaa 0) (zaa (yaa 2) yac))))) yay)
  (zab (yao (i:=4) zau.nd (ybX yac))
  (zab (zbI ya5 (yap (o_ne rfl hu) (yaa 2) ya1 (yai _)) (zab (yao (i:=5) zau.nd (yav (ya7 rfl) yag (yak rfl (C.nox) (zaw Z) (hr.mono (show 1<=99 by decide)) rfl (zaa (yaa 1) (zaa yag yac)))))
  (zab (yaE (r_bm rfl PySem.F.plainAttrs_list PySem.F.slot_list_append PySem.F.type_list_append (zam) zae (yaa 4) (zaa (zaE rfl (yaa 2) zaM (zaz (yaa 5))) yac)))
  (yae (yao (i:=2) zau.nd (zaE rfl (yaa 2) (zaz (yaa 5)) zaM))))))
  (zab (yao (i:=6) zau.nd yag)
  (zab (r_if (yap (o_eq rfl hu) (yaa 3) yag (yai _)) (yae (ydu rfl (ycH (E:=EN) rfl (yaa 4)) (zaI (i:=7) zau.nd) (yae (yao (i:=6) zau.nd (yak rfl (C.nox) (zeN Z) (hr.mono (show 99<=99 by decide)) rfl (zaa (yaa 0) (zaa (yaa 6) (zaa (yak rfl (C.nox) (zdA Z) (hr.mono (show 27<=99 by decide)) rfl (zaa (yaa 0) (zaa (yaa 7) yac))) yac)))))))) (yae (yhj rfl rfl rfl Z.b_reversed (yaa 4) (zaI (i:=7) zau.nd) (yae (yao (i:=6) zau.nd (yak rfl (C.nox) (zeN Z) (hr.mono (show 99<=99 by decide)) rfl (zaa (yaa 0) (zaa (yak rfl (C.nox) (zdA Z) (hr.mono (show 27<=99 by decide)) rfl (zaa (yaa 0) (zaa (yaa 7) yac))) (zaa (yaa 6) yac)))))))))
  (yae (yaj (yaa 6)))))))))
theorem zcw:FnScope ["cell", "k", "one"] ["cell", "k"] (yad ycP):=⟨rfl,rfl,rfl,by decide +kernel,rfl,by decide +kernel,by decide +kernel⟩
theorem ze6 {P:Program} {w:World} {K:PySem.W.Frag} {cls exc:Nat->Option Addr} {mg:Str->Option Value} {base:Heap} (Z:Facts P w K cls exc mg base):GF P w (mkT K cls exc) mg base 1 "_law_mixed" ydL:=by
 obtain ⟨f,fd,h1,h2,h3,h4⟩:=Z.d_law_mixed
 refine ⟨f,fd,_,h1,h2,h3,okA h4 rfl zcw fun cdv A outer s H E hr C=>?_⟩
 have hu:=hu64 hr
 exact (zab (yao (i:=2) zcw.nd (yav ydj (yav ydT (yav (ya7 rfl) (yav (ya7 rfl) (yav ydj (yaa 0) yag) (yav ydT yag (yaa 1))) yag) yag) yag))
  (yae (yaj (yav ydj (yav ydT (yav ydj (yav ydT (yaa 2) (yaa 2)) yag) yag) yag))))
theorem zax:FnScope ["script", "k", "cell", "j", "found"] ["script", "k"] (yad ycf):=⟨rfl,rfl,rfl,by decide +kernel,rfl,by decide +kernel,by decide +kernel⟩
theorem zbv {P:Program} {w:World} {K:PySem.W.Frag} {cls exc:Nat->Option Addr} {mg:Str->Option Value} {base:Heap} (Z:Facts P w K cls exc mg base):GF P w (mkT K cls exc) mg base 2 "_law_stream" ybm:=by
 obtain ⟨f,fd,h1,h2,h3,h4⟩:=Z.d_law_stream
 refine ⟨f,fd,_,h1,h2,h3,okA h4 rfl zax fun cdv A outer s H E hr C=>?_⟩
 have hu:=hu64 hr
 exact (zab (yao (i:=2) zax.nd yag)
  (zab (ydu rfl (zdS (E:=EN) rfl Z.b_range (yaa 1) (r_bi (b_len rfl) rfl Z.b_len PySem.boot_len (zaa (yaa 0) yac)) yag) (zaI (i:=3) zax.nd) (yae (yao (i:=2) zax.nd (yav (ya7 rfl) (yav ydT (yaa 2) (yav ydT (yav yel yag yag) (yav yel yag yag))) (yav ydj (r_ix rfl hu (yaa 0) (yaa 3)) (yav ydT (yav yel yag yag) (yav yel yag yag)))))))
  (zab (r_if (yap o_ge (yaa 2) (yav yel yag yag) (yai _)) (yae (yaj (ybX (zaa (yaa 2) yac)))) yay)
  (zab (yao (i:=2) zax.nd (yav (ya7 rfl) (yaa 2) (r_bi (b_sum rfl) rfl Z.b_sum PyProof.Rows.boot_sum (zaa (yey (jf:=[]) (zaU (N:=["script", "k", "cell", "j", "found"]) (sc:=yad ycf) rfl (fun _=>rfl) (by decide +kernel)) rfl (ycH (E:=(fun _=>E)) rfl (yaa 0)) (fun _ _ _ _ _=>zbc) (fun _ _ _ _ _=>(yav ydj (yaa 0) (yav yel yag yag)))) yac))))
  (zab (yao (i:=4) zax.nd yag)
  (zab (ydu rfl (zbx (E:=EN) rfl Z.b_range yag) (zaI (i:=3) zax.nd) (yae (yao (i:=4) zax.nd (yav (ya7 rfl) (yav ydT (yaa 4) yag) (yak rfl (C.nox) (ze6 Z) (hr.mono (show 1<=1 by decide)) rfl (zaa (yav (ya7 rfl) (yav (ya7 rfl) (yaa 2) (yav ydT yag (yaa 1))) (r_bi (b_len rfl) rfl Z.b_len PySem.boot_len (zaa (yaa 0) yac))) (zaa (yaa 3) yac)))))))
  (yae (yaj (ybX (zaa (yaa 4) yac))))))))))
theorem zd7:FnScope ["self"] ["self"] (yad ycv):=⟨rfl,rfl,rfl,by decide +kernel,rfl,by decide +kernel,by decide +kernel⟩
theorem za9 {P:Program} {w:World} {K:PySem.W.Frag} {cls exc:Nat->Option Addr} {mg:Str->Option Value} {base:Heap} (Z:Facts P w K cls exc mg base):GM P w (mkT K cls exc) mg base 1 0 "many" ybz:=by
 obtain ⟨C0,f,fd,h0,hc,h1,h3,h4⟩:=Z.d_Shelf_many
 refine ⟨⟨C0,f,fd,_,h0,hc,h1,h3,okA h4 rfl zd7 fun cdv A outer s H E hr C=>?_⟩,(show ("many" : Str)∉flds 0 from by decide +kernel)⟩
 have hu:=hu64 hr
 exact (yae (yaj (r_bi (b_len rfl) rfl Z.b_len PySem.boot_len (zaa (yaM rfl Z.cf_Shelf (yaa 0)) yac))))
theorem za4:FnScope ["items", "stream", "found", "item"] ["items", "stream"] (yad ycw):=⟨rfl,rfl,rfl,by decide +kernel,rfl,by decide +kernel,by decide +kernel⟩
theorem zeO {P:Program} {w:World} {K:PySem.W.Frag} {cls exc:Nat->Option Addr} {mg:Str->Option Value} {base:Heap} (Z:Facts P w K cls exc mg base):GF P w (mkT K cls exc) mg base 2 "_law_poured" ydv:=by
 obtain ⟨f,fd,h1,h2,h3,h4⟩:=Z.d_law_poured
 refine ⟨f,fd,_,h1,h2,h3,okA h4 rfl za4 fun cdv A outer s H E hr C=>?_⟩
 have hu:=hu64 hr
 exact (zab (yao (i:=2) za4.nd (ybX yac))
  (zab (ydu rfl (ycH (E:=EN) rfl (yaa 0)) (zaI (i:=3) za4.nd) (zab (r_if (rt_w (ydP (yap (o_ne rfl hu) (yaa 2) (ybP yac) (yai _)) (ydP (zan rfl (yc2 rfl rfl Z.b_isinstance (yaa 3) rfl Z.b_str ydN (by decide))) (zbH (zan rfl (yc2 rfl rfl Z.b_isinstance (r_ix rfl hu (yaa 2) (ydU yag)) rfl Z.b_str ydN (by decide))))))) (yae (r_if (rt_w (ydP (yap o_lt (yav (ya7 rfl) (r_bi (b_len rfl) rfl Z.b_len PySem.boot_len (zaa (r_ix rfl hu (yaa 2) (ydU yag)) yac)) (r_bi (b_len rfl) rfl Z.b_len PySem.boot_len (zaa (yaa 3) yac))) yag (yai _)) (zbH (yap o_gt (yak rfl (C.nox) (zaw Z) (hr.mono (show 1<=1 by decide)) rfl (zaa (yaa 1) (zaa yag yac))) yag (yai _))))) (yae (yao (i:=3) za4.nd (yav (ya7 rfl) (yem rfl PySem.F.plainAttrs_list PySem.F.slot_list_pop PySem.F.type_list_pop (yeO) zae (yaa 2)) (yaa 3)))) yay)) yay)
  (yae (yaE (r_bm rfl PySem.F.plainAttrs_list PySem.F.slot_list_append PySem.F.type_list_append (zam) zae (yaa 2) (zaa (yaa 3) yac))))))
  (yae (yaj (yaa 2)))))
theorem zba:FnScope ["items", "units", "item", "unit"] ["items"] (yad yco):=⟨rfl,rfl,rfl,by decide +kernel,rfl,by decide +kernel,by decide +kernel⟩
theorem ze7 {P:Program} {w:World} {K:PySem.W.Frag} {cls exc:Nat->Option Addr} {mg:Str->Option Value} {base:Heap} (Z:Facts P w K cls exc mg base):GF P w (mkT K cls exc) mg base 1 "_law_units" ydM:=by
 obtain ⟨f,fd,h1,h2,h3,h4⟩:=Z.d_law_units
 refine ⟨f,fd,_,h1,h2,h3,okA h4 rfl zba fun cdv A outer s H E hr C=>?_⟩
 have hu:=hu64 hr
 exact (zab (yao (i:=1) zba.nd (ybX yac))
  (zab (ydu rfl (ycH (E:=EN) rfl (yaa 0)) (zaI (i:=2) zba.nd) (yae (r_if (rt_w (ydP (zan rfl (yc2 rfl rfl Z.b_isinstance (yaa 2) rfl Z.b_str ydN (by decide))) (zbH (zen o_lt o_lt yag (r_bi (b_len rfl) rfl Z.b_len PySem.boot_len (zaa (yaa 2) yac)) yag)))) (yae (yaE (r_bm rfl PySem.F.plainAttrs_list PySem.F.slot_list_extend PySem.F.type_list_extend (ye1) zae (yaa 1) (zaa (zfo (jf:=[]) (zaU (N:=["items", "units", "item", "unit"]) (sc:=yad yco) rfl (fun _=>rfl) (by decide +kernel)) rfl (ycH (E:=EN) rfl (yaa 2)) (fun _ _ _ _ _=>zbc) (fun _ _ _ _ _=>(yaa 0))) yac)))) (yae (r_if (rt_w (ydP (zan rfl (yc2 rfl rfl Z.b_isinstance (yaa 2) rfl Z.b_int yeV (by decide))) (ydP (ycX (zan rfl (yc2 rfl rfl Z.b_isinstance (yaa 2) rfl Z.b_bool zdq (by decide)))) (zbH (yap o_gt (yaa 2) yag (yai _)))))) (yae (yaE (r_bm rfl PySem.F.plainAttrs_list PySem.F.slot_list_append PySem.F.type_list_append (zam) zae (yaa 1) (zaa (yaa 2) yac)))) (yae (yaj ydS)))))))
  (zab (ydu rfl (ycH (E:=EN) rfl (yaa 1)) (zaI (i:=3) zba.nd) (yae (r_if (rt_w (ydP (zan rfl (yc2 rfl rfl Z.b_isinstance (yaa 3) rfl Z.b_str ydN (by decide))) (ydP (yap (o_ne rfl hu) (yaa 3) ya1 (yai _)) (zbH (ycX (zen o_le o_le ya1 (yaa 3) ya1)))))) (yae (yaj ydS)) yay)))
  (yae (yaj (yaa 1))))))
theorem zaW:FnScope ["shelf", "text", "units", "at", "piece", "some", "first"] ["shelf", "text", "units", "at"] (yad ycp):=⟨rfl,rfl,rfl,by decide +kernel,rfl,by decide +kernel,by decide +kernel⟩
theorem zbE {P:Program} {w:World} {K:PySem.W.Frag} {cls exc:Nat->Option Addr} {mg:Str->Option Value} {base:Heap} (Z:Facts P w K cls exc mg base):∀ d,GF P w (mkT K cls exc) mg base (4+d+1) "_law_after" (yaw d)
 | 0=>by
  obtain ⟨f,fd,h1,h2,h3,h4⟩:=Z.d_law_after
  refine ⟨f,fd,_,h1,h2,h3,okA h4 rfl zaW fun cdv A outer s H E hr C=>?_⟩
  exact yeh
 | d+1=>by
  obtain ⟨f,fd,h1,h2,h3,h4⟩:=Z.d_law_after
  refine ⟨f,fd,_,h1,h2,h3,okA h4 rfl zaW fun cdv A outer s H E hr C=>?_⟩
  have hu:=hu64 hr
  exact (zab (r_if (rt_w (yew (yap (o_eq rfl hu) (yaa 3) (ydU yag) (yai _)) (yef (yap (o_eq rfl hu) (yaa 3) (r_bi (b_len rfl) rfl Z.b_len PySem.boot_len (zaa (yaa 2) yac)) (yai _))))) (yae (yaj (ydU yag))) yay)
  (zab (r_if (yap (o_eq rfl hu) (r_ix rfl hu (yaa 2) (yaa 3)) (yaa 1) (yai _)) (yae (yaj (yav (ya7 rfl) (yaa 3) yag))) yay)
  (zab (yao (i:=4) zaW.nd (yar rfl C (zah Z) (hr.mono (show 4<=4+(d+1) by lia)) (yaa 0) (zaa (yaa 1) yac)))
  (zab (r_if (yap (o_eq rfl hu) (r_ix rfl hu (yaa 4) yag) ya1 (yai _)) (zab (yao (i:=5) zaW.nd (zaE rfl (yaa 2) (zaz (yaa 3)) (zaz (yav (ya7 rfl) (yaa 3) (r_bi (b_len rfl) rfl Z.b_len PySem.boot_len (zaa (r_ix rfl hu (yaa 4) yag) yac))))))
  (zab (r_if (yap (o_ne rfl hu) (yaa 5) (yey (jf:=[]) (zaU (N:=["shelf", "text", "units", "at", "piece", "some", "first"]) (sc:=yad ycp) rfl (fun _=>rfl) (by decide +kernel)) rfl (ycH (E:=(fun _=>E)) rfl (zaE rfl (r_ix rfl hu (yaa 4) yag) zaM (zaz (r_bi (b_len rfl) rfl Z.b_len PySem.boot_len (zaa (yaa 5) yac))))) (fun _ _ _ _ _=>zbc) (fun _ _ _ _ _=>(yaa 0))) (yai _)) (yae (yaj ydS)) yay)
  (yae (yaj (r_ix rfl hu (ybP (zaa (ydU yag) (zaa (yav (ya7 rfl) (yaa 3) (r_bi (b_len rfl) rfl Z.b_len PySem.boot_len (zaa (yaa 5) yac))) yac))) (r_ty (b_int) rfl Z.b_int yeV (zaa (yc1 (o_eq rfl hu) (r_bi (b_len rfl) rfl Z.b_len PySem.boot_len (zaa (yaa 5) yac)) (r_bi (b_len rfl) rfl Z.b_len PySem.boot_len (zaa (r_ix rfl hu (yaa 4) yag) yac)) (yai _)) yac))))))) yay)
  (zab (yao (i:=6) zaW.nd (yak rfl C (zbE Z d) (hr.mono (by lia)) rfl (zaa (yaa 0) (zaa (r_ix rfl hu (yaa 4) yag) (zaa (yaa 2) (zaa (yaa 3) yac))))))
  (zab (r_if (yap yfh (yaa 6) ydS (yai _)) (yae (yaj ydS)) yay)
  (yae (yaj (yak rfl C (zbE Z d) (hr.mono (by lia)) rfl (zaa (yaa 0) (zaa (r_ix rfl hu (yaa 4) yag) (zaa (yaa 2) (zaa (yaa 6) yac)))))))))))))
theorem zb6:FnScope ["shelf", "text", "items", "units", "behind"] ["shelf", "text", "items"] (yad ydo):=⟨rfl,rfl,rfl,by decide +kernel,rfl,by decide +kernel,by decide +kernel⟩
theorem zhh {P:Program} {w:World} {K:PySem.W.Frag} {cls exc:Nat->Option Addr} {mg:Str->Option Value} {base:Heap} (Z:Facts P w K cls exc mg base):GF P w (mkT K cls exc) mg base 96 "_law_due" yb1:=by
 obtain ⟨f,fd,h1,h2,h3,h4⟩:=Z.d_law_due
 refine ⟨f,fd,_,h1,h2,h3,okA h4 rfl zb6 fun cdv A outer s H E hr C=>?_⟩
 have hu:=hu64 hr
 exact (zab (yao (i:=3) zb6.nd (yak rfl C (ze7 Z) (hr.mono (show 1<=95 by decide)) rfl (zaa (yaa 2) yac)))
  (zab (r_if (yap yfh (yaa 3) ydS (yai _)) (yae (yaj (ybP (zaa r_bl (zaa r_bl yac))))) yay)
  (zab (r_if (rt_w (yew (yap (o_eq rfl hu) (yaa 1) yag (yai _)) (yef (yap (o_eq rfl hu) (yaa 3) (ybP yac) (yai _))))) (yae (yaj (ybP (zaa (yd0 (yc1 (o_eq rfl hu) (yaa 1) yag (yai _)) (ydV (yc1 (o_eq rfl hu) (yaa 3) (ybP yac) (yai _)))) (zaa (yc1 (o_eq rfl hu) (yaa 3) (ybP yac) (yai _)) yac))))) yay)
  (zab (yao (i:=4) zb6.nd (yak rfl C (zbE Z 90) (hr.mono (show 95<=95 by decide)) rfl (zaa (yaa 0) (zaa (yaa 1) (zaa (yaa 3) (zaa yag yac))))))
  (zab (r_if (yap yfh (yaa 4) ydS (yai _)) (yae (yaj (ybP (zaa r_bl (zaa r_bl yac))))) yay)
  (yae (yaj (ybP (zaa (yc1 (o_eq rfl hu) (yaa 4) (r_bi (b_len rfl) rfl Z.b_len PySem.boot_len (zaa (yaa 3) yac)) (yai _)) (zaa (r_or (yc1 (o_eq rfl hu) (yaa 4) (ydU yag) (yai _)) (ydV (yc1 (o_eq rfl hu) (yaa 4) (r_bi (b_len rfl) rfl Z.b_len PySem.boot_len (zaa (yaa 3) yac)) (yai _)))) yac))))))))))
theorem zd8:FnScope ["shelf", "text"] ["shelf", "text"] (yad ycx):=⟨rfl,rfl,rfl,by decide +kernel,rfl,by decide +kernel,by decide +kernel⟩
theorem zeP {P:Program} {w:World} {K:PySem.W.Frag} {cls exc:Nat->Option Addr} {mg:Str->Option Value} {base:Heap} (Z:Facts P w K cls exc mg base):GF P w (mkT K cls exc) mg base 5 "whole_left" ycr:=by
 obtain ⟨f,fd,h1,h2,h3,h4⟩:=Z.d_whole_left
 refine ⟨f,fd,_,h1,h2,h3,okA h4 rfl zd8 fun cdv A outer s H E hr C=>?_⟩
 have hu:=hu64 hr
 exact (zab (yaE (yar rfl C (zaC Z) (hr.mono (show 4<=4 by decide)) (yaa 0) (zaa (yaa 1) yac)))
  (yae (yaj (yim (yap (o_eq rfl hu) (yaa 1) yag (yai _)) (ybP yac) (ybX (zaa (yaa 1) yac))))))
theorem zca:FnScope ["shelf", "left", "first", "piece"] ["shelf", "left", "first"] (yad ycy):=⟨rfl,rfl,rfl,by decide +kernel,rfl,by decide +kernel,by decide +kernel⟩
theorem zcx {P:Program} {w:World} {K:PySem.W.Frag} {cls exc:Nat->Option Addr} {mg:Str->Option Value} {base:Heap} (Z:Facts P w K cls exc mg base):GF P w (mkT K cls exc) mg base 5 "opens_fork" ybA:=by
 obtain ⟨f,fd,h1,h2,h3,h4⟩:=Z.d_opens_fork
 refine ⟨f,fd,_,h1,h2,h3,okA h4 rfl zca fun cdv A outer s H E hr C=>?_⟩
 have hu:=hu64 hr
 exact (zab (r_if (zan rfl (yc2 rfl rfl Z.b_isinstance (yaa 2) rfl Z.b_str ydN (by decide))) (yae (yaj r_bl)) yay)
  (zab (yao (i:=3) zca.nd (yar rfl C (zah Z) (hr.mono (show 4<=4 by decide)) (yaa 0) (zaa (yaa 2) yac)))
  (zab (r_if (yap (o_eq rfl hu) (r_ix rfl hu (yaa 3) yag) ya1 (yai _)) (yae (yaj r_bl)) yay)
  (zab (yaE (r_bm rfl PySem.F.plainAttrs_list PySem.F.slot_list_append PySem.F.type_list_append (zam) zae (yaa 1) (zaa (r_ix rfl hu (yaa 3) yag) yac)))
  (zab (yaE (r_bm rfl PySem.F.plainAttrs_list PySem.F.slot_list_append PySem.F.type_list_append (zam) zae (yaa 1) (zaa (r_ix rfl hu (yaa 3) yag) yac)))
  (yae (yaj r_bl)))))))
theorem zbP:FnScope ["shelf", "left", "number", "first"] ["shelf", "left", "number"] (yad ycj):=⟨rfl,rfl,rfl,by decide +kernel,rfl,by decide +kernel,by decide +kernel⟩
theorem zd9 {P:Program} {w:World} {K:PySem.W.Frag} {cls exc:Nat->Option Addr} {mg:Str->Option Value} {base:Heap} (Z:Facts P w K cls exc mg base):GF P w (mkT K cls exc) mg base 6 "takes_piece" ybq:=by
 obtain ⟨f,fd,h1,h2,h3,h4⟩:=Z.d_takes_piece
 refine ⟨f,fd,_,h1,h2,h3,okA h4 rfl zbP fun cdv A outer s H E hr C=>?_⟩
 have hu:=hu64 hr
 exact (zab (zbI ya5 (yap (o_ne rfl hu) (yaa 1) (ybP yac) (yai _)) (zab (yao (i:=3) zbP.nd (yem rfl PySem.F.plainAttrs_list PySem.F.slot_list_pop PySem.F.type_list_pop (yeO) zae (yaa 1)))
  (zab (r_if (yap (o_eq rfl hu) (yaa 3) (yaa 2) (yai _)) (yae (yaj r_bl)) yay)
  (yae (r_if (ycX (zan rfl (yak rfl (C.nox) (zcx Z) (hr.mono (show 5<=5 by decide)) rfl (zaa (yaa 0) (zaa (yaa 1) (zaa (yaa 3) yac)))))) (yae (yaj r_bl)) yay)))))
  (yae (yaj r_bl)))
theorem zcb:FnScope ["shelf", "left", "first"] ["shelf", "left"] (yad ycz):=⟨rfl,rfl,rfl,by decide +kernel,rfl,by decide +kernel,by decide +kernel⟩
theorem zeQ {P:Program} {w:World} {K:PySem.W.Frag} {cls exc:Nat->Option Addr} {mg:Str->Option Value} {base:Heap} (Z:Facts P w K cls exc mg base):GF P w (mkT K cls exc) mg base 6 "next_signs" ycd:=by
 obtain ⟨f,fd,h1,h2,h3,h4⟩:=Z.d_next_signs
 refine ⟨f,fd,_,h1,h2,h3,okA h4 rfl zcb fun cdv A outer s H E hr C=>?_⟩
 have hu:=hu64 hr
 exact (zab (zbI ya5 (yap (o_ne rfl hu) (yaa 1) (ybP yac) (yai _)) (zab (yao (i:=2) zcb.nd (yem rfl PySem.F.plainAttrs_list PySem.F.slot_list_pop PySem.F.type_list_pop (yeO) zae (yaa 1)))
  (zab (r_if (zan rfl (yc2 rfl rfl Z.b_isinstance (yaa 2) rfl Z.b_str ydN (by decide))) (yae (yaj (yaa 2))) yay)
  (yae (r_if (ycX (zan rfl (yak rfl (C.nox) (zcx Z) (hr.mono (show 5<=5 by decide)) rfl (zaa (yaa 0) (zaa (yaa 1) (zaa (yaa 2) yac)))))) (yae (yaj (r_ix rfl hu (yar rfl (C.nox) (zah Z) (hr.mono (show 4<=5 by decide)) (yaa 0) (zaa (yaa 2) yac)) yag))) yay)))))
  (yae (yaj ya1)))
theorem zeR:FnScope ["left", "signs"] ["left", "signs"] (yad ycQ):=⟨rfl,rfl,rfl,by decide +kernel,rfl,by decide +kernel,by decide +kernel⟩
theorem ze8 {P:Program} {w:World} {K:PySem.W.Frag} {cls exc:Nat->Option Addr} {mg:Str->Option Value} {base:Heap} (Z:Facts P w K cls exc mg base):GF P w (mkT K cls exc) mg base 1 "puts_back" yde:=by
 obtain ⟨f,fd,h1,h2,h3,h4⟩:=Z.d_puts_back
 refine ⟨f,fd,_,h1,h2,h3,okA h4 rfl zeR fun cdv A outer s H E hr C=>?_⟩
 have hu:=hu64 hr
 exact (yae (r_if (yap (o_ne rfl hu) (yaa 1) ya1 (yai _)) (yae (yaE (r_bm rfl PySem.F.plainAttrs_list PySem.F.slot_list_append PySem.F.type_list_append (zam) zae (yaa 0) (zaa (yaa 1) yac)))) yay))
theorem zaP:FnScope ["shelf", "left", "plain", "rest", "signs", "both"] ["shelf", "left", "plain"] (yad yck):=⟨rfl,rfl,rfl,by decide +kernel,rfl,by decide +kernel,by decide +kernel⟩
theorem zea {P:Program} {w:World} {K:PySem.W.Frag} {cls exc:Nat->Option Addr} {mg:Str->Option Value} {base:Heap} (Z:Facts P w K cls exc mg base):GF P w (mkT K cls exc) mg base 7 "takes_plain" ybE:=by
 obtain ⟨f,fd,h1,h2,h3,h4⟩:=Z.d_takes_plain
 refine ⟨f,fd,_,h1,h2,h3,okA h4 rfl zaP fun cdv A outer s H E hr C=>?_⟩
 have hu:=hu64 hr
 exact (zab (yao (i:=3) zaP.nd (yaa 2))
  (zab (zbI ya5 (yap (o_ne rfl hu) (yaa 3) ya1 (yai _)) (zab (yao (i:=4) zaP.nd (yak rfl (C.nox) (zeQ Z) (hr.mono (show 6<=6 by decide)) rfl (zaa (yaa 0) (zaa (yaa 1) yac))))
  (zab (yao (i:=5) zaP.nd (r_bi (yhg) rfl Z.b_min PyProof.Rows.boot_min (zaa (r_bi (b_len rfl) rfl Z.b_len PySem.boot_len (zaa (yaa 4) yac)) (zaa (r_bi (b_len rfl) rfl Z.b_len PySem.boot_len (zaa (yaa 3) yac)) yac))))
  (zab (r_if (rt_w (yew (yap (o_eq rfl hu) (yaa 5) yag (yai _)) (yef (yap (o_ne rfl hu) (zaE rfl (yaa 4) zaM (zaz (yaa 5))) (zaE rfl (yaa 3) zaM (zaz (yaa 5))) (yai _))))) (yae (yaj r_bl)) yay)
  (zab (yaE (yak rfl (C.nox) (ze8 Z) (hr.mono (show 1<=6 by decide)) rfl (zaa (yaa 1) (zaa (zaE rfl (yaa 4) (zaz (yaa 5)) zaM) yac))))
  (yae (yao (i:=3) zaP.nd (zaE rfl (yaa 3) (zaz (yaa 5)) zaM))))))))
  (yae (yaj r_bl))))
theorem zeb:FnScope ["shelf", "left", "item"] ["shelf", "left", "item"] (yad ycA):=⟨rfl,rfl,rfl,by decide +kernel,rfl,by decide +kernel,by decide +kernel⟩
theorem zeS {P:Program} {w:World} {K:PySem.W.Frag} {cls exc:Nat->Option Addr} {mg:Str->Option Value} {base:Heap} (Z:Facts P w K cls exc mg base):GF P w (mkT K cls exc) mg base 8 "takes_item" yaR:=by
 obtain ⟨f,fd,h1,h2,h3,h4⟩:=Z.d_takes_item
 refine ⟨f,fd,_,h1,h2,h3,okA h4 rfl zeb fun cdv A outer s H E hr C=>?_⟩
 have hu:=hu64 hr
 exact (zab (r_if (zan rfl (yar rfl C (zbk Z) (hr.mono (show 2<=7 by decide)) (yaa 0) (zaa (yaa 2) yac))) (yae (yaj (yak rfl C (zd9 Z) (hr.mono (show 6<=7 by decide)) rfl (zaa (yaa 0) (zaa (yaa 1) (zaa (yaa 2) yac)))))) yay)
  (yae (yaj (yd0 (yak rfl C (zdl Z) (hr.mono (show 3<=7 by decide)) rfl (zaa (yaa 2) yac)) (ydV (yak rfl C (zea Z) (hr.mono (show 7<=7 by decide)) rfl (zaa (yaa 0) (zaa (yaa 1) (zaa (yaa 2) yac)))))))))
theorem zbf:FnScope ["shelf", "text", "items", "left", "item"] ["shelf", "text", "items"] (yad ycl):=⟨rfl,rfl,rfl,by decide +kernel,rfl,by decide +kernel,by decide +kernel⟩
theorem zcc {P:Program} {w:World} {K:PySem.W.Frag} {cls exc:Nat->Option Addr} {mg:Str->Option Value} {base:Heap} (Z:Facts P w K cls exc mg base):GF P w (mkT K cls exc) mg base 9 "left_behind" ya3:=by
 obtain ⟨f,fd,h1,h2,h3,h4⟩:=Z.d_left_behind
 refine ⟨f,fd,_,h1,h2,h3,okA h4 rfl zbf fun cdv A outer s H E hr C=>?_⟩
 have hu:=hu64 hr
 exact (zab (yao (i:=3) zbf.nd (yak rfl C (zeP Z) (hr.mono (show 5<=8 by decide)) rfl (zaa (yaa 0) (zaa (yaa 1) yac))))
  (zab (ydu rfl (ycH (E:=EN) rfl (yaa 2)) (zaI (i:=4) zbf.nd) (yae (r_if (ycX (zan rfl (yak rfl (C.nox) (zeS Z) (hr.mono (show 8<=8 by decide)) rfl (zaa (yaa 0) (zaa (yaa 3) (zaa (yaa 4) yac)))))) (yae (yaj ydS)) yay)))
  (yae (yaj (yaa 3)))))
theorem zhi:FnScope ["shelf", "text", "items"] ["shelf", "text", "items"] (yad ydJ):=⟨rfl,rfl,rfl,by decide +kernel,rfl,by decide +kernel,by decide +kernel⟩
theorem zeT {P:Program} {w:World} {K:PySem.W.Frag} {cls exc:Nat->Option Addr} {mg:Str->Option Value} {base:Heap} (Z:Facts P w K cls exc mg base):GF P w (mkT K cls exc) mg base 10 "spells" ybU:=by
 obtain ⟨f,fd,h1,h2,h3,h4⟩:=Z.d_spells
 refine ⟨f,fd,_,h1,h2,h3,okA h4 rfl zhi fun cdv A outer s H E hr C=>?_⟩
 have hu:=hu64 hr
 exact (yae (yaj (yc1 (o_eq rfl hu) (yak rfl C (zcc Z) (hr.mono (show 9<=9 by decide)) rfl (zaa (yaa 0) (zaa (yaa 1) (zaa (yaa 2) yac)))) (ybP yac) (yai _))))
theorem zdF:FnScope ["shelf", "text", "items"] ["shelf", "text", "items"] (yad ycm):=⟨rfl,rfl,rfl,by decide +kernel,rfl,by decide +kernel,by decide +kernel⟩
theorem zcd {P:Program} {w:World} {K:PySem.W.Frag} {cls exc:Nat->Option Addr} {mg:Str->Option Value} {base:Heap} (Z:Facts P w K cls exc mg base):GF P w (mkT K cls exc) mg base 10 "begins_text" ya9:=by
 obtain ⟨f,fd,h1,h2,h3,h4⟩:=Z.d_begins_text
 refine ⟨f,fd,_,h1,h2,h3,okA h4 rfl zdF fun cdv A outer s H E hr C=>?_⟩
 have hu:=hu64 hr
 exact (yae (yaj (yc1 yhc (yak rfl C (zcc Z) (hr.mono (show 9<=9 by decide)) rfl (zaa (yaa 0) (zaa (yaa 1) (zaa (yaa 2) yac)))) ydS (yai _))))
theorem za2:FnScope ["shelf", "text", "items", "due", "told"] ["shelf", "text", "items"] (yad ybr):=⟨rfl,rfl,rfl,by decide +kernel,rfl,by decide +kernel,by decide +kernel⟩
theorem zaS {P:Program} {w:World} {K:PySem.W.Frag} {cls exc:Nat->Option Addr} {mg:Str->Option Value} {base:Heap} (Z:Facts P w K cls exc mg base):GF P w (mkT K cls exc) mg base 97 "_law_look_right" yaO:=by
 obtain ⟨f,fd,h1,h2,h3,h4⟩:=Z.d_law_look_right
 refine ⟨f,fd,_,h1,h2,h3,okA h4 rfl za2 fun cdv A outer s H E hr C=>?_⟩
 have hu:=hu64 hr
 exact (zab (yao (i:=3) za2.nd (yak rfl C (zhh Z) (hr.mono (show 96<=96 by decide)) rfl (zaa (yaa 0) (zaa (yaa 1) (zaa (yaa 2) yac)))))
  (zab (yao (i:=4) za2.nd (ybP (zaa (yak rfl C (zeT Z) (hr.mono (show 10<=96 by decide)) rfl (zaa (yaa 0) (zaa (yaa 1) (zaa (yaa 2) yac)))) (zaa (yak rfl C (zcd Z) (hr.mono (show 10<=96 by decide)) rfl (zaa (yaa 0) (zaa (yaa 1) (zaa (yaa 2) yac)))) yac))))
  (yae (yaj (yd0 (yc1 (o_eq rfl hu) (yaa 4) (yaa 3) (yai _)) (ydV (r_bi (b_all rfl) rfl Z.b_all PyProof.Rows.boot_all (zaa (yey (jf:=[]) (zaU (N:=["shelf", "text", "items", "due", "told"]) (sc:=yad ybr) rfl (fun _=>rfl) (by decide +kernel)) rfl (ycH (E:=(fun _=>E)) rfl (yaa 4)) (fun _ _ _ _ _=>zbc) (fun _ _ _ _ _=>(yc2 rfl rfl Z.b_isinstance (yaa 0) rfl Z.b_bool zdq (by decide)))) yac))))))))
theorem zaF:FnScope ["shelf", "text", "stream", "items", "waiting", "number", "piece", "kind"] ["shelf", "text", "stream"] (yad ybV):=⟨rfl,rfl,rfl,by decide +kernel,rfl,by decide +kernel,by decide +kernel⟩
theorem zec {P:Program} {w:World} {K:PySem.W.Frag} {cls exc:Nat->Option Addr} {mg:Str->Option Value} {base:Heap} (Z:Facts P w K cls exc mg base):GF P w (mkT K cls exc) mg base 5 "_law_spelled" ycI:=by
 obtain ⟨f,fd,h1,h2,h3,h4⟩:=Z.d_law_spelled
 refine ⟨f,fd,_,h1,h2,h3,okA h4 rfl zaF fun cdv A outer s H E hr C=>?_⟩
 have hu:=hu64 hr
 exact (zab (yao (i:=3) zaF.nd (ybX yac))
  (zab (yao (i:=4) zaF.nd (ybX (zaa (yaa 1) yac)))
  (zab (zbI ya5 (yap (o_ne rfl hu) (yaa 4) (ybP yac) (yai _)) (zab (yao (i:=5) zaF.nd (yem rfl PySem.F.plainAttrs_list PySem.F.slot_list_pop PySem.F.type_list_pop (yeO) zae (yaa 4)))
  (yae (r_if (yap (o_ne rfl hu) (yaa 5) yag (yai _)) (zab (yao (i:=6) zaF.nd (yar rfl (C.nox) (zah Z) (hr.mono (show 4<=4 by decide)) (yaa 0) (zaa (yaa 5) yac)))
  (zab (yao (i:=7) zaF.nd (yak rfl (C.nox) (zaw Z) (hr.mono (show 1<=4 by decide)) rfl (zaa (yaa 2) (zaa yag yac))))
  (yae (r_if (yap (o_eq rfl hu) (yaa 7) yag (yai _)) (yae (yaE (r_bm rfl PySem.F.plainAttrs_list PySem.F.slot_list_append PySem.F.type_list_append (zam) zae (yaa 3) (zaa (yaa 5) yac)))) (yae (r_if (yap (o_eq rfl hu) (r_ix rfl hu (yaa 6) yag) ya1 (yai _)) (yae (yaE (r_bm rfl PySem.F.plainAttrs_list PySem.F.slot_list_extend PySem.F.type_list_extend (ye1) zae (yaa 4) (zaa (ybX (zaa (r_ix rfl hu (yaa 6) yag) (zaa (r_ix rfl hu (yaa 6) yag) yac))) yac)))) (yae (r_if (yap (o_eq rfl hu) (yaa 7) yag (yai _)) (yae (yaE (r_bm rfl PySem.F.plainAttrs_list PySem.F.slot_list_append PySem.F.type_list_append (zam) zae (yaa 3) (zaa (r_ix rfl hu (yaa 6) yag) yac)))) (yae (yaE (r_bm rfl PySem.F.plainAttrs_list PySem.F.slot_list_extend PySem.F.type_list_extend (ye1) zae (yaa 3) (zaa (zfo (jf:=[]) (zaU (N:=["shelf", "text", "stream", "items", "waiting", "number", "piece", "kind"]) (sc:=yad ybV) rfl (fun _=>rfl) (by decide +kernel)) rfl (ycH (E:=EN) rfl (r_ix rfl hu (yaa 6) yag)) (fun _ _ _ _ _=>zbc) (fun _ _ _ _ _=>(yaa 0))) yac)))))))))))) yay))))
  (yae (yaj (yaa 3))))))
theorem zaJ:FnScope ["shelf", "items", "stream", "found", "kind", "at", "item"] ["shelf", "items", "stream"] (yad ycB):=⟨rfl,rfl,rfl,by decide +kernel,rfl,by decide +kernel,by decide +kernel⟩
theorem zeU {P:Program} {w:World} {K:PySem.W.Frag} {cls exc:Nat->Option Addr} {mg:Str->Option Value} {base:Heap} (Z:Facts P w K cls exc mg base):GF P w (mkT K cls exc) mg base 3 "_law_spoilt" yaY:=by
 obtain ⟨f,fd,h1,h2,h3,h4⟩:=Z.d_law_spoilt
 refine ⟨f,fd,_,h1,h2,h3,okA h4 rfl zaJ fun cdv A outer s H E hr C=>?_⟩
 have hu:=hu64 hr
 exact (zab (yao (i:=3) zaJ.nd (r_ty (ziW rfl) rfl Z.b_list zf6 (zaa (yaa 1) yac)))
  (zab (yao (i:=4) zaJ.nd (yak rfl C (zaw Z) (hr.mono (show 1<=2 by decide)) rfl (zaa (yaa 2) (zaa yag yac))))
  (zab (yao (i:=5) zaJ.nd (yak rfl C (zaw Z) (hr.mono (show 1<=2 by decide)) rfl (zaa (yaa 2) (zaa (yav (ya7 rfl) (r_bi (b_len rfl) rfl Z.b_len PySem.boot_len (zaa (yaa 3) yac)) yag) yac))))
  (zab (r_if (yap (o_eq rfl hu) (yaa 4) yag (yai _)) (yae (yaE (r_bm rfl PySem.F.plainAttrs_list PySem.F.slot_list_insert PySem.F.type_list_insert (zc2) zae (yaa 3) (zaa (yaa 5) (zaa (yav (ya7 rfl) yag (yak rfl C (zaw Z) (hr.mono (show 1<=2 by decide)) rfl (zaa (yaa 2) (zaa (yav (ya7 rfl) (zcC rfl C (za9 Z) (hr.mono (show 1<=2 by decide)) (yaa 0)) yag) yac)))) yac))))) (yae (r_if (yap (o_eq rfl hu) (yaa 4) yag (yai _)) (yae (yaE (r_bm rfl PySem.F.plainAttrs_list PySem.F.slot_list_insert PySem.F.type_list_insert (zc2) zae (yaa 3) (zaa (yaa 5) (zaa (yav (ya7 rfl) (yak rfl C (zcT Z) (hr.mono (show 2<=2 by decide)) rfl (zaa (yaa 2) (zaa yag yac))) ya1) yac))))) (yae (r_if (yap (o_eq rfl hu) (yaa 3) (ybP yac) (yai _)) (yae (yaj (yaa 3))) (yae (r_if (yap (o_eq rfl hu) (yaa 4) yag (yai _)) (yae (yaE (r_bm rfl PySem.F.plainAttrs_list PySem.F.slot_list_pop PySem.F.type_list_pop (ziY) zae (yaa 3) (zaa (yav ydj (yaa 5) (r_bi (b_len rfl) rfl Z.b_len PySem.boot_len (zaa (yaa 3) yac))) yac)))) (yae (r_if (yap (o_eq rfl hu) (yaa 4) yag (yai _)) (yae (yaE (r_bm rfl PySem.F.plainAttrs_list PySem.F.slot_list_insert PySem.F.type_list_insert (zc2) zae (yaa 3) (zaa (yaa 5) (zaa (r_ix rfl hu (yaa 3) (yav ydj (yaa 5) (r_bi (b_len rfl) rfl Z.b_len PySem.boot_len (zaa (yaa 3) yac)))) yac))))) (yae (r_if (yap (o_eq rfl hu) (yaa 4) yag (yai _)) (yae (zcD hu (yaa 3) (yav ydj (yaa 5) (r_bi (b_len rfl) rfl Z.b_len PySem.boot_len (zaa (yaa 3) yac))) (yav (ya7 rfl) yag (yak rfl C (zaw Z) (hr.mono (show 1<=2 by decide)) rfl (zaa (yaa 2) (zaa (yav (ya7 rfl) (zcC rfl C (za9 Z) (hr.mono (show 1<=2 by decide)) (yaa 0)) yag) yac)))))) (yae (r_if (yap (o_eq rfl hu) (yaa 4) yag (yai _)) (yae (yaE (yem rfl PySem.F.plainAttrs_list PySem.F.slot_list_reverse PySem.F.type_list_reverse (zg6) zae (yaa 3)))) (yae (r_if (yap (o_eq rfl hu) (yaa 4) yag (yai _)) (yae (yao (i:=3) zaJ.nd (zaE rfl (yaa 3) zaM (zaz (yaa 5))))) (zab (yao (i:=6) zaJ.nd (r_ix rfl hu (yaa 3) (yav ydj (yaa 5) (r_bi (b_len rfl) rfl Z.b_len PySem.boot_len (zaa (yaa 3) yac)))))
  (yae (r_if (zan rfl (yc2 rfl rfl Z.b_isinstance (yaa 6) rfl Z.b_str ydN (by decide))) (yae (zcD hu (yaa 3) (yav ydj (yaa 5) (r_bi (b_len rfl) rfl Z.b_len PySem.boot_len (zaa (yaa 3) yac))) (yav (ya7 rfl) (zaE rfl (yaa 6) zaM (zaz (ydU yag))) ya1))) yay))))))))))))))))))
  (yae (yaj (yaa 3)))))))
theorem sc_law:FnScope ["script", "shelf", "plain", "text", "stream", "many", "turn", "items", "k", "handed", "some"] ["script"] (yad yed):=⟨rfl,rfl,rfl,by decide +kernel,rfl,by decide +kernel,by decide +kernel⟩
theorem yiI {P:Program} {w:World} {K:PySem.W.Frag} {cls exc:Nat->Option Addr} {mg:Str->Option Value} {base:Heap} (Z:Facts P w K cls exc mg base) {f:Addr} {fd:FuncData} (h4:Fun K "law" "law" yed f fd):FnOk P w K mg base (CXE P w) 101 f fd ["script"] (spA (mkT K cls exc) yfl):=by
 refine okA h4 rfl sc_law fun cdv A outer s H E hr C=>?_
 have hu:=hu64 hr
 exact (zab (yao (i:=1) sc_law.nd (ziT rfl C (zeK Z) (hr.mono (show 2<=100 by decide)) rfl))
  (zab (yao (i:=2) sc_law.nd (yak rfl C (zcT Z) (hr.mono (show 2<=100 by decide)) rfl (zaa (yak rfl C (zbv Z) (hr.mono (show 2<=100 by decide)) rfl (zaa (yaa 0) (zaa yag yac))) (zaa yag yac))))
  (zab (yao (i:=3) sc_law.nd (yak rfl C (zgx Z) (hr.mono (show 100<=100 by decide)) rfl (zaa (yaa 1) (zaa (yak rfl C (zbv Z) (hr.mono (show 2<=100 by decide)) rfl (zaa (yaa 0) (zaa yag yac))) (zaa (yaa 2) yac)))))
  (zab (yao (i:=4) sc_law.nd (yak rfl C (zbv Z) (hr.mono (show 2<=100 by decide)) rfl (zaa (yaa 0) (zaa yag yac))))
  (zab (yao (i:=5) sc_law.nd (zcC rfl C (za9 Z) (hr.mono (show 1<=100 by decide)) (yaa 1)))
  (zab (ydu rfl (zbx (E:=EN) rfl Z.b_range yag) (zaI (i:=6) sc_law.nd) (zab (yao (i:=7) sc_law.nd (yak rfl (C.nox) (zeO Z) (hr.mono (show 2<=100 by decide)) rfl (zaa (yak rfl (C.nox) (zec Z) (hr.mono (show 5<=100 by decide)) rfl (zaa (yaa 1) (zaa (yaa 3) (zaa (yaa 4) yac)))) (zaa (yaa 4) yac))))
  (zab (r_if (rt_w (yew (yap yfG (yak rfl (C.nox) (zeT Z) (hr.mono (show 10<=100 by decide)) rfl (zaa (yaa 1) (zaa (yaa 3) (zaa (yaa 7) yac)))) r_bl (yai _)) (yef (yap yfG (yak rfl (C.nox) (zcd Z) (hr.mono (show 10<=100 by decide)) rfl (zaa (yaa 1) (zaa (yaa 3) (zaa (yaa 7) yac)))) r_bl (yai _))))) (yae (yaj r_bl)) yay)
  (yae (ydu rfl (zbx (E:=EN) rfl Z.b_range yag) (zaI (i:=8) sc_law.nd) (zab (yao (i:=9) sc_law.nd (r_ty (b_list rfl) rfl Z.b_list zf6 (zaa (yaa 7) yac)))
  (zab (ydu rfl (ycH (E:=EN) rfl (ybP (zaa (yaa 3) (zaa yag yac)))) (zaI (i:=10) sc_law.nd) (yae (r_if (rt_w (yew (ycX (zan rfl (yak rfl (((C.nox).nox).nox) (zaS Z) (hr.mono (show 97<=100 by decide)) rfl (zaa (yaa 1) (zaa (yaa 10) (zaa (yaa 9) yac)))))) (yef (ycX (zan rfl (yak rfl (((C.nox).nox).nox) (zaS Z) (hr.mono (show 97<=100 by decide)) rfl (zaa (yaa 1) (zaa (yaa 10) (zaa (yaa 9) yac))))))))) (yae (yaj r_bl)) yay)))
  (zab (r_if (yap (o_ne rfl hu) (yaa 9) (yaa 7) (yai _)) (yae (yaj r_bl)) yay)
  (yae (yao (i:=7) sc_law.nd (yak rfl ((C.nox).nox) (zeU Z) (hr.mono (show 3<=100 by decide)) rfl (zaa (yaa 1) (zaa (yaa 7) (zaa (yaa 4) yac))))))))))))))
  (yae (yaj (yd0 (yak rfl C (zaS Z) (hr.mono (show 97<=100 by decide)) rfl (zaa (yaa 1) (zaa (yaa 3) (zaa (ybP yac) yac)))) (yd0 (yak rfl C (zaS Z) (hr.mono (show 97<=100 by decide)) rfl (zaa (yaa 1) (zaa yag (zaa (ybP yac) yac)))) (ydV (yc1 (o_eq rfl hu) (zcC rfl C (za9 Z) (hr.mono (show 1<=100 by decide)) (yaa 1)) (yaa 5) (yai _)))))))))))))
end Sk
namespace Sk
open PySem PySem.Spec L2 Sm
theorem all_mk {l:PySem.W.OpenLaw} {w:World} {K:PySem.W.Frag} {h:Heap} {mg:Str->Option Value} {fa f0 f1 f2 f3 f4 f5 f6 f7 f8 f9 f10 f11 f12 f13 f14 f15 f16 f17 f18 f19 f20 f21 f22 f23 f24 f25 f26 f27 f28 f29 f30 f31 f32 f33 f34 f35 f36 f37 f38 f39 f40 f41 f42 f43 f44 f45 f46 f47 f48 f49 f50 f51 f52 f53 f54 C0 X0 X1 X2 X3 X4 X5:Addr} {tk_LEAF_SIGNS tk_MOST_PLAIN tk_MOST_SIGNS:Tok} (X:K.In h) (G:h.Ns mainGlobals mg) (hfa:mg "law" = some (.ref fa))
  {od0 an0 od1 an1 od2 an2 od3 an3 od4 an4 od5 an5 od6 an6 od7 an7 od8 an8 od9 an9 od10 an10 od11 an11 od12 an12 od13 an13 od14 an14 od15 an15 od16 an16 od17 an17 od18 an18 od19 an19 od20 an20 od21 an21 od22 an22 od23 an23 od24 an24 od25 an25 od26 an26 od27 an27 od28 an28 od29 an29 od30 an30 od31 an31 od32 an32 od33 an33 od34 an34 od35 an35 od36 an36 od37 an37 od38 an38 od39 an39 od40 an40 od41 an41 od42 an42 od43 an43 od44 an44 od45 an45 od46 an46 od47 an47 od48 an48 od49 an49 od50 an50 od51 an51 od52 an52 od53 an53 od54 an54:Option Addr} {sl0 sl1 sl2 sl3 sl4 sl5 sl6 sl7 sl8 sl9 sl10 sl11 sl12 sl13 sl14 sl15 sl16 sl17 sl18 sl19 sl20 sl21 sl22 sl23 sl24 sl25 sl26 sl27 sl28 sl29 sl30 sl31 sl32 sl33 sl34 sl35 sl36 sl37 sl38 sl39 sl40 sl41 sl42 sl43 sl44 sl45 sl46 sl47 sl48 sl49 sl50 sl51 sl52 sl53 sl54:Array (Option Value)} {oc0 kV0 dc0 pm0 cd0 ct0 oc1 kV1 dc1 pm1 cd1 ct1 oc2 kV2 dc2 pm2 cd2 ct2 oc3 kV3 dc3 pm3 cd3 ct3 oc4 kV4 dc4 pm4 cd4 ct4 oc5 kV5 dc5 pm5 cd5 ct5 oc6 kV6 dc6 pm6 cd6 ct6 oc7 kV7 dc7 pm7 cd7 ct7 oc8 kV8 dc8 pm8 cd8 ct8 oc9 kV9 dc9 pm9 cd9 ct9 oc10 kV10 dc10 pm10 cd10 ct10 oc11 kV11 dc11 pm11 cd11 ct11 oc12 kV12 dc12 pm12 cd12 ct12 oc13 kV13 dc13 pm13 cd13 ct13 oc14 kV14 dc14 pm14 cd14 ct14 oc15 kV15 dc15 pm15 cd15 ct15 oc16 kV16 dc16 pm16 cd16 ct16 oc17 kV17 dc17 pm17 cd17 ct17 oc18 kV18 dc18 pm18 cd18 ct18 oc19 kV19 dc19 pm19 cd19 ct19 oc20 kV20 dc20 pm20 cd20 ct20 oc21 kV21 dc21 pm21 cd21 ct21 oc22 kV22 dc22 pm22 cd22 ct22 oc23 kV23 dc23 pm23 cd23 ct23 oc24 kV24 dc24 pm24 cd24 ct24 oc25 kV25 dc25 pm25 cd25 ct25 oc26 kV26 dc26 pm26 cd26 ct26 oc27 kV27 dc27 pm27 cd27 ct27 oc28 kV28 dc28 pm28 cd28 ct28 oc29 kV29 dc29 pm29 cd29 ct29 oc30 kV30 dc30 pm30 cd30 ct30 oc31 kV31 dc31 pm31 cd31 ct31 oc32 kV32 dc32 pm32 cd32 ct32 oc33 kV33 dc33 pm33 cd33 ct33 oc34 kV34 dc34 pm34 cd34 ct34 oc35 kV35 dc35 pm35 cd35 ct35 oc36 kV36 dc36 pm36 cd36 ct36 oc37 kV37 dc37 pm37 cd37 ct37 oc38 kV38 dc38 pm38 cd38 ct38 oc39 kV39 dc39 pm39 cd39 ct39 oc40 kV40 dc40 pm40 cd40 ct40 oc41 kV41 dc41 pm41 cd41 ct41 oc42 kV42 dc42 pm42 cd42 ct42 oc43 kV43 dc43 pm43 cd43 ct43 oc44 kV44 dc44 pm44 cd44 ct44 oc45 kV45 dc45 pm45 cd45 ct45 oc46 kV46 dc46 pm46 cd46 ct46 oc47 kV47 dc47 pm47 cd47 ct47 oc48 kV48 dc48 pm48 cd48 ct48 oc49 kV49 dc49 pm49 cd49 ct49 oc50 kV50 dc50 pm50 cd50 ct50 oc51 kV51 dc51 pm51 cd51 ct51 oc52 kV52 dc52 pm52 cd52 ct52 oc53 kV53 dc53 pm53 cd53 ct53 oc54 kV54 dc54 pm54 cd54 ct54:Value}
  (aC0:PySem.W.nsIn K mainGlobals "Shelf" = some (some (.ref C0)))
  (a0:PySem.W.findIn K (.ref C0) "__init__" = some (some (.ref f0)))
  (i0:PySem.W.isFn K (.ref f0)=true)
  (l0:K.lookup f0=some ⟨oc0,od0,.func (PySem.W.fnOf "__init__" "Shelf.__init__" (yam ycs) (yal ycs) (yad ycs) .none kV0 dc0 pm0 an0 cd0 ct0),sl0⟩)
  (c0:PySem.W.codeIn K cd0 "Shelf.__init__" = true)
  (k0:PySem.W.keepIn K (.ref f0)=true)
  (a4:PySem.W.findIn K (.ref C0) "has_piece" = some (some (.ref f4)))
  (i4:PySem.W.isFn K (.ref f4)=true)
  (l4:K.lookup f4=some ⟨oc4,od4,.func (PySem.W.fnOf "has_piece" "Shelf.has_piece" (yam ybC) (yal ybC) (yad ybC) .none kV4 dc4 pm4 an4 cd4 ct4),sl4⟩)
  (c4:PySem.W.codeIn K cd4 "Shelf.has_piece" = true)
  (k4:PySem.W.keepIn K (.ref f4)=true)
  (a5:PySem.W.findIn K (.ref C0) "check_piece" = some (some (.ref f5)))
  (i5:PySem.W.isFn K (.ref f5)=true)
  (l5:K.lookup f5=some ⟨oc5,od5,.func (PySem.W.fnOf "check_piece" "Shelf.check_piece" (yam ybl) (yal ybl) (yad ybl) .none kV5 dc5 pm5 an5 cd5 ct5),sl5⟩)
  (c5:PySem.W.codeIn K cd5 "Shelf.check_piece" = true)
  (k5:PySem.W.keepIn K (.ref f5)=true)
  (a6:PySem.W.findIn K (.ref C0) "check_fork" = some (some (.ref f6)))
  (i6:PySem.W.isFn K (.ref f6)=true)
  (l6:K.lookup f6=some ⟨oc6,od6,.func (PySem.W.fnOf "check_fork" "Shelf.check_fork" (yam ybs) (yal ybs) (yad ybs) .none kV6 dc6 pm6 an6 cd6 ct6),sl6⟩)
  (c6:PySem.W.codeIn K cd6 "Shelf.check_fork" = true)
  (k6:PySem.W.keepIn K (.ref f6)=true)
  (a7:PySem.W.findIn K (.ref C0) "lay" = some (some (.ref f7)))
  (i7:PySem.W.isFn K (.ref f7)=true)
  (l7:K.lookup f7=some ⟨oc7,od7,.func (PySem.W.fnOf "lay" "Shelf.lay" (yam ycM) (yal ycM) (yad ycM) .none kV7 dc7 pm7 an7 cd7 ct7),sl7⟩)
  (c7:PySem.W.codeIn K cd7 "Shelf.lay" = true)
  (k7:PySem.W.keepIn K (.ref f7)=true)
  (a8:PySem.W.findIn K (.ref C0) "lay_fork" = some (some (.ref f8)))
  (i8:PySem.W.isFn K (.ref f8)=true)
  (l8:K.lookup f8=some ⟨oc8,od8,.func (PySem.W.fnOf "lay_fork" "Shelf.lay_fork" (yam ybH) (yal ybH) (yad ybH) .none kV8 dc8 pm8 an8 cd8 ct8),sl8⟩)
  (c8:PySem.W.codeIn K cd8 "Shelf.lay_fork" = true)
  (k8:PySem.W.keepIn K (.ref f8)=true)
  (a9:PySem.W.findIn K (.ref C0) "fork" = some (some (.ref f9)))
  (i9:PySem.W.isFn K (.ref f9)=true)
  (l9:K.lookup f9=some ⟨oc9,od9,.func (PySem.W.fnOf "fork" "Shelf.fork" (yam yct) (yal yct) (yad yct) .none kV9 dc9 pm9 an9 cd9 ct9),sl9⟩)
  (c9:PySem.W.codeIn K cd9 "Shelf.fork" = true)
  (k9:PySem.W.keepIn K (.ref f9)=true)
  (a15:PySem.W.findIn K (.ref C0) "lay_leaf" = some (some (.ref f15)))
  (i15:PySem.W.isFn K (.ref f15)=true)
  (l15:K.lookup f15=some ⟨oc15,od15,.func (PySem.W.fnOf "lay_leaf" "Shelf.lay_leaf" (yam ybI) (yal ybI) (yad ybI) .none kV15 dc15 pm15 an15 cd15 ct15),sl15⟩)
  (c15:PySem.W.codeIn K cd15 "Shelf.lay_leaf" = true)
  (k15:PySem.W.keepIn K (.ref f15)=true)
  (a16:PySem.W.findIn K (.ref C0) "leaf" = some (some (.ref f16)))
  (i16:PySem.W.isFn K (.ref f16)=true)
  (l16:K.lookup f16=some ⟨oc16,od16,.func (PySem.W.fnOf "leaf" "Shelf.leaf" (yam ycu) (yal ycu) (yad ycu) .none kV16 dc16 pm16 an16 cd16 ct16),sl16⟩)
  (c16:PySem.W.codeIn K cd16 "Shelf.leaf" = true)
  (k16:PySem.W.keepIn K (.ref f16)=true)
  (a19:PySem.W.findIn K (.ref C0) "check_text" = some (some (.ref f19)))
  (i19:PySem.W.isFn K (.ref f19)=true)
  (l19:K.lookup f19=some ⟨oc19,od19,.func (PySem.W.fnOf "check_text" "Shelf.check_text" (yam ybt) (yal ybt) (yad ybt) .none kV19 dc19 pm19 an19 cd19 ct19),sl19⟩)
  (c19:PySem.W.codeIn K cd19 "Shelf.check_text" = true)
  (k19:PySem.W.keepIn K (.ref f19)=true)
  (a20:PySem.W.findIn K (.ref C0) "signs" = some (some (.ref f20)))
  (i20:PySem.W.isFn K (.ref f20)=true)
  (l20:K.lookup f20=some ⟨oc20,od20,.func (PySem.W.fnOf "signs" "Shelf.signs" (yam ycg) (yal ycg) (yad ycg) .none kV20 dc20 pm20 an20 cd20 ct20),sl20⟩)
  (c20:PySem.W.codeIn K cd20 "Shelf.signs" = true)
  (k20:PySem.W.keepIn K (.ref f20)=true)
  (a21:PySem.W.findIn K (.ref C0) "last_leaf" = some (some (.ref f21)))
  (i21:PySem.W.isFn K (.ref f21)=true)
  (l21:K.lookup f21=some ⟨oc21,od21,.func (PySem.W.fnOf "last_leaf" "Shelf.last_leaf" (yam ybD) (yal ybD) (yad ybD) .none kV21 dc21 pm21 an21 cd21 ct21),sl21⟩)
  (c21:PySem.W.codeIn K cd21 "Shelf.last_leaf" = true)
  (k21:PySem.W.keepIn K (.ref f21)=true)
  (a22:PySem.W.findIn K (.ref C0) "first_leaf" = some (some (.ref f22)))
  (i22:PySem.W.isFn K (.ref f22)=true)
  (l22:K.lookup f22=some ⟨oc22,od22,.func (PySem.W.fnOf "first_leaf" "Shelf.first_leaf" (yam ybu) (yal ybu) (yad ybu) .none kV22 dc22 pm22 an22 cd22 ct22),sl22⟩)
  (c22:PySem.W.codeIn K cd22 "Shelf.first_leaf" = true)
  (k22:PySem.W.keepIn K (.ref f22)=true)
  (a24:PySem.W.findIn K (.ref C0) "piece" = some (some (.ref f24)))
  (i24:PySem.W.isFn K (.ref f24)=true)
  (l24:K.lookup f24=some ⟨oc24,od24,.func (PySem.W.fnOf "piece" "Shelf.piece" (yam ych) (yal ych) (yad ych) .none kV24 dc24 pm24 an24 cd24 ct24),sl24⟩)
  (c24:PySem.W.codeIn K cd24 "Shelf.piece" = true)
  (k24:PySem.W.keepIn K (.ref f24)=true)
  (a26:PySem.W.findIn K (.ref C0) "height" = some (some (.ref f26)))
  (i26:PySem.W.isFn K (.ref f26)=true)
  (l26:K.lookup f26=some ⟨oc26,od26,.func (PySem.W.fnOf "height" "Shelf.height" (yam yb7) (yal yb7) (yad yb7) .none kV26 dc26 pm26 an26 cd26 ct26),sl26⟩)
  (c26:PySem.W.codeIn K cd26 "Shelf.height" = true)
  (k26:PySem.W.keepIn K (.ref f26)=true)
  (a36:PySem.W.findIn K (.ref C0) "many" = some (some (.ref f36)))
  (i36:PySem.W.isFn K (.ref f36)=true)
  (l36:K.lookup f36=some ⟨oc36,od36,.func (PySem.W.fnOf "many" "Shelf.many" (yam ycv) (yal ycv) (yad ycv) .none kV36 dc36 pm36 an36 cd36 ct36),sl36⟩)
  (c36:PySem.W.codeIn K cd36 "Shelf.many" = true)
  (k36:PySem.W.keepIn K (.ref f36)=true)
  (a1:PySem.W.nsIn K mainGlobals "_law_take" = some (some (.ref f1)))
  (l1:K.lookup f1=some ⟨oc1,od1,.func (PySem.W.fnOf "_law_take" "_law_take" (yam yc8) (yal yc8) (yad yc8) .none kV1 dc1 pm1 an1 cd1 ct1),sl1⟩)
  (c1:PySem.W.codeIn K cd1 "_law_take" = true)
  (k1:PySem.W.keepIn K (.ref f1)=true)
  (a2:PySem.W.nsIn K mainGlobals "_law_plain" = some (some (.ref f2)))
  (l2:K.lookup f2=some ⟨oc2,od2,.func (PySem.W.fnOf "_law_plain" "_law_plain" (yam ycL) (yal ycL) (yad ycL) .none kV2 dc2 pm2 an2 cd2 ct2),sl2⟩)
  (c2:PySem.W.codeIn K cd2 "_law_plain" = true)
  (k2:PySem.W.keepIn K (.ref f2)=true)
  (a3:PySem.W.nsIn K mainGlobals "is_whole" = some (some (.ref f3)))
  (l3:K.lookup f3=some ⟨oc3,od3,.func (PySem.W.fnOf "is_whole" "is_whole" (yam yc9) (yal yc9) (yad yc9) .none kV3 dc3 pm3 an3 cd3 ct3),sl3⟩)
  (c3:PySem.W.codeIn K cd3 "is_whole" = true)
  (k3:PySem.W.keepIn K (.ref f3)=true)
  (a10:PySem.W.nsIn K mainGlobals "halved" = some (some (.ref f10)))
  (l10:K.lookup f10=some ⟨oc10,od10,.func (PySem.W.fnOf "halved" "halved" (yam ydE) (yal ydE) (yad ydE) .none kV10 dc10 pm10 an10 cd10 ct10),sl10⟩)
  (c10:PySem.W.codeIn K cd10 "halved" = true)
  (k10:PySem.W.keepIn K (.ref f10)=true)
  (a11:PySem.W.nsIn K mainGlobals "is_plain_sign" = some (some (.ref f11)))
  (l11:K.lookup f11=some ⟨oc11,od11,.func (PySem.W.fnOf "is_plain_sign" "is_plain_sign" (yam ybQ) (yal ybQ) (yad ybQ) .none kV11 dc11 pm11 an11 cd11 ct11),sl11⟩)
  (c11:PySem.W.codeIn K cd11 "is_plain_sign" = true)
  (k11:PySem.W.keepIn K (.ref f11)=true)
  (a12:PySem.W.nsIn K mainGlobals "is_plain" = some (some (.ref f12)))
  (l12:K.lookup f12=some ⟨oc12,od12,.func (PySem.W.fnOf "is_plain" "is_plain" (yam ycF) (yal ycF) (yad ycF) .none kV12 dc12 pm12 an12 cd12 ct12),sl12⟩)
  (c12:PySem.W.codeIn K cd12 "is_plain" = true)
  (k12:PySem.W.keepIn K (.ref f12)=true)
  (a13:PySem.W.nsIn K mainGlobals "is_short" = some (some (.ref f13)))
  (l13:K.lookup f13=some ⟨oc13,od13,.func (PySem.W.fnOf "is_short" "is_short" (yam yda) (yal yda) (yad yda) .none kV13 dc13 pm13 an13 cd13 ct13),sl13⟩)
  (c13:PySem.W.codeIn K cd13 "is_short" = true)
  (k13:PySem.W.keepIn K (.ref f13)=true)
  (a14:PySem.W.nsIn K mainGlobals "ends_in" = some (some (.ref f14)))
  (l14:K.lookup f14=some ⟨oc14,od14,.func (PySem.W.fnOf "ends_in" "ends_in" (yam ydn) (yal ydn) (yad ydn) .none kV14 dc14 pm14 an14 cd14 ct14),sl14⟩)
  (c14:PySem.W.codeIn K cd14 "ends_in" = true)
  (k14:PySem.W.keepIn K (.ref f14)=true)
  (a17:PySem.W.nsIn K mainGlobals "built" = some (some (.ref f17)))
  (l17:K.lookup f17=some ⟨oc17,od17,.func (PySem.W.fnOf "built" "built" (yam ydF) (yal ydF) (yad ydF) .none kV17 dc17 pm17 an17 cd17 ct17),sl17⟩)
  (c17:PySem.W.codeIn K cd17 "built" = true)
  (k17:PySem.W.keepIn K (.ref f17)=true)
  (a18:PySem.W.nsIn K mainGlobals "check_length" = some (some (.ref f18)))
  (l18:K.lookup f18=some ⟨oc18,od18,.func (PySem.W.fnOf "check_length" "check_length" (yam yb6) (yal yb6) (yad yb6) .none kV18 dc18 pm18 an18 cd18 ct18),sl18⟩)
  (c18:PySem.W.codeIn K cd18 "check_length" = true)
  (k18:PySem.W.keepIn K (.ref f18)=true)
  (a23:PySem.W.nsIn K mainGlobals "are_close" = some (some (.ref f23)))
  (l23:K.lookup f23=some ⟨oc23,od23,.func (PySem.W.fnOf "are_close" "are_close" (yam ycN) (yal ycN) (yad ycN) .none kV23 dc23 pm23 an23 cd23 ct23),sl23⟩)
  (c23:PySem.W.codeIn K cd23 "are_close" = true)
  (k23:PySem.W.keepIn K (.ref f23)=true)
  (a25:PySem.W.nsIn K mainGlobals "with_last" = some (some (.ref f25)))
  (l25:K.lookup f25=some ⟨oc25,od25,.func (PySem.W.fnOf "with_last" "with_last" (yam ycO) (yal ycO) (yad ycO) .none kV25 dc25 pm25 an25 cd25 ct25),sl25⟩)
  (c25:PySem.W.codeIn K cd25 "with_last" = true)
  (k25:PySem.W.keepIn K (.ref f25)=true)
  (a27:PySem.W.nsIn K mainGlobals "turned_left" = some (some (.ref f27)))
  (l27:K.lookup f27=some ⟨oc27,od27,.func (PySem.W.fnOf "turned_left" "turned_left" (yam yci) (yal yci) (yad yci) .none kV27 dc27 pm27 an27 cd27 ct27),sl27⟩)
  (c27:PySem.W.codeIn K cd27 "turned_left" = true)
  (k27:PySem.W.keepIn K (.ref f27)=true)
  (a28:PySem.W.nsIn K mainGlobals "without_first" = some (some (.ref f28)))
  (l28:K.lookup f28=some ⟨oc28,od28,.func (PySem.W.fnOf "without_first" "without_first" (yam ybR) (yal ybR) (yad ybR) .none kV28 dc28 pm28 an28 cd28 ct28),sl28⟩)
  (c28:PySem.W.codeIn K cd28 "without_first" = true)
  (k28:PySem.W.keepIn K (.ref f28)=true)
  (a29:PySem.W.nsIn K mainGlobals "turned_right" = some (some (.ref f29)))
  (l29:K.lookup f29=some ⟨oc29,od29,.func (PySem.W.fnOf "turned_right" "turned_right" (yam yb8) (yal yb8) (yad yb8) .none kV29 dc29 pm29 an29 cd29 ct29),sl29⟩)
  (c29:PySem.W.codeIn K cd29 "turned_right" = true)
  (k29:PySem.W.keepIn K (.ref f29)=true)
  (a30:PySem.W.nsIn K mainGlobals "linked" = some (some (.ref f30)))
  (l30:K.lookup f30=some ⟨oc30,od30,.func (PySem.W.fnOf "linked" "linked" (yam ydG) (yal ydG) (yad ydG) .none kV30 dc30 pm30 an30 cd30 ct30),sl30⟩)
  (c30:PySem.W.codeIn K cd30 "linked" = true)
  (k30:PySem.W.keepIn K (.ref f30)=true)
  (a31:PySem.W.nsIn K mainGlobals "welded" = some (some (.ref f31)))
  (l31:K.lookup f31=some ⟨oc31,od31,.func (PySem.W.fnOf "welded" "welded" (yam ydH) (yal ydH) (yad ydH) .none kV31 dc31 pm31 an31 cd31 ct31),sl31⟩)
  (c31:PySem.W.codeIn K cd31 "welded" = true)
  (k31:PySem.W.keepIn K (.ref f31)=true)
  (a32:PySem.W.nsIn K mainGlobals "joined" = some (some (.ref f32)))
  (l32:K.lookup f32=some ⟨oc32,od32,.func (PySem.W.fnOf "joined" "joined" (yam ydI) (yal ydI) (yad ydI) .none kV32 dc32 pm32 an32 cd32 ct32),sl32⟩)
  (c32:PySem.W.codeIn K cd32 "joined" = true)
  (k32:PySem.W.keepIn K (.ref f32)=true)
  (a33:PySem.W.nsIn K mainGlobals "_law_made" = some (some (.ref f33)))
  (l33:K.lookup f33=some ⟨oc33,od33,.func (PySem.W.fnOf "_law_made" "_law_made" (yam ydb) (yal ydb) (yad ydb) .none kV33 dc33 pm33 an33 cd33 ct33),sl33⟩)
  (c33:PySem.W.codeIn K cd33 "_law_made" = true)
  (k33:PySem.W.keepIn K (.ref f33)=true)
  (a34:PySem.W.nsIn K mainGlobals "_law_mixed" = some (some (.ref f34)))
  (l34:K.lookup f34=some ⟨oc34,od34,.func (PySem.W.fnOf "_law_mixed" "_law_mixed" (yam ycP) (yal ycP) (yad ycP) .none kV34 dc34 pm34 an34 cd34 ct34),sl34⟩)
  (c34:PySem.W.codeIn K cd34 "_law_mixed" = true)
  (k34:PySem.W.keepIn K (.ref f34)=true)
  (a35:PySem.W.nsIn K mainGlobals "_law_stream" = some (some (.ref f35)))
  (l35:K.lookup f35=some ⟨oc35,od35,.func (PySem.W.fnOf "_law_stream" "_law_stream" (yam ycf) (yal ycf) (yad ycf) .none kV35 dc35 pm35 an35 cd35 ct35),sl35⟩)
  (c35:PySem.W.codeIn K cd35 "_law_stream" = true)
  (k35:PySem.W.keepIn K (.ref f35)=true)
  (a37:PySem.W.nsIn K mainGlobals "_law_poured" = some (some (.ref f37)))
  (l37:K.lookup f37=some ⟨oc37,od37,.func (PySem.W.fnOf "_law_poured" "_law_poured" (yam ycw) (yal ycw) (yad ycw) .none kV37 dc37 pm37 an37 cd37 ct37),sl37⟩)
  (c37:PySem.W.codeIn K cd37 "_law_poured" = true)
  (k37:PySem.W.keepIn K (.ref f37)=true)
  (a38:PySem.W.nsIn K mainGlobals "_law_units" = some (some (.ref f38)))
  (l38:K.lookup f38=some ⟨oc38,od38,.func (PySem.W.fnOf "_law_units" "_law_units" (yam yco) (yal yco) (yad yco) .none kV38 dc38 pm38 an38 cd38 ct38),sl38⟩)
  (c38:PySem.W.codeIn K cd38 "_law_units" = true)
  (k38:PySem.W.keepIn K (.ref f38)=true)
  (a39:PySem.W.nsIn K mainGlobals "_law_after" = some (some (.ref f39)))
  (l39:K.lookup f39=some ⟨oc39,od39,.func (PySem.W.fnOf "_law_after" "_law_after" (yam ycp) (yal ycp) (yad ycp) .none kV39 dc39 pm39 an39 cd39 ct39),sl39⟩)
  (c39:PySem.W.codeIn K cd39 "_law_after" = true)
  (k39:PySem.W.keepIn K (.ref f39)=true)
  (a40:PySem.W.nsIn K mainGlobals "_law_due" = some (some (.ref f40)))
  (l40:K.lookup f40=some ⟨oc40,od40,.func (PySem.W.fnOf "_law_due" "_law_due" (yam ydo) (yal ydo) (yad ydo) .none kV40 dc40 pm40 an40 cd40 ct40),sl40⟩)
  (c40:PySem.W.codeIn K cd40 "_law_due" = true)
  (k40:PySem.W.keepIn K (.ref f40)=true)
  (a41:PySem.W.nsIn K mainGlobals "whole_left" = some (some (.ref f41)))
  (l41:K.lookup f41=some ⟨oc41,od41,.func (PySem.W.fnOf "whole_left" "whole_left" (yam ycx) (yal ycx) (yad ycx) .none kV41 dc41 pm41 an41 cd41 ct41),sl41⟩)
  (c41:PySem.W.codeIn K cd41 "whole_left" = true)
  (k41:PySem.W.keepIn K (.ref f41)=true)
  (a42:PySem.W.nsIn K mainGlobals "opens_fork" = some (some (.ref f42)))
  (l42:K.lookup f42=some ⟨oc42,od42,.func (PySem.W.fnOf "opens_fork" "opens_fork" (yam ycy) (yal ycy) (yad ycy) .none kV42 dc42 pm42 an42 cd42 ct42),sl42⟩)
  (c42:PySem.W.codeIn K cd42 "opens_fork" = true)
  (k42:PySem.W.keepIn K (.ref f42)=true)
  (a43:PySem.W.nsIn K mainGlobals "takes_piece" = some (some (.ref f43)))
  (l43:K.lookup f43=some ⟨oc43,od43,.func (PySem.W.fnOf "takes_piece" "takes_piece" (yam ycj) (yal ycj) (yad ycj) .none kV43 dc43 pm43 an43 cd43 ct43),sl43⟩)
  (c43:PySem.W.codeIn K cd43 "takes_piece" = true)
  (k43:PySem.W.keepIn K (.ref f43)=true)
  (a44:PySem.W.nsIn K mainGlobals "next_signs" = some (some (.ref f44)))
  (l44:K.lookup f44=some ⟨oc44,od44,.func (PySem.W.fnOf "next_signs" "next_signs" (yam ycz) (yal ycz) (yad ycz) .none kV44 dc44 pm44 an44 cd44 ct44),sl44⟩)
  (c44:PySem.W.codeIn K cd44 "next_signs" = true)
  (k44:PySem.W.keepIn K (.ref f44)=true)
  (a45:PySem.W.nsIn K mainGlobals "puts_back" = some (some (.ref f45)))
  (l45:K.lookup f45=some ⟨oc45,od45,.func (PySem.W.fnOf "puts_back" "puts_back" (yam ycQ) (yal ycQ) (yad ycQ) .none kV45 dc45 pm45 an45 cd45 ct45),sl45⟩)
  (c45:PySem.W.codeIn K cd45 "puts_back" = true)
  (k45:PySem.W.keepIn K (.ref f45)=true)
  (a46:PySem.W.nsIn K mainGlobals "takes_plain" = some (some (.ref f46)))
  (l46:K.lookup f46=some ⟨oc46,od46,.func (PySem.W.fnOf "takes_plain" "takes_plain" (yam yck) (yal yck) (yad yck) .none kV46 dc46 pm46 an46 cd46 ct46),sl46⟩)
  (c46:PySem.W.codeIn K cd46 "takes_plain" = true)
  (k46:PySem.W.keepIn K (.ref f46)=true)
  (a47:PySem.W.nsIn K mainGlobals "takes_item" = some (some (.ref f47)))
  (l47:K.lookup f47=some ⟨oc47,od47,.func (PySem.W.fnOf "takes_item" "takes_item" (yam ycA) (yal ycA) (yad ycA) .none kV47 dc47 pm47 an47 cd47 ct47),sl47⟩)
  (c47:PySem.W.codeIn K cd47 "takes_item" = true)
  (k47:PySem.W.keepIn K (.ref f47)=true)
  (a48:PySem.W.nsIn K mainGlobals "left_behind" = some (some (.ref f48)))
  (l48:K.lookup f48=some ⟨oc48,od48,.func (PySem.W.fnOf "left_behind" "left_behind" (yam ycl) (yal ycl) (yad ycl) .none kV48 dc48 pm48 an48 cd48 ct48),sl48⟩)
  (c48:PySem.W.codeIn K cd48 "left_behind" = true)
  (k48:PySem.W.keepIn K (.ref f48)=true)
  (a49:PySem.W.nsIn K mainGlobals "spells" = some (some (.ref f49)))
  (l49:K.lookup f49=some ⟨oc49,od49,.func (PySem.W.fnOf "spells" "spells" (yam ydJ) (yal ydJ) (yad ydJ) .none kV49 dc49 pm49 an49 cd49 ct49),sl49⟩)
  (c49:PySem.W.codeIn K cd49 "spells" = true)
  (k49:PySem.W.keepIn K (.ref f49)=true)
  (a50:PySem.W.nsIn K mainGlobals "begins_text" = some (some (.ref f50)))
  (l50:K.lookup f50=some ⟨oc50,od50,.func (PySem.W.fnOf "begins_text" "begins_text" (yam ycm) (yal ycm) (yad ycm) .none kV50 dc50 pm50 an50 cd50 ct50),sl50⟩)
  (c50:PySem.W.codeIn K cd50 "begins_text" = true)
  (k50:PySem.W.keepIn K (.ref f50)=true)
  (a51:PySem.W.nsIn K mainGlobals "_law_look_right" = some (some (.ref f51)))
  (l51:K.lookup f51=some ⟨oc51,od51,.func (PySem.W.fnOf "_law_look_right" "_law_look_right" (yam ybr) (yal ybr) (yad ybr) .none kV51 dc51 pm51 an51 cd51 ct51),sl51⟩)
  (c51:PySem.W.codeIn K cd51 "_law_look_right" = true)
  (k51:PySem.W.keepIn K (.ref f51)=true)
  (a52:PySem.W.nsIn K mainGlobals "_law_spelled" = some (some (.ref f52)))
  (l52:K.lookup f52=some ⟨oc52,od52,.func (PySem.W.fnOf "_law_spelled" "_law_spelled" (yam ybV) (yal ybV) (yad ybV) .none kV52 dc52 pm52 an52 cd52 ct52),sl52⟩)
  (c52:PySem.W.codeIn K cd52 "_law_spelled" = true)
  (k52:PySem.W.keepIn K (.ref f52)=true)
  (a53:PySem.W.nsIn K mainGlobals "_law_spoilt" = some (some (.ref f53)))
  (l53:K.lookup f53=some ⟨oc53,od53,.func (PySem.W.fnOf "_law_spoilt" "_law_spoilt" (yam ycB) (yal ycB) (yad ycB) .none kV53 dc53 pm53 an53 cd53 ct53),sl53⟩)
  (c53:PySem.W.codeIn K cd53 "_law_spoilt" = true)
  (k53:PySem.W.keepIn K (.ref f53)=true)
  (a54:PySem.W.nsIn K mainGlobals "law" = some (some (.ref f54)))
  (l54:K.lookup f54=some ⟨oc54,od54,.func (PySem.W.fnOf "law" "law" (yam yed) (yal yed) (yad yed) .none kV54 dc54 pm54 an54 cd54 ct54),sl54⟩)
  (c54:PySem.W.codeIn K cd54 "law" = true)
  (k54:PySem.W.keepIn K (.ref f54)=true)
  (pg0:PySem.W.plainGet K C0 Str.empty=true)
  (hd0:PySem.W.hasDictIn K C0=true)
  (po0:PySem.W.plainOver K C0=true)
  (sa0:PySem.W.findIn K (.ref C0) "__setattr__" = some (some (.builtin "object.__setattr__")))
  (mk0:PySem.W.makesIn K C0=true)
  (kc0:PySem.W.keepIn K (.ref C0)=true)
  (nf0_0:PySem.W.findIn K (.ref C0) "pieces" = some none)
  (nf0_1:PySem.W.findIn K (.ref C0) "numbers" = some none)
  (nf0_2:PySem.W.findIn K (.ref C0) "sign_counts" = some none)
  (nf0_3:PySem.W.findIn K (.ref C0) "end_counts" = some none)
  (nf0_4:PySem.W.findIn K (.ref C0) "leaf_counts" = some none)
  (nf0_5:PySem.W.findIn K (.ref C0) "heights" = some none)
  (nf0_6:PySem.W.findIn K (.ref C0) "first_leaves" = some none)
  (nf0_7:PySem.W.findIn K (.ref C0) "last_leaves" = some none)
  (z_abs:PySem.W.nsIn K mainGlobals "abs" = some none)
  (z_all:PySem.W.nsIn K mainGlobals "all" = some none)
  (z_bool:PySem.W.nsIn K mainGlobals "bool" = some none)
  (z_int:PySem.W.nsIn K mainGlobals "int" = some none)
  (z_isinstance:PySem.W.nsIn K mainGlobals "isinstance" = some none)
  (z_len:PySem.W.nsIn K mainGlobals "len" = some none)
  (z_list:PySem.W.nsIn K mainGlobals "list" = some none)
  (z_max:PySem.W.nsIn K mainGlobals "max" = some none)
  (z_min:PySem.W.nsIn K mainGlobals "min" = some none)
  (z_range:PySem.W.nsIn K mainGlobals "range" = some none)
  (z_reversed:PySem.W.nsIn K mainGlobals "reversed" = some none)
  (z_str:PySem.W.nsIn K mainGlobals "str" = some none)
  (z_sum:PySem.W.nsIn K mainGlobals "sum" = some none)
  (e_SkeinError:PySem.W.nsIn K mainGlobals "SkeinError" = some (some (.ref X0)))
  (e_NoText:PySem.W.nsIn K mainGlobals "NoText" = some (some (.ref X1)))
  (x_NoText:PySem.W.excIn K X1 [.type "ValueError",.type "Exception",.type "BaseException",.type "object"] "ValueError.__new__" = true)
  (e_NoPiece:PySem.W.nsIn K mainGlobals "NoPiece" = some (some (.ref X2)))
  (x_NoPiece:PySem.W.excIn K X2 [.type "ValueError",.type "Exception",.type "BaseException",.type "object"] "ValueError.__new__" = true)
  (e_Loose:PySem.W.nsIn K mainGlobals "Loose" = some (some (.ref X3)))
  (x_Loose:PySem.W.excIn K X3 [.type "ValueError",.type "Exception",.type "BaseException",.type "object"] "ValueError.__new__" = true)
  (e_Unlevel:PySem.W.nsIn K mainGlobals "Unlevel" = some (some (.ref X4)))
  (x_Unlevel:PySem.W.excIn K X4 [.type "ValueError",.type "Exception",.type "BaseException",.type "object"] "ValueError.__new__" = true)
  (e_TooLong:PySem.W.nsIn K mainGlobals "TooLong" = some (some (.ref X5)))
  (x_TooLong:PySem.W.excIn K X5 [.type "ValueError",.type "Exception",.type "BaseException",.type "object"] "ValueError.__new__" = true)
  (m_LEAF_SIGNS:PySem.W.nsIn K mainGlobals "LEAF_SIGNS" = some (some (.int 8 tk_LEAF_SIGNS)))
  (m_MOST_PLAIN:PySem.W.nsIn K mainGlobals "MOST_PLAIN" = some (some (.int 10000 tk_MOST_PLAIN)))
  (m_MOST_SIGNS:PySem.W.nsIn K mainGlobals "MOST_SIGNS" = some (some (.int 1000000000000000000 tk_MOST_SIGNS)))
  : ∃ fd:FuncData,(∀ (s:Shared) (v:Value),BindsTo s fd ⟨[v],[]⟩ [("script",v)])/\∀ base:Heap,K.In base->base.Ns mainGlobals mg->FnOk l.prog w K mg base (CXE l.prog w) 101 fa fd ["script"] (spL K):=by
 have e:=hfa.symm.trans (PySem.W.mg_of X G a54)
 cases e
 have F0:=yax (st:=ycs) l0 c0 k0
 have b0:=F0.binds (ps:=["self"]) fun _ _ _ _ _ _ us hl=>by obtain ⟨_,rfl⟩:=el1 hl;rfl
 have F1:=yax (st:=yc8) l1 c1 k1
 have b1:=F1.binds (ps:=["stream", "many"]) fun _ _ _ _ _ _ us hl=>by obtain ⟨_,_,rfl⟩:=el2 hl;rfl
 have F2:=yax (st:=ycL) l2 c2 k2
 have b2:=F2.binds (ps:=["stream", "most"]) fun _ _ _ _ _ _ us hl=>by obtain ⟨_,_,rfl⟩:=el2 hl;rfl
 have F3:=yax (st:=yc9) l3 c3 k3
 have b3:=F3.binds (ps:=["thing"]) fun _ _ _ _ _ _ us hl=>by obtain ⟨_,rfl⟩:=el1 hl;rfl
 have F4:=yax (st:=ybC) l4 c4 k4
 have b4:=F4.binds (ps:=["self", "number"]) fun _ _ _ _ _ _ us hl=>by obtain ⟨_,_,rfl⟩:=el2 hl;rfl
 have F5:=yax (st:=ybl) l5 c5 k5
 have b5:=F5.binds (ps:=["self", "number"]) fun _ _ _ _ _ _ us hl=>by obtain ⟨_,_,rfl⟩:=el2 hl;rfl
 have F6:=yax (st:=ybs) l6 c6 k6
 have b6:=F6.binds (ps:=["self", "one", "other"]) fun _ _ _ _ _ _ us hl=>by obtain ⟨_,_,_,rfl⟩:=el3 hl;rfl
 have F7:=yax (st:=ycM) l7 c7 k7
 have b7:=F7.binds (ps:=["self", "made"]) fun _ _ _ _ _ _ us hl=>by obtain ⟨_,_,rfl⟩:=el2 hl;rfl
 have F8:=yax (st:=ybH) l8 c8 k8
 have b8:=F8.binds (ps:=["self", "made"]) fun _ _ _ _ _ _ us hl=>by obtain ⟨_,_,rfl⟩:=el2 hl;rfl
 have F9:=yax (st:=yct) l9 c9 k9
 have b9:=F9.binds (ps:=["self", "one", "other"]) fun _ _ _ _ _ _ us hl=>by obtain ⟨_,_,_,rfl⟩:=el3 hl;rfl
 have F10:=yax (st:=ydE) l10 c10 k10
 have b10:=F10.binds (ps:=["shelf", "leaves"]) fun _ _ _ _ _ _ us hl=>by obtain ⟨_,_,rfl⟩:=el2 hl;rfl
 have F11:=yax (st:=ybQ) l11 c11 k11
 have b11:=F11.binds (ps:=["sign"]) fun _ _ _ _ _ _ us hl=>by obtain ⟨_,rfl⟩:=el1 hl;rfl
 have F12:=yax (st:=ycF) l12 c12 k12
 have b12:=F12.binds (ps:=["thing"]) fun _ _ _ _ _ _ us hl=>by obtain ⟨_,rfl⟩:=el1 hl;rfl
 have F13:=yax (st:=yda) l13 c13 k13
 have b13:=F13.binds (ps:=["thing"]) fun _ _ _ _ _ _ us hl=>by obtain ⟨_,rfl⟩:=el1 hl;rfl
 have F14:=yax (st:=ydn) l14 c14 k14
 have b14:=F14.binds (ps:=["plain"]) fun _ _ _ _ _ _ us hl=>by obtain ⟨_,rfl⟩:=el1 hl;rfl
 have F15:=yax (st:=ybI) l15 c15 k15
 have b15:=F15.binds (ps:=["self", "made"]) fun _ _ _ _ _ _ us hl=>by obtain ⟨_,_,rfl⟩:=el2 hl;rfl
 have F16:=yax (st:=ycu) l16 c16 k16
 have b16:=F16.binds (ps:=["self", "plain"]) fun _ _ _ _ _ _ us hl=>by obtain ⟨_,_,rfl⟩:=el2 hl;rfl
 have F17:=yax (st:=ydF) l17 c17 k17
 have b17:=F17.binds (ps:=["shelf", "plain"]) fun _ _ _ _ _ _ us hl=>by obtain ⟨_,_,rfl⟩:=el2 hl;rfl
 have F18:=yax (st:=yb6) l18 c18 k18
 have b18:=F18.binds (ps:=["signs"]) fun _ _ _ _ _ _ us hl=>by obtain ⟨_,rfl⟩:=el1 hl;rfl
 have F19:=yax (st:=ybt) l19 c19 k19
 have b19:=F19.binds (ps:=["self", "text"]) fun _ _ _ _ _ _ us hl=>by obtain ⟨_,_,rfl⟩:=el2 hl;rfl
 have F20:=yax (st:=ycg) l20 c20 k20
 have b20:=F20.binds (ps:=["self", "text"]) fun _ _ _ _ _ _ us hl=>by obtain ⟨_,_,rfl⟩:=el2 hl;rfl
 have F21:=yax (st:=ybD) l21 c21 k21
 have b21:=F21.binds (ps:=["self", "text"]) fun _ _ _ _ _ _ us hl=>by obtain ⟨_,_,rfl⟩:=el2 hl;rfl
 have F22:=yax (st:=ybu) l22 c22 k22
 have b22:=F22.binds (ps:=["self", "text"]) fun _ _ _ _ _ _ us hl=>by obtain ⟨_,_,rfl⟩:=el2 hl;rfl
 have F23:=yax (st:=ycN) l23 c23 k23
 have b23:=F23.binds (ps:=["shelf", "one", "other"]) fun _ _ _ _ _ _ us hl=>by obtain ⟨_,_,_,rfl⟩:=el3 hl;rfl
 have F24:=yax (st:=ych) l24 c24 k24
 have b24:=F24.binds (ps:=["self", "number"]) fun _ _ _ _ _ _ us hl=>by obtain ⟨_,_,rfl⟩:=el2 hl;rfl
 have F25:=yax (st:=ycO) l25 c25 k25
 have b25:=F25.binds (ps:=["shelf", "text", "leaf"]) fun _ _ _ _ _ _ us hl=>by obtain ⟨_,_,_,rfl⟩:=el3 hl;rfl
 have F26:=yax (st:=yb7) l26 c26 k26
 have b26:=F26.binds (ps:=["self", "text"]) fun _ _ _ _ _ _ us hl=>by obtain ⟨_,_,rfl⟩:=el2 hl;rfl
 have F27:=yax (st:=yci) l27 c27 k27
 have b27:=F27.binds (ps:=["shelf", "one", "other"]) fun _ _ _ _ _ _ us hl=>by obtain ⟨_,_,_,rfl⟩:=el3 hl;rfl
 have F28:=yax (st:=ybR) l28 c28 k28
 have b28:=F28.binds (ps:=["shelf", "text"]) fun _ _ _ _ _ _ us hl=>by obtain ⟨_,_,rfl⟩:=el2 hl;rfl
 have F29:=yax (st:=yb8) l29 c29 k29
 have b29:=F29.binds (ps:=["shelf", "one", "other"]) fun _ _ _ _ _ _ us hl=>by obtain ⟨_,_,_,rfl⟩:=el3 hl;rfl
 have F30:=yax (st:=ydG) l30 c30 k30
 have b30:=F30.binds (ps:=["shelf", "one", "other"]) fun _ _ _ _ _ _ us hl=>by obtain ⟨_,_,_,rfl⟩:=el3 hl;rfl
 have F31:=yax (st:=ydH) l31 c31 k31
 have b31:=F31.binds (ps:=["shelf", "one", "other"]) fun _ _ _ _ _ _ us hl=>by obtain ⟨_,_,_,rfl⟩:=el3 hl;rfl
 have F32:=yax (st:=ydI) l32 c32 k32
 have b32:=F32.binds (ps:=["shelf", "one", "other"]) fun _ _ _ _ _ _ us hl=>by obtain ⟨_,_,_,rfl⟩:=el3 hl;rfl
 have F33:=yax (st:=ydb) l33 c33 k33
 have b33:=F33.binds (ps:=["shelf", "stream", "plain"]) fun _ _ _ _ _ _ us hl=>by obtain ⟨_,_,_,rfl⟩:=el3 hl;rfl
 have F34:=yax (st:=ycP) l34 c34 k34
 have b34:=F34.binds (ps:=["cell", "k"]) fun _ _ _ _ _ _ us hl=>by obtain ⟨_,_,rfl⟩:=el2 hl;rfl
 have F35:=yax (st:=ycf) l35 c35 k35
 have b35:=F35.binds (ps:=["script", "k"]) fun _ _ _ _ _ _ us hl=>by obtain ⟨_,_,rfl⟩:=el2 hl;rfl
 have F36:=yax (st:=ycv) l36 c36 k36
 have b36:=F36.binds (ps:=["self"]) fun _ _ _ _ _ _ us hl=>by obtain ⟨_,rfl⟩:=el1 hl;rfl
 have F37:=yax (st:=ycw) l37 c37 k37
 have b37:=F37.binds (ps:=["items", "stream"]) fun _ _ _ _ _ _ us hl=>by obtain ⟨_,_,rfl⟩:=el2 hl;rfl
 have F38:=yax (st:=yco) l38 c38 k38
 have b38:=F38.binds (ps:=["items"]) fun _ _ _ _ _ _ us hl=>by obtain ⟨_,rfl⟩:=el1 hl;rfl
 have F39:=yax (st:=ycp) l39 c39 k39
 have b39:=F39.binds (ps:=["shelf", "text", "units", "at"]) fun _ _ _ _ _ _ us hl=>by obtain ⟨_,_,_,_,rfl⟩:=el4 hl;rfl
 have F40:=yax (st:=ydo) l40 c40 k40
 have b40:=F40.binds (ps:=["shelf", "text", "items"]) fun _ _ _ _ _ _ us hl=>by obtain ⟨_,_,_,rfl⟩:=el3 hl;rfl
 have F41:=yax (st:=ycx) l41 c41 k41
 have b41:=F41.binds (ps:=["shelf", "text"]) fun _ _ _ _ _ _ us hl=>by obtain ⟨_,_,rfl⟩:=el2 hl;rfl
 have F42:=yax (st:=ycy) l42 c42 k42
 have b42:=F42.binds (ps:=["shelf", "left", "first"]) fun _ _ _ _ _ _ us hl=>by obtain ⟨_,_,_,rfl⟩:=el3 hl;rfl
 have F43:=yax (st:=ycj) l43 c43 k43
 have b43:=F43.binds (ps:=["shelf", "left", "number"]) fun _ _ _ _ _ _ us hl=>by obtain ⟨_,_,_,rfl⟩:=el3 hl;rfl
 have F44:=yax (st:=ycz) l44 c44 k44
 have b44:=F44.binds (ps:=["shelf", "left"]) fun _ _ _ _ _ _ us hl=>by obtain ⟨_,_,rfl⟩:=el2 hl;rfl
 have F45:=yax (st:=ycQ) l45 c45 k45
 have b45:=F45.binds (ps:=["left", "signs"]) fun _ _ _ _ _ _ us hl=>by obtain ⟨_,_,rfl⟩:=el2 hl;rfl
 have F46:=yax (st:=yck) l46 c46 k46
 have b46:=F46.binds (ps:=["shelf", "left", "plain"]) fun _ _ _ _ _ _ us hl=>by obtain ⟨_,_,_,rfl⟩:=el3 hl;rfl
 have F47:=yax (st:=ycA) l47 c47 k47
 have b47:=F47.binds (ps:=["shelf", "left", "item"]) fun _ _ _ _ _ _ us hl=>by obtain ⟨_,_,_,rfl⟩:=el3 hl;rfl
 have F48:=yax (st:=ycl) l48 c48 k48
 have b48:=F48.binds (ps:=["shelf", "text", "items"]) fun _ _ _ _ _ _ us hl=>by obtain ⟨_,_,_,rfl⟩:=el3 hl;rfl
 have F49:=yax (st:=ydJ) l49 c49 k49
 have b49:=F49.binds (ps:=["shelf", "text", "items"]) fun _ _ _ _ _ _ us hl=>by obtain ⟨_,_,_,rfl⟩:=el3 hl;rfl
 have F50:=yax (st:=ycm) l50 c50 k50
 have b50:=F50.binds (ps:=["shelf", "text", "items"]) fun _ _ _ _ _ _ us hl=>by obtain ⟨_,_,_,rfl⟩:=el3 hl;rfl
 have F51:=yax (st:=ybr) l51 c51 k51
 have b51:=F51.binds (ps:=["shelf", "text", "items"]) fun _ _ _ _ _ _ us hl=>by obtain ⟨_,_,_,rfl⟩:=el3 hl;rfl
 have F52:=yax (st:=ybV) l52 c52 k52
 have b52:=F52.binds (ps:=["shelf", "text", "stream"]) fun _ _ _ _ _ _ us hl=>by obtain ⟨_,_,_,rfl⟩:=el3 hl;rfl
 have F53:=yax (st:=ycB) l53 c53 k53
 have b53:=F53.binds (ps:=["shelf", "items", "stream"]) fun _ _ _ _ _ _ us hl=>by obtain ⟨_,_,_,rfl⟩:=el3 hl;rfl
 have F54:=yax (st:=yed) l54 c54 k54
 have b54:=F54.binds (ps:=["script"]) fun _ _ _ _ _ _ us hl=>by obtain ⟨_,rfl⟩:=el1 hl;rfl
 have Z:∀ base:Heap,K.In base->Facts l.prog w K (fun n=>[C0][n]?) (fun n=>[X0,X1,X2,X3,X4,X5][n]?) mg base:=fun base KB=>{
   b_abs:=PySem.W.mg_none_of X G z_abs,
   b_all:=PySem.W.mg_none_of X G z_all,
   b_bool:=PySem.W.mg_none_of X G z_bool,
   b_int:=PySem.W.mg_none_of X G z_int,
   b_isinstance:=PySem.W.mg_none_of X G z_isinstance,
   b_len:=PySem.W.mg_none_of X G z_len,
   b_list:=PySem.W.mg_none_of X G z_list,
   b_max:=PySem.W.mg_none_of X G z_max,
   b_min:=PySem.W.mg_none_of X G z_min,
   b_range:=PySem.W.mg_none_of X G z_range,
   b_reversed:=PySem.W.mg_none_of X G z_reversed,
   b_str:=PySem.W.mg_none_of X G z_str,
   b_sum:=PySem.W.mg_none_of X G z_sum,
   c_LEAF_SIGNS:=⟨_,PySem.W.mg_of X G m_LEAF_SIGNS⟩,
   c_MOST_PLAIN:=⟨_,PySem.W.mg_of X G m_MOST_PLAIN⟩,
   c_MOST_SIGNS:=⟨_,PySem.W.mg_of X G m_MOST_SIGNS⟩,
   cf_Shelf:=⟨C0,rfl,⟨pg0,hd0,po0,sa0⟩,fun f hf=>by
   have hf2:f∈flds 0:=hf
   simp only [flds,List.mem_cons,List.not_mem_nil,or_false] at hf2
   rcases hf2 with rfl | rfl | rfl | rfl | rfl | rfl | rfl | rfl
   ·exact nf0_0
   ·exact nf0_1
   ·exact nf0_2
   ·exact nf0_3
   ·exact nf0_4
   ·exact nf0_5
   ·exact nf0_6
   ·exact nf0_7⟩,
   x_NoText:=⟨X1,rfl,zbq KB (PySem.W.mg_of X G e_NoText) x_NoText⟩,
   x_NoPiece:=⟨X2,rfl,zbq KB (PySem.W.mg_of X G e_NoPiece) x_NoPiece⟩,
   x_Loose:=⟨X3,rfl,zbq KB (PySem.W.mg_of X G e_Loose) x_Loose⟩,
   x_Unlevel:=⟨X4,rfl,zbq KB (PySem.W.mg_of X G e_Unlevel) x_Unlevel⟩,
   x_TooLong:=⟨X5,rfl,zbq KB (PySem.W.mg_of X G e_TooLong) x_TooLong⟩,
   d_Shelf_init:=⟨C0,f0,_,rfl,PySem.W.mg_of X G aC0,⟨mk0,a0,i0,kc0⟩,b0,F0⟩,
   d_law_take:=⟨_,_,PySem.W.mg_of X G a1,k1,b1,F1⟩,
   d_law_plain:=⟨_,_,PySem.W.mg_of X G a2,k2,b2,F2⟩,
   d_is_whole:=⟨_,_,PySem.W.mg_of X G a3,k3,b3,F3⟩,
   d_Shelf_has_piece:=⟨C0,f4,_,rfl,⟨pg0,hd0,po0,sa0⟩,⟨a4,i4,k4⟩,b4,F4⟩,
   d_Shelf_check_piece:=⟨C0,f5,_,rfl,⟨pg0,hd0,po0,sa0⟩,⟨a5,i5,k5⟩,b5,F5⟩,
   d_Shelf_check_fork:=⟨C0,f6,_,rfl,⟨pg0,hd0,po0,sa0⟩,⟨a6,i6,k6⟩,b6,F6⟩,
   d_Shelf_lay:=⟨C0,f7,_,rfl,⟨pg0,hd0,po0,sa0⟩,⟨a7,i7,k7⟩,b7,F7⟩,
   d_Shelf_lay_fork:=⟨C0,f8,_,rfl,⟨pg0,hd0,po0,sa0⟩,⟨a8,i8,k8⟩,b8,F8⟩,
   d_Shelf_fork:=⟨C0,f9,_,rfl,⟨pg0,hd0,po0,sa0⟩,⟨a9,i9,k9⟩,b9,F9⟩,
   d_halved:=⟨_,_,PySem.W.mg_of X G a10,k10,b10,F10⟩,
   d_is_plain_sign:=⟨_,_,PySem.W.mg_of X G a11,k11,b11,F11⟩,
   d_is_plain:=⟨_,_,PySem.W.mg_of X G a12,k12,b12,F12⟩,
   d_is_short:=⟨_,_,PySem.W.mg_of X G a13,k13,b13,F13⟩,
   d_ends_in:=⟨_,_,PySem.W.mg_of X G a14,k14,b14,F14⟩,
   d_Shelf_lay_leaf:=⟨C0,f15,_,rfl,⟨pg0,hd0,po0,sa0⟩,⟨a15,i15,k15⟩,b15,F15⟩,
   d_Shelf_leaf:=⟨C0,f16,_,rfl,⟨pg0,hd0,po0,sa0⟩,⟨a16,i16,k16⟩,b16,F16⟩,
   d_built:=⟨_,_,PySem.W.mg_of X G a17,k17,b17,F17⟩,
   d_check_length:=⟨_,_,PySem.W.mg_of X G a18,k18,b18,F18⟩,
   d_Shelf_check_text:=⟨C0,f19,_,rfl,⟨pg0,hd0,po0,sa0⟩,⟨a19,i19,k19⟩,b19,F19⟩,
   d_Shelf_signs:=⟨C0,f20,_,rfl,⟨pg0,hd0,po0,sa0⟩,⟨a20,i20,k20⟩,b20,F20⟩,
   d_Shelf_last_leaf:=⟨C0,f21,_,rfl,⟨pg0,hd0,po0,sa0⟩,⟨a21,i21,k21⟩,b21,F21⟩,
   d_Shelf_first_leaf:=⟨C0,f22,_,rfl,⟨pg0,hd0,po0,sa0⟩,⟨a22,i22,k22⟩,b22,F22⟩,
   d_are_close:=⟨_,_,PySem.W.mg_of X G a23,k23,b23,F23⟩,
   d_Shelf_piece:=⟨C0,f24,_,rfl,⟨pg0,hd0,po0,sa0⟩,⟨a24,i24,k24⟩,b24,F24⟩,
   d_with_last:=⟨_,_,PySem.W.mg_of X G a25,k25,b25,F25⟩,
   d_Shelf_height:=⟨C0,f26,_,rfl,⟨pg0,hd0,po0,sa0⟩,⟨a26,i26,k26⟩,b26,F26⟩,
   d_turned_left:=⟨_,_,PySem.W.mg_of X G a27,k27,b27,F27⟩,
   d_without_first:=⟨_,_,PySem.W.mg_of X G a28,k28,b28,F28⟩,
   d_turned_right:=⟨_,_,PySem.W.mg_of X G a29,k29,b29,F29⟩,
   d_linked:=⟨_,_,PySem.W.mg_of X G a30,k30,b30,F30⟩,
   d_welded:=⟨_,_,PySem.W.mg_of X G a31,k31,b31,F31⟩,
   d_joined:=⟨_,_,PySem.W.mg_of X G a32,k32,b32,F32⟩,
   d_law_made:=⟨_,_,PySem.W.mg_of X G a33,k33,b33,F33⟩,
   d_law_mixed:=⟨_,_,PySem.W.mg_of X G a34,k34,b34,F34⟩,
   d_law_stream:=⟨_,_,PySem.W.mg_of X G a35,k35,b35,F35⟩,
   d_Shelf_many:=⟨C0,f36,_,rfl,⟨pg0,hd0,po0,sa0⟩,⟨a36,i36,k36⟩,b36,F36⟩,
   d_law_poured:=⟨_,_,PySem.W.mg_of X G a37,k37,b37,F37⟩,
   d_law_units:=⟨_,_,PySem.W.mg_of X G a38,k38,b38,F38⟩,
   d_law_after:=⟨_,_,PySem.W.mg_of X G a39,k39,b39,F39⟩,
   d_law_due:=⟨_,_,PySem.W.mg_of X G a40,k40,b40,F40⟩,
   d_whole_left:=⟨_,_,PySem.W.mg_of X G a41,k41,b41,F41⟩,
   d_opens_fork:=⟨_,_,PySem.W.mg_of X G a42,k42,b42,F42⟩,
   d_takes_piece:=⟨_,_,PySem.W.mg_of X G a43,k43,b43,F43⟩,
   d_next_signs:=⟨_,_,PySem.W.mg_of X G a44,k44,b44,F44⟩,
   d_puts_back:=⟨_,_,PySem.W.mg_of X G a45,k45,b45,F45⟩,
   d_takes_plain:=⟨_,_,PySem.W.mg_of X G a46,k46,b46,F46⟩,
   d_takes_item:=⟨_,_,PySem.W.mg_of X G a47,k47,b47,F47⟩,
   d_left_behind:=⟨_,_,PySem.W.mg_of X G a48,k48,b48,F48⟩,
   d_spells:=⟨_,_,PySem.W.mg_of X G a49,k49,b49,F49⟩,
   d_begins_text:=⟨_,_,PySem.W.mg_of X G a50,k50,b50,F50⟩,
   d_law_look_right:=⟨_,_,PySem.W.mg_of X G a51,k51,b51,F51⟩,
   d_law_spelled:=⟨_,_,PySem.W.mg_of X G a52,k52,b52,F52⟩,
   d_law_spoilt:=⟨_,_,PySem.W.mg_of X G a53,k53,b53,F53⟩,
   d_law:=⟨_,_,PySem.W.mg_of X G a54,k54,b54,F54⟩ }
 refine ⟨_,fun s v=>.of_eq rfl,fun base KB _=>FnOk.imp (yiI (Z base KB) F54) (ziX (T:=mkT K (fun n=>[C0][n]?) (fun n=>[X0,X1,X2,X3,X4,X5][n]?)) law_true)⟩
theorem walk {l:PySem.W.OpenLaw} {q:Program} {loose:List Str} {XP:(Str->Option Value)->Heap->Prop} {YP:World->Heap->Prop} {d:DefRec} {K:Params->PySem.W.Frag} (hn:l.most=some 63) (hdf:d.params.defaults=[])
  (hY:∀ (w:World) (h:Heap),YP w h->(K w.params).In h)
  (F:∀ (w:World) (mg:Str->Option Value) (fa:Addr) (h:Heap),(K w.params).In h->h.Ns mainGlobals mg->mg d.name=some (.ref fa) ->
   ∃ fd:FuncData,(∀ (s:Shared) (u:Value),BindsTo s fd ⟨[u],[]⟩ [("script",u)])/\∀ base:Heap,(K w.params).In base->base.Ns mainGlobals mg->FnOk l.prog w (K w.params) mg base (CXE l.prog w) 101 fa fd ["script"] (spL (K w.params))) :
  PySem.W.WalkO q loose XP YP l.row.toRowW d [] (fun f vs=>PySem.call f vs) :=
 L2.walk_of (n:=63) (k:=101) (x := "script") (CX:=fun w=>CXE l.prog w) (sp:=fun w=>spL (K w.params)) hn (by decide) hdf ⟨rfl,by decide,by decide⟩ hY F (fun _ _ a ns hl _ hS=>⟨a,ns,rfl,hS,hl,fun _=>rfl⟩) fun _ _ _ _ _ z=>zg4 z
end Sk
open PySem PySem.W PyProof.Rows
section
namespace PySem.W.Fast
def tw2710216718409450424:=0
def tw1093253976198718923:=0
def tw2153150564538296255:=0
def tw11979352758125966239:=0
def tw10876148963800672159:=0
def tw9874147422035257119:=0
def tw10679255284346428191:=0
def tw1359556775266562815:=0
def tw9528842941229991615:=0
def tw9703352756658429535:=0
def tw6417699906242921951:=0
def tw16493941020108644479:=0
def tw2389408479655305247:=0
def tw8230313747685133310:=0
def tw1644740249317644126:=0
def tw9347409078048019166:=0
def tw11151918309726041758:=0
def tw7285587304018153950:=0
def tw7021631824235810270:=0
def tw15830730118832329118:=0
def tw8028058062674661758:=0
def tw10088242437241024798:=0
def tw714006139912871166:=0
def tw9141661000135579870:=0
def tw15636281292717494205:=0
def tw13154426744094606205:=0
def tw1765761622549296989:=0
def tw22522036754349789:=0
def tw6347770880950710909:=0
def tw16524436857472584221:=0
def tw4857179063513970941:=0
def tw16640531906770247709:=0
def tw1126837659343499132:=0
def tw14603734891464860508:=0
def tw270248911947935548:=0
def tw3520594282347928860:=0
def tw16864974032989916188:=0
def tw852729512374273052:=0
def tw788169598046873563:=0
def tw3726513090655788987:=0
def tw3561593352245871419:=0
def tw1579997024380884635:=0
def tw2636737180135509595:=0
def tw5686505657916095675:=0
def tw17338198980960848027:=0
def tw8468939666534956059:=0
def tw9326526768333482011:=0
def tw1690157691284543386:=0
def tw2773196286564572954:=0
def tw13359828916144360122:=0
def tw10271626841454415514:=0
def tw2834724068854589050:=0
def tw6582277012604071418:=0
def tw18289706371893868986:=0
def tw18360442285091489082:=0
def tw208111026547083418:=0
def tw8747399815783944250:=0
def tw3258246849513201625:=0
def tw11316084636398609337:=0
def tw7264504158935789433:=0
def tw9690334345398511385:=0
def tw5632967427452635929:=0
def tw323045625042120153:=0
def tw15908025703431553337:=0
def tw5169394720562432121:=0
def tw17730384537788071993:=0
def tw10839183701047152697:=0
def tw14562978666585316344:=0
def tw14363033236885695384:=0
def tw9579581715097474904:=0
def tw11631090797743100664:=0
def tw9340068593603673720:=0
def tw13805964422777511480:=0
def tw5562495057438119416:=0
def tw18376954897658782104:=0
def tw7840358260156871032:=0
def tw3404190459241245752:=0
def tw13115449975828150296:=0
def tw18351236098959464407:=0
def tw15876808807563816759:=0
def tw13467293519518740279:=0
def tw18124478968477317847:=0
def tw16248385725706890967:=0
def tw1474665486292578743:=0
def tw10103445752231730615:=0
def tw1438034597167851831:=0
def tw16379250083861606615:=0
def tw16237637575798368343:=0
def tw17515925991740471:=0
def tw3601341905923733559:=0
def tw1806829883440423894:=0
def tw13078302476972452790:=0
def tw17447609676358577078:=0
def tw3738989126947552118:=0
def tw6239592707725961558:=0
def tw4523668890092491926:=0
def tw8127553763568347286:=0
def tw12181892847095549046:=0
def tw680253126821349398:=0
def tw1478489612188135413:=0
def tw13735405129174729493:=0
def tw5532471860937031381:=0
def tw17213902168303733429:=0
def tw10849973333525202613:=0
def tw1449493870059612565:=0
def tw12439097391483844917:=0
def tw8403789730439151861:=0
def tw13037662270469930101:=0
def tw8784757762190985333:=0
def tw17642009888122253429:=0
def tw2967527809851218356:=0
def tw8239078441791324436:=0
def tw9661190006944548020:=0
def tw997389727530235028:=0
def tw6183721801015502835:=0
def tw16576143686066392883:=0
def tw15486243439836343027:=0
def tw13758222926827220691:=0
def tw15470595759398303443:=0
def tw9585713669268470323:=0
def tw7109893388617510419:=0
def tw15122637216229545459:=0
def tw4291442076625109331:=0
def tw2701135332328931667:=0
def tw2016800635257165107:=0
def tw15296515215907071283:=0
def tw17615208273585804339:=0
def tw4489840454595574803:=0
def tw7465289209395933203:=0
def tw8114619831594500115:=0
def tw15384671624321139634:=0
def tw8622605898841514802:=0
def tw12484154340016080658:=0
def tw13142854563919917842:=0
def tw8802046107556596434:=0
def tw2790562138892811986:=0
def tw1821765412396583506:=0
def tw844564014525874706:=0
def tw12872717333320094162:=0
def tw2281031747139440018:=0
def tw12493715199051721970:=0
def tw11292798747899795666:=0
def tw12214724950764630162:=0
def tw4935304954075788338:=0
def tw5047310967354260433:=0
def tw17038635040811327441:=0
def tw3917718031458319217:=0
def tw4052848517919520497:=0
def tw6065628180523281073:=0
def tw7128804416617653809:=0
def tw11864810981771250129:=0
def tw11852006251755438545:=0
def tw1709155776357429649:=0
def tw3505166192457059665:=0
def tw294087297769955441:=0
def tw17994967091316560848:=0
def tw6315087652396967888:=0
def tw13271399574363138992:=0
def tw6310021107115193200:=0
def tw11201038108526503760:=0
def tw1069626884364693296:=0
def tw13212050026504477488:=0
def tw15935800618645615344:=0
def tw4578949040596209328:=0
def tw17893524527934697072:=0
def tw1922757985579795984:=0
def tw10007484248033464624:=0
def tw192286848402186512:=0
def tw6862228926597332911:=0
def tw8995454035694899023:=0
def tw76131135837688655:=0
def tw11661757195591131887:=0
def tw15519869183363076655:=0
def tw7176561441144495439:=0
def tw16266081225730058575:=0
def tw10876014584632424687:=0
def tw12491544026082233519:=0
def tw12464153860584369167:=0
def tw4865483647808737198:=0
def tw8969561294299978638:=0
def tw4892877592995911566:=0
def tw16137283519379874542:=0
def tw9756805247679900366:=0
def tw8929914942932358798:=0
def tw2090281178146252366:=0
def tw3299728256594441742:=0
def tw2724420095746185582:=0
def tw8291907052160629070:=0
def tw15630556833754271982:=0
def tw4728438774003439790:=0
def tw18307232405623281838:=0
def tw14056221309265216558:=0
def tw12692984270867675085:=0
def tw4691896969795083181:=0
def tw6212917045733053197:=0
def tw7689962362233357005:=0
def tw10489898829249379981:=0
def tw14523852747444714029:=0
def tw12708797580362575309:=0
def tw16380646063063976365:=0
def tw14366839042950171981:=0
def tw9575382702467124525:=0
def tw14086580171503546445:=0
def tw16253073166988093388:=0
def tw10934121581208159148:=0
def tw15665385308008063724:=0
def tw18102521844058730156:=0
def tw1338261221930137196:=0
def tw12891171606119248428:=0
def tw14419225652031804812:=0
def tw11383051707350724940:=0
def tw13402372288098160972:=0
def tw15298851014657193996:=0
def tw15500044998202179307:=0
def tw662773036989883083:=0
def tw3974719973387370955:=0
def tw1024689813432826219:=0
def tw13678642049030317355:=0
def tw14855559074623632683:=0
def tw7295805702360937611:=0
def tw7173487235370857579:=0
def tw16942675918275574859:=0
def tw16061108929025865739:=0
def tw15485714359185927082:=0
def tw1521442707804073834:=0
def tw175398669328794346:=0
def tw1619866179689375370:=0
def tw11181455592695149162:=0
def tw8563354456199502154:=0
def tw6703020801943279850:=0
def tw7381799733537654986:=0
def tw5360053563663400937:=0
def tw1109061106438005705:=0
def tw1765768598555702185:=0
def tw6468343229261554505:=0
def tw2036757810411625225:=0
def tw16175253935255913161:=0
def tw5176084317852672585:=0
def tw5304218809860333065:=0
def tw18290738839659510249:=0
def tw16137775964697554217:=0
def tw18072929873841317001:=0
def tw1709770473545215113:=0
def tw1408926659737994345:=0
def tw8990912111033805929:=0
def tw7852233281746159528:=0
def tw9122217250979127208:=0
def tw5446906715653584520:=0
def tw12758872334486136360:=0
def tw16294375574909836808:=0
def tw5104225822263865800:=0
def tw15695572581235627432:=0
def tw7514762187726113096:=0
def tw11119600342326349064:=0
def tw8409980476435040488:=0
def tw2437992183042780360:=0
def tw2638835056726481000:=0
def tw13489786556627452968:=0
def tw8271364899595384840:=0
def tw378701183691128840:=0
def tw11039463156805496359:=0
def tw14229287823852878375:=0
def tw12775181864126026119:=0
def tw16799555698739494279:=0
def tw11711472108778510695:=0
def tw15798571503215705447:=0
def tw9523998588612766759:=0
def tw13654736926575810599:=0
def tw8992699233817153382:=0
def tw7498636434904638982:=0
def tw767259015104310790:=0
def tw16303422584446315974:=0
def tw17878938527926255974:=0
def tw3524833678981732678:=0
def tw14468606198283300166:=0
def tw15036680098861576326:=0
def tw7861539200812347398:=0
def tw472825601528194021:=0
def tw2575788813492294501:=0
def tw387839817829377861:=0
def tw4262458956991578789:=0
def tw16944021697247420965:=0
def tw16510303877032651109:=0
def tw2616549891949099365:=0
def tw15795263868417193285:=0
def tw2871181101872073029:=0
def tw12748313735131866309:=0
def tw11148804291714396357:=0
def tw10150472817535383717:=0
def tw708615635451089029:=0
def tw17605356633646925829:=0
def tw3042765995904713668:=0
def tw3538768039328687044:=0
def tw13310309304791463812:=0
def tw10213576497907549700:=0
def tw9018559534760637892:=0
def tw11772872361799250308:=0
def tw17093003883207024004:=0
def tw16531678065021660420:=0
def tw18167191481957393668:=0
def tw16481792332984905892:=0
def tw4614041130091821156:=0
def tw13268273116662819940:=0
def tw6883528805250625572:=0
def tw13408622237543692163:=0
def tw16805006974679119683:=0
def tw17515339895595701059:=0
def tw15630338472128914179:=0
def tw12202003108673588963:=0
def tw7467233772668031587:=0
def tw10554557444423663075:=0
def tw9461874879249424803:=0
def tw810434642041710883:=0
def tw2195902875716515011:=0
def tw438142118674184355:=0
def tw17441632449948598242:=0
def tw10770294217162452610:=0
def tw15857864233998174850:=0
def tw17393490086639322498:=0
def tw14087833768830859554:=0
def tw14902901010533800098:=0
def tw8299280652716158018:=0
def tw8913220380945136674:=0
def tw129731402537408481:=0
def tw8424792825264573313:=0
def tw16683492055391096513:=0
def tw3811544187891834529:=0
def tw15972212055949198849:=0
def tw7740746464998234561:=0
def tw6205169100270968097:=0
def tw14037951514799971585:=0
def tw10816169006707533953:=0
def tw2195473155525131329:=0
def tw7569491517726642209:=0
def tw18325446892494795712:=0
def tw6881091228063949504:=0
def tw6724440470183983776:=0
def tw8347291507431795200:=0
def tw13374762320264309952:=0
def tw8331610758671093952:=0
def tw9580610155926669472:=0
def tw13557766167216756896:=0
end PySem.W.Fast
end
set_option maxRecDepth 100000 in
set_option maxHeartbeats 0 in
theorem PySem.Challenge.cw_skeinwood_k53_spells_just_holds : PySem.Challenge.rw_skeinwood_k53_spells_just.Holds := by
 w_on; o_law; k_head; (case hw => w_witness2)
 k_fill
 refine Sk.walk (l := PySem.Challenge.rw_skeinwood_k53_spells_just) rfl rfl (fun w h Y => PySem.W.kIn_of Y) ?F
 case F =>
  intro w mg fa h KX G hmg
  refine' Sk.all_mk KX G hmg ?aC0 ?a0 ?i0 ?l0 ?c0 ?k0 ?a4 ?i4 ?l4 ?c4 ?k4 ?a5 ?i5 ?l5 ?c5 ?k5 ?a6 ?i6 ?l6 ?c6 ?k6 ?a7 ?i7 ?l7 ?c7 ?k7 ?a8 ?i8 ?l8 ?c8 ?k8 ?a9 ?i9 ?l9 ?c9 ?k9 ?a15 ?i15 ?l15 ?c15 ?k15 ?a16 ?i16 ?l16 ?c16 ?k16 ?a19 ?i19 ?l19 ?c19 ?k19 ?a20 ?i20 ?l20 ?c20 ?k20 ?a21 ?i21 ?l21 ?c21 ?k21 ?a22 ?i22 ?l22 ?c22 ?k22 ?a24 ?i24 ?l24 ?c24 ?k24 ?a26 ?i26 ?l26 ?c26 ?k26 ?a36 ?i36 ?l36 ?c36 ?k36 ?a1 ?l1 ?c1 ?k1 ?a2 ?l2 ?c2 ?k2 ?a3 ?l3 ?c3 ?k3 ?a10 ?l10 ?c10 ?k10 ?a11 ?l11 ?c11 ?k11 ?a12 ?l12 ?c12 ?k12 ?a13 ?l13 ?c13 ?k13 ?a14 ?l14 ?c14 ?k14 ?a17 ?l17 ?c17 ?k17 ?a18 ?l18 ?c18 ?k18 ?a23 ?l23 ?c23 ?k23 ?a25 ?l25 ?c25 ?k25 ?a27 ?l27 ?c27 ?k27 ?a28 ?l28 ?c28 ?k28 ?a29 ?l29 ?c29 ?k29 ?a30 ?l30 ?c30 ?k30 ?a31 ?l31 ?c31 ?k31 ?a32 ?l32 ?c32 ?k32 ?a33 ?l33 ?c33 ?k33 ?a34 ?l34 ?c34 ?k34 ?a35 ?l35 ?c35 ?k35 ?a37 ?l37 ?c37 ?k37 ?a38 ?l38 ?c38 ?k38 ?a39 ?l39 ?c39 ?k39 ?a40 ?l40 ?c40 ?k40 ?a41 ?l41 ?c41 ?k41 ?a42 ?l42 ?c42 ?k42 ?a43 ?l43 ?c43 ?k43 ?a44 ?l44 ?c44 ?k44 ?a45 ?l45 ?c45 ?k45 ?a46 ?l46 ?c46 ?k46 ?a47 ?l47 ?c47 ?k47 ?a48 ?l48 ?c48 ?k48 ?a49 ?l49 ?c49 ?k49 ?a50 ?l50 ?c50 ?k50 ?a51 ?l51 ?c51 ?k51 ?a52 ?l52 ?c52 ?k52 ?a53 ?l53 ?c53 ?k53 ?a54 ?l54 ?c54 ?k54 ?pg0 ?hd0 ?po0 ?sa0 ?mk0 ?kc0 ?nf0_0 ?nf0_1 ?nf0_2 ?nf0_3 ?nf0_4 ?nf0_5 ?nf0_6 ?nf0_7 ?z_abs ?z_all ?z_bool ?z_int ?z_isinstance ?z_len ?z_list ?z_max ?z_min ?z_range ?z_reversed ?z_str ?z_sum ?e_SkeinError ?e_NoText ?x_NoText ?e_NoPiece ?x_NoPiece ?e_Loose ?x_Loose ?e_Unlevel ?x_Unlevel ?e_TooLong ?x_TooLong ?m_LEAF_SIGNS ?m_MOST_PLAIN ?m_MOST_SIGNS
  (case aC0 => k_is)
  (case a0 => k_is)
  (case i0 => k_is)
  (case l0 => k_is)
  (case c0 => k_is)
  (case k0 => k_is)
  (case a4 => k_is)
  (case i4 => k_is)
  (case l4 => k_is)
  (case c4 => k_is)
  (case k4 => k_is)
  (case a5 => k_is)
  (case i5 => k_is)
  (case l5 => k_is)
  (case c5 => k_is)
  (case k5 => k_is)
  (case a6 => k_is)
  (case i6 => k_is)
  (case l6 => k_is)
  (case c6 => k_is)
  (case k6 => k_is)
  (case a7 => k_is)
  (case i7 => k_is)
  (case l7 => k_is)
  (case c7 => k_is)
  (case k7 => k_is)
  (case a8 => k_is)
  (case i8 => k_is)
  (case l8 => k_is)
  (case c8 => k_is)
  (case k8 => k_is)
  (case a9 => k_is)
  (case i9 => k_is)
  (case l9 => k_is)
  (case c9 => k_is)
  (case k9 => k_is)
  (case a15 => k_is)
  (case i15 => k_is)
  (case l15 => k_is)
  (case c15 => k_is)
  (case k15 => k_is)
  (case a16 => k_is)
  (case i16 => k_is)
  (case l16 => k_is)
  (case c16 => k_is)
  (case k16 => k_is)
  (case a19 => k_is)
  (case i19 => k_is)
  (case l19 => k_is)
  (case c19 => k_is)
  (case k19 => k_is)
  (case a20 => k_is)
  (case i20 => k_is)
  (case l20 => k_is)
  (case c20 => k_is)
  (case k20 => k_is)
  (case a21 => k_is)
  (case i21 => k_is)
  (case l21 => k_is)
  (case c21 => k_is)
  (case k21 => k_is)
  (case a22 => k_is)
  (case i22 => k_is)
  (case l22 => k_is)
  (case c22 => k_is)
  (case k22 => k_is)
  (case a24 => k_is)
  (case i24 => k_is)
  (case l24 => k_is)
  (case c24 => k_is)
  (case k24 => k_is)
  (case a26 => k_is)
  (case i26 => k_is)
  (case l26 => k_is)
  (case c26 => k_is)
  (case k26 => k_is)
  (case a36 => k_is)
  (case i36 => k_is)
  (case l36 => k_is)
  (case c36 => k_is)
  (case k36 => k_is)
  (case a1 => k_is)
  (case l1 => k_is)
  (case c1 => k_is)
  (case k1 => k_is)
  (case a2 => k_is)
  (case l2 => k_is)
  (case c2 => k_is)
  (case k2 => k_is)
  (case a3 => k_is)
  (case l3 => k_is)
  (case c3 => k_is)
  (case k3 => k_is)
  (case a10 => k_is)
  (case l10 => k_is)
  (case c10 => k_is)
  (case k10 => k_is)
  (case a11 => k_is)
  (case l11 => k_is)
  (case c11 => k_is)
  (case k11 => k_is)
  (case a12 => k_is)
  (case l12 => k_is)
  (case c12 => k_is)
  (case k12 => k_is)
  (case a13 => k_is)
  (case l13 => k_is)
  (case c13 => k_is)
  (case k13 => k_is)
  (case a14 => k_is)
  (case l14 => k_is)
  (case c14 => k_is)
  (case k14 => k_is)
  (case a17 => k_is)
  (case l17 => k_is)
  (case c17 => k_is)
  (case k17 => k_is)
  (case a18 => k_is)
  (case l18 => k_is)
  (case c18 => k_is)
  (case k18 => k_is)
  (case a23 => k_is)
  (case l23 => k_is)
  (case c23 => k_is)
  (case k23 => k_is)
  (case a25 => k_is)
  (case l25 => k_is)
  (case c25 => k_is)
  (case k25 => k_is)
  (case a27 => k_is)
  (case l27 => k_is)
  (case c27 => k_is)
  (case k27 => k_is)
  (case a28 => k_is)
  (case l28 => k_is)
  (case c28 => k_is)
  (case k28 => k_is)
  (case a29 => k_is)
  (case l29 => k_is)
  (case c29 => k_is)
  (case k29 => k_is)
  (case a30 => k_is)
  (case l30 => k_is)
  (case c30 => k_is)
  (case k30 => k_is)
  (case a31 => k_is)
  (case l31 => k_is)
  (case c31 => k_is)
  (case k31 => k_is)
  (case a32 => k_is)
  (case l32 => k_is)
  (case c32 => k_is)
  (case k32 => k_is)
  (case a33 => k_is)
  (case l33 => k_is)
  (case c33 => k_is)
  (case k33 => k_is)
  (case a34 => k_is)
  (case l34 => k_is)
  (case c34 => k_is)
  (case k34 => k_is)
  (case a35 => k_is)
  (case l35 => k_is)
  (case c35 => k_is)
  (case k35 => k_is)
  (case a37 => k_is)
  (case l37 => k_is)
  (case c37 => k_is)
  (case k37 => k_is)
  (case a38 => k_is)
  (case l38 => k_is)
  (case c38 => k_is)
  (case k38 => k_is)
  (case a39 => k_is)
  (case l39 => k_is)
  (case c39 => k_is)
  (case k39 => k_is)
  (case a40 => k_is)
  (case l40 => k_is)
  (case c40 => k_is)
  (case k40 => k_is)
  (case a41 => k_is)
  (case l41 => k_is)
  (case c41 => k_is)
  (case k41 => k_is)
  (case a42 => k_is)
  (case l42 => k_is)
  (case c42 => k_is)
  (case k42 => k_is)
  (case a43 => k_is)
  (case l43 => k_is)
  (case c43 => k_is)
  (case k43 => k_is)
  (case a44 => k_is)
  (case l44 => k_is)
  (case c44 => k_is)
  (case k44 => k_is)
  (case a45 => k_is)
  (case l45 => k_is)
  (case c45 => k_is)
  (case k45 => k_is)
  (case a46 => k_is)
  (case l46 => k_is)
  (case c46 => k_is)
  (case k46 => k_is)
  (case a47 => k_is)
  (case l47 => k_is)
  (case c47 => k_is)
  (case k47 => k_is)
  (case a48 => k_is)
  (case l48 => k_is)
  (case c48 => k_is)
  (case k48 => k_is)
  (case a49 => k_is)
  (case l49 => k_is)
  (case c49 => k_is)
  (case k49 => k_is)
  (case a50 => k_is)
  (case l50 => k_is)
  (case c50 => k_is)
  (case k50 => k_is)
  (case a51 => k_is)
  (case l51 => k_is)
  (case c51 => k_is)
  (case k51 => k_is)
  (case a52 => k_is)
  (case l52 => k_is)
  (case c52 => k_is)
  (case k52 => k_is)
  (case a53 => k_is)
  (case l53 => k_is)
  (case c53 => k_is)
  (case k53 => k_is)
  (case a54 => k_is)
  (case l54 => k_is)
  (case c54 => k_is)
  (case k54 => k_is)
  (case pg0 => k_is)
  (case hd0 => k_is)
  (case po0 => k_is)
  (case sa0 => k_is)
  (case mk0 => k_is)
  (case kc0 => k_is)
  (case nf0_0 => k_is)
  (case nf0_1 => k_is)
  (case nf0_2 => k_is)
  (case nf0_3 => k_is)
  (case nf0_4 => k_is)
  (case nf0_5 => k_is)
  (case nf0_6 => k_is)
  (case nf0_7 => k_is)
  (case z_abs => k_is)
  (case z_all => k_is)
  (case z_bool => k_is)
  (case z_int => k_is)
  (case z_isinstance => k_is)
  (case z_len => k_is)
  (case z_list => k_is)
  (case z_max => k_is)
  (case z_min => k_is)
  (case z_range => k_is)
  (case z_reversed => k_is)
  (case z_str => k_is)
  (case z_sum => k_is)
  (case e_SkeinError => k_is)
  (case e_NoText => k_is)
  (case x_NoText => k_exc)
  (case e_NoPiece => k_is)
  (case x_NoPiece => k_exc)
  (case e_Loose => k_is)
  (case x_Loose => k_exc)
  (case e_Unlevel => k_is)
  (case x_Unlevel => k_exc)
  (case e_TooLong => k_is)
  (case x_TooLong => k_exc)
  (case m_LEAF_SIGNS => k_is)
  (case m_MOST_PLAIN => k_is)
  (case m_MOST_SIGNS => k_is)
