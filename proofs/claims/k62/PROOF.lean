import PyProof.Rows.All
import Wide.All
import OpenK.AllK
import Wide.FinOn
import Lean
import PyProof.EqAt
import PyProof.EqKinds
import PyProof.TupleCall
import PyProof.StrCalls2
import PyProof.SumAny
import PyProof.Rows.Range3
import PyProof.StrBlockI
import PyProof.SliceStr2
import PyProof.IsRules
import PyProof.StrBlock2
import PyProof.ListRange
import KE.KRevSl
import KE.KRevIter
import PyProof.StrBlock
import PyProof.Draws
import PyProof.StrLawsIn
import PySem.Challenge.RW_skeinwood_k62_held_together
set_option Elab.async false
set_option linter.all false
set_option maxRecDepth 100000
noncomputable section
namespace L2
open PySem PySem.Spec PyProof.Rows
abbrev Key:=Sum Int Str
abbrev b01 (b:Bool):Int:=if b then 1 else 0
def yd4:Key->Value->Bool
 | .inl k,.bool b=>decide (k=b01 b)
 | .inl k,v=>Value.isInt k v
 | .inr x,v=>Value.isStrOf x v
def keyH (w:World):Key->Int
 | .inl k=>hashInt k
 | .inr x=>hashStr w x
theorem zat:∀ {k:Key} {v:Value},yd4 k v=true->(∃ i t,k=Sum.inl i/\v=Value.int i t)\/(∃ b,k=Sum.inl (b01 b)/\v=Value.bool b)\/(∃ x t,k=Sum.inr x/\v=Value.str x t)
 | .inl i,v,h=>by
  cases v with
  | bool b=>exact .inr (.inl ⟨b,by rw [of_decide_eq_true (show decide (i=b01 b)=true from h)],rfl⟩)
  | int j t =>
   obtain ⟨t,e⟩:=Value.isInt_shape (k:=i) (v:=.int j t) h
   exact .inl ⟨i,t,rfl,e⟩
  | _=>exact absurd h (by simp [yd4,Value.isInt])
 | .inr x,v,h=>by
  obtain ⟨t,e⟩:=Value.isStrOf_shape (x:=x) (v:=v) h
  exact .inr (.inr ⟨x,t,rfl,e⟩)
theorem zg1 (i:Int) (t:Tok):yd4 (.inl i) (.int i t)=true:=by simp [yd4,Value.isInt]
theorem zg2 (x:Str) (t:Tok):yd4 (.inr x) (.str x t)=true:=by simp [yd4,Value.isStrOf]
theorem yeU (a b:Int):decide ((Sum.inl a:Key)=Sum.inl b)=(a == b):=by
 by_cases e:a=b
 ·subst e;simp
 ·have h : ¬ (Sum.inl a:Key)=Sum.inl b:=fun q=>e (Sum.inl.inj q)
  rw [decide_eq_false h];exact (beq_eq_false_iff_ne.mpr e).symm
theorem ygU (a b:Str):decide ((Sum.inr a:Key)=Sum.inr b)=decide (a=b):=by
 by_cases e:a=b
 ·subst e;simp
 ·have h : ¬ (Sum.inr a:Key)=Sum.inr b:=fun q=>e (Sum.inr.inj q)
  rw [decide_eq_false h,decide_eq_false e]
theorem yfr (a:Int) (b:Str):decide ((Sum.inl a:Key)=Sum.inr b)=false:=decide_eq_false (fun q=>nomatch q)
theorem yfs (a:Str) (b:Int):decide ((Sum.inr a:Key)=Sum.inl b)=false:=decide_eq_false (fun q=>nomatch q)
theorem zcO {prog:Program} {w:World} {A:Around} {E:Value->Shared->Prop} {s:Shared} {b:Bool} {Q:Int->Shared->Prop} (h:Q (hashInt (b01 b)) { s with toks:=s.toks+1 }) :
  wpAny (model prog w) A (pyHash (.bool b)) Q E s:=by
 unfold pyHash
 unfold pyHashByItsType
 have hv:[Value.bool b].any Value.onHeap=false:=rfl
 refine wpAny_bind ?_
 rw [cRoomFor,if_neg (by rw [hv];exact Bool.false_ne_true)];refine wpAny_pure ?_
 refine wpAny_bind (wpAny_specialOf (PySem.typeIs_bool s b) PySem.F.slot_bool_hash.lookup ?_)
 show wpAny _ _ (if (some (Value.builtin "int.__hash__") == some Value.none)=true then _ else _) Q E s
 rw [if_neg (by rw [beq_builtin_none];exact Bool.false_ne_true)]
 refine wpAny_bind (wpAny_specialOf (PySem.typeIs_bool s b) PySem.F.slot_bool_hash.lookup ?_)
 show wpAny _ _ (callSpecialIfBoundUnlessNone? (.bool b) "__hash__" _ >>= _) Q E s
 cases b with
 | false =>
  refine wpAny_bind (wpAny_callSpecialIfBoundUnlessNone?_slot (PySem.typeIs_bool s false) PySem.F.slot_bool_hash
   (wpAny_call_entry PySem.F.slot_bool_hash (PySem.typeIs_bool s false) entry_int_hash
    (show wpAny _ _ (do ret (<- mkInt 0)) _ _ s from wpAny_ret_mkInt ?_) (args_int_hash _)))
  exact wpAny_pure h
 | true =>
  refine wpAny_bind (wpAny_callSpecialIfBoundUnlessNone?_slot (PySem.typeIs_bool s true) PySem.F.slot_bool_hash
   (wpAny_call_entry PySem.F.slot_bool_hash (PySem.typeIs_bool s true) entry_int_hash
    (show wpAny _ _ (do ret (<- mkInt 1)) _ _ s from wpAny_ret_mkInt ?_) (args_int_hash _)))
  exact wpAny_pure h
theorem ziC (a b:Bool):(a == b)=decide ((Sum.inl (b01 a):Key)=Sum.inl (b01 b)):=by cases a<;>cases b<;>decide
def ybx (prog:Program) (w:World):PySem.KeyKind prog w Key where
 is:=yd4
 hash:=keyH w
 inj:=fun v a b ha hb=>by
  rcases zat ha with ⟨i,t,rfl,rfl⟩ | ⟨c,rfl,rfl⟩ | ⟨x,t,rfl,rfl⟩
  ·rcases zat hb with ⟨j,u,rfl,e⟩ | ⟨d,rfl,e⟩ | ⟨y,u,rfl,e⟩
   ·injection e with e1 _;rw [e1]
   ·exact nomatch e
   ·exact nomatch e
  ·rcases zat hb with ⟨j,u,rfl,e⟩ | ⟨d,rfl,e⟩ | ⟨y,u,rfl,e⟩
   ·exact nomatch e
   ·injection e with e1;rw [e1]
   ·exact nomatch e
  ·rcases zat hb with ⟨j,u,rfl,e⟩ | ⟨d,rfl,e⟩ | ⟨y,u,rfl,e⟩
   ·exact nomatch e
   ·exact nomatch e
   ·injection e with e1 _;rw [e1]
 byValue:=fun k v h=>by
  rcases zat h with ⟨i,t,rfl,rfl⟩ | ⟨c,rfl,rfl⟩ | ⟨x,t,rfl,rfl⟩<;>rfl
 pyHash:=fun hv h=>by
  rcases zat hv with ⟨i,t,rfl,rfl⟩ | ⟨c,rfl,rfl⟩ | ⟨x,t,rfl,rfl⟩
  ·exact wpAny_pyHash_int h
  ·exact zcO h
  ·exact wpAny_pyHash_str h
 eqBool:=fun hu hv h=>by
  rcases zat hu with ⟨i,t,rfl,rfl⟩ | ⟨c,rfl,rfl⟩ | ⟨x,t,rfl,rfl⟩
  ·rcases zat hv with ⟨j,u,rfl,rfl⟩ | ⟨d,rfl,rfl⟩ | ⟨y,u,rfl,rfl⟩
   ·rw [yeU] at h;exact wpAny_eqBool_int h
   ·rw [yeU] at h;exact SeqAt.EqAt.int_bool i t d _ _ _ _ h
   ·rw [yfr] at h;exact SeqAt.EqAt.int_str i t y u _ _ _ _ h
  ·rcases zat hv with ⟨j,u,rfl,rfl⟩ | ⟨d,rfl,rfl⟩ | ⟨y,u,rfl,rfl⟩
   ·rw [yeU] at h;exact SeqAt.EqAt.bool_int c j u _ _ _ _ h
   ·rw [<- ziC] at h;exact SeqAt.EqAt.bool_bool c d _ _ _ _ h
   ·rw [yfr] at h;exact SeqAt.EqAt.bool_str c y u _ _ _ _ h
  ·rcases zat hv with ⟨j,u,rfl,rfl⟩ | ⟨d,rfl,rfl⟩ | ⟨y,u,rfl,rfl⟩
   ·rw [yfs] at h;exact SeqAt.EqAt.str_int x t j u _ _ _ _ h
   ·rw [yfs] at h;exact SeqAt.EqAt.str_bool x t d _ _ _ _ h
   ·rw [ygU] at h;exact wpAny_eqBool_str h
 «strs» := fun k x t v h=>by
  rcases zat h with ⟨i,u,rfl,e⟩ | ⟨d,rfl,e⟩ | ⟨y,u,rfl,e⟩
  ·exact nomatch e
  ·exact nomatch e
  ·injection e with e1 _
   subst e1
   cases v<;>rfl
theorem zcQ (prog:Program) (w:World) (i:Int) (t:Tok):(ybx prog w).is (.inl i) (.int i t)=true:=zg1 i t
theorem zcR (prog:Program) (w:World) (x:Str) (t:Tok):(ybx prog w).is (.inr x) (.str x t)=true:=zg2 x t
end L2
namespace L2
open PySem PySem.Spec PyProof.Rows
inductive V where
 | non | bl (b:Bool) | int (i:Int) | str (x:Str) | byt (b:Array UInt8) | flt (b:UInt64) | ref (a:Addr) | ty (n:String)
 deriving DecidableEq
def RelV:V->Value->Prop
 | .non,u=>u=Value.none
 | .bl b,u=>u=Value.bool b
 | .int i,u=>∃ t,u=Value.int i t
 | .str x,u=>∃ t,u=Value.str x t
 | .byt b,u=>∃ t,u=Value.bytes b t
 | .flt b,u=>∃ t,u=Value.float b t
 | .ref a,u=>u=Value.ref a
 | .ty n,u=>u=Value.type n
abbrev Vals:List V->List Value->Prop:=Paired RelV
theorem Vals.length {xs:List V} {us:List Value} (r:Vals xs us):xs.length=us.length:=Paired.length r
theorem Vals.get:∀ {xs:List V} {us:List Value} {i:Nat} {x:V},Vals xs us->xs[i]? = some x->∃ u,us[i]? = some u/\RelV x u
 | _,_,_,_,.nil,e=>by simp at e
 | _,_,0,_,.cons r _,e=>by simp at e;subst e;exact ⟨_,rfl,r⟩
 | _,_,i+1,x,.cons _ t,e=>by
  obtain ⟨u,h1,h2⟩:=Vals.get (i:=i) (x:=x) t (by simpa using e)
  exact ⟨u,by simpa using h1,h2⟩
theorem Vals.set {x:V} {u:Value} (r:RelV x u):∀ {xs:List V} {us:List Value} (i:Nat),Vals xs us->Vals (xs.set i x) (us.set i u)
 | _,_,_,.nil=>.nil
 | _,_,0,.cons _ t=>.cons r t
 | _,_,i+1,.cons q t=>.cons q (Vals.set r i t)
theorem Vals.append:∀ {xs ys:List V} {us ws:List Value},Vals xs us->Vals ys ws->Vals (xs++ys) (us++ws)
 | _,_,_,_,.nil,s=>s
 | _,_,_,_,.cons r t,s=>.cons r (Vals.append t s)
theorem Vals.take:∀ {xs:List V} {us:List Value} (n:Nat),Vals xs us->Vals (xs.take n) (us.take n)
 | _,_,0,_=>.nil
 | _,_,_+1,.nil=>.nil
 | _,_,n+1,.cons r t=>.cons r (Vals.take n t)
theorem Vals.drop:∀ {xs:List V} {us:List Value} (n:Nat),Vals xs us->Vals (xs.drop n) (us.drop n)
 | _,_,0,r=>r
 | _,_,_+1,.nil=>.nil
 | _,_,n+1,.cons _ t=>Vals.drop n t
def RelO:Option V->Option Value->Prop
 | some v,some u=>RelV v u
 | none,none=>True
 | _,_=>False
def KV {κ:Type}:List (κ×V)->List (κ×Value)->Prop:=Paired fun (p:κ×V) (q:κ×Value)=>p.1=q.1/\RelV p.2 q.2
def kV:Key->V
 | .inl i=>.int i
 | .inr x=>.str x
def kOf:V->Option Key
 | .int i=>some (.inl i)
 | .bl b=>some (.inl (b01 b))
 | .str x=>some (.inr x)
 | _=>none
theorem ygV (k:Key):kOf (kV k)=some k:=by cases k<;>rfl
inductive HO where
 | lst (xs:List V)
 | tup (xs:List V)
 | dK (kvs:List (Key×V)) | dT (kvs:List (List Key×V))
 | set (S:Int->Bool) (n:Nat)
 | ins (C dx:Addr) (fs:List (Str×V))
 | own (x:Addr)
 | xd (fs:List (Str×V))
 | met (f x:Addr)
 | rng (lo hi:Int)
 | frz (o:Obj) (u:HO)
 | tbl (ps:Array Value)
 | ext (φ:Heap->Prop)
abbrev Hp:=Addr->Option HO
def upd (H:Hp) (a:Addr) (o:HO):Hp:=fun b=>if b=a then some o else H b
theorem zav {H:Hp} {a:Addr} {o:HO}:upd H a o a=some o:=by unfold upd;rw [if_pos rfl]
theorem yaC {H:Hp} {a b:Addr} {o:HO} (h:b≠a):upd H a o b=H b:=by unfold upd;rw [if_neg h]
theorem yim {H:Hp} {a b:Addr} {o u:HO} (h:H a=some o) (h':H b=some u) (d:o≠u):a≠b:=by
 intro e;subst e;rw [h] at h';exact d (Option.some.inj h')
theorem zau {H:Hp} {a b:Addr} {o:HO} (h:H a=some o) (h':H b=none):a≠b:=by
 intro e;subst e;rw [h] at h';cases h'
section
variable (P:Program) (w:World)
def ObjOk (H:Hp) (h:Heap) (a:Addr):HO->Prop
 | .lst xs=>xs.length<=sizeLine/\∃ (its:List Value) (n:Nat),Vals xs its/\h.get? a=some { cls:=.type "list",data:=.seq its.toArray n }
 | .tup xs=>xs.length<=sizeLine/\∃ its:List Value,Vals xs its/\IsTup h a its.toArray
 | .dK kvs=>kvs.length<=sizeLine/\(a == sysModules)=false/\∃ vs,KV kvs vs/\h.DictOf (ybx P w) a vs
 | .dT kvs=>kvs.length<=sizeLine/\(a == sysModules)=false/\∃ xs:List (List Key×Addr×Value),
   Paired (fun (p:List Key×V) (q:List Key×Addr×Value)=>p.1=q.1/\(∃ ys,H q.2.1=some (.tup ys)/\ys.map kOf=p.1.map some)/\RelV p.2 q.2.2) kvs xs /\
   ∃ o es ep,h.get? a=some o/\o.ExactDict/\o.data = .dict es ep/\es.toList=xs.map (entryOfKey (tupleKind (ybx P w)))/\(xs.map (·.1)).Nodup
 | .set S n=>h.SetOf (intKind P w) a S n
 | .ins C dx fs=>H dx=some (.own a)/\fs.length<=1000/\dx≠a/\h.get? a=some (PySem.W.instObj C dx) /\
   ∃ mA,h.Ns1 dx mA/\(∀ f,RelO (fs.lookup f) (mA f))/\PySem.Within mA (fs.map (·.1))
 | .own _=>∃ o,h.get? a=some o
 | .xd fs=>∃ mA,h.Ns1 a mA/\∀ f,RelO (fs.lookup f) (mA f)
 | .rng lo hi=>∃ t u v,h.get? a=some { cls:=.type "range",data:=.fields #[.int lo t,.int hi u,.int 1 v] }
 | .frz o u=>h.get? a=some o/\ObjOk H h a u
 | .tbl ps=>h.get? a=some { cls:=.none,data:=.fields ps }
 | .met f x=>h.get? a=some (PySem.W.methodObj (.ref f) (.ref x))
 | .ext φ=>φ h/\(∃ o,h.get? a=some o)/\∀ h1 h2:Heap,φ h1->(∀ o,h1.get? a=some o->h2.get? a=some o)->φ h2
def HOk (H:Hp) (h:Heap):Prop:=∀ a o,H a=some o->ObjOk P w H h a o
end
section
variable {P:Program} {w:World} {H H':Hp} {h h':Heap} {a:Addr} {o:HO}
theorem ObjOk.lt (x:ObjOk P w H h a o):a<h.objs.size:=by
 cases o with
 | lst xs=>obtain ⟨_,_,_,_,e⟩:=x;exact Heap.lt_size e
 | tup xs=>obtain ⟨_,_,_,p⟩:=x;exact p.lt
 | dK kvs=>obtain ⟨_,_,_,_,o,_,_,e,_⟩:=x;exact Heap.lt_size e
 | dT kvs=>obtain ⟨_,_,_,_,o,_,_,e,_⟩:=x;exact Heap.lt_size e
 | set S n=>obtain ⟨o,_,_,_,e,_⟩:=x;exact Heap.lt_size e
 | ins C dx fs=>obtain ⟨_,_,_,e,_⟩:=x;exact Heap.lt_size e
 | own y=>obtain ⟨_,e⟩:=x;exact Heap.lt_size e
 | xd fs=>obtain ⟨_,⟨_,_,_,e,_⟩,_⟩:=x;exact Heap.lt_size e
 | rng lo hi=>obtain ⟨_,_,_,e⟩:=x;exact Heap.lt_size e
 | frz ob u=>obtain ⟨e,_⟩:=x;exact Heap.lt_size e
 | tbl ps=>exact Heap.lt_size (show h.get? a=some _ from x)
 | met f y=>exact Heap.lt_size (show h.get? a=some _ from x)
 | ext φ=>obtain ⟨_,⟨_,e⟩,_⟩:=x;exact Heap.lt_size e
theorem Paired.mapP {α β:Type} {F G:α->β->Prop}:∀ {l₁:List α} {l₂:List β},Paired F l₁ l₂->(∀ a b,F a b->G a b)->Paired G l₁ l₂
 | _,_,.nil,_=>.nil
 | _,_,.cons r t,f=>.cons (f _ _ r) (Paired.mapP t f)
theorem ObjOk.stay (x:ObjOk P w H h a o) (k:∀ b u,(b=a\/H b=some (.own a))->h.get? b=some u->h'.get? b=some u)
  (ho:∀ b,H b=some (.own a)->H' b=some (.own a)) (ht:∀ b xs,H b=some (.tup xs)->H' b=some (.tup xs)):ObjOk P w H' h' a o:=by
 induction o with
 | lst xs=>obtain ⟨z,its,n,r,e⟩:=x;exact ⟨z,its,n,r,k _ _ (.inl rfl) e⟩
 | tup xs=>obtain ⟨z,its,r,ob,e,c⟩:=x;exact ⟨z,its,r,ob,k _ _ (.inl rfl) e,c⟩
 | dK kvs=>obtain ⟨z,y,vs,r,ob,es,ep,e,c⟩:=x;exact ⟨z,y,vs,r,ob,es,ep,k _ _ (.inl rfl) e,c⟩
 | dT kvs =>
  obtain ⟨z,y,xs,r,ob,es,ep,e,c⟩:=x
  exact ⟨z,y,xs,Paired.mapP r fun p q z=>⟨z.1,z.2.1.imp fun _ e=>⟨ht _ _ e.1,e.2⟩,z.2.2⟩,ob,es,ep,k _ _ (.inl rfl) e,c⟩
 | set S n=>obtain ⟨ob,es,ep,t,e,c⟩:=x;exact ⟨ob,es,ep,t,k _ _ (.inl rfl) e,c⟩
 | ins C dx fs =>
  obtain ⟨d,z,ne,e,mA,⟨od,es,ep,e2,c⟩,r⟩:=x
  exact ⟨ho _ d,z,ne,k _ _ (.inl rfl) e,mA,⟨od,es,ep,k _ _ (.inr d) e2,c⟩,r⟩
 | own y=>obtain ⟨ob,e⟩:=x;exact ⟨ob,k _ _ (.inl rfl) e⟩
 | xd fs=>obtain ⟨mA,⟨od,es,ep,e,c⟩,r⟩:=x;exact ⟨mA,⟨od,es,ep,k _ _ (.inl rfl) e,c⟩,r⟩
 | rng lo hi=>obtain ⟨t,u,v,e⟩:=x;exact ⟨t,u,v,k _ _ (.inl rfl) e⟩
 | frz ob u ih=>obtain ⟨e,q⟩:=x;exact ⟨k _ _ (.inl rfl) e,ih q⟩
 | tbl ps =>
  have e:h.get? a=some { cls:=.none,data:=.fields ps }:=x
  show h'.get? a=some { cls:=.none,data:=.fields ps }
  exact k a _ (.inl rfl) e
 | met f y =>
  have e:h.get? a=some (PySem.W.methodObj (.ref f) (.ref y)):=x
  show h'.get? a=some (PySem.W.methodObj (.ref f) (.ref y))
  exact k a _ (.inl rfl) e
 | ext φ=>obtain ⟨p,⟨o,e⟩,st⟩:=x;exact ⟨st _ _ p fun o q=>k _ _ (.inl rfl) q,⟨o,k _ _ (.inl rfl) e⟩,st⟩
theorem HOk.lt (x:HOk P w H h) (e:H a=some o):a<h.objs.size:=(x a o e).lt
theorem HOk.fresh (x:HOk P w H h) (e:h.objs.size<=a):H a=none:=by
 cases q:H a with
 | none=>rfl
 | some u=>exact absurd (Nat.lt_of_lt_of_le (x.lt q) e) (Nat.lt_irrefl _)
theorem HOk.kept (x:HOk P w H h) (k:∀ b u,h.get? b=some u->h'.get? b=some u):HOk P w H h' := fun a o e =>
 (x a o e).stay (fun b u _ q=>k b u q) (fun _ q=>q) fun _ _ q=>q
theorem HOk.laid (x:HOk P w H h) (k:∀ b u,h.get? b=some u->h'.get? b=some u) (hp:h.objs.size<=a) (new:ObjOk P w (upd H a o) h' a o):HOk P w (upd H a o) h' := fun b u e=>by
 have hn:=x.fresh hp
 by_cases hb:b=a
 ·subst hb;rw [zav] at e;cases e;exact new
 ·rw [yaC hb] at e
  exact (x b u e).stay (fun c v _ q=>k c v q) (fun c q=>by rw [yaC (zau q hn)];exact q) fun c xs q=>by rw [yaC (zau q hn)];exact q
end
def Rd (H:Hp) (a:Addr) (u:HO):Prop:=H a=some u\/∃ o,H a=some (.frz o u)
theorem Rd.ok {P:Program} {w:World} {H:Hp} {h:Heap} {a:Addr} {u:HO} (r:Rd H a u) (x:HOk P w H h):ObjOk P w H h a u:=by
 rcases r with r | ⟨o,r⟩
 ·exact x a u r
 ·obtain ⟨_,q⟩:=x a _ r
  exact q
def Mut:Option HO->Prop
 | some (.lst _)=>True
 | some (.dK _)=>True
 | some (.dT _)=>True
 | some (.set _ _)=>True
 | some (.ins _ _ _)=>True
 | some (.ext _)=>True
 | _=>False
section
variable {P:Program} {w:World} {H:Hp} {h h':Heap} {x e:Addr} {o':HO}
theorem HOk.write (ok:HOk P w H h) (mu:Mut (H x)) (he:e=x\/H e=some (.own x)) (k:∀ b u,b≠e->h.get? b=some u->h'.get? b=some u) (heo:∃ u,h'.get? e=some u)
  (new:ObjOk P w (upd H x o') h' x o'):HOk P w (upd H x o') h' := fun b u q=>by
 have nown:∀ c y,H c=some (.own y)->c≠x:=fun c y r z=>by subst z;rw [r] at mu;exact mu
 have ntup:∀ c xs,H c=some (.tup xs)->c≠x:=fun c xs r z=>by subst z;rw [r] at mu;exact mu
 by_cases hb:b=x
 ·subst hb;rw [zav] at q;cases q;exact new
 ·rw [yaC hb] at q
  by_cases hbe:b=e
  ·have q':H b=some (.own x):=by
    rcases he with z | z
    ·exact absurd (hbe.trans z) hb
    ·rw [hbe];exact z
   rw [q] at q';cases q'
   obtain ⟨v,hv⟩:=heo
   exact ⟨v,by rw [hbe];exact hv⟩
  ·refine (ok b u q).stay (fun c v hc r=>k c v ?_ r) (fun c r=>by rw [yaC (nown c b r)];exact r) fun c xs r=>by rw [yaC (ntup c xs r)];exact r
   rcases hc with rfl | hc
   ·exact hbe
   ·rintro rfl
    rcases he with z | z
    ·exact nown c b hc z
    ·rw [hc] at z;cases z;exact hb rfl
end
structure Un (fs ex:List Addr) (H H':Hp) (h h':Heap):Prop where
 keep:∀ b o,h.get? b=some o->H b=none->b∉fs->b∉ex->h'.get? b=some o
 slot:∀ b o,h.get? b=some o->H b=none->b∈fs->b∉ex->∃ sl,h'.get? b=some { o with slots:=sl }
 free:∀ b o,h.get? b=some o->H b=none->b∉ex->H' b=none
 there:∀ b o,h.get? b=some o->b∉ex->∃ o',h'.get? b=some o'
 tups:∀ b xs,H b=some (.tup xs)->H' b=some (.tup xs)
 frzs:∀ b o u,H b=some (.frz o u)->H' b=some (.frz o u)
 tbls:∀ b ps,H b=some (.tbl ps)->∃ more,H' b=some (.tbl (ps++more))
section
variable {fs fs' ex ex':List Addr} {H H1 H2:Hp} {h h1 h2 h':Heap} {a x e:Addr} {o:HO}
theorem Un.any (u:Un fs ex H H1 h h1) {b:Addr} {ob:Obj} (q:h.get? b=some ob) (n:H b=none) (hx:b∉ex):∃ sl,h1.get? b=some { ob with slots:=sl }:=by
 by_cases hb:b∈fs
 ·exact u.slot b ob q n hb hx
 ·exact ⟨ob.slots,u.keep b ob q n hb hx⟩
theorem Un.kept (k:∀ b u,h.get? b=some u->h'.get? b=some u):Un fs ex H H h h' :=
 ⟨fun b ob q _ _ _=>k b ob q,fun b ob q _ _ _=>⟨ob.slots,k b ob q⟩,fun _ _ _ n _=>n,fun b ob q _=>⟨ob,k b ob q⟩,fun _ _ q=>q,fun _ _ _ q=>q,fun _ ps q=>⟨#[],by rw [q];simp⟩⟩
theorem Un.refl:Un fs ex H H h h:=Un.kept fun _ _ q=>q
theorem Un.laid (k:∀ b u,h.get? b=some u->h'.get? b=some u) (hp:h.objs.size<=a) (hn:H a=none):Un fs ex H (upd H a o) h h' where
 keep:=fun b u q _ _ _=>k b u q
 slot:=fun b u q _ _ _=>⟨u.slots,k b u q⟩
 free:=fun b u q n _=>by rw [yaC (Nat.ne_of_lt (Nat.lt_of_lt_of_le (Heap.lt_size q) hp))];exact n
 there:=fun b u q _=>⟨u,k b u q⟩
 tups:=fun b xs q=>by rw [yaC (zau q hn)];exact q
 frzs:=fun b u xs q=>by rw [yaC (zau q hn)];exact q
 tbls:=fun b ps q=>⟨#[],by rw [yaC (zau q hn),q];simp⟩
theorem Un.write (mu:Mut (H x)) (he:e=x\/H e=some (.own x)) (k:∀ b u,b≠e->h.get? b=some u->h'.get? b=some u) (heo:∃ u,h'.get? e=some u):Un fs ex H (upd H x o) h h' := by
 have hx:∀ b,H b=none->b≠x:=fun b n z=>by subst z;rw [n] at mu;exact mu
 have hb:∀ b,H b=none->b≠e:=fun b n z=>by
  subst z;rcases he with r | r
  ·exact hx b n r
  ·rw [n] at r;cases r
 have hm:∀ b u,H b=some u -> ¬ Mut (some u)->b≠x:=fun b u q nm z=>by subst z;rw [q] at mu;exact nm mu
 refine ⟨fun b u q n _ _=>k b u (hb b n) q,fun b u q n _ _=>⟨u.slots,k b u (hb b n) q⟩,fun b u q n _=>by rw [yaC (hx b n)];exact n,fun b u q _=>?_,
  fun b xs q=>by rw [yaC (hm b _ q fun z=>z)];exact q,fun b u xs q=>by rw [yaC (hm b _ q fun z=>z)];exact q,fun b ps q=>⟨#[],by rw [yaC (hm b _ q fun z=>z),q];simp⟩⟩
 by_cases hbe:b=e
 ·subst hbe;exact heo
 ·exact ⟨u,k b u hbe q⟩
end
def trk (h:Heap) (H:Hp):List Addr:=(List.range h.objs.size).filter fun a=>(H a).isSome
def hidT (h:Heap) (H:Hp):Heap:=PySem.W.hideAll h (trk h H)
theorem zg3 (h:Heap) (H:Hp):(hidT h H).objs.size=h.objs.size:=PySem.W.hideAll_size _ _
theorem zhI {h:Heap} {H:Hp} {b:Addr} {o:Obj} (e:h.get? b=some o) (n:H b=none):(hidT h H).get? b=some o :=
 PySem.W.hideAll_get _ e fun hm=>by
  have q:(H b).isSome=true:=(List.mem_filter.mp hm).2
  rw [n] at q;simp at q
theorem ziD {h:Heap} {H:Hp} {b:Addr} {o:Obj} (e:(hidT h H).get? b=some o):h.get? b=some o/\H b=none:=by
 have e':h.get? b=some o:=PySem.W.of_hideAll (trk h H) e
 refine ⟨e',?_⟩
 cases q:H b with
 | none=>rfl
 | some x =>
  have hm:b∈trk h H:=List.mem_filter.mpr ⟨List.mem_range.mpr (Heap.lt_size e'),by simp [q]⟩
  have z:(hidT h H).get? b=none:=PySem.W.hideAll_none (trk h H) hm
  rw [z] at e;cases e
end L2
namespace L2
open PySem PySem.Spec PyProof.Rows
structure Mod (K:PySem.W.Frag) (mg:Str->Option Value) (base:Heap):Prop where
 kin:K.In base
 glob:base.Ns mainGlobals mg
 blt:∃ mb,base.Ns builtinsNs mb/\∀ x:Str,x ≠ "__name__" -> mb x=bootBuiltins x
 nolimit:base.NoLimit
structure Cx where
 prog:Program
 w:World
 K:PySem.W.Frag
 mg:Str->Option Value
 base:Heap
 A:Around
 N:List Str
 s₀:Shared
 H₀:Hp
 env:Env
 outer:List Env
 stack:List Env
 ex:List Addr
 fn:Str->Bool
 calm:Bool
 pn:List (Addr×Obj)
 xe:Value->Shared->Prop
def frs (l:List Env):List Addr:=l.filterMap (·.frame)
abbrev Cx.fs (X:Cx):List Addr:=frs X.outer
def Vis (sc:Scope) (x:Str):Prop:=sc.names.lookup x=some .local\/sc.names.lookup x=some .cell\/sc.names.lookup x=some .free
def Loc (sc:Scope) (x:Str):Prop:=sc.names.lookup x=some .local\/sc.names.lookup x=some .cell
def Look (env:Env) (h:Heap) (m:Str->Option Value) (x:Str) (u:Value):Prop :=
 (env.kindOf x=some .local/\m x=some u)\/((env.kindOf x=some .cell\/env.kindOf x=some .free)/\∃ c,env.cells.lookup x=some c/\h.IsCell c (some u))
structure Cx.Ok (X:Cx):Prop where
 mod:Mod X.K X.mg X.base
 kind:X.env.scope.kind = .function
 glob:X.env.globals=mainGlobals
 blt:X.env.builtins=builtinsNs
 above:X.s₀.heap.objs.size<=X.env.locals
 inj:∀ x y c,X.env.cells.lookup x=some c->X.env.cells.lookup y=some c->x=y
 has:∀ x,(X.env.kindOf x=some .cell\/X.env.kindOf x=some .free)->∃ c,X.env.cells.lookup x=some c
 cab:∀ x c,X.fn x=true->X.env.cells.lookup x=some c->X.s₀.heap.objs.size<=c
 hd:X.calm=true->X.A.handled=none
 frames:X.A.frames=some X.stack
 stk:X.stack=X.outer\/(X.stack=X.env::X.outer/\X.env.frame=some X.env.locals)
 exf:∀ b∈X.ex,b≠X.env.locals/\∀ x c,X.env.cells.lookup x=some c->c≠b
 bs:∀ b o,X.base.get? b=some o->X.s₀.heap.get? b=some o/\X.H₀ b=none
 bsz:X.base.objs.size<=X.s₀.heap.objs.size
 noex:∀ b o,X.base.get? b=some o->b∉X.ex
 exfs:∀ b∈X.ex,b∉X.fs
 funs:X.s₀.heap.FunFrames X.base X.outer
 frf:∀ b∈X.fs,X.H₀ b=none
structure Inv (X:Cx) (pins:List (Addr×Obj)) (σ:List (Option V)) (H:Hp) (s:Shared):Prop where
 ok:X.Ok
 os:s.os=X.s₀.os
 bare:AllBare s.gens
 base:Un X.fs X.ex X.H₀ H X.s₀.heap s.heap
 loc:∃ m,s.heap.Ns X.env.locals m/\∀ (i:Nat) (x:Str) (v:V),X.N[i]? = some x->σ[i]? = some (some v)->Vis X.env.scope x->∃ u,RelV v u/\Look X.env s.heap m x u
 cell:∀ x c,X.env.cells.lookup x=some c->∃ v,s.heap.IsCell c v
 free:H X.env.locals=none
 freeC:∀ x c,X.env.cells.lookup x=some c->H c=none
 pin:∀ p∈X.pn++pins,s.heap.get? p.1=some p.2/\H p.1=none/\p.1≠X.env.locals/\p.1∉X.fs/\∀ v,p.2.data ≠ .cell v
 hok:HOk X.prog X.w H s.heap
 len:σ.length=X.N.length
section
variable {X:Cx} {pins:List (Addr×Obj)} {σ:List (Option V)} {H H':Hp} {s:Shared} {h':Heap}
theorem Cx.Ok.nofr (ok:X.Ok) {b:Addr} {o:Obj} (e:X.base.get? b=some o):b∉X.fs:=fun hb=>by
 have:=(ok.funs.mem hb).1
 rw [e] at this;cases this
theorem Inv.bs (I:Inv X pins σ H s):∀ b o,X.base.get? b=some o->s.heap.get? b=some o/\H b=none:=fun b o e =>
 ⟨I.base.keep b o (I.ok.bs b o e).1 (I.ok.bs b o e).2 (I.ok.nofr e) (I.ok.noex b o e),I.base.free b o (I.ok.bs b o e).1 (I.ok.bs b o e).2 (I.ok.noex b o e)⟩
theorem Inv.bk (I:Inv X pins σ H s):∀ b o,X.base.get? b=some o->s.heap.get? b=some o:=fun b o e=>(I.bs b o e).1
theorem Inv.mod (I:Inv X pins σ H s):Mod X.K X.mg X.base:=I.ok.mod
theorem Inv.kIn (I:Inv X pins σ H s):X.K.In s.heap:=I.ok.mod.kin.keeps I.bk
theorem Inv.fr (I:Inv X pins σ H s):∃ m,Fr X.base X.env.locals s.heap m :=
 let ⟨m,hn,_⟩:=I.loc
 ⟨m,hn,I.bk,Nat.le_trans I.ok.bsz I.ok.above⟩
theorem Inv.lt (I:Inv X pins σ H s):X.env.locals<s.heap.objs.size:=let ⟨_,hn,_⟩:=I.loc;hn.lt
theorem Inv.sz (I:Inv X pins σ H s):X.s₀.heap.objs.size<=s.heap.objs.size:=Nat.le_trans I.ok.above (Nat.le_of_lt I.lt)
theorem Inv.nofs (I:Inv X pins σ H s) {a:Addr} (h:s.heap.objs.size<=a):a∉X.fs:=fun hb=>by
 obtain ⟨_,o,ho,_⟩:=I.ok.funs.mem hb
 exact absurd (Nat.lt_of_lt_of_le (Heap.lt_size ho) (Nat.le_trans I.sz h)) (Nat.lt_irrefl _)
theorem Inv.cne (I:Inv X pins σ H s):∀ x c,X.env.cells.lookup x=some c->c≠X.env.locals:=fun x c e z=>by
 obtain ⟨v,o,ho,hd⟩:=I.cell x c e
 obtain ⟨m,⟨o',es,ep,ho',hd',_⟩,_⟩:=I.loc
 rw [z,ho'] at ho;cases ho;rw [hd'] at hd;cases hd
theorem Inv.funs (I:Inv X pins σ H s):s.heap.FunFrames X.base X.outer:=by
 have all:∀ (l:List Env),(∀ b∈frs l,b∈X.fs)->X.s₀.heap.FunFrames X.base l->s.heap.FunFrames X.base l:=by
  intro l
  induction l with
  | nil=>intro _ _;trivial
  | cons env r ih =>
   intro hs hl
   obtain ⟨hk,⟨L,o,hf,hn,ho,hd⟩,hr⟩:=hl
   have hL:L∈X.fs:=hs L (by unfold frs;rw [List.filterMap_cons,hf];exact List.mem_cons_self)
   obtain ⟨sl,e⟩:=I.base.slot L o ho (I.ok.frf L hL) hL fun z=>I.ok.exfs L z hL
   exact ⟨hk,⟨L,_,hf,hn,e,hd⟩,ih (fun b hb=>hs b (by unfold frs;rw [List.filterMap_cons,hf];exact List.mem_cons_of_mem _ hb)) hr⟩
 exact all X.outer (fun _ hb=>hb) I.ok.funs
theorem Inv.stack (I:Inv X pins σ H s):s.heap.FunFrames X.base X.stack:=by
 rcases I.ok.stk with e | ⟨e,hf⟩
 ·rw [e];exact I.funs
 ·rw [e]
  obtain ⟨m,hn,_⟩:=I.loc
  refine .cons (by rw [I.ok.kind];decide) hf hn ?_ I.funs
  exact Heap.get?_none_of_le (Nat.le_trans I.ok.bsz I.ok.above)
theorem Inv.stkSub (I:Inv X pins σ H s):∀ b∈frs X.stack,b∈X.env.locals::X.fs:=fun b hb=>by
 rcases I.ok.stk with e | ⟨e,hf⟩
 ·rw [e] at hb;exact List.mem_cons_of_mem _ hb
 ·rw [e] at hb
  unfold frs at hb
  rw [List.filterMap_cons,hf] at hb;exact hb
theorem Inv.stkFree (I:Inv X pins σ H s):∀ b∈frs X.stack,H b=none:=fun b hb=>by
 rcases List.mem_cons.mp (I.stkSub b hb) with e | hb
 ·rw [e];exact I.free
 ·obtain ⟨_,o,ho,_⟩:=I.ok.funs.mem hb
  exact I.base.free b o ho (I.ok.frf b hb) fun z=>I.ok.exfs b z hb
theorem Inv.step {g':Array GenState} {t':Nat} {d':Drawn} {ch:List Addr} (I:Inv X pins σ H s)
  (hch:∀ b∈ch,(b∈X.ex\/X.s₀.heap.objs.size<=b)/\b≠X.env.locals/\(∀ x c,X.env.cells.lookup x=some c->c≠b)/\∀ p∈X.pn++pins,p.1≠b)
  (keep:∀ b o,b≠X.env.locals->b∉X.fs->b∉ch->s.heap.get? b=some o->H b=none->h'.get? b=some o)
  (slot:∀ b o,b≠X.env.locals->b∈X.fs->b∉ch->s.heap.get? b=some o->H b=none->∃ sl,h'.get? b=some { o with slots:=sl }) (free:∀ b o,b∉ch->s.heap.get? b=some o->H b=none->H' b=none)
  (there:∀ b o,b∉ch->s.heap.get? b=some o->∃ o',h'.get? b=some o')
  (tups:∀ b xs,H b=some (.tup xs)->H' b=some (.tup xs)) (frzs:∀ b o u,H b=some (.frz o u)->H' b=some (.frz o u)) (tbls:∀ b ps,H b=some (.tbl ps)->∃ more,H' b=some (.tbl (ps++more)))
  (ns:∀ m,s.heap.Ns X.env.locals m->h'.Ns X.env.locals m) (hok:HOk X.prog X.w H' h') (hg:AllBare g') :
  Inv X pins σ H' { s with heap:=h',gens:=g',drawn:=d',toks:=t' }:=by
 have neL:∀ b o,X.s₀.heap.get? b=some o->b≠X.env.locals:=fun b o e=>Nat.ne_of_lt (Nat.lt_of_lt_of_le (Heap.lt_size e) I.ok.above)
 have neC:∀ b o,X.s₀.heap.get? b=some o->b∉X.ex->b∉ch:=fun b o e hx hb=>by
  rcases (hch b hb).1 with z | z
  ·exact hx z
  ·exact absurd (Nat.lt_of_lt_of_le (Heap.lt_size e) z) (Nat.lt_irrefl _)
 have cellK:∀ x c,X.env.cells.lookup x=some c->∀ v,s.heap.IsCell c v->h'.IsCell c v:=fun x c e v ⟨o,ho,hd⟩=>by
  have nch:c∉ch:=fun z=>(hch c z).2.2.1 x c e rfl
  by_cases hc:c∈X.fs
  ·obtain ⟨sl,q⟩:=slot c o (I.cne x c e) hc nch ho (I.freeC x c e)
   exact ⟨_,q,hd⟩
  ·exact ⟨o,keep c o (I.cne x c e) hc nch ho (I.freeC x c e),hd⟩
 refine ⟨I.ok,I.os,hg,⟨fun b o e n hb hx=>?_,fun b o e n hb hx=>?_,fun b o e n hx=>?_,fun b o e hx=>?_,fun b xs e=>tups b xs (I.base.tups b xs e),fun b o xs e=>frzs b o xs (I.base.frzs b o xs e),fun b ps e=>?_⟩,?_,fun x c e=>?_,?_,fun x c e=>?_,fun p hp=>?_,hok,I.len⟩
 ·exact keep b o (neL b o e) hb (neC b o e hx) (I.base.keep b o e n hb hx) (I.base.free b o e n hx)
 ·obtain ⟨sl,e1⟩:=I.base.slot b o e n hb hx
  obtain ⟨sl',e2⟩:=slot b _ (neL b o e) hb (neC b o e hx) e1 (I.base.free b o e n hx)
  exact ⟨sl',e2⟩
 ·obtain ⟨o',e1⟩:=I.base.there b o e hx
  exact free b o' (neC b o e hx) e1 (I.base.free b o e n hx)
 ·obtain ⟨o',e1⟩:=I.base.there b o e hx
  exact there b o' (neC b o e hx) e1
 ·obtain ⟨m1,e1⟩:=I.base.tbls b ps e
  obtain ⟨m2,e2⟩:=tbls b _ e1
  exact ⟨m1++m2,by rw [e2,Array.append_assoc]⟩
 ·obtain ⟨m,hn,hl⟩:=I.loc
  refine ⟨m,ns m hn,fun i x v e1 e2 e3=>?_⟩
  obtain ⟨u,r,l⟩:=hl i x v e1 e2 e3
  refine ⟨u,r,?_⟩
  rcases l with l | ⟨k,c,e,z⟩
  ·exact .inl l
  ·exact .inr ⟨k,c,e,cellK x c e _ z⟩
 ·obtain ⟨v,z⟩:=I.cell x c e
  exact ⟨v,cellK x c e v z⟩
 ·obtain ⟨m,⟨o,_,_,ho,_⟩,_⟩:=I.loc
  exact free _ o (fun z=>(hch _ z).2.1 rfl) ho I.free
 ·obtain ⟨v,o,ho,hd⟩:=I.cell x c e
  exact free c o (fun z=>(hch c z).2.2.1 x c e rfl) ho (I.freeC x c e)
 ·obtain ⟨e,n,ne,nf,d⟩:=I.pin p hp
  have nch:p.1∉ch:=fun z=>(hch p.1 z).2.2.2 p hp rfl
  exact ⟨keep p.1 p.2 ne nf nch e n,free p.1 p.2 nch e n,ne,nf,d⟩
theorem Inv.un {t':Nat} (I:Inv X pins σ H s) (u:Un X.fs [] H H' s.heap h') (hok:HOk X.prog X.w H' h'):Inv X pins σ H' { s with heap:=h',toks:=t' }:=by
 obtain ⟨m,⟨o,es,ep,ho,r⟩,_⟩:=id I.loc
 obtain ⟨sl,hL⟩:=u.any ho I.free (by simp)
 exact I.step (g' := s.gens) (d' := s.drawn) (ch:=[]) (fun _ z=>nomatch z) (fun b o _ hb _ e n=>u.keep b o e n hb (by simp)) (fun b o _ hb _ e n=>u.slot b o e n hb (by simp)) (fun b o _ e n=>u.free b o e n (by simp)) (fun b o _ e=>u.there b o e (by simp)) u.tups u.frzs u.tbls (fun m' hm=>by
  obtain ⟨o',es',ep',ho',r'⟩:=hm
  rw [ho] at ho';cases ho'
  exact ⟨_,es',ep',hL,r'⟩) hok I.bare
theorem Inv.call {g':Array GenState} {t':Nat} {d':Drawn} {ch:List Addr} (I:Inv X pins σ H s) (u:Un (frs X.stack) ch H H' s.heap h') (hok:HOk X.prog X.w H' h') (hg:AllBare g')
  (hch:∀ b∈ch,(b∈X.ex\/X.s₀.heap.objs.size<=b)/\b≠X.env.locals/\(∀ x c,X.env.cells.lookup x=some c->c≠b)/\∀ p∈X.pn++pins,p.1≠b) :
  Inv X pins σ H' { s with heap:=h',gens:=g',drawn:=d',toks:=t' }:=by
 obtain ⟨m,⟨o,es,ep,ho,r⟩,_⟩:=id I.loc
 obtain ⟨sl,hL⟩:=u.any ho I.free fun z=>(hch _ z).2.1 rfl
 exact I.step (ch:=ch) hch (fun b o hL hb hc e n=>u.keep b o e n (fun z=>(List.mem_cons.mp (I.stkSub b z)).elim hL hb) hc) (fun b o _ _ hc e n=>u.any e n hc) (fun b o hc e n=>u.free b o e n hc) (fun b o hc e=>u.there b o e hc) u.tups u.frzs u.tbls (fun m' hm=>by
  obtain ⟨o',es',ep',ho',r'⟩:=hm
  rw [ho] at ho';cases ho'
  exact ⟨_,es',ep',hL,r'⟩) hok hg
theorem Inv.turned {t':Nat} {it:Addr} (I:Inv X pins σ H s) (k:∀ b o,b≠it->s.heap.get? b=some o->h'.get? b=some o) (hn:H it=none) (hL:it≠X.env.locals)
  (h1:it∈X.ex\/X.s₀.heap.objs.size<=it) (h2:∀ x c,X.env.cells.lookup x=some c->c≠it) (h3:∀ p∈X.pn++pins,p.1≠it):Inv X pins σ H { s with heap:=h',toks:=t' }:=by
 have nit:∀ b u,H b=some u->b≠it:=fun b u e z=>by rw [z,hn] at e;cases e
 refine I.step (g' := s.gens) (d' := s.drawn) (ch:=[it]) (fun b hb=>?_) (fun b o _ _ hc e _=>k b o (fun z=>hc (by simp [z])) e) (fun b o _ _ hc e _=>⟨o.slots,k b o (fun z=>hc (by simp [z])) e⟩) (fun _ _ _ _ n=>n)
  (fun b o hc e=>⟨o,k b o (fun z=>hc (by simp [z])) e⟩) (fun _ _ e=>e) (fun _ _ _ e=>e) (fun b ps e=>⟨#[],by rw [e];simp⟩) (fun m hm=>?_) (fun b u e=>?_) I.bare
 ·have e:b=it:=by simpa using hb
  subst e;exact ⟨h1,hL,h2,h3⟩
 ·obtain ⟨o,es,ep,ho,r⟩:=hm
  exact ⟨o,es,ep,k _ o (Ne.symm hL) ho,r⟩
 ·refine (I.hok b u e).stay (fun c v hc q=>k c v ?_ q) (fun _ q=>q) fun _ _ q=>q
  rcases hc with z | z
  ·rw [z];exact nit b u e
  ·exact nit c _ z
theorem Inv.tok (I:Inv X pins σ H s) (t:Nat):Inv X pins σ H { s with toks:=t }:=I.un (h' := s.heap) (t' := t) Un.refl I.hok
theorem Inv.kept {t':Nat} (I:Inv X pins σ H s) (k:∀ b u,s.heap.get? b=some u->h'.get? b=some u):Inv X pins σ H { s with heap:=h',toks:=t' }:=I.un (Un.kept k) (I.hok.kept k)
theorem Inv.laid {a:Addr} {o:HO} {t':Nat} (I:Inv X pins σ H s) (k:∀ b u,s.heap.get? b=some u->h'.get? b=some u) (hp:s.heap.objs.size<=a) (new:ObjOk X.prog X.w (upd H a o) h' a o) :
  Inv X pins σ (upd H a o) { s with heap:=h',toks:=t' }:=I.un (Un.laid k hp (I.hok.fresh hp)) (I.hok.laid k hp new)
theorem Inv.write {x e:Addr} {o:HO} {t':Nat} (I:Inv X pins σ H s) (mu:Mut (H x)) (he:e=x\/H e=some (.own x)) (k:∀ b u,b≠e->s.heap.get? b=some u->h'.get? b=some u) (heo:∃ u,h'.get? e=some u)
  (new:ObjOk X.prog X.w (upd H x o) h' x o):Inv X pins σ (upd H x o) { s with heap:=h',toks:=t' }:=I.un (Un.write mu he k heo) (I.hok.write mu he k heo new)
theorem Inv.weak {σ':List (Option V)} (I:Inv X pins σ H s) (hl:σ'.length=σ.length) (w:∀ (i:Nat) v,σ'[i]? = some (some v)->σ[i]? = some (some v)):Inv X pins σ' H s :=
 ⟨I.ok,I.os,I.bare,I.base,let ⟨m,hn,hl'⟩:=I.loc;⟨m,hn,fun i x v e1 e2 e3=>hl' i x v e1 (w i v e2) e3⟩,I.cell,I.free,I.freeC,I.pin,I.hok,hl.trans I.len⟩
theorem Inv.pins_of {pins':List (Addr×Obj)} (I:Inv X pins σ H s) (h:∀ p∈pins',s.heap.get? p.1=some p.2/\H p.1=none/\p.1≠X.env.locals/\p.1∉X.fs/\∀ v,p.2.data ≠ .cell v):Inv X pins' σ H s :=
 ⟨I.ok,I.os,I.bare,I.base,I.loc,I.cell,I.free,I.freeC,fun p hp=>(List.mem_append.mp hp).elim (fun z=>I.pin p (List.mem_append_left _ z)) (h p),I.hok,I.len⟩
theorem zc4 {N:List Str} (hN:N.Nodup) {i j:Nat} {x:Str} (a:N[i]? = some x) (b:N[j]? = some x):i=j:=by
 obtain ⟨h1,e1⟩:=List.getElem?_eq_some_iff.mp a
 obtain ⟨h2,e2⟩:=List.getElem?_eq_some_iff.mp b
 exact (List.getElem_inj hN).mp (e1.trans e2.symm)
theorem zd3 {M:Model} {A:Around} {E:Value->Shared->Prop} {i:Nat} {x:Str} {v:V} {u:Value} {Q:Unit->Shared->Prop} (I:Inv X pins σ H s) (hN:X.N.Nodup) (hi:X.N[i]? = some x) (hx:Loc X.env.scope x) (r:RelV v u)
  (h:∀ s',Inv X pins (σ.set i (some v)) H s'->(∃ a,Heap.SameBut a s.heap s'.heap/\(a=X.env.locals\/X.env.cells.lookup x=some a))->Q () s') (hf:X.fn x=true\/X.env.scope.names.lookup x=some .local:=by first | exact .inl rfl | exact .inr rfl | assumption):wpAny M A (storeName X.env x u) Q E s:=by
 obtain ⟨m,hn,hl⟩:=id I.loc
 have hcls:(X.env.scope.kind == .class || (X.env.scope.kind == .module && X.env.locals != X.env.globals))=false:=by rw [I.ok.kind];rfl
 have hiσ:i<σ.length:=by rw [I.len];exact (List.getElem?_eq_some_iff.mp hi).1
 have cne:=I.cne
 have tracked:∀ {a:Addr} {h':Heap},(∃ o,s.heap.get? a=some o/\H a=none)->Heap.SameBut a s.heap h'->HOk X.prog X.w H h' := fun {a h'} ha hs b ob e=>by
  obtain ⟨_,_,hfree⟩:=ha
  refine (I.hok b ob e).stay (fun c w' hc q=>(hs.2 c ?_).trans q) (fun _ q=>q) fun _ _ q=>q
  rintro rfl
  rcases hc with rfl | hc
  ·rw [hfree] at e;cases e
  ·rw [hfree] at hc;cases hc
 rcases hx with hk | hk
 ·refine wpAny_storeName_local hk hn (fun h' hn' hs=>?_) hcls
  obtain ⟨oL,_,_,hoL,_⟩:=id hn
  refine h _ ⟨I.ok,I.os,I.bare,⟨fun b o e n hb hx=>?_,fun b o e n hb hx=>?_,I.base.free,fun b o e hx=>?_,I.base.tups,I.base.frzs,I.base.tbls⟩,⟨_,hn',fun j y v' e1 e2 e3=>?_⟩,fun y c e=>?_,I.free,I.freeC,fun p hp=>?_,tracked ⟨oL,hoL,I.free⟩ hs,by simpa using I.len⟩ ⟨_,hs,.inl rfl⟩
  ·exact (hs.2 b (Nat.ne_of_lt (Nat.lt_of_lt_of_le (Heap.lt_size e) I.ok.above))).trans (I.base.keep b o e n hb hx)
  ·obtain ⟨sl,e1⟩:=I.base.slot b o e n hb hx
   exact ⟨sl,(hs.2 b (Nat.ne_of_lt (Nat.lt_of_lt_of_le (Heap.lt_size e) I.ok.above))).trans e1⟩
  ·obtain ⟨o',e1⟩:=I.base.there b o e hx
   exact ⟨o',(hs.2 b (Nat.ne_of_lt (Nat.lt_of_lt_of_le (Heap.lt_size e) I.ok.above))).trans e1⟩
  ·by_cases hj:j=i
   ·subst hj
    rw [hi] at e1;cases e1
    rw [List.getElem?_set_self hiσ] at e2
    cases e2
    exact ⟨u,r,.inl ⟨hk,by simp⟩⟩
   ·rw [List.getElem?_set_ne (Ne.symm hj)] at e2
    obtain ⟨u',r',q⟩:=hl j y v' e1 e2 e3
    refine ⟨u',r',?_⟩
    rcases q with ⟨k,e⟩ | ⟨k,c,e,z⟩
    ·refine .inl ⟨k,?_⟩
     have:y≠x:=fun e=>hj (zc4 hN e1 (e▸hi))
     simp [this,e]
    ·exact .inr ⟨k,c,e,z.sameBut hs (cne y c e)⟩
  ·obtain ⟨w',z⟩:=I.cell y c e
   exact ⟨w',z.sameBut hs (cne y c e)⟩
  ·obtain ⟨e,n,ne,nf,d⟩:=I.pin p hp
   exact ⟨(hs.2 p.1 ne).trans e,n,ne,nf,d⟩
 ·have hfn:X.fn x=true:=by
   rcases hf with z | z
   ·exact z
   ·rw [z] at hk;cases hk
  obtain ⟨c,hc⟩:=I.ok.has x (.inl hk)
  obtain ⟨w',z⟩:=I.cell x c hc
  refine wpAny_storeName_cell I.ok.kind hk hc z (fun h' hc' hs=>?_)
  obtain ⟨oc,hoc,hocd⟩:=id z
  refine h { s with heap:=h' } ⟨I.ok,I.os,I.bare,⟨fun b o e n hb hx=>?_,fun b o e n hb hx=>?_,I.base.free,fun b o e hx=>?_,I.base.tups,I.base.frzs,I.base.tbls⟩,⟨m,hn.sameBut hs (Ne.symm (cne x c hc)),fun j y v' e1 e2 e3=>?_⟩,fun y c' e=>?_,I.free,I.freeC,fun p hp=>?_,tracked ⟨oc,hoc,I.freeC x c hc⟩ hs,by simpa using I.len⟩ ⟨c,hs,.inr hc⟩
  ·exact (hs.2 b (Nat.ne_of_lt (Nat.lt_of_lt_of_le (Heap.lt_size e) (I.ok.cab x c hfn hc)))).trans (I.base.keep b o e n hb hx)
  ·obtain ⟨sl,e1⟩:=I.base.slot b o e n hb hx
   exact ⟨sl,(hs.2 b (Nat.ne_of_lt (Nat.lt_of_lt_of_le (Heap.lt_size e) (I.ok.cab x c hfn hc)))).trans e1⟩
  ·obtain ⟨o',e1⟩:=I.base.there b o e hx
   exact ⟨o',(hs.2 b (Nat.ne_of_lt (Nat.lt_of_lt_of_le (Heap.lt_size e) (I.ok.cab x c hfn hc)))).trans e1⟩
  ·by_cases hj:j=i
   ·subst hj
    rw [hi] at e1;cases e1
    rw [List.getElem?_set_self hiσ] at e2
    cases e2
    exact ⟨u,r,.inr ⟨.inl hk,c,hc,hc'⟩⟩
   ·rw [List.getElem?_set_ne (Ne.symm hj)] at e2
    obtain ⟨u',r',q⟩:=hl j y v' e1 e2 e3
    refine ⟨u',r',?_⟩
    rcases q with q | ⟨k,c',e,z'⟩
    ·exact .inl q
    ·refine .inr ⟨k,c',e,z'.sameBut hs ?_⟩
     rintro rfl
     exact hj (zc4 hN e1 (I.ok.inj _ _ _ e hc▸hi))
  ·by_cases hcc:c'=c
   ·subst hcc;exact ⟨_,hc'⟩
   ·obtain ⟨w2,z2⟩:=I.cell y c' e
    exact ⟨w2,z2.sameBut hs hcc⟩
  ·obtain ⟨e,n,ne,nf,d⟩:=I.pin p hp
   refine ⟨(hs.2 p.1 ?_).trans e,n,ne,nf,d⟩
   intro q
   rw [q,hoc] at e;have q':oc=p.2:=Option.some.inj e
   exact d w' (by rw [<- q'];exact hocd)
theorem zc5 {M:Model} {A:Around} {E:Value->Shared->Prop} {i:Nat} {x:Str} {v:V} {u:Value} {Q:Unit->Shared->Prop} (I:Inv X pins σ H s) (hN:X.N.Nodup) (hi:X.N[i]? = some x) (hx:Loc X.env.scope x) (r:RelV v u)
  (h:∀ s',Inv X pins (σ.set i (some v)) H s'->Q () s') (hf:X.fn x=true\/X.env.scope.names.lookup x=some .local:=by first | exact .inl rfl | exact .inr rfl | assumption):wpAny M A (storeName X.env x u) Q E s :=
 zd3 I hN hi hx r (fun s' I' _=>h s' I') hf
theorem Inv.call' {s':Shared} {ch:List Addr} (I:Inv X pins σ H s) (ho:s'.os=s.os) (u:Un (frs X.stack) ch H H' s.heap s'.heap) (hok:HOk X.prog X.w H' s'.heap) (hg:AllBare s'.gens)
  (hch:∀ b∈ch,(b∈X.ex\/X.s₀.heap.objs.size<=b)/\b≠X.env.locals/\(∀ x c,X.env.cells.lookup x=some c->c≠b)/\∀ p∈X.pn++pins,p.1≠b):Inv X pins σ H' s' := by
 obtain ⟨h',g',d',t',o'⟩:=s'
 have e:o'=s.os:=ho
 subst e;exact I.call (g' := g') (t' := t') (d' := d') u hok hg hch
end
abbrev XK:=Value->Option Addr->Hp->Prop
abbrev St:=List (Option V)
abbrev VK:=V->Hp->Prop
abbrev TE:=St->Hp->VK->Prop
abbrev TT:=St->Hp->(Bool->Hp->Prop)->Prop
abbrev TA:=St->Hp->(List V->Hp->Prop)->Prop
structure Ends where
 nx:St->Hp->Prop
 rt:VK
 bk:St->Hp->Prop:=fun _ _=>False
 ct:St->Hp->Prop:=fun _ _=>False
abbrev TS:=Ends->St->Hp->Prop
def EP (X:Cx) (pins:List (Addr×Obj)) (σ:St) (Q:VK) (u:Value) (s':Shared):Prop:=∃ v H',Inv X pins σ H' s'/\RelV v u/\Q v H'
def TP (X:Cx) (pins:List (Addr×Obj)) (σ:St) (Q:Bool->Hp->Prop) (b:Bool) (s':Shared):Prop:=∃ H',Inv X pins σ H' s'/\Q b H'
def AP (X:Cx) (pins:List (Addr×Obj)) (σ:St) (Q:List V->Hp->Prop) (us:List Value) (s':Shared):Prop:=∃ vs H',Inv X pins σ H' s'/\Vals vs us/\Q vs H'
def SP (X:Cx) (pins:List (Addr×Obj)) (D:Ends) (f:Flow) (s':Shared):Prop :=
 match f with
 | .next=>∃ σ' H',Inv X pins σ' H' s'/\D.nx σ' H'
 | .brk=>∃ σ' H',Inv X pins σ' H' s'/\D.bk σ' H'
 | .cont=>∃ σ' H',Inv X pins σ' H' s'/\D.ct σ' H'
 | .ret u=>∃ v σ' H',Inv X pins σ' H' s'/\RelV v u/\D.rt v H'
def PE (X:Cx) (e:Expr) (t:TE):Prop :=
 ∀ (pins:List (Addr×Obj)) (s:Shared) (σ:St) (H:Hp) (Q:VK),Inv X pins σ H s->t σ H Q->wpAny (model X.prog X.w) X.A (eval e X.env) (EP X pins σ Q) X.xe s
def PT (X:Cx) (e:Expr) (t:TT):Prop :=
 ∀ (pins:List (Addr×Obj)) (s:Shared) (σ:St) (H:Hp) (Q:Bool->Hp->Prop),Inv X pins σ H s->t σ H Q->wpAny (model X.prog X.w) X.A (isTrue e X.env (eval e X.env)) (TP X pins σ Q) X.xe s
def PW (X:Cx) (e:Expr) (t:TT):Prop :=
 ∀ (whole:Sem Value) (pins:List (Addr×Obj)) (s:Shared) (σ:St) (H:Hp) (Q:Bool->Hp->Prop),Inv X pins σ H s->t σ H Q->wpAny (model X.prog X.w) X.A (isTrue e X.env whole) (TP X pins σ Q) X.xe s
theorem PW.pt {X:Cx} {e:Expr} {t:TT} (h:PW X e t):PT X e t:=h _
def PA (X:Cx) (es:List Expr) (t:TA):Prop :=
 ∀ (pos:Pos) (pins:List (Addr×Obj)) (s:Shared) (σ:St) (H:Hp) (Q:List V->Hp->Prop),Inv X pins σ H s->t σ H Q->wpAny (model X.prog X.w) X.A (spliced (backTo pos (starEach es X.env))) (AP X pins σ Q) X.xe s
def PS (X:Cx) (st:Stmt) (t:TS):Prop :=
 ∀ (pins:List (Addr×Obj)) (s:Shared) (σ:St) (H:Hp) (D:Ends),Inv X pins σ H s->t D σ H->wpAny (model X.prog X.w) X.A (exec st X.env) (SP X pins D) X.xe s
def PSs (X:Cx) (st:List Stmt) (t:TS):Prop :=
 ∀ (pins:List (Addr×Obj)) (s:Shared) (σ:St) (H:Hp) (D:Ends),Inv X pins σ H s->t D σ H->wpAny (model X.prog X.w) X.A (execs st X.env) (SP X pins D) X.xe s
theorem thn {α:Type} {t:Sem α} {Q Q':α->Shared->Prop} {M:Model} {A:Around} {E:Value->Shared->Prop} {s:Shared} (h:wpAny M A t Q E s) (hQ:∀ a s,Q a s->Q' a s):wpAny M A t Q' E s:=wpAny_mono h hQ fun _ _ x=>x
end L2
namespace L2
open PySem PySem.Spec PyProof.Rows
section
variable {X:Cx}
theorem bin {a b:Expr} {ta tb:TE} (ha:PE X a ta) (hb:PE X b tb) {pins:List (Addr×Obj)} {s:Shared} {σ:St} {H:Hp} {R:V->V->Hp->Prop} (I:Inv X pins σ H s) (h:ta σ H fun x H1=>tb σ H1 fun y H2=>R x y H2)
  {α:Type} {Q:α->Shared->Prop} {f:Value->Value->Sem α}
  (hf:∀ v u s2 x y H2,Inv X pins σ H2 s2->RelV x v->RelV y u->R x y H2->wpAny (model X.prog X.w) X.A (f v u) Q X.xe s2) :
  wpAny (model X.prog X.w) X.A (eval a X.env) (fun v s₁=>wpAny (model X.prog X.w) X.A (eval b X.env) (fun u s₂=>wpAny (model X.prog X.w) X.A (f v u) Q X.xe s₂) X.xe s₁) X.xe s:=by
 refine thn (ha pins s σ H _ I h) fun v s1 ⟨x,H1,I1,r1,q1⟩=>?_
 refine thn (hb pins s1 σ H1 _ I1 q1) fun u s2 ⟨y,H2,I2,r2,q2⟩=>?_
 exact hf v u s2 x y H2 I2 r1 r2 q2
def tVar (i:Nat):TE:=fun σ H Q=>∃ v,σ[i]? = some (some v)/\Q v H
def tC (v:V):TE:=fun _ H Q=>Q v H
theorem ygW {i:Nat} {x:Str} {pos:Pos} (hN:X.N[i]? = some x) (hv:Vis X.env.scope x) (hd:(x == ("__debug__" : Str))=false:=by decide) (hcd:(x == ("__classdict__" : Str))=false:=by decide):PE X (.Name x pos) (tVar i):=by
 intro pins s σ H Q I h
 obtain ⟨v,e,h⟩:=h
 obtain ⟨m,hn,hl⟩:=I.loc
 obtain ⟨u,r,l⟩:=hl i x v hN e hv
 have fin:EP X pins σ Q u s:=⟨v,H,I,r,h⟩
 rcases l with ⟨hk,hm⟩ | ⟨hk,c,hc,hcell⟩
 ·exact wpAny_Name (wpAny_loadName_local I.ok.kind hk hn hm fin) hd
 ·rcases hk with hk | hk
  ·exact wpAny_Name (wpAny_loadName_cell I.ok.kind hk hc hcell fin) hd
  ·exact wpAny_Name (wpAny_loadName_free I.ok.kind hk hc hcell fin hcd) hd
theorem ygX {i j pos}:PE X (.Constant (.int i) j pos) (tC (.int i)):=fun _ _ _ H _ I h=>wpAny_Constant_int ⟨.int i,H,I.tok _,⟨_,rfl⟩,h⟩
theorem yin {b j pos}:PE X (.Constant (.bool b) j pos) (tC (.bl b)):=fun _ _ _ H _ I h=>Constant_bool ⟨.bl b,H,I,rfl,h⟩
theorem ygY {j pos}:PE X (.Constant .none j pos) (tC .non):=fun _ _ _ H _ I h=>Constant_none ⟨.non,H,I,rfl,h⟩
theorem ygZ {x j pos}:PE X (.Constant (.str x) j pos) (tC (.str x)):=fun _ _ _ H _ I h=>Calls.Constant_str ⟨.str x,H,I.tok _,⟨_,rfl⟩,h⟩
def Gl (X:Cx) (x:Str):Prop:=X.env.kindOf x=some .globalImplicit
theorem zcB {E:Value->Shared->Prop} {pins:List (Addr×Obj)} {s:Shared} {σ:St} {H:Hp} {x:Str} {u:Value} {pos:Pos} {Q:Value->Shared->Prop} (I:Inv X pins σ H s) (hg:Gl X x) (hm:X.mg x=some u) (h:Q u s)
  (hd:(x == ("__debug__" : Str))=false:=by decide):wpAny (model X.prog X.w) X.A (eval (.Name x pos) X.env) Q E s :=
 Calls.Name_function_global I.ok.kind hg (Calls.loadGlobal_global (by rw [I.ok.glob];exact I.mod.glob.keeps I.bk) hm h) hd
theorem ydY {E:Value->Shared->Prop} {pins:List (Addr×Obj)} {s:Shared} {σ:St} {H:Hp} {x:Str} {u:Value} {pos:Pos} {Q:Value->Shared->Prop} (I:Inv X pins σ H s) (hg:Gl X x) (hm:X.mg x=none) (hv:bootBuiltins x=some u) (h:Q u s)
  (hn:x ≠ "__name__" := by decide) (hd:(x == ("__debug__" : Str))=false:=by decide):wpAny (model X.prog X.w) X.A (eval (.Name x pos) X.env) Q E s:=by
 obtain ⟨mb,h1,h2⟩:=I.mod.blt
 exact Calls.Name_function_global I.ok.kind hg (Calls.loadGlobal_builtin (by rw [I.ok.glob];exact I.mod.glob.keeps I.bk) hm (by rw [I.ok.blt];exact h1.keeps I.bk) ((h2 x hn).trans hv) h) hd
theorem ziE {x:Str} {v:V} {u:Value} {pos:Pos} (hg:Gl X x) (hm:X.mg x=some u) (r:RelV v u) (hd:(x == ("__debug__" : Str))=false:=by decide):PE X (.Name x pos) (tC v) :=
 fun _ _ _ H _ I h=>zcB I hg hm ⟨v,H,I,r,h⟩ hd
theorem ziF {x:Str} {v:V} {u:Value} {pos:Pos} (hg:Gl X x) (hm:X.mg x=none) (hv:bootBuiltins x=some u) (r:RelV v u) (hn:x ≠ "__name__" := by decide) (hd:(x == ("__debug__" : Str))=false:=by decide):PE X (.Name x pos) (tC v) :=
 fun _ _ _ H _ I h=>ydY I hg hm hv ⟨v,H,I,r,h⟩ hn hd
variable {a b:Expr} {ta tb:TE} {pos:Pos}
variable {tA tB':TT} {rest:List Expr}
def tAnd (t u:TT):TT:=fun σ H Q=>t σ H fun c H1=>if c=true then u σ H1 Q else Q false H1
def tOr (t u:TT):TT:=fun σ H Q=>t σ H fun c H1=>if c=true then Q true H1 else u σ H1 Q
def tNot (t:TT):TT:=fun σ H Q=>t σ H fun c H1=>Q (!c) H1
theorem ziG (ha:PT X a tA):PW X (.BoolOp .And [a] pos) tA:=by
 intro wh pins s σ H Q I h
 refine isTrue_and (thn (ha pins s σ H Q I h) fun c s1 e=>?_)
 cases c with
 | true=>exact isTrue_and_nil e
 | false=>exact e
theorem yg0 (ha:PT X a tA):PW X (.BoolOp .Or [a] pos) tA:=by
 intro wh pins s σ H Q I h
 refine isTrue_or (thn (ha pins s σ H Q I h) fun c s1 e=>?_)
 cases c with
 | false=>exact isTrue_or_nil e
 | true=>exact e
theorem yg1 (ha:PT X a tA) (hb:PW X (.BoolOp .And (b::rest) pos) tB'):PW X (.BoolOp .And (a::b::rest) pos) (tAnd tA tB'):=by
 intro wh pins s σ H Q I h
 refine isTrue_and (thn (ha pins s σ H _ I h) fun c s1 ⟨H1,I1,q1⟩=>?_)
 cases c with
 | true=>exact hb wh pins s1 σ H1 Q I1 q1
 | false=>exact ⟨H1,I1,q1⟩
theorem yio (ha:PT X a tA) (hb:PW X (.BoolOp .Or (b::rest) pos) tB'):PW X (.BoolOp .Or (a::b::rest) pos) (tOr tA tB'):=by
 intro wh pins s σ H Q I h
 refine isTrue_or (thn (ha pins s σ H _ I h) fun c s1 ⟨H1,I1,q1⟩=>?_)
 cases c with
 | true=>exact ⟨H1,I1,q1⟩
 | false=>exact hb wh pins s1 σ H1 Q I1 q1
theorem yg2 (ha:PT X a tA):PT X (.UnaryOp .Not a pos) (tNot tA):=by
 intro pins s σ H Q I h
 exact isTrue_not (ha pins s σ H (fun c H1=>Q (!c) H1) I h)
def yip (ta tb:TE):TE:=fun σ H Q=>ta σ H fun x H1=>∃ c,x = .bl c/\if c=true then tb σ H1 Q else Q (.bl false) H1
def tOrV (ta tb:TE):TE:=fun σ H Q=>ta σ H fun x H1=>∃ c,x = .bl c/\if c=true then Q (.bl true) H1 else tb σ H1 Q
def yiq (ta:TE):TE:=fun σ H Q=>ta σ H fun x H1=>∃ c,x = .bl c/\Q (.bl (!c)) H1
theorem yg3 {op} {t:TE} (h:PE X a t):PE X (.BoolOp op [a] pos) t:=fun pins s σ H Q I hw=>BoolOp_one (h pins s σ H Q I hw)
theorem yg4 (ha:PE X a ta) (hb:PE X (.BoolOp .And (b::rest) pos) tb):PE X (.BoolOp .And (a::b::rest) pos) (yip ta tb):=by
 intro pins s σ H Q I h
 refine BoolOp_and (thn (ha pins s σ H _ I h) fun v s1 ⟨x,H1,I1,r1,q1⟩=>?_)
 obtain ⟨c,rfl,q1⟩:=q1
 cases r1
 refine wpAny_truthy_bool ?_
 cases c with
 | true=>exact hb pins s1 σ H1 Q I1 q1
 | false=>exact ⟨.bl false,H1,I1,rfl,q1⟩
theorem yir (ha:PE X a ta) (hb:PE X (.BoolOp .Or (b::rest) pos) tb):PE X (.BoolOp .Or (a::b::rest) pos) (tOrV ta tb):=by
 intro pins s σ H Q I h
 refine BoolOp_or (thn (ha pins s σ H _ I h) fun v s1 ⟨x,H1,I1,r1,q1⟩=>?_)
 obtain ⟨c,rfl,q1⟩:=q1
 cases r1
 refine wpAny_truthy_bool ?_
 cases c with
 | false=>exact hb pins s1 σ H1 Q I1 q1
 | true=>exact ⟨.bl true,H1,I1,rfl,q1⟩
theorem yg5 (ha:PE X a ta):PE X (.UnaryOp .Not a pos) (yiq ta):=by
 intro pins s σ H Q I h
 refine UnaryOp_ (thn (ha pins s σ H _ I h) fun v s1 ⟨x,H1,I1,r1,q1⟩=>?_)
 obtain ⟨c,rfl,q1⟩:=q1
 cases r1
 exact not_of (wpAny_truthy_bool ⟨.bl (!c),H1,I1,rfl,q1⟩)
def tIf (t:TT) (ta tb:TE):TE:=fun σ H Q=>t σ H fun c H1=>if c=true then ta σ H1 Q else tb σ H1 Q
theorem zhJ {c:Expr} (hc:PT X c tA) (ha:PE X a ta) (hb:PE X b tb):PE X (.IfExp c a b pos) (tIf tA ta tb):=by
 intro pins s σ H Q I h
 refine wpAny_IfExp (thn (hc pins s σ H _ I h) fun d s1 ⟨H1,I1,q1⟩=>?_)
 cases d with
 | true=>exact ha pins s1 σ H1 Q I1 q1
 | false=>exact hb pins s1 σ H1 Q I1 q1
end
end L2
namespace L2
open PySem PySem.Spec PyProof.Rows
def SqL (K:PySem.W.Frag) (H:Hp) (a:Addr) (xs:List V):Prop :=
 Rd H a (.lst xs) \/
  ∃ (o:Obj) (its:Array Value) (n:Nat),K.lookup a=some o/\o.cls = .type "list" /\ o.dict=none/\o.data = .seq its n/\its.size<=sizeLine/\Vals xs its.toList
def SqT (K:PySem.W.Frag) (H:Hp) (a:Addr) (xs:List V):Prop :=
 Rd H a (.tup xs) \/
  ∃ (o:Obj) (its:Array Value) (n:Nat),K.lookup a=some o/\o.cls = .type "tuple" /\ o.data = .seq its n/\its.size<=sizeLine/\Vals xs its.toList
def absV:Value->Option V
 | .none=>some .non
 | .bool b=>some (.bl b)
 | .int i _=>some (.int i)
 | .str x _=>some (.str x)
 | .bytes b _=>some (.byt b)
 | .float b _=>some (.flt b)
 | .ref a=>some (.ref a)
 | .type n=>some (.ty n)
 | _=>none
theorem RelV.abs {x:V} {u:Value} (r:RelV x u):absV u=some x:=by
 cases x with
 | non=>cases r;rfl
 | bl _=>cases r;rfl
 | int _=>obtain ⟨t,rfl⟩:=r;rfl
 | str _=>obtain ⟨t,rfl⟩:=r;rfl
 | byt _=>obtain ⟨t,rfl⟩:=r;rfl
 | flt _=>obtain ⟨t,rfl⟩:=r;rfl
 | ref _=>cases r;rfl
 | ty _=>cases r;rfl
theorem RelV.inj {x y:V} {u:Value} (r:RelV x u) (q:RelV y u):x=y:=Option.some.inj (r.abs.symm.trans q.abs)
theorem Vals.inj:∀ {xs ys:List V} {us:List Value},Vals xs us->Vals ys us->xs=ys
 | _,_,_,.nil,.nil=>rfl
 | _,_,_,.cons r t,.cons r' t' => by rw [r.inj r',Vals.inj t t']
section
variable {X:Cx} {pins:List (Addr×Obj)} {σ:St} {H:Hp} {s:Shared} {a:Addr} {xs ys:List V}
theorem SqL.of {K:PySem.W.Frag} (h:H a=some (.lst xs)):SqL K H a xs:=.inl (.inl h)
theorem SqT.of {K:PySem.W.Frag} (h:H a=some (.tup xs)):SqT K H a xs:=.inl (.inl h)
theorem Inv.list (I:Inv X pins σ H s) (h:SqL X.K H a xs):∃ its:List Value,Vals xs its/\PlainL s.heap a its.toArray/\xs.length<=sizeLine:=by
 rcases h with h | ⟨o,its,n,hk,hc,hd,hs,hz,r⟩
 ·obtain ⟨z,its,n,r,e⟩:=h.ok I.hok
  exact ⟨its,r,⟨_,n,e,rfl,rfl,rfl⟩,z⟩
 ·refine ⟨its.toList,r,⟨o,n,I.kIn a o hk,hc,hd,by simpa using hs⟩,?_⟩
  have e:=r.length
  simp only [Array.length_toList] at e
  omega
theorem Inv.tuple (I:Inv X pins σ H s) (h:SqT X.K H a xs):∃ its:List Value,Vals xs its/\IsTup s.heap a its.toArray/\xs.length<=sizeLine:=by
 rcases h with h | ⟨o,its,n,hk,hc,hs,hz,r⟩
 ·obtain ⟨z,its,r,p⟩:=h.ok I.hok
  exact ⟨its,r,p,z⟩
 ·refine ⟨its.toList,r,⟨o,I.kIn a o hk,hc,n,by simpa using hs⟩,?_⟩
  have e:=r.length
  simp only [Array.length_toList] at e
  omega
theorem Inv.list_inj (I:Inv X pins σ H s) (h:SqL X.K H a xs) (h':SqL X.K H a ys):xs=ys:=by
 obtain ⟨its,r,⟨o,n,e,_,_,d⟩,_⟩:=I.list h
 obtain ⟨its',r',⟨o',n',e',_,_,d'⟩,_⟩:=I.list h'
 rw [e] at e';cases e'
 rw [d] at d';injection d' with d1 _
 have:its=its' := by simpa using congrArg Array.toList d1
 subst this;exact r.inj r'
theorem Inv.tuple_inj (I:Inv X pins σ H s) (h:SqT X.K H a xs) (h':SqT X.K H a ys):xs=ys:=by
 obtain ⟨its,r,⟨o,e,_,n,d⟩,_⟩:=I.tuple h
 obtain ⟨its',r',⟨o',e',_,n',d'⟩,_⟩:=I.tuple h'
 rw [e] at e';cases e'
 rw [d] at d';injection d' with d1 _
 have:its=its' := by simpa using congrArg Array.toList d1
 subst this;exact r.inj r'
end
abbrev Cx.wish (X:Cx) (E:Value->Shared->Prop):Cx:={ X with xe:=E }
abbrev Cx.nox (X:Cx):Cx:=X.wish fun _ _=>False
theorem Cx.Ok.wish {X:Cx} (ok:X.Ok) (E:Value->Shared->Prop):(X.wish E).Ok :=
 ⟨ok.mod,ok.kind,ok.glob,ok.blt,ok.above,ok.inj,ok.has,ok.cab,ok.hd,ok.frames,ok.stk,ok.exf,ok.bs,ok.bsz,ok.noex,ok.exfs,ok.funs,ok.frf⟩
theorem Cx.Ok.unwish {X:Cx} {E:Value->Shared->Prop} (ok:(X.wish E).Ok):X.Ok :=
 ⟨ok.mod,ok.kind,ok.glob,ok.blt,ok.above,ok.inj,ok.has,ok.cab,ok.hd,ok.frames,ok.stk,ok.exf,ok.bs,ok.bsz,ok.noex,ok.exfs,ok.funs,ok.frf⟩
section
variable {X:Cx} {pins:List (Addr×Obj)} {σ:St} {H:Hp} {s:Shared} {E:Value->Shared->Prop}
theorem Inv.wish (I:Inv X pins σ H s) (E:Value->Shared->Prop):Inv (X.wish E) pins σ H s:=⟨I.ok.wish E,I.os,I.bare,I.base,I.loc,I.cell,I.free,I.freeC,I.pin,I.hok,I.len⟩
theorem Inv.unwish (I:Inv (X.wish E) pins σ H s):Inv X pins σ H s:=⟨I.ok.unwish,I.os,I.bare,I.base,I.loc,I.cell,I.free,I.freeC,I.pin,I.hok,I.len⟩
theorem SP.unwish {D:Ends} {f:Flow} {s':Shared} (h:SP (X.wish E) pins D f s'):SP X pins D f s' := by
 cases f with
 | next=>obtain ⟨σ',H',I,q⟩:=h;exact ⟨σ',H',I.unwish,q⟩
 | brk=>obtain ⟨σ',H',I,q⟩:=h;exact ⟨σ',H',I.unwish,q⟩
 | cont=>obtain ⟨σ',H',I,q⟩:=h;exact ⟨σ',H',I.unwish,q⟩
 | ret u=>obtain ⟨v,σ',H',I,r,q⟩:=h;exact ⟨v,σ',H',I.unwish,r,q⟩
end
section
variable {X:Cx} {st:Stmt} {rest:List Stmt} {t u:TS} {e:Expr} {te:TE} {pos:Pos}
def yis:TS:=fun D σ H=>D.nx σ H
def tSeq (t u:TS):TS:=fun D σ H=>t { D with nx:=u D } σ H
theorem ziH:PSs X [] yis:=fun _ _ σ H _ I h=>wpAny_execs_nil ⟨σ,H,I,h⟩
theorem zhK (h1:PS X st t) (h2:PSs X rest u):PSs X (st::rest) (tSeq t u):=by
 intro pins s σ H D I h
 refine wpAny_execs_cons (thn (h1 pins s σ H { D with nx:=u D } I h) fun f s1 q=>?_)
 cases f with
 | next =>
  obtain ⟨σ',H',I',q⟩:=q
  exact h2 pins s1 σ' H' D I' q
 | ret v=>exact q
 | brk=>exact q
 | cont=>exact q
theorem ziI (h1:PS X st t):PSs X [st] t:=by
 intro pins s σ H D I h
 refine wpAny_execs_cons (thn (h1 pins s σ H D I h) fun f s1 q=>?_)
 cases f with
 | next=>exact wpAny_execs_nil q
 | ret v=>exact q
 | brk=>exact q
 | cont=>exact q
def yg6:TS:=fun D σ H=>D.bk σ H
theorem zhL:PS X (.Break pos) yg6:=fun _ _ σ H _ I h=>wpAny_Break ⟨σ,H,I,h⟩
theorem Inv.quiet {pins:List (Addr×Obj)} {σ:St} {H:Hp} {s:Shared} (I:Inv X pins σ H s):interactive X.env=false:=by simp [interactive,I.ok.kind]
def yit (te:TE):TS:=fun D σ H=>te σ H fun _ H1=>D.nx σ H1
theorem ziJ (he:PE X e te) (hs:swapsWith e none pos.line X.env=pure false:=by rfl):PS X (.Expr e pos) (yit te):=by
 intro pins s σ H D I h
 exact wpAny_Expr_any (thn (he pins s σ H _ I h) fun v s1 ⟨x,H1,I1,r1,q1⟩=>⟨σ,H1,I1,q1⟩) I.quiet hs
def tRet (te:TE):TS:=fun D σ H=>te σ H D.rt
theorem yg7 (he:PE X e te):PS X (.Return (some e) pos) (tRet te):=by
 intro pins s σ H D I h
 exact wpAny_Return_some (thn (he pins s σ H _ I h) fun v s1 ⟨x,H1,I1,r1,q1⟩=>⟨x,σ,H1,I1,r1,q1⟩)
def tIfS (c:TT) (t u:TS):TS:=fun D σ H=>c σ H fun b H1=>if b=true then t D σ H1 else u D σ H1
theorem yiu {c:Expr} {a b:List Stmt} {tc:TT} (hc:PT X c tc) (ha:PSs X a t) (hb:PSs X b u):PS X (.If c a b pos) (tIfS tc t u):=by
 intro pins s σ H D I h
 refine wpAny_If (thn (hc pins s σ H _ I h) fun d s1 ⟨H1,I1,q1⟩=>?_)
 cases d with
 | true=>exact ha pins s1 σ H1 D I1 q1
 | false=>exact hb pins s1 σ H1 D I1 q1
end
abbrev TG:=V->St->Hp->(St->Hp->Prop)->Prop
abbrev TGs:=List V->St->Hp->(St->Hp->Prop)->Prop
def PG (X:Cx) (target:Expr) (t:TG):Prop :=
 ∀ (pins:List (Addr×Obj)) (s:Shared) (σ:St) (H:Hp) (v:V) (u:Value) (Q:St->Hp->Prop),Inv X pins σ H s->RelV v u->t v σ H Q ->
  wpAny (model X.prog X.w) X.A (assign target X.env u) (fun _ s' => ∃ σ' H',Inv X pins σ' H' s'/\Q σ' H') X.xe s
def PGs (X:Cx) (ts:List Expr) (t:TGs):Prop :=
 ∀ (pins:List (Addr×Obj)) (s:Shared) (σ:St) (H:Hp) (vs:List V) (us:List Value) (Q:St->Hp->Prop),Inv X pins σ H s->Vals vs us->t vs σ H Q ->
  wpAny (model X.prog X.w) X.A (assignInOrder ((assignEach ts X.env).map (·.2)) us) (fun _ s' => ∃ σ' H',Inv X pins σ' H' s'/\Q σ' H') X.xe s
abbrev TSet:=V->V->V->Hp->(Hp->Prop)->Prop
def PSet (X:Cx) (t:TSet):Prop :=
 ∀ (pins:List (Addr×Obj)) (s:Shared) (σ:St) (H:Hp) (o i v:V) (ov iv u:Value) (Q:Hp->Prop),Inv X pins σ H s->RelV o ov->RelV i iv->RelV v u->t o i v H Q ->
  wpAny (model X.prog X.w) X.A (setItem ov iv u) (fun _ s' => ∃ H',Inv X pins σ H' s'/\Q H') X.xe s
section
variable {X:Cx} {pos:Pos}
def yeK (i:Nat):TG:=fun v σ H Q=>Q (σ.set i (some v)) H
theorem zfq {i:Nat} {x:Str} (hN:X.N.Nodup) (hi:X.N[i]? = some x) (hx:Loc X.env.scope x) (hf:X.fn x=true\/X.env.scope.names.lookup x=some .local:=by first | exact .inl rfl | exact .inr rfl | assumption):PG X (.Name x pos) (yeK i):=by
 intro pins s σ H v u Q I r h
 exact wpAny_assign_Name (zc5 I hN hi hx r (fun s' I' => ⟨_,H,I',h⟩) hf)
def gNil:TGs:=fun vs σ H Q=>vs=[]/\Q σ H
def yiv (t:TG) (u:TGs):TGs:=fun vs σ H Q=>∃ v r,vs=v::r/\t v σ H fun σ' H' => u r σ' H' Q
theorem ziK:PGs X [] gNil:=by
 intro pins s σ H vs us Q I r h
 obtain ⟨e,h⟩:=h
 subst e
 cases r
 exact assignInOrder_nil ⟨σ,H,I,h⟩
theorem zhM {e:Expr} {es:List Expr} {t:TG} {u:TGs} (h1:PG X e t) (h2:PGs X es u)
  (hs:(assignEach (e::es) X.env).map (·.2)=assign e X.env::(assignEach es X.env).map (·.2):=by rfl):PGs X (e::es) (yiv t u):=by
 intro pins s σ H vs us Q I r h
 obtain ⟨v,vr,e1,h⟩:=h
 subst e1
 cases r with
 | cons r rr =>
  rw [hs];refine assignInOrder_cons (thn (h1 pins s σ H _ _ _ I r h) fun _ s1 ⟨σ1,H1,I1,q1⟩=>?_)
  exact h2 pins s1 σ1 H1 _ _ Q I1 rr q1
def gTup (K:PySem.W.Frag) (n:Nat) (t:TGs):TG:=fun v σ H Q=>∃ a xs,v = .ref a/\SqT K H a xs/\xs.length=n/\t xs σ H Q
theorem yg8 {es:List Expr} {k:Nat} {t:TGs} {n:Nat} (hc:X.calm=true) (h:PGs X es t)
  (hn:(assignEach es X.env).length=n:=by rfl) (hst:(assignEach es X.env).findIdx? (·.1)=none:=by rfl):PG X (.Tuple es k pos) (gTup X.K n t):=by
 intro pins s σ H v u Q I r hw
 obtain ⟨a,xs,e1,hq,hl,hw⟩:=hw
 subst e1
 cases r
 obtain ⟨its,rv,ht,hz⟩:=I.tuple hq
 refine assign_Tuple_tuple (I.ok.hd hc) ht (by simp [hn,<- hl,rv.length]) hst fun h' hx=>?_
 have I1:Inv X pins σ H { s with heap:=h' }:=I.kept (t' := s.toks) fun b o e=>hx b o (Nat.ne_of_lt (Heap.lt_size e)) e
 exact h pins _ σ H xs _ Q I1 (by simpa using rv) hw
def gSub (to ti:TE) (t:TSet):TG:=fun v σ H Q=>to σ H fun o H1=>ti σ H1 fun i H2=>t o i v H2 fun H3=>Q σ H3
theorem yg9 {o i:Expr} {to ti:TE} {t:TSet} (ho:PE X o to) (hi:PE X i ti) (hs:PSet X t)
  (ha:∀ v,assign (.Subscript o i pos) X.env v=(do
   let ov <- holding [v] (eval o X.env)
   let iv <- holding [v,ov] (eval i X.env)
   standAt pos
   holding [v,ov,iv] (setItem ov iv v)
   release [v,ov,iv] []):=by intro _;rfl):PG X (.Subscript o i pos) (gSub to ti t):=by
 intro pins s σ H v u Q I r h
 rw [ha];refine wpAny_bind (wpAny_holding (thn (ho pins s σ H _ I h) fun ov s1 ⟨x,H1,I1,r1,q1⟩=>?_))
 refine wpAny_bind (wpAny_holding (thn (hi pins s1 σ H1 _ I1 q1) fun iv s2 ⟨y,H2,I2,r2,q2⟩=>?_))
 refine wpAny_bind (wpAny_standAt (wpAny_bind (wpAny_holding (thn (hs pins s2 σ H2 x y v ov iv u _ I2 r1 r2 r q2) fun _ s3 ⟨H3,I3,q3⟩=>?_))))
 exact wpAny_release ⟨σ,H3,I3,q3⟩
def tAsg (te:TE) (g:TG):TS:=fun D σ H=>te σ H fun x H1=>g x σ H1 D.nx
theorem yft {tg e:Expr} {te:TE} {g:TG} (he:PE X e te) (hg:PG X tg g) (hs:swapsWithSole [tg] e pos.line X.env=pure false:=by rfl) (hw:swappedStores [tg] e X.env=pure none:=by rfl)
  (h1:(assignEach [tg] X.env).map (·.2)=[assign tg X.env]:=by rfl):PS X (.Assign [tg] e pos) (tAsg te g):=by
 intro pins s σ H D I h
 refine wpAny_Assign_stores (thn (he pins s σ H _ I h) fun v s1 ⟨x,H1,I1,r1,q1⟩=>?_) hs hw
 rw [h1];exact thn (hg pins s1 σ H1 x v _ I1 r1 q1) fun _ s2 q=>q
theorem yha {i:Nat} {x:Str} {e:Expr} {te:TE} {pos':Pos} (hN:X.N.Nodup) (hi:X.N[i]? = some x) (hx:Loc X.env.scope x) (he:PE X e te) (hs:swapsWith e (some (.Name x pos')) pos.line X.env=pure false:=by rfl) (hf:X.fn x=true\/X.env.scope.names.lookup x=some .local:=by first | exact .inl rfl | exact .inr rfl | assumption) :
  PS X (.Assign [.Name x pos'] e pos) (tAsg te (yeK i)):=by
 intro pins s σ H D I h
 refine wpAny_Assign_Name (thn (he pins s σ H _ I h) fun v s1 ⟨y,H1,I1,r1,q1⟩=>?_) hs
 exact zc5 I1 hN hi hx r1 (fun s2 I2=>⟨_,H1,I2,q1⟩) hf
end
section
variable {X:Cx} {pos:Pos}
def yhb (c:TT) (tb:TS):TS:=fun D σ H=>∃ W:Nat->St->Hp->Prop,(∃ m,W m σ H)/\∀ m σ H,W m σ H ->
 c σ H fun b H1=>if b=true then ∃ N:St->Hp->Prop,(∀ σ' H',N σ' H'->∃ m',m'<m/\W m' σ' H')/\tb { D with nx:=N,ct:=N,bk:=D.nx } σ H1 else D.nx σ H1
theorem zhN {c:Expr} {body:List Stmt} {tc:TT} {tb:TS} (hp:PassesOwn (model X.prog X.w) X.A X.env X.xe) (hc:PT X c tc) (hb:PSs X body tb):PS X (.While c body [] pos) (yhb tc tb):=by
 intro pins s σ H D I h
 obtain ⟨W,⟨m0,w0⟩,turn⟩:=h
 refine wpAny_While (codeAny_whileLoop (fun n s' => ∃ σ' H',Inv X pins σ' H' s'/\W n σ' H') ?_ m0 ⟨σ,H,I,w0⟩)
 rintro n s1 ⟨σ1,H1,I1,w1⟩
 refine wpAny_passesOwn hp (thn (hc pins s1 σ1 H1 _ I1 (turn n σ1 H1 w1)) fun b s2 ⟨H2,I2,q2⟩=>?_)
 cases b with
 | true =>
  obtain ⟨N,hN,q2⟩:=q2
  rw [if_pos rfl];refine wpAny_passesOwn hp (thn (hb pins s2 σ1 H2 _ I2 q2) fun f s3 q3=>?_)
  cases f with
  | next =>
   obtain ⟨σ3,H3,I3,n3⟩:=q3
   obtain ⟨m',hm,w3⟩:=hN σ3 H3 n3
   exact ⟨m',hm,σ3,H3,I3,w3⟩
  | cont =>
   obtain ⟨σ3,H3,I3,n3⟩:=q3
   obtain ⟨m',hm,w3⟩:=hN σ3 H3 n3
   exact ⟨m',hm,σ3,H3,I3,w3⟩
  | brk=>exact q3
  | ret v=>exact q3
 | false =>
  rw [if_neg Bool.false_ne_true];exact wpAny_execs_nil ⟨σ1,H2,I2,q2⟩
end
structure It where
 go:Nat->Hp->Prop
 yld:Nat->Hp->V->Hp->Prop
 stop:Nat->Hp->Prop
def FpOk (X:Cx) (pins:List (Addr×Obj)) (H:Hp) (b:Addr):Prop :=
 H b=none/\b≠X.env.locals/\b∉X.fs/\(b∈X.ex\/X.s₀.heap.objs.size<=b)/\(∀ x c,X.env.cells.lookup x=some c->c≠b)/\∀ p∈X.pn++pins,p.1≠b
theorem Inv.fpOk {X:Cx} {pins:List (Addr×Obj)} {σ:St} {H H':Hp} {s:Shared} {b:Addr} (I:Inv X pins σ H s) (hb:s.heap.objs.size<=b) (hn:H' b=none):FpOk X pins H' b:=by
 refine ⟨hn,Nat.ne_of_gt (Nat.lt_of_lt_of_le I.lt hb),I.nofs hb,.inr (Nat.le_trans I.sz hb),fun x c e z=>?_,fun p hp z=>?_⟩
 ·obtain ⟨v,q⟩:=I.cell x c e
  exact absurd (Nat.lt_of_lt_of_le q.lt (by rw [z];exact hb)) (Nat.lt_irrefl _)
 ·exact absurd (Nat.lt_of_lt_of_le (Heap.lt_size (I.pin p hp).1) (by rw [z];exact hb)) (Nat.lt_irrefl _)
structure Turn (P:Program) (w:World) (K:PySem.W.Frag) (tg:Expr) (J:It) (fp:List Addr) (it:Addr) (tn:Nat->Heap->Prop):Prop where
 mem:it∈fp
 obj:∀ i h,tn i h->∀ b∈fp,∃ o,h.get? b=some o/\∀ v,o.data ≠ .cell v
 keep:∀ i h h',tn i h->(∀ b∈fp,∀ o,h.get? b=some o->h'.get? b=some o)->tn i h'
 item:∀ (X:Cx),X.prog=P->X.w=w->X.K=K->X.calm=true->∀ (i:Nat) (pins:List (Addr×Obj)) (s:Shared) (σ:St) (H:Hp) (E:Value->Shared->Prop),Inv X pins σ H s->(∀ b∈fp,FpOk X pins H b)->tn i s.heap->J.go i H ->
  wpAny (model P w) X.A (pyNext (.ref it)) (fun r s1=>∃ u,r=some u /\
   wpAny (model P w) X.A (letOwnedTupleGo tg (.ref it) u) (fun _ s2=>∃ x H',Inv X pins σ H' s2/\RelV x u/\J.yld i H x H'/\tn (i+1) s2.heap/\∀ b∈fp,H' b=none) E s1) E s
 done:∀ (X:Cx),X.prog=P->X.w=w->X.K=K->X.calm=true->∀ (i:Nat) (pins:List (Addr×Obj)) (s:Shared) (σ:St) (H:Hp) (E:Value->Shared->Prop),Inv X pins σ H s->(∀ b∈fp,FpOk X pins H b)->tn i s.heap->J.stop i H ->
  wpAny (model P w) X.A (pyNext (.ref it)) (fun r s1=>r=none/\Inv X pins σ H s1) E s
 self:∀ (A:Around) (i:Nat) (s:Shared) (Q:Value->Shared->Prop) (E:Value->Shared->Prop),tn i s.heap->Q (.ref it) s->wpAny (model P w) A (pyIter (.ref it)) Q E s
abbrev TI:=St->Hp->(It->Hp->Prop)->Prop
def PIE (X:Cx) (pins:List (Addr×Obj)) (σ:St) (tg:Expr) (R:It->Hp->Prop) (itv:Value) (s2:Shared):Prop :=
 ∃ (it:Addr) (fp:List Addr) (tn:Nat->Heap->Prop) (J:It) (H':Hp),itv = .ref it/\Inv X pins σ H' s2/\Turn X.prog X.w X.K tg J fp it tn/\tn 0 s2.heap/\(∀ b∈fp,FpOk X pins H' b)/\R J H'
def PI (X:Cx) (tg iter:Expr) (wi:TI):Prop :=
 ∀ (pins:List (Addr×Obj)) (s:Shared) (σ:St) (H:Hp) (R:It->Hp->Prop),Inv X pins σ H s->wi σ H R ->
  wpAny (model X.prog X.w) X.A (eval iter X.env) (fun v s1=>wpAny (model X.prog X.w) X.A (pyIter v) (PIE X pins σ tg R) X.xe s1) X.xe s
theorem yeL {M:Model} {A:Around} {E:Value->Shared->Prop} {s:Shared} {tg:Expr} {it:Addr} {u:Value} {o:Obj} {n:String} {vs:Array Value} {Q:Unit->Shared->Prop} (ho:s.heap.get? it=some o) (hc:o.cls = .type n) (hd:o.data = .fields vs)
  (hn:["enumerate", "zip", "dict_itemiterator", "dict_reverseitemiterator", "odict_iterator", "itertools.zip_longest", "itertools.pairwise"].contains n=false) (hQ:Q () s):wpAny M A (letOwnedTupleGo tg (.ref it) u) Q E s:=by
 unfold letOwnedTupleGo
 cases tg<;>first
  | exact wpAny_pure hQ
  | (cases u<;>first
    | exact wpAny_pure hQ
    | (refine wpAny_bind (wpAny_load ho ?_)
       rw [hc,hd];show wpAny M A (if (["enumerate", "zip", "dict_itemiterator", "dict_reverseitemiterator", "odict_iterator", "itertools.zip_longest", "itertools.pairwise"].contains n && vs[0]? == some (rawInt _))=true then _ else _) Q E s
       rw [if_neg (by intro h;rw [hn,Bool.false_and] at h;cases h)]
       exact wpAny_pure hQ))
def Itl (K:PySem.W.Frag) (a:Addr):It :=
 ⟨fun i H=>∃ xs x,SqL K H a xs/\xs[i]? = some x,fun i H x H' => H'=H/\∀ xs,SqL K H a xs->xs[i]? = some x,fun i H=>∃ xs,SqL K H a xs/\xs.length<=i⟩
def Itt (K:PySem.W.Frag) (a:Addr):It :=
 ⟨fun i H=>∃ xs x,SqT K H a xs/\xs[i]? = some x,fun i H x H' => H'=H/\∀ xs,SqT K H a xs->xs[i]? = some x,fun i H=>∃ xs,SqT K H a xs/\xs.length<=i⟩
def Itr (lo:Int) (n:Nat):It:=⟨fun i _=>i<n,fun i H x H' => H'=H/\x = .int (lo+i),fun i _=>n<=i⟩
theorem zg4 {P:Program} {w:World} {K:PySem.W.Frag} {tg:Expr} (a it:Addr):Turn P w K tg (Itl K a) [it] it (fun i h=>h.IsListIter it a i) where
 mem:=by simp
 obj:=fun i h st b hb=>by
  have e:b=it:=by simpa using hb
  subst e;obtain ⟨o,e,c,d⟩:=st
  exact ⟨o,e,fun v z=>by rw [d] at z;cases z⟩
 keep:=fun i h h' st k=>st.at fun o e=>k it (by simp) o e
 item:=by
  intro X hP hw hK hc i pins s σ H E I hf st hg
  subst hP hw hK
  obtain ⟨xs,x,hq,hx⟩:=hg
  obtain ⟨its,rv,p,hz⟩:=I.list hq
  obtain ⟨u,hu,ru⟩:=rv.get hx
  obtain ⟨f0,f1,f2,f3,f4,f5⟩:=hf it (by simp)
  refine wpAny_pyNext_list_item st p.isList (x:=u) (by simpa using hu) fun h' st' sb=>?_
  have I1:Inv X pins σ H { s with heap:=h' }:=I.turned (t' := s.toks) (fun b o hb e=>(sb.2 b hb).trans e) f0 f1 f3 f4 f5
  obtain ⟨o,e,c,d⟩:=id st'
  exact ⟨u,rfl,yeL (s:={ s with heap:=h' }) e c d (by decide) ⟨x,H,I1,ru,⟨rfl,fun ys hy=>by rw [I.list_inj hy hq];exact hx⟩,st',fun b hb=>(hf b hb).1⟩⟩
 done:=by
  intro X hP hw hK hc i pins s σ H E I hf st hg
  subst hP hw hK
  obtain ⟨xs,hq,hx⟩:=hg
  obtain ⟨its,rv,p,hz⟩:=I.list hq
  obtain ⟨f0,f1,f2,f3,f4,f5⟩:=hf it (by simp)
  have hl:=rv.length
  exact wpAny_pyNext_list_end (I.ok.hd hc) st p.isList (by simp;omega) fun h' eb=>⟨rfl,I.turned (t' := s.toks) (fun b o hb e=>eb b o hb e) f0 f1 f3 f4 f5⟩
 self:=fun _ _ _ _ _ st h=>wpAny_pyIter_listiter st h
theorem zgx {P:Program} {w:World} {K:PySem.W.Frag} {tg:Expr} (a it:Addr):Turn P w K tg (Itt K a) [it] it (fun i h=>h.IsTupleIter it a i) where
 mem:=by simp
 obj:=fun i h st b hb=>by
  have e:b=it:=by simpa using hb
  subst e;obtain ⟨o,e,c,d⟩:=st
  exact ⟨o,e,fun v z=>by rw [d] at z;cases z⟩
 keep:=fun i h h' st k=>st.at fun o e=>k it (by simp) o e
 item:=by
  intro X hP hw hK hc i pins s σ H E I hf st hg
  subst hP hw hK
  obtain ⟨xs,x,hq,hx⟩:=hg
  obtain ⟨its,rv,p,hz⟩:=I.tuple hq
  obtain ⟨u,hu,ru⟩:=rv.get hx
  obtain ⟨f0,f1,f2,f3,f4,f5⟩:=hf it (by simp)
  refine wpAny_pyNext_tuple_item st (show s.heap.IsTuple a its.toArray from p) (x:=u) (by simpa using hu) fun h' st' sb=>?_
  have I1:Inv X pins σ H { s with heap:=h' }:=I.turned (t' := s.toks) (fun b o hb e=>(sb.2 b hb).trans e) f0 f1 f3 f4 f5
  obtain ⟨o,e,c,d⟩:=id st'
  exact ⟨u,rfl,yeL (s:={ s with heap:=h' }) e c d (by decide) ⟨x,H,I1,ru,⟨rfl,fun ys hy=>by rw [I.tuple_inj hy hq];exact hx⟩,st',fun b hb=>(hf b hb).1⟩⟩
 done:=by
  intro X hP hw hK hc i pins s σ H E I hf st hg
  subst hP hw hK
  obtain ⟨xs,hq,hx⟩:=hg
  obtain ⟨its,rv,p,hz⟩:=I.tuple hq
  obtain ⟨f0,f1,f2,f3,f4,f5⟩:=hf it (by simp)
  have hl:=rv.length
  exact wpAny_pyNext_tuple_end (I.ok.hd hc) st (show s.heap.IsTuple a its.toArray from p) (by simp;omega) fun h' eb=>⟨rfl,I.turned (t' := s.toks) (fun b o hb e=>eb b o hb e) f0 f1 f3 f4 f5⟩
 self:=fun _ _ _ _ _ st h=>wpAny_pyIter_tupleiter st h
theorem zgy {P:Program} {w:World} {K:PySem.W.Frag} {tg:Expr} (it:Addr) (lo:Int) (n:Nat):Turn P w K tg (Itr lo n) [it] it (fun i h=>IsRangeIter h it (lo+(i:Nat)*1) ((n:Int)-(i:Nat)) 1) where
 mem:=by simp
 obj:=fun i h st b hb=>by
  have e:b=it:=by simpa using hb
  subst e;exact ⟨_,st,fun v z=>by
   have z':Data.fields _=Data.cell v:=z
   cases z'⟩
 keep:=fun i h h' st k=>k it (by simp) _ st
 item:=by
  intro X hP hw hK hc i pins s σ H E I hf st hg
  subst hP hw hK
  obtain ⟨f0,f1,f2,f3,f4,f5⟩:=hf it (by simp)
  have W:=Walks.range (prog:=X.prog) (w:=X.w) (I.ok.hd hc) it lo 1 n
  refine W.item i s _ _ hg st fun v h' tk hv st' kk=>?_
  obtain ⟨t,rfl⟩:=hv
  have I1:Inv X pins σ H { s with heap:=h',toks:=tk }:=I.turned (fun b o hb e=>kk b o (by simpa using hb) e) f0 f1 f3 f4 f5
  refine ⟨_,rfl,yeL (s:={ s with heap:=h',toks:=tk }) (n := "range_iterator") st' rfl rfl (by decide) ⟨.int (lo+i),H,I1,⟨t,?_⟩,⟨rfl,rfl⟩,st',fun b hb=>(hf b hb).1⟩⟩
  rw [Int.mul_one]
 done:=by
  intro X hP hw hK hc i pins s σ H E I hf st hg
  subst hP hw hK
  obtain ⟨f0,f1,f2,f3,f4,f5⟩:=hf it (by simp)
  exact wpAny_pyNext_range_end (I.ok.hd hc) st (by have:n<=i:=hg;omega) fun h' eb=>⟨rfl,I.turned (t' := s.toks) (fun b o hb e=>eb b o hb e) f0 f1 f3 f4 f5⟩
 self:=fun _ _ _ _ _ st h=>wpAny_pyIter_rangeiter st h
end L2
namespace L2
open PySem PySem.Spec PyProof.Rows
section
variable {X:Cx} {tg:Expr}
def ygh (K:PySem.W.Frag) (tl:TE):TI:=fun σ H R=>tl σ H fun x H1=>∃ a,x = .ref a/\(∃ xs,SqL K H1 a xs)/\R (Itl K a) H1
def iTup (K:PySem.W.Frag) (tl:TE):TI:=fun σ H R=>tl σ H fun x H1=>∃ a,x = .ref a/\(∃ xs,SqT K H1 a xs)/\R (Itt K a) H1
theorem ziL {l:Expr} {tl:TE} (hl:PE X l tl):PI X tg l (ygh X.K tl):=by
 intro pins s σ H R I h
 refine thn (hl pins s σ H _ I h) fun v s1 ⟨x,H1,I1,r1,q1⟩=>?_
 obtain ⟨a,e,⟨xs,hq⟩,q⟩:=q1
 subst e
 cases r1
 obtain ⟨its,rv,p,hz⟩:=I1.list hq
 refine wpAny_pyIter_list p.isList ?_
 refine ⟨s1.heap.objs.size,[s1.heap.objs.size],_,_,H1,rfl,I1.kept (t' := s1.toks) fun b o e=>Heap.get?_push_of_some _ e,zg4 a _,⟨_,Heap.get?_push_size _ rfl,rfl,rfl⟩,fun b hb=>?_,q⟩
 have e:b=s1.heap.objs.size:=by simpa using hb
 subst e;exact I1.fpOk (Nat.le_refl _) (I1.hok.fresh (Nat.le_refl _))
theorem yhc {l:Expr} {tl:TE} (hl:PE X l tl):PI X tg l (iTup X.K tl):=by
 intro pins s σ H R I h
 refine thn (hl pins s σ H _ I h) fun v s1 ⟨x,H1,I1,r1,q1⟩=>?_
 obtain ⟨a,e,⟨xs,hq⟩,q⟩:=q1
 subst e
 cases r1
 obtain ⟨its,rv,p,hz⟩:=I1.tuple hq
 refine wpAny_pyIter_tuple (show s1.heap.IsTuple a its.toArray from p) ?_
 refine ⟨s1.heap.objs.size,[s1.heap.objs.size],_,_,H1,rfl,I1.kept (t' := s1.toks) fun b o e=>Heap.get?_push_of_some _ e,zgx a _,⟨_,Heap.get?_push_size _ rfl,rfl,rfl⟩,fun b hb=>?_,q⟩
 have e:b=s1.heap.objs.size:=by simpa using hb
 subst e;exact I1.fpOk (Nat.le_refl _) (I1.hok.fresh (Nat.le_refl _))
theorem zhO {pins:List (Addr×Obj)} {σ:St} {H:Hp} {s:Shared} {R:It->Hp->Prop} {E:Value->Shared->Prop} {lo hi:Int} {t u v:Tok} {tk:Nat} (I:Inv X pins σ H s) (h1 : -(2 ^ 62)<=lo) (h2:lo<2 ^ 62) (h3 : -(2 ^ 62)<=hi) (h4:hi<2 ^ 62)
  (q:R (Itr lo (hi-lo).toNat) H):wpAny (model X.prog X.w) X.A (pyIter (.ref s.heap.objs.size)) (PIE X pins σ tg R) E { s with heap:=s.heap.push { cls:=.type "range",data:=.fields #[.int lo t,.int hi u,.int 1 v] },toks:=tk }:=by
 refine wpAny_pyIter_range (IsRange.new ..) (small_one h1 h2 h3 h4) ?_
 have I1:Inv X pins σ H { s with heap:=s.heap.push { cls:=.type "range",data:=.fields #[.int lo t,.int hi u,.int 1 v] },toks:=tk }:=I.kept fun b o e=>Heap.get?_push_of_some _ e
 refine ⟨(s.heap.push { cls:=.type "range",data:=.fields #[.int lo t,.int hi u,.int 1 v] }).objs.size,[(s.heap.push { cls:=.type "range",data:=.fields #[.int lo t,.int hi u,.int 1 v] }).objs.size],_,_,H,rfl,
  I1.kept (t' := tk) fun b o e=>Heap.get?_push_of_some _ e,zgy _ lo (hi-lo).toNat,?_,fun b hb=>?_,q⟩
 ·have e1:lo+((0:Nat):Int)*1=lo:=by simp
  have e2:(((hi-lo).toNat:Nat):Int)-((0:Nat):Int)=Builtin.Range.rangeSize lo hi 1:=by rw [rangeSize_one];split<;>omega
  show IsRangeIter _ _ (lo+((0:Nat):Int)*1) ((((hi-lo).toNat:Nat):Int)-((0:Nat):Int)) 1
  rw [e1,e2];exact Heap.get?_push_size _ rfl
 ·have e:b=(s.heap.push { cls:=.type "range",data:=.fields #[.int lo t,.int hi u,.int 1 v] }).objs.size:=by simpa using hb
  subst e;exact I1.fpOk (Nat.le_refl _) (I1.hok.fresh (Nat.le_refl _))
def yiw (ta:TA):TI:=fun σ H R=>ta σ H fun vs H1=>∃ j:Int,vs=[.int j] /\ -(2 ^ 62)<=j/\j<2 ^ 62/\R (Itr 0 j.toNat) H1
theorem zg5 {a:Expr} {ta:TA} {p pos:Pos} (hg:Gl X "range") (hm:X.mg "range" = none) (ha:PA X [a] ta) (hs:starEach [a] X.env=[(false,eval a X.env)]:=by rfl):PI X tg (.Call (.Name "range" p) [a] [] pos) (yiw ta):=by
 intro pins s σ H R I h
 refine Call_ (ydY I hg hm boot_range (PyProof.Rows.callWith_type1 (thn (ha pos pins s σ H _ I h) fun us s1 ⟨vs,H1,I1,r1,q1⟩=>?_) hs rfl))
 obtain ⟨j,e,q1,q2,q⟩:=q1
 subst e
 cases r1 with
 | cons r rr =>
  cases rr
  obtain ⟨t,rfl⟩:=r
  exact call_range_1 (zhO I1 (by omega) (by omega) q1 q2 (by simpa using q))
def tFor (wi:TI) (g:TG) (tb:TS):TS:=fun D σ H=>wi σ H fun J H1=>∃ W:Nat->Nat->St->Hp->Prop,(∃ m,W 0 m σ H1)/\∀ i m σ H,W i m σ H ->
 (J.stop i H/\D.nx σ H)\/(J.go i H/\∃ N:St->Hp->Prop,(∀ σ' H',N σ' H'->∃ m',m'<m/\W (i+1) m' σ' H')/\∀ x H',J.yld i H x H'->g x σ H' fun σ2 H2=>tb { D with nx:=N,ct:=N,bk:=D.nx } σ2 H2)
def ydd (fp:List Addr) (h:Heap):List (Addr×Obj):=fp.filterMap fun b=>(h.get? b).map fun o=>(b,o)
theorem zbo {fp:List Addr} {h:Heap} {b:Addr} {o:Obj} (hb:b∈fp) (e:h.get? b=some o):(b,o)∈ydd fp h:=List.mem_filterMap.mpr ⟨b,hb,by rw [e];rfl⟩
theorem zg6 {fp:List Addr} {h:Heap} {p:Addr×Obj} (hp:p∈ydd fp h):p.1∈fp/\h.get? p.1=some p.2:=by
 obtain ⟨b,hb,e⟩:=List.mem_filterMap.mp hp
 cases q:h.get? b with
 | none=>rw [q] at e;cases e
 | some o =>
  rw [q] at e;have e':(b,o)=p:=Option.some.inj e
  subst e'
  exact ⟨hb,q⟩
theorem Inv.pinned {pins:List (Addr×Obj)} {σ:St} {H:Hp} {s:Shared} {fp:List Addr} (I:Inv X pins σ H s) (hf:∀ b∈fp,FpOk X pins H b) (ho:∀ b∈fp,∃ o,s.heap.get? b=some o/\∀ v,o.data ≠ .cell v):Inv X (pins++ydd fp s.heap) σ H s :=
 I.pins_of fun p hp=>(List.mem_append.mp hp).elim (fun z=>I.pin p (List.mem_append_right _ z)) fun z=>by
  obtain ⟨hb,e⟩:=zg6 z
  obtain ⟨f0,f1,f2,_⟩:=hf p.1 hb
  obtain ⟨o,e',d⟩:=ho p.1 hb
  rw [e] at e';cases e'
  exact ⟨e,f0,f1,f2,d⟩
theorem Inv.unpinned {pins pl:List (Addr×Obj)} {σ:St} {H:Hp} {s:Shared} (I:Inv X (pins++pl) σ H s):Inv X pins σ H s:=I.pins_of fun p hp=>I.pin p (List.mem_append_right _ (List.mem_append_left _ hp))
theorem yhd {iter:Expr} {body:List Stmt} {wi:TI} {g:TG} {tb:TS} {pos:Pos} (hp:PassesOwn (model X.prog X.w) X.A X.env X.xe) (hc:X.calm=true) (hi:PI X tg iter wi) (hg:PG X tg g) (hb:PSs X body tb)
  (hs:∀ x,foldedSetIterable iter X.env x=pure x:=by intro _;rfl):PS X (.For tg iter body [] pos) (tFor wi g tb):=by
 intro pins s σ H D I h
 refine wpAny_For (thn (hi pins s σ H _ I h) fun v s1 h1=>thn h1 fun itv s2 h2=>?_) hs
 obtain ⟨it,fp,tn,J,H2,e,I2,T,st2,f2,W,⟨m0,w0⟩,turn⟩:=h2
 subst e;have stat:∀ {H':Hp},(∀ b∈fp,H' b=none)->∀ b∈fp,FpOk X pins H' b:=fun hn b hb=>⟨hn b hb,(f2 b hb).2⟩
 refine codeAny_forLoop_any (fun n s' => ∃ i σ' H',Inv X pins σ' H' s'/\tn i s'.heap/\(∀ b∈fp,H' b=none)/\W i n σ' H') ?_ m0 ⟨0,σ,H2,I2,st2,fun b hb=>(f2 b hb).1,w0⟩
 rintro n s3 ⟨i,σ3,H3,I3,st3,fr3,w3⟩
 rcases turn i n σ3 H3 w3 with ⟨stop,qn⟩ | ⟨go,N,hN,step⟩
 ·refine wpAny_passesOwn hp (thn (T.done X rfl rfl rfl hc i pins s3 σ3 H3 X.xe I3 (stat fr3) st3 stop) fun r s4 ⟨hr,I4⟩=>?_)
  subst hr;exact wpAny_execs_nil ⟨σ3,H3,I4,qn⟩
 ·refine wpAny_passesOwn hp (thn (T.item X rfl rfl rfl hc i pins s3 σ3 H3 X.xe I3 (stat fr3) st3 go) fun r s4 ⟨u,hr,h4⟩=>?_)
  subst hr;refine wpAny_passesOwn hp (thn h4 fun _ s5 ⟨x,H5,I5,r5,y5,st5,fr5⟩=>?_)
  have I5' := I5.pinned (stat fr5) (T.obj _ _ st5)
  refine wpAny_passesOwn hp (thn (hg _ s5 σ3 H5 x u _ I5' r5 (step x H5 y5)) fun _ s6 ⟨σ6,H6,I6,q6⟩=>?_)
  refine wpAny_passesOwn hp (thn (hb _ s6 σ6 H6 _ I6 q6) fun f s7 q7=>?_)
  have again:∀ {σ7:St} {H7:Hp},Inv X (pins++ydd fp s5.heap) σ7 H7 s7->N σ7 H7->∃ m,m<n/\∃ i σ' H',Inv X pins σ' H' s7/\tn i s7.heap/\(∀ b∈fp,H' b=none)/\W i m σ' H' := fun {σ7 H7} I7 n7=>by
   obtain ⟨m',hm,w7⟩:=hN σ7 H7 n7
   refine ⟨m',hm,i+1,σ7,H7,I7.unpinned,T.keep _ _ _ st5 fun b hb o e=>(I7.pin (b,o) (List.mem_append_right _ (List.mem_append_right _ (zbo hb e)))).1,fun b hb=>?_,w7⟩
   obtain ⟨o,e,d⟩:=T.obj _ _ st5 b hb
   exact (I7.pin (b,o) (List.mem_append_right _ (List.mem_append_right _ (zbo hb e)))).2.1
  cases f with
  | next=>obtain ⟨σ7,H7,I7,n7⟩:=q7;exact again I7 n7
  | cont=>obtain ⟨σ7,H7,I7,n7⟩:=q7;exact again I7 n7
  | brk=>obtain ⟨σ7,H7,I7,q7⟩:=q7;exact ⟨σ7,H7,I7.unpinned,q7⟩
  | ret v=>obtain ⟨x7,σ7,H7,I7,r7,q7⟩:=q7;exact ⟨x7,σ7,H7,I7.unpinned,r7,q7⟩
end
end L2
namespace L2
open PySem PySem.Spec PyProof.Rows
abbrev R2:=V->V->Hp->VK->Prop
def OpR (X:Cx) (f:Value->Value->Sem Value) (r:R2):Prop :=
 ∀ (pins:List (Addr×Obj)) (s:Shared) (σ:St) (H:Hp) (x y:V) (v u:Value) (Q:VK),Inv X pins σ H s->RelV x v->RelV y u->r x y H Q ->
  wpAny (model X.prog X.w) X.A (f v u) (EP X pins σ Q) X.xe s
def UnR (X:Cx) (f:Value->Sem Value) (r:V->Hp->VK->Prop):Prop :=
 ∀ (pins:List (Addr×Obj)) (s:Shared) (σ:St) (H:Hp) (x:V) (v:Value) (Q:VK),Inv X pins σ H s->RelV x v->r x H Q ->
  wpAny (model X.prog X.w) X.A (f v) (EP X pins σ Q) X.xe s
def CallR (X:Cx) (f:Value) (r:List V->Hp->VK->Prop):Prop :=
 ∀ (pins:List (Addr×Obj)) (s:Shared) (σ:St) (H:Hp) (xs:List V) (us:List Value) (Q:VK),Inv X pins σ H s->Vals xs us->r xs H Q ->
  wpAny (model X.prog X.w) X.A (call f us) (EP X pins σ Q) X.xe s
def TruR (X:Cx) (r:V->Hp->(Bool->Hp->Prop)->Prop):Prop :=
 ∀ (pins:List (Addr×Obj)) (s:Shared) (σ:St) (H:Hp) (x:V) (v:Value) (Q:Bool->Hp->Prop),Inv X pins σ H s->RelV x v->r x H Q ->
  wpAny (model X.prog X.w) X.A (truthy v) (TP X pins σ Q) X.xe s
def tOp (r:R2) (ta tb:TE):TE:=fun σ H Q=>ta σ H fun x H1=>tb σ H1 fun y H2=>r x y H2 Q
def tUn (r:V->Hp->VK->Prop) (ta:TE):TE:=fun σ H Q=>ta σ H fun x H1=>r x H1 Q
def rI (C:Int->Int->Prop) (g:Int->Int->V):R2:=fun x y H Q=>∃ i j,x = .int i/\y = .int j/\C i j/\Q (g i j) H
def rI0 (g:Int->Int->V):R2:=fun x y H Q=>∃ i j,x = .int i/\y = .int j/\Q (g i j) H
def rU (g:Int->V):V->Hp->VK->Prop:=fun x H Q=>∃ i,x = .int i/\Q (g i) H
section
variable {X:Cx} {a b c:Expr} {ta tb tc:TE} {pos:Pos}
theorem binT (ha:PE X a ta) (hb:PE X b tb) {pins:List (Addr×Obj)} {s:Shared} {σ:St} {H:Hp} {R:V->V->Hp->Prop} (I:Inv X pins σ H s)
  (h:ta σ H fun x H1=>tb σ H1 fun y H2=>R x y H2) {Q:Value->Shared->Prop} {f:Value->Value->Sem Value}
  (hf:∀ v u s2 x y H2,Inv X pins σ H2 s2->RelV x v->RelV y u->R x y H2->wpAny (model X.prog X.w) X.A (f v u) Q X.xe s2) :
  wpAny (model X.prog X.w) X.A (eval a X.env) (fun v s₁=>wpAny (model X.prog X.w) X.A (eval b X.env) (fun u s₂=>wpAny (model X.prog X.w) X.A (f v u) Q X.xe s₂) X.xe s₁) X.xe s:=by
 refine thn (ha pins s σ H _ I h) fun v s1 ⟨x,H1,I1,r1,q1⟩=>?_
 refine thn (hb pins s1 σ H1 _ I1 q1) fun u s2 ⟨y,H2,I2,r2,q2⟩=>?_
 exact hf v u s2 x y H2 I2 r1 r2 q2
theorem yix {op:Operator} {r:R2} (ho:OpR X (binaryOp op) r) (ha:PE X a ta) (hb:PE X b tb):PE X (.BinOp a op b pos) (tOp r ta tb):=by
 intro pins s σ H Q I h
 exact wpAny_BinOp (binT ha hb I h fun v u s2 x y H2 I2 rx ry q=>ho pins s2 σ H2 x y v u Q I2 rx ry q)
theorem yiy {op:UnaryOp} {r:V->Hp->VK->Prop} (ho:UnR X (unaryOp op) r) (ha:PE X a ta):PE X (.UnaryOp op a pos) (tUn r ta):=by
 intro pins s σ H Q I h
 exact UnaryOp_ (thn (ha pins s σ H _ I h) fun v s1 ⟨x,H1,I1,r1,q1⟩=>ho pins s1 σ H1 x v Q I1 r1 q1)
theorem opI {f:Value->Value->Sem Value} {C:Int->Int->Prop} {g:Int->Int->Int}
  (rule:∀ (i j:Int) (t u:Tok) (s:Shared) (Q:Value->Shared->Prop) (E:Value->Shared->Prop),C i j->Q (.int (g i j) s.toks) { s with toks:=s.toks+1 }->wpAny (model X.prog X.w) X.A (f (.int i t) (.int j u)) Q E s) :
  OpR X f (rI C fun i j=>.int (g i j)):=by
 intro pins s σ H x y v u Q I rx ry h
 obtain ⟨i,j,rfl,rfl,hc,q⟩:=h
 obtain ⟨t,rfl⟩:=rx
 obtain ⟨t',rfl⟩:=ry
 exact rule i j t t' s _ _ hc ⟨.int (g i j),H,I.tok _,⟨_,rfl⟩,q⟩
theorem opI0 {f:Value->Value->Sem Value} {g:Int->Int->Int}
  (rule:∀ (i j:Int) (t u:Tok) (s:Shared) (Q:Value->Shared->Prop) (E:Value->Shared->Prop),Q (.int (g i j) s.toks) { s with toks:=s.toks+1 }->wpAny (model X.prog X.w) X.A (f (.int i t) (.int j u)) Q E s) :
  OpR X f (rI0 fun i j=>.int (g i j)):=by
 intro pins s σ H x y v u Q I rx ry h
 obtain ⟨i,j,rfl,rfl,q⟩:=h
 obtain ⟨t,rfl⟩:=rx
 obtain ⟨t',rfl⟩:=ry
 exact rule i j t t' s _ _ ⟨.int (g i j),H,I.tok _,⟨_,rfl⟩,q⟩
theorem opB0 {f:Value->Value->Sem Value} {g:Int->Int->Bool}
  (rule:∀ (i j:Int) (t u:Tok) (s:Shared) (Q:Value->Shared->Prop) (E:Value->Shared->Prop),Q (.bool (g i j)) s->wpAny (model X.prog X.w) X.A (f (.int i t) (.int j u)) Q E s) :
  OpR X f (rI0 fun i j=>.bl (g i j)):=by
 intro pins s σ H x y v u Q I rx ry h
 obtain ⟨i,j,rfl,rfl,q⟩:=h
 obtain ⟨t,rfl⟩:=rx
 obtain ⟨t',rfl⟩:=ry
 exact rule i j t t' s _ _ ⟨.bl (g i j),H,I,rfl,q⟩
def CPow (i j:Int):Prop:=0<=j/\j<=1000000/\i.natAbs<2 ^ 64
def CMul (i j:Int):Prop:=(-(2 ^ 64)<i/\i<2 ^ 64)\/(-(2 ^ 64)<j/\j<2 ^ 64)
theorem CMul.ok {i j:Int} (h:CMul i j):IntMulOk i j:=by
 rcases h with ⟨h1,h2⟩ | ⟨h1,h2⟩
 ·exact .of_left (intBits_le_64 h1 h2)
 ·exact .of_right (intBits_le_64 h1 h2)
theorem op_add:OpR X (binaryOp .Add) (rI0 fun i j=>.int (i+j)):=opI0 fun _ _ _ _ _ _ _ q=>add_int q
theorem yhe:OpR X (binaryOp .Sub) (rI0 fun i j=>.int (i-j)):=opI0 fun _ _ _ _ _ _ _ q=>sub_int q
theorem yhf:OpR X (binaryOp .Mod) (rI (fun _ j=>0<j) fun i j=>.int (i % j)):=opI fun i j _ _ _ _ _ hc q=>by
 have h1:(0:Int)<j:=hc
 exact mod_int' (by omega) (by rw [Int.fmod_eq_emod_of_nonneg i (by omega)];exact q)
theorem yhg:OpR X (binaryOp .Pow) (rI CPow fun i j=>.int (i ^ j.toNat)):=opI fun _ _ _ _ _ _ _ hc q=>pow_int_small hc.1 hc.2.1 hc.2.2 q
theorem unI {f:Value->Sem Value} {g:Int->Int}
  (rule:∀ (i:Int) (t:Tok) (s:Shared) (Q:Value->Shared->Prop) (E:Value->Shared->Prop),Q (.int (g i) s.toks) { s with toks:=s.toks+1 }->wpAny (model X.prog X.w) X.A (f (.int i t)) Q E s) :
  UnR X f (rU fun i=>.int (g i)):=by
 intro pins s σ H x v Q I rx h
 obtain ⟨i,rfl,q⟩:=h
 obtain ⟨t,rfl⟩:=rx
 exact rule i t s _ _ ⟨.int (g i),H,I.tok _,⟨_,rfl⟩,q⟩
theorem yhh:UnR X (unaryOp .USub) (rU fun i=>.int (-i)):=unI fun _ _ _ _ _ q=>neg_int q
end
def scal:V->V->Bool
 | .non,.non=>true | .non,.int _=>true | .int _,.non=>true | .non,.bl _=>true | .bl _,.non=>true | .non,.str _=>true | .str _,.non=>true
 | .int _,.int _=>true | .bl _,.bl _=>true | .str _,.str _=>true | .byt _,.byt _=>true
 | .int _,.str _=>true | .str _,.int _=>true | .bl _,.str _=>true | .str _,.bl _=>true
 | _,_=>false
def rEq:R2:=fun x y H Q=>scal x y=true/\Q (.bl (decide (x=y))) H
def rNe:R2:=fun x y H Q=>scal x y=true/\Q (.bl (!decide (x=y))) H
theorem zfr {i j:Int}:decide (V.int i=V.int j)=(i == j):=by
 rw [Bool.eq_iff_iff];simp
theorem yfu {i j:Bool}:decide (V.bl i=V.bl j)=(i == j):=by
 rw [Bool.eq_iff_iff];simp
theorem zfs {i j:Str}:decide (V.str i=V.str j)=(i == j):=by
 rw [Bool.eq_iff_iff];simp
theorem zft {i j:Array UInt8}:decide (V.byt i=V.byt j)=(i.toList == j.toList):=by
 rw [Bool.eq_iff_iff]
 cases i
 cases j
 simp
section
variable {X:Cx} {a b c:Expr} {ta tb tc:TE} {pos:Pos}
theorem yaQ {pins:List (Addr×Obj)} {σ:St} {H:Hp} {s:Shared} {Q:VK} {k k':Bool} (I:Inv X pins σ H s) (q:Q (.bl k) H) (e:k=k'):EP X pins σ Q (.bool k') s:=by
 subst e;exact ⟨.bl k,H,I,rfl,q⟩
theorem op_eq:OpR X (compareOp .Eq) rEq:=by
 intro pins s σ H x y v u Q I rx ry h
 obtain ⟨hs,q⟩:=h
 cases x with
 | non =>
  cases rx
  cases y with
  | non=>cases ry;exact PySem.EqNone.eq_none_none (yaQ I q (by simp))
  | bl j=>cases ry;exact PySem.EqNone.eq_none_bool (yaQ I q (by simp))
  | int j=>obtain ⟨t',rfl⟩:=ry;exact PySem.EqNone.eq_none_int (yaQ I q (by simp))
  | str j=>obtain ⟨t',rfl⟩:=ry;exact PySem.EqNone.eq_none_str (yaQ I q (by simp))
  | _=>exact absurd (show false=true from hs) Bool.false_ne_true
 | bl i =>
  cases rx
  cases y with
  | non=>cases ry;exact PySem.EqNone.eq_bool_none (yaQ I q (by simp))
  | bl j=>cases ry;exact eq_bool (yaQ I q yfu)
  | str j=>obtain ⟨t',rfl⟩:=ry;exact PySem.EqMixed.eq_bool_str (yaQ I q (by simp))
  | _=>exact absurd (show false=true from hs) Bool.false_ne_true
 | int i =>
  obtain ⟨t,rfl⟩:=rx
  cases y with
  | non=>cases ry;exact PySem.EqNone.eq_int_none (yaQ I q (by simp))
  | int j=>obtain ⟨t',rfl⟩:=ry;exact eq_int (yaQ I q zfr)
  | str j=>obtain ⟨t',rfl⟩:=ry;exact PySem.EqMixed.eq_int_str (yaQ I q (by simp))
  | _=>exact absurd (show false=true from hs) Bool.false_ne_true
 | str i =>
  obtain ⟨t,rfl⟩:=rx
  cases y with
  | non=>cases ry;exact PySem.EqNone.eq_str_none (yaQ I q (by simp))
  | bl j=>cases ry;exact PySem.EqMixed.eq_str_bool (yaQ I q (by simp))
  | int j=>obtain ⟨t',rfl⟩:=ry;exact PySem.EqMixed.eq_str_int (yaQ I q (by simp))
  | str j=>obtain ⟨t',rfl⟩:=ry;exact eq_str (yaQ I q zfs)
  | _=>exact absurd (show false=true from hs) Bool.false_ne_true
 | byt i =>
  obtain ⟨t,rfl⟩:=rx
  cases y with
  | byt j=>obtain ⟨t',rfl⟩:=ry;exact PySem.W.eq_bytes (yaQ I q zft)
  | _=>exact absurd (show false=true from hs) Bool.false_ne_true
 | _=>cases y<;>exact absurd (show false=true from hs) Bool.false_ne_true
theorem op_ne:OpR X (compareOp .NotEq) rNe:=by
 intro pins s σ H x y v u Q I rx ry h
 obtain ⟨hs,q⟩:=h
 cases x with
 | non =>
  cases rx
  cases y with
  | non=>cases ry;exact PySem.EqNone.ne_none_none (yaQ I q (by simp))
  | bl j=>cases ry;exact PySem.EqNone.ne_none_bool (yaQ I q (by simp))
  | int j=>obtain ⟨t',rfl⟩:=ry;exact PySem.EqNone.ne_none_int (yaQ I q (by simp))
  | str j=>obtain ⟨t',rfl⟩:=ry;exact PySem.EqNone.ne_none_str (yaQ I q (by simp))
  | _=>exact absurd (show false=true from hs) Bool.false_ne_true
 | bl i =>
  cases rx
  cases y with
  | non=>cases ry;exact PySem.EqNone.ne_bool_none (yaQ I q (by simp))
  | bl j=>cases ry;exact ne_bool (yaQ I q (congrArg not yfu))
  | str j=>obtain ⟨t',rfl⟩:=ry;exact PySem.EqMixed.ne_bool_str (yaQ I q (by simp))
  | _=>exact absurd (show false=true from hs) Bool.false_ne_true
 | int i =>
  obtain ⟨t,rfl⟩:=rx
  cases y with
  | non=>cases ry;exact PySem.EqNone.ne_int_none (yaQ I q (by simp))
  | int j=>obtain ⟨t',rfl⟩:=ry;exact ne_int (yaQ I q (congrArg not zfr))
  | str j=>obtain ⟨t',rfl⟩:=ry;exact PySem.EqMixed.ne_int_str (yaQ I q (by simp))
  | _=>exact absurd (show false=true from hs) Bool.false_ne_true
 | str i =>
  obtain ⟨t,rfl⟩:=rx
  cases y with
  | non=>cases ry;exact PySem.EqNone.ne_str_none (yaQ I q (by simp))
  | bl j=>cases ry;exact PySem.EqMixed.ne_str_bool (yaQ I q (by simp))
  | int j=>obtain ⟨t',rfl⟩:=ry;exact PySem.EqMixed.ne_str_int (yaQ I q (by simp))
  | str j=>obtain ⟨t',rfl⟩:=ry;exact ne_str (yaQ I q (congrArg not zfs))
  | _=>exact absurd (show false=true from hs) Bool.false_ne_true
 | byt i =>
  obtain ⟨t,rfl⟩:=rx
  cases y with
  | byt j=>obtain ⟨t',rfl⟩:=ry;exact PySem.W.ne_bytes (yaQ I q (congrArg not zft))
  | _=>exact absurd (show false=true from hs) Bool.false_ne_true
 | _=>cases y<;>exact absurd (show false=true from hs) Bool.false_ne_true
theorem op_lt:OpR X (compareOp .Lt) (rI0 fun i j=>.bl (decide (i<j))):=opB0 fun _ _ _ _ _ _ _ q=>lt_int q
theorem op_le:OpR X (compareOp .LtE) (rI0 fun i j=>.bl (decide (i<=j))):=opB0 fun _ _ _ _ _ _ _ q=>le_int q
theorem yiz:OpR X (compareOp .Gt) (rI0 fun i j=>.bl (decide (j<i))):=opB0 fun _ _ _ _ _ _ _ q=>gt_int q
theorem yiA:OpR X (compareOp .GtE) (rI0 fun i j=>.bl (decide (j<=i))):=opB0 fun _ _ _ _ _ _ _ q=>ge_int q
theorem zg7:OpR X (compareOp .Lt) (fun x y H Q=>∃ i j,x = .str i/\y = .str j/\Q (.bl (decide (i.cps.toList<j.cps.toList))) H):=by
 intro pins s σ H x y v u Q I rx ry h
 obtain ⟨i,j,rfl,rfl,q⟩:=h
 obtain ⟨t,rfl⟩:=rx
 obtain ⟨t',rfl⟩:=ry
 exact lt_str (yaQ I q rfl)
theorem yhi:OpR X (compareOp .Is) (fun x y H Q=>y = .non/\Q (.bl (decide (x = .non))) H):=by
 intro pins s σ H x y v u Q I rx ry h
 obtain ⟨rfl,q⟩:=h
 cases ry
 refine is_none_gen (yaQ I q ?_)
 cases x<;>first
  | (cases rx;rfl)
  | (obtain ⟨t,rfl⟩:=rx;rfl)
theorem ziM:OpR X (compareOp .IsNot) (fun x y H Q=>y = .non/\Q (.bl (!decide (x = .non))) H):=by
 intro pins s σ H x y v u Q I rx ry h
 obtain ⟨rfl,q⟩:=h
 cases ry
 refine isnot_none_gen (yaQ I q ?_)
 cases x<;>first
  | (cases rx;rfl)
  | (obtain ⟨t,rfl⟩:=rx;rfl)
theorem OpR.or {f:Value->Value->Sem Value} {r r':R2} (h:OpR X f r) (h':OpR X f r'):OpR X f (fun x y H Q=>r x y H Q\/r' x y H Q):=by
 intro pins s σ H x y v u Q I rx ry q
 rcases q with q | q
 ·exact h pins s σ H x y v u Q I rx ry q
 ·exact h' pins s σ H x y v u Q I rx ry q
theorem yak (b:Expr) {op:CmpOp} (h:op ≠ .In:=by decide) (h2:op ≠ .NotIn:=by decide):behindInMarks op b=false:=by
 have e1:(op == CmpOp.In)=false:=by cases op<;>first | rfl | exact absurd rfl h
 have e2:(op == CmpOp.NotIn)=false:=by cases op<;>first | rfl | exact absurd rfl h2
 cases b<;>simp [behindInMarks,e1,e2]
theorem ziN {op:CmpOp} {r:R2} (ho:OpR X (compareOp op) r) (ha:PE X a ta) (hb:PE X b tb) (hm:behindInMarks op b=false):PE X (.Compare a [op] [b] pos) (tOp r ta tb):=by
 intro pins s σ H Q I h
 exact wpAny_Compare1 (binT ha hb I h fun v u s2 x y H2 I2 rx ry q=>ho pins s2 σ H2 x y v u Q I2 rx ry q) hm
def ygi (t:TE):TT:=fun σ H Q=>t σ H fun x H' => ∃ k,x = .bl k/\Q k H'
theorem ziO {op:CmpOp} {r:R2} (ho:OpR X (compareOp op) r) (ha:PE X a ta) (hb:PE X b tb) (hm:behindInMarks op b=false):PT X (.Compare a [op] [b] pos) (ygi (tOp r ta tb)):=by
 intro pins s σ H Q I h
 refine wpAny_isTrue_Compare1 (thn (ha pins s σ H _ I h) fun v s1 ⟨x,H1,I1,r1,q1⟩=>thn (hb pins s1 σ H1 _ I1 q1) fun u s2 ⟨y,H2,I2,r2,q2⟩ =>
  thn (ho pins s2 σ H2 x y v u _ I2 r1 r2 q2) fun c s3 ⟨z,H3,I3,r3,k,e,q3⟩=>?_) hm
 subst e
 cases r3
 exact wpAny_truthy_bool ⟨H3,I3,q3⟩
def yeV (r r':R2) (ta tb tc:TE):TE:=fun σ H Q=>ta σ H fun x H1=>tb σ H1 fun y H2=>r x y H2 fun z H3=>∃ k,z = .bl k /\
 (if k=true then tc σ H3 fun w' H4=>r' y w' H4 Q else Q (.bl false) H3)
theorem zhP {op op':CmpOp} {r r':R2} (ho:OpR X (compareOp op) r) (ho':OpR X (compareOp op') r') (ha:PE X a ta) (hb:PE X b tb) (hc:PE X c tc)
  (hm:lastMarks [op,op'] [b,c]=false:=by with_unfolding_all rfl):PE X (.Compare a [op,op'] [b,c] pos) (yeV r r' ta tb tc):=by
 intro pins s σ H Q I h
 refine Compare_chain (thn (ha pins s σ H _ I h) fun v s1 ⟨x,H1,I1,r1,q1⟩=>chain_link (thn (hb pins s1 σ H1 _ I1 q1) fun u s2 ⟨y,H2,I2,r2,q2⟩ =>
  thn (ho pins s2 σ H2 x y v u _ I2 r1 r2 q2) fun d s3 ⟨z,H3,I3,r3,k,e,q3⟩=>?_)) hm
 subst e
 cases r3
 refine wpAny_truthy_bool ?_
 cases k with
 | false=>exact ite_ff ⟨.bl false,H3,I3,rfl,q3⟩
 | true=>exact ite_tt (chain_last (thn (hc pins s3 σ H3 _ I3 q3) fun w' s4 ⟨z',H4,I4,r4,q4⟩=>ho' pins s4 σ H4 y z' u w' Q I4 r2 r4 q4))
theorem zhQ {op op':CmpOp} {r r':R2} (ho:OpR X (compareOp op) r) (ho':OpR X (compareOp op') r') (ha:PE X a ta) (hb:PE X b tb) (hc:PE X c tc)
  (hm:lastMarks [op,op'] [b,c]=false:=by with_unfolding_all rfl):PT X (.Compare a [op,op'] [b,c] pos) (ygi (yeV r r' ta tb tc)):=by
 intro pins s σ H Q I h
 refine isTrue_chain (thn (ha pins s σ H _ I h) fun v s1 ⟨x,H1,I1,r1,q1⟩=>test_link (thn (hb pins s1 σ H1 _ I1 q1) fun u s2 ⟨y,H2,I2,r2,q2⟩ =>
  thn (ho pins s2 σ H2 x y v u _ I2 r1 r2 q2) fun d s3 ⟨z,H3,I3,r3,k,e,q3⟩=>?_)) hm
 subst e
 cases r3
 refine wpAny_truthy_bool ?_
 cases k with
 | false =>
  obtain ⟨k',e',q'⟩:=q3
  cases e'
  exact ite_ff ⟨H3,I3,q'⟩
 | true =>
  refine ite_tt (test_last (thn (hc pins s3 σ H3 _ I3 q3) fun w' s4 ⟨z',H4,I4,r4,q4⟩=>thn (ho' pins s4 σ H4 y z' u w' _ I4 r2 r4 q4) fun d' s5 ⟨z2,H5,I5,r5,k2,e2,q5⟩=>?_))
  subst e2
  cases r5
  exact wpAny_truthy_bool ⟨H5,I5,q5⟩
def TruV (K:PySem.W.Frag) (x:V) (H:Hp) (k:Bool):Prop :=
 match x with
 | .non=>k=false
 | .bl b=>k=b
 | .int i=>k=(i != 0)
 | .str y=>y.length<=sizeLine/\k=((y.length:Int) != 0)
 | .byt y=>y.size<=sizeLine/\k=((y.size:Int) != 0)
 | .ref p=>(∃ xs,SqL K H p xs/\k = !xs.isEmpty)\/(∃ xs,SqT K H p xs/\k = !xs.isEmpty)\/∃ kvs,H p=some (.dK kvs)/\k = !kvs.isEmpty
 | _=>False
theorem zgz {κ:Type} {kvs:List (κ×V)} {vs:List (κ×Value)} (r:KV kvs vs):(!vs.isEmpty) = !kvs.isEmpty:=by
 cases r<;>rfl
theorem zdq {xs:List V} {its:List Value} (r:Vals xs its):(!its.toArray.isEmpty) = !xs.isEmpty:=by
 cases r<;>simp
theorem ydP:(sizeLine:Nat)<2 ^ 63:=by rw [sizeLine_eq];decide
theorem yhj:TruR X (fun x H Q=>∃ k,TruV X.K x H k/\Q k H):=by
 intro pins s σ H x v Q I rx h
 obtain ⟨k,e,q⟩:=h
 have hl:=ydP
 have hs:sizeLine=16777216:=sizeLine_eq
 cases x with
 | non =>
  cases rx
  have e':k=false:=e
  subst e'
  exact truthy_none ⟨H,I,q⟩
 | bl b =>
  cases rx
  have e':k=b:=e
  subst e'
  exact wpAny_truthy_bool ⟨H,I,q⟩
 | int i =>
  obtain ⟨t,rfl⟩:=rx
  have e':k=(i != 0):=e
  subst e'
  exact PySem.P.truthy_int ⟨H,I,q⟩
 | str y =>
  obtain ⟨t,rfl⟩:=rx
  obtain ⟨hy,e'⟩:y.length<=sizeLine/\k=((y.length:Int) != 0):=e
  subst e'
  exact PySem.P.truthy_str (by omega) ⟨H,I.tok _,q⟩
 | byt y =>
  obtain ⟨t,rfl⟩:=rx
  obtain ⟨hy,e'⟩:y.size<=sizeLine/\k=((y.size:Int) != 0):=e
  subst e'
  exact PySem.W.truthy_bytes (by omega) ⟨H,I.tok _,q⟩
 | ref p =>
  cases rx
  have e':(∃ xs,SqL X.K H p xs/\k = !xs.isEmpty)\/(∃ xs,SqT X.K H p xs/\k = !xs.isEmpty)\/∃ kvs,H p=some (.dK kvs)/\k = !kvs.isEmpty:=e
  rcases e' with ⟨xs,hx,e'⟩ | ⟨xs,hx,e'⟩ | ⟨kvs,hx,e'⟩
  ·subst e'
   obtain ⟨its,r,pl,hz⟩:=I.list hx
   have hlen:=r.length
   exact wpAny_truthy_list pl.isList (by simp only [List.size_toArray];omega) ⟨H,I.tok _,by rw [zdq r];exact q⟩
  ·subst e'
   obtain ⟨its,r,pl,hz⟩:=I.tuple hx
   have hlen:=r.length
   exact truthy_tuple pl (by simp only [List.size_toArray];omega) ⟨H,I.tok _,by rw [zdq r];exact q⟩
  ·subst e'
   obtain ⟨hz,hS,vs,r,m⟩:kvs.length<=sizeLine/\(p == sysModules)=false/\∃ vs,KV kvs vs/\s.heap.DictOf (ybx X.prog X.w) p vs:=I.hok p _ hx
   have hlen:kvs.length=vs.length:=Paired.length r
   exact wpAny_truthy_dict hS m (by omega) ⟨H,I.tok _,by rw [zgz r];exact q⟩
 | _=>exact (show False from e).elim
theorem zhR (ha:PE X a ta) (he:∀ whole,isTrue a X.env whole=(do let v <- whole;standAt a.pos;holding [v] (truthy v))) :
  PT X a (fun σ H Q=>ta σ H fun x H' => ∃ k,TruV X.K x H' k/\Q k H'):=by
 intro pins s σ H Q I h
 exact isTrue_plain (thn (ha pins s σ H _ I h) fun v s1 ⟨x,H1,I1,r1,q1⟩=>yhj pins s1 σ H1 x v Q I1 r1 q1) (he _)
theorem zgA:OpR X (binaryOp .Add) (fun x y H Q=>∃ i j,x = .str i/\y = .str j/\i.length+j.length<=sizeLine/\Q (.str (i++j)) H):=by
 intro pins s σ H x y v u Q I rx ry h
 obtain ⟨i,j,rfl,rfl,hz,q⟩:=h
 obtain ⟨t,rfl⟩:=rx
 obtain ⟨t',rfl⟩:=ry
 exact add_str (fun t' tk=>⟨.str (i++j),H,I.tok _,⟨_,rfl⟩,q⟩) hz
theorem ydu {x:V} {us:List Value} (r:Vals [x] us):∃ u,us=[u]/\RelV x u:=by
 cases r with
 | cons r1 r2=>cases r2;exact ⟨_,rfl,r1⟩
theorem yeM {x y:V} {us:List Value} (r:Vals [x,y] us):∃ u w',us=[u,w']/\RelV x u/\RelV y w' := by
 cases r with
 | cons r1 r2 =>
  cases r2 with
  | cons r3 r4=>cases r4;exact ⟨_,_,rfl,r1,r3⟩
theorem zhS:CallR X (.builtin "abs") (fun xs H Q=>∃ i,xs=[.int i]/\Q (.int (if i<0 then -i else i)) H):=by
 intro pins s σ H xs us Q I r h
 obtain ⟨i,rfl,q⟩:=h
 obtain ⟨u,rfl,t,rfl⟩:=ydu r
 exact call_abs_int fun u tk=>⟨.int (if i<0 then -i else i),H,I.tok _,⟨_,rfl⟩,q⟩
theorem zg8 (hc:X.calm=true):CallR X (.builtin "max") (fun xs H Q=>∃ i j,xs=[.int i,.int j]/\Q (.int (if j > i then j else i)) H):=by
 intro pins s σ H xs us Q I r h
 obtain ⟨i,j,rfl,q⟩:=h
 obtain ⟨u,w',rfl,⟨t,rfl⟩,⟨t',rfl⟩⟩:=yeM r
 refine max_two_ints (I.ok.hd hc) fun h' tk k=>⟨_,H,I.kept k,?_,q⟩
 by_cases hj:j > i
 ·rw [if_pos hj,if_pos hj];exact ⟨_,rfl⟩
 ·rw [if_neg hj,if_neg hj];exact ⟨_,rfl⟩
theorem zg9 (hc:X.calm=true):CallR X (.builtin "min") (fun xs H Q=>∃ i j,xs=[.int i,.int j]/\Q (.int (if j<i then j else i)) H):=by
 intro pins s σ H xs us Q I r h
 obtain ⟨i,j,rfl,q⟩:=h
 obtain ⟨u,w',rfl,⟨t,rfl⟩,⟨t',rfl⟩⟩:=yeM r
 refine min_two_ints (I.ok.hd hc) fun h' tk k=>⟨_,H,I.kept k,?_,q⟩
 by_cases hj:j<i
 ·rw [if_pos hj,if_pos hj];exact ⟨_,rfl⟩
 ·rw [if_neg hj,if_neg hj];exact ⟨_,rfl⟩
end
end L2
namespace L2
open PySem PySem.Spec PyProof.Rows
structure ObjM (h:Heap) (x dx C:Addr) (mA:Str->Option Value):Prop where
 obj:h.get? x=some (PySem.W.instObj C dx)
 ns:h.Ns1 dx mA
 ne:dx≠x
theorem zha {h:Heap} {dx:Addr} {mA:Str->Option Value} (n:h.Ns1 dx mA):∃ od,h.get? dx=some od/\∀ name,PySem.W.lookIn name od=some (mA name):=by
 obtain ⟨o,es,ep,ho,hd,hk,_,hm⟩:=n
 refine ⟨o,ho,fun name=>?_⟩
 have e:=hm name
 unfold nsFind findBy at e
 rw [<- Array.find?_toList] at e;unfold PySem.W.lookIn
 rw [hd];dsimp only;split
 ·rename_i y q
  rw [q] at e;exact congrArg some e
 ·rename_i q
  rw [q] at e;have a:es.toList.any (·.refKey)=false:=by
   rw [List.any_eq_false];intro y hy
   obtain ⟨z,t,hkey⟩:=hk y (Array.mem_toList_iff.mp hy)
   simp [DictEntry.refKey,hkey]
  have a' : ¬ es.toList.any (·.refKey)=true:=by rw [a];exact Bool.false_ne_true
  rw [if_neg a'];exact congrArg some e
theorem ObjM.look {h:Heap} {x dx C:Addr} {mA:Str->Option Value} (I:ObjM h x dx C mA):∃ od,PySem.W.InstAt h x (PySem.W.instObj C dx) C (some od)/\∀ name,PySem.W.lookIn name od=some (mA name) :=
 let ⟨od,ho,hl⟩:=zha I.ns
 ⟨od,⟨I.obj,rfl,rfl,ho⟩,hl⟩
section
variable {prog:Program} {w:World} {A:Around} {E:Value->Shared->Prop} {s:Shared} {K:PySem.W.Frag} {x dx C f:Addr} {mA:Str->Option Value} {name:Str} {v:Value}
theorem ziP {expr:Bool} {Q:Value->Shared->Prop} (X:K.In s.heap) (I:ObjM s.heap x dx C mA) (hg:PySem.W.plainGet K C name=true) (hh:PySem.W.hasDictIn K C=true)
  (ha:PySem.W.findIn K (.ref C) name=some none) (hv:mA name=some v) (hv':PySem.W.handedIn v=true) (h:Q v { s with toks:=s.toks+1 }) :
  wpAny (model prog w) A (getAttr (.ref x) name expr) Q E s:=by
 obtain ⟨od,J,hl⟩:=I.look
 exact PySem.W.get_value X J (PySem.W.plainGet_of hg).1 (PySem.W.findObj_own hh ha rfl (by rw [hl,hv])) hv' h
theorem zhT {pl:Sem Bool} {Q:Value×List Value->Shared->Prop} (X:K.In s.heap) (I:ObjM s.heap x dx C mA) (hg:PySem.W.plainGet K C name=true)
  (hf:PySem.W.findIn K (.ref C) name=some (some (.ref f))) (ht:PySem.W.isFn K (.ref f)=true) (hv:mA name=none) (h:Q (.ref f,[.ref x]) s) :
  wpAny (model prog w) A (getMethod (.ref x) name pl) Q E s:=by
 obtain ⟨od,J,hl⟩:=I.look
 exact PySem.W.method_fn X J (PySem.W.plainGet_of hg).1 (PySem.W.plainGet_of hg).2 hf (beq_iff_eq.mp ht) (by show (PySem.W.lookIn name od).map (·.isSome)=some false;rw [hl,hv];rfl) h
theorem ziQ {ns:List Str} {Q:Unit->Shared->Prop} (X:K.In s.heap) (I:ObjM s.heap x dx C mA)
  (hs:PySem.W.findIn K (.ref C) "__setattr__" = some (some (.builtin "object.__setattr__"))) (hp:PySem.W.plainOver K C=true) (ht:PySem.W.takerIn K C name=some none) (hh:PySem.W.hasDictIn K C=true)
  (hw:PySem.Within mA ns) (hsz:ns.length<=sizeLine)
  (h:∀ h',ObjM h' x dx C (fun y=>if y=name then some v else mA y)->Heap.SameBut dx s.heap h'->Q () { s with heap:=h',toks:=s.toks+2 }) :
  wpAny (model prog w) A (setAttr (.ref x) name v) Q E s:=by
 obtain ⟨od,J,hl⟩:=I.look
 refine PySem.W.set_plain X J hs (PySem.W.osa_open (s:={ s with toks:=s.toks+1 }) (r:=none) X J hp ht fun b=>?_)
 obtain ⟨cd,hc,hd'⟩:=PySem.W.any_some hh
 have hx:s.heap.get? x=some ⟨.ref C,some dx,.plain,#[]⟩:=I.obj
 refine wpAny_bind (wpAny_pure (wpAny_bind (wpAny_bind (wpAny_loadPart hx (wpAny_bind (PySem.W.Looks.here (s:={ s with toks:=s.toks+1 }) (PySem.W.looks_clsIn X hc) ?_))))))
 rw [hd'];refine wpAny_pure (a:=some dx) (wpAny_bind (wpAny_pure (wpAny_bind ?_)))
 refine wpAny_nsSet1 (s:={ s with toks:=s.toks+1 }) I.ns fun h' hn2 hs2=>?_
 obtain ⟨oD,esD,epD,hoD,hdD,hcD⟩:=hn2.count (PySem.Within.cons name v hw)
 refine wpAny_bind (wpAny_lookBehind hoD (by rw [hdD];exact pastItsLine_dict (Nat.le_trans hcD (by rw [List.length_cons];omega))) ?_)
 exact wpAny_pure (h _ ⟨(hs2.2 _ (Ne.symm I.ne)).trans I.obj,hn2,I.ne⟩ hs2)
theorem zhU {R:Result->Shared->Prop} {vs:List Value} {kw:List (Str×Value)} (X:K.In s.heap) (hm:PySem.W.makesIn K C=true)
  (hi:PySem.W.findIn K (.ref C) "__init__" = some (some (.ref f))) (hf:PySem.W.typeIn K (.ref f)=some (.type "function"))
  (h:codeAny (model prog w) (A.under (.builtin "type.__call__" ⟨.ref C::vs,kw⟩)) (.call (.ref f) ⟨.ref (s.heap.objs.size+1)::vs,kw⟩) (PySem.W.InitBack (s.heap.objs.size+1) R)
   { s with heap:=(s.heap.push PySem.W.emptyDict).push (PySem.W.instObj C s.heap.objs.size) }) :
  codeAny (model prog w) A (.call (.ref C) ⟨vs,kw⟩) R s:=by
 obtain ⟨hh,g,d,t,os⟩:=s
 exact PySem.W.make_core (PySem.W.makes_of X hm) (PySem.W.looks_findIn X hi) (fun self=>PySem.W.bind_fn X self hf) (.inl rfl) h
end
def putF (f:Str) (v:V):List (Str×V)->List (Str×V)
 | []=>[(f,v)]
 | (g,x)::r=>if g=f then (g,v)::r else (g,x)::putF f v r
theorem zbf (f g:Str) (v:V):∀ fs:List (Str×V),(putF f v fs).lookup g=if g=f then some v else fs.lookup g
 | []=>by
  show List.lookup g [(f,v)]=_
  by_cases h:g=f
  ·have hb:(g == f)=true:=beq_iff_eq.mpr h
   simp only [List.lookup,hb,if_pos h]
  ·have hb:(g == f)=false:=beq_eq_false_iff_ne.mpr h
   simp only [List.lookup,hb,if_neg h]
 | (k,x)::r=>by
  have ih:=zbf f g v r
  rw [show putF f v ((k,x)::r)=(if k=f then (k,v)::r else (k,x)::putF f v r) from rfl];by_cases hk:k=f
  ·rw [if_pos hk]
   by_cases h:g=k
   ·have hb:(g == k)=true:=beq_iff_eq.mpr h
    simp only [List.lookup,hb,if_pos (h.trans hk)]
   ·have hb:(g == k)=false:=beq_eq_false_iff_ne.mpr h
    simp only [List.lookup,hb,if_neg (fun e:g=f=>h (e.trans hk.symm))]
  ·rw [if_neg hk]
   by_cases h:g=k
   ·have hb:(g == k)=true:=beq_iff_eq.mpr h
    simp only [List.lookup,hb,if_neg (fun e:g=f=>hk (h.symm.trans e))]
   ·have hb:(g == k)=false:=beq_eq_false_iff_ne.mpr h
    simp only [List.lookup,hb]
    exact ih
theorem zcm (f:Str) (v:V):∀ fs:List (Str×V),f∈(putF f v fs).map (·.1)/\∀ g,g∈fs.map (·.1)->g∈(putF f v fs).map (·.1)
 | []=>⟨by simp [putF],fun g h=>by simp at h⟩
 | (k,x)::r=>by
  obtain ⟨i1,i2⟩:=zcm f v r
  rw [show putF f v ((k,x)::r)=(if k=f then (k,v)::r else (k,x)::putF f v r) from rfl];by_cases hk:k=f
  ·rw [if_pos hk]
   subst hk;exact ⟨by simp,fun g h=>by simpa using h⟩
  ·rw [if_neg hk]
   refine ⟨?_,fun g h=>?_⟩
   ·rw [List.map_cons]
    exact List.mem_cons_of_mem _ i1
   ·rw [List.map_cons] at h ⊢
    rcases List.mem_cons.mp h with e | e
    ·exact List.mem_cons.mpr (.inl e)
    ·exact List.mem_cons_of_mem _ (i2 g e)
theorem zcS (f:Str) (v:V):∀ fs:List (Str×V),(putF f v fs).length<=fs.length+1
 | []=>by simp [putF]
 | (k,x)::r=>by
  have ih:=zcS f v r
  rw [show putF f v ((k,x)::r)=(if k=f then (k,v)::r else (k,x)::putF f v r) from rfl];by_cases hk:k=f
  ·rw [if_pos hk,List.length_cons,List.length_cons];omega
  ·rw [if_neg hk,List.length_cons,List.length_cons];omega
theorem RelO.some_of {v:V} {o:Option Value} (r:RelO (some v) o):∃ u,o=some u/\RelV v u:=by
 cases o with
 | none=>exact (show False from r).elim
 | some u=>exact ⟨u,rfl,r⟩
theorem RelO.none_of {o:Option Value} (r:RelO none o):o=none:=by
 cases o with
 | none=>rfl
 | some u=>exact (show False from r).elim
theorem zhb {v:V} {u:Value} (r:RelV v u):PySem.W.handedIn u=true:=by
 cases v with
 | non=>cases (show u=Value.none from r);rfl
 | bl b=>cases (show u=Value.bool b from r);rfl
 | int i=>obtain ⟨t,e⟩:=(show ∃ t,u=Value.int i t from r);cases e;rfl
 | str x=>obtain ⟨t,e⟩:=(show ∃ t,u=Value.str x t from r);cases e;rfl
 | byt b=>obtain ⟨t,e⟩:=(show ∃ t,u=Value.bytes b t from r);cases e;rfl
 | flt b=>obtain ⟨t,e⟩:=(show ∃ t,u=Value.float b t from r);cases e;rfl
 | ref a=>cases (show u=Value.ref a from r);rfl
 | ty n=>cases (show u=Value.type n from r);rfl
section
variable {P:Program} {w:World} {H H':Hp} {h h':Heap} {a C dx:Addr} {fs fs':List (Str×V)}
theorem zcC (hok:HOk P w H h) (e:H a=some (.ins C dx fs)):∃ mA,ObjM h a dx C mA/\(∀ f,RelO (fs.lookup f) (mA f))/\PySem.Within mA (fs.map (·.1))/\fs.length<=1000/\H dx=some (.own a):=by
 obtain ⟨d,z,ne,ob,mA,n,r,q⟩:=(show ObjOk P w H h a (.ins C dx fs) from hok a _ e)
 exact ⟨mA,⟨ob,n,ne⟩,r,q,z,d⟩
end
structure Cls (K:PySem.W.Frag) (C:Addr):Prop where
 pg:PySem.W.plainGet K C Str.empty=true
 hd:PySem.W.hasDictIn K C=true
 po:PySem.W.plainOver K C=true
 sa:PySem.W.findIn K (.ref C) "__setattr__" = some (some (.builtin "object.__setattr__"))
theorem Cls.get {K:PySem.W.Frag} {C:Addr} (c:Cls K C) (f:Str):PySem.W.plainGet K C f=true:=c.pg
def NoAttr (K:PySem.W.Frag) (C:Addr) (f:Str):Prop:=PySem.W.findIn K (.ref C) f=some none
theorem NoAttr.taker {K:PySem.W.Frag} {C:Addr} {f:Str} (n:NoAttr K C f):PySem.W.takerIn K C f=some none:=by
 unfold PySem.W.takerIn
 rw [show PySem.W.findIn K (.ref C) f=some none from n];rfl
structure Meth (K:PySem.W.Frag) (C:Addr) (m:Str) (f:Addr):Prop where
 at_:PySem.W.findIn K (.ref C) m=some (some (.ref f))
 fn:PySem.W.isFn K (.ref f)=true
 kp:PySem.W.keepIn K (.ref f)=true
section
variable {X:Cx} {pins:List (Addr×Obj)} {σ:St} {H:Hp} {s:Shared} {a C dx:Addr} {fs:List (Str×V)} {f:Str} {v:V} {A:Around} {E:Value->Shared->Prop}
theorem zgB {b:Bool} {Q:Value->Shared->Prop} (I:Inv X pins σ H s) (e:H a=some (.ins C dx fs)) (c:Cls X.K C) (n:NoAttr X.K C f) (l:fs.lookup f=some v)
  (h:∀ u s',Inv X pins σ H s'->RelV v u->Q u s'):wpAny (model X.prog X.w) A (getAttr (.ref a) f b) Q E s:=by
 obtain ⟨mA,O,r,_,_,_⟩:=zcC I.hok e
 obtain ⟨u,hu,ru⟩:=RelO.some_of (v:=v) (o:=mA f) (by rw [<- l];exact r f)
 exact ziP I.kIn O (c.get f) c.hd n hu (zhb ru) (h u _ (I.tok _) ru)
theorem zdr {m:Str} {g:Addr} {pl:Sem Bool} {Q:Value×List Value->Shared->Prop} (I:Inv X pins σ H s) (e:H a=some (.ins C dx fs)) (c:Cls X.K C) (k:Meth X.K C m g) (l:fs.lookup m=none)
  (h:Q (.ref g,[.ref a]) s):wpAny (model X.prog X.w) A (getMethod (.ref a) m pl) Q E s:=by
 obtain ⟨mA,O,r,_,_,_⟩:=zcC I.hok e
 have hn:mA m=none:=RelO.none_of (by rw [<- l];exact r m)
 exact zhT I.kIn O (c.get m) k.at_ k.fn hn h
theorem zgC {y:V} {u:Value} {Q:Unit->Shared->Prop} (I:Inv X pins σ H s) (e:H a=some (.ins C dx fs)) (c:Cls X.K C) (n:NoAttr X.K C f) (hl:fs.length<1000) (ry:RelV y u)
  (h:∀ s',Inv X pins σ (upd H a (.ins C dx (putF f y fs))) s'->Q () s'):wpAny (model X.prog X.w) A (setAttr (.ref a) f u) Q E s:=by
 obtain ⟨mA,O,r,wi,_,ho⟩:=zcC I.hok e
 have hz:(fs.map (·.1)).length<=sizeLine:=by rw [List.length_map,sizeLine_eq];omega
 refine ziQ I.kIn O c.sa c.po n.taker c.hd wi hz fun h' O' sb=>h _ ?_
 have hd:∃ o,h'.get? dx=some o:=let ⟨o,_,_,e',_⟩:=O'.ns;⟨o,e'⟩
 refine I.write (x:=a) (e:=dx) (by rw [e];exact True.intro) (.inr ho) (fun b q hb z=>(sb.2 b hb).trans z) hd ?_
 refine ⟨by rw [yaC O.ne];exact ho,?_,O.ne,O'.obj,_,O'.ns,fun g=>?_,fun g hg=>?_⟩
 ·have:=zcS f y fs;omega
 ·show RelO ((putF f y fs).lookup g) (if g=f then some u else mA g)
  rw [zbf];by_cases q:g=f
  ·rw [if_pos q,if_pos q];exact ry
  ·rw [if_neg q,if_neg q];exact r g
 ·by_cases q:g=f
  ·rw [q];exact (zcm f y fs).1
  ·refine (zcm f y fs).2 g (wi g fun z=>hg ?_)
   show (if g=f then some u else mA g)=none
   rw [if_neg q];exact z
theorem Inv.made (I:Inv X pins σ H s):Inv X pins σ (upd (upd H s.heap.objs.size (.own (s.heap.objs.size+1))) (s.heap.objs.size+1) (.ins C s.heap.objs.size []))
  { s with heap:=(s.heap.push PySem.W.emptyDict).push (PySem.W.instObj C s.heap.objs.size) }:=by
 have e1:(s.heap.push PySem.W.emptyDict).get? s.heap.objs.size=some PySem.W.emptyDict:=Heap.get?_push_size s.heap rfl
 have e2:((s.heap.push PySem.W.emptyDict).push (PySem.W.instObj C s.heap.objs.size)).get? (s.heap.objs.size+1)=some (PySem.W.instObj C s.heap.objs.size):=by
  have:=Heap.get?_push_size (s.heap.push PySem.W.emptyDict) (o:=PySem.W.instObj C s.heap.objs.size) rfl
  rwa [Heap.size_push] at this
 have e3:(s.heap.push PySem.W.emptyDict).Ns s.heap.objs.size (fun _=>none):=⟨PySem.W.emptyDict,#[],_,e1,rfl,(fun e he=>absurd he (by simp)),fun _=>rfl⟩
 have I1:=I.laid (a:=s.heap.objs.size) (o:=.own (s.heap.objs.size+1)) (h' := s.heap.push PySem.W.emptyDict) (t' := s.toks) (fun b u q=>Heap.get?_push_of_some _ q) (Nat.le_refl _) ⟨_,e1⟩
 refine I1.laid (a:=s.heap.objs.size+1) (o:=.ins C s.heap.objs.size []) (t' := s.toks) (fun b u q=>Heap.get?_push_of_some _ q) (Nat.le_of_eq (Heap.size_push _ _)) ?_
 have ne:s.heap.objs.size≠s.heap.objs.size+1:=Nat.ne_of_lt (Nat.lt_succ_self _)
 refine ⟨by rw [yaC ne,zav],Nat.zero_le _,ne,e2,fun _=>none,(Heap.Ns1.of_empty e3).at fun o q=>Heap.get?_push_of_some _ q,fun _=>True.intro,fun y hy=>absurd rfl hy⟩
theorem ziR {prog:Program} {w:World} {env:Env} {e:Expr} {f:Str} {pos:Pos} {s:Shared} {Q:Value->Shared->Prop} (hb:attributeBase e f env (eval e env)=eval e env)
  (h:wpAny (model prog w) A (eval e env) (fun o s₁=>wpAny (model prog w) A (getAttr o f true) Q E s₁) E s):wpAny (model prog w) A (eval (.Attribute e f pos) env) Q E s :=
 Attribute_any_ h (by rw [arm_eval_Attribute,hb])
end
def tFld (K:PySem.W.Frag) (ta:TE) (f:Str):TE:=fun σ H Q=>ta σ H fun x H1=>∃ a C dx fs v,x = .ref a/\H1 a=some (.ins C dx fs)/\Cls K C/\NoAttr K C f/\fs.lookup f=some v/\Q v H1
def sFld (K:PySem.W.Frag) (ta tv:TE) (f:Str):TS:=fun D σ H=>tv σ H fun y H1=>ta σ H1 fun x H2=>∃ a C dx fs,x = .ref a/\H2 a=some (.ins C dx fs)/\Cls K C/\NoAttr K C f/\fs.length<1000 /\
 D.nx σ (upd H2 a (.ins C dx (putF f y fs)))
section
variable {X:Cx} {o e value:Expr} {f:Str} {pos pos' tpos:Pos} {ta tv:TE}
theorem yhk (he:PE X e ta) (hb:attributeBase e f X.env (eval e X.env)=eval e X.env):PE X (.Attribute e f pos) (tFld X.K ta f):=by
 intro pins s σ H Q I h
 refine ziR hb (thn (he pins s σ H _ I h) fun u s1 ⟨x,H1,I1,rx,a,C,dx,fs,v,ex,ea,c,n,l,q⟩=>?_)
 subst ex;obtain rfl:u=Value.ref a:=rx
 exact zgB I1 ea c n l fun u' s2 I2 ru=>⟨v,H1,I2,ru,q⟩
theorem yhl (ha:PE X o ta) (hv:PE X value tv) (hs:swapsWith value (some (.Attribute o f pos')) pos.line X.env=pure false):PS X (.Assign [.Attribute o f pos'] value pos) (sFld X.K ta tv f):=by
 intro pins s σ H D I h
 refine plainObj_wpAny_Assign_Attribute (thn (hv pins s σ H _ I h) fun u s1 ⟨y,H1,I1,ry,q⟩=>thn (ha pins s1 σ H1 _ I1 q) fun ov s2 ⟨x,H2,I2,rx,a,C,dx,fs,ex,ea,c,n,l,q2⟩=>?_) hs
 subst ex;obtain rfl:ov=Value.ref a:=rx
 exact zgC I2 ea c n l ry fun s3 I3=>⟨σ,_,I3,q2⟩
end
section
variable {X:Cx} {pins:List (Addr×Obj)} {σ:St} {H:Hp} {s:Shared} {A:Around} {E:Value->Shared->Prop} {Q:Value->Shared->Prop} {c:Value} {b:Bool}
inductive TyOf (K:PySem.W.Frag) (H:Hp):V->Value->Prop where
 | non:TyOf K H .non (.type "NoneType")
 | bl (x:Bool):TyOf K H (.bl x) (.type "bool")
 | int (i:Int):TyOf K H (.int i) (.type "int")
 | str (x:Str):TyOf K H (.str x) (.type "str")
 | flt (x:UInt64):TyOf K H (.flt x) (.type "float")
 | lst {a:Addr} {xs:List V} (e:H a=some (.lst xs)):TyOf K H (.ref a) (.type "list")
 | frz {a:Addr} {o:Obj} {xs:List V} (e:H a=some (.frz o (.lst xs))):TyOf K H (.ref a) (.type "list")
 | tup {a:Addr} {xs:List V} (e:H a=some (.tup xs)):TyOf K H (.ref a) (.type "tuple")
 | dK {a:Addr} {kvs:List (Key×V)} (e:H a=some (.dK kvs)):TyOf K H (.ref a) (.type "dict")
 | dT {a:Addr} {kvs:List (List Key×V)} (e:H a=some (.dT kvs)):TyOf K H (.ref a) (.type "dict")
 | ins {a C dx:Addr} {fs:List (Str×V)} (e:H a=some (.ins C dx fs)) (cl:Cls K C) (ha:PySem.W.findIn K (.ref C) "__class__" = some (some (.builtin "object.__class__")))
   (hn:PySem.W.specialIn K (.builtin "object.__class__") "__get__" = some (some (.builtin "getset_descriptor.__get__"))) (htk:PySem.W.takesIn K (.builtin "object.__class__")=some true)
   (hm:PySem.W.mroIn K C (.type "object")=some true):TyOf K H (.ref a) (.ref C)
theorem zhc {x:V} {u t:Value} (I:Inv X pins σ H s) (rx:RelV x u) (ty:TyOf X.K H x t) (e:PySem.W.kitOne X.K t c=some b) (h:∀ tk,Q (.bool b) { s with toks:=tk }) :
  wpAny (model X.prog X.w) A (call (.builtin "isinstance") [u,c]) Q E s:=by
 cases ty with
 | non=>cases (show u=Value.none from rx);exact PySem.W.kia_one PySem.W.kitx_none I.kIn True.intro e (fun z=>nomatch z) h
 | bl y=>cases (show u=Value.bool y from rx);exact PySem.W.kia_one PySem.W.kitx_bool I.kIn True.intro e (fun z=>nomatch z) h
 | int i=>obtain ⟨t,q⟩:=(show ∃ t,u=Value.int i t from rx);cases q;exact PySem.W.kia_one PySem.W.kitx_int I.kIn True.intro e (fun z=>nomatch z) h
 | str y=>obtain ⟨t,q⟩:=(show ∃ t,u=Value.str y t from rx);cases q;exact PySem.W.kia_one PySem.W.kitx_str I.kIn True.intro e (fun z=>nomatch z) h
 | flt y=>obtain ⟨t,q⟩:=(show ∃ t,u=Value.float y t from rx);cases q;exact PySem.W.kia_one PySem.W.kitx_float I.kIn True.intro e (fun z=>nomatch z) h
 | @lst a xs ea =>
  cases (show u=Value.ref a from rx)
  obtain ⟨_,_,n,_,h1⟩:=(show ObjOk X.prog X.w H s.heap a (.lst xs) from I.hok a _ ea)
  exact PySem.W.kia_one PySem.W.kitx_list I.kIn ⟨_,h1,rfl⟩ e (fun z=>nomatch z) h
 | @frz a ob xs ea =>
  cases (show u=Value.ref a from rx)
  obtain ⟨_,_,_,n,_,h1⟩:=(show ObjOk X.prog X.w H s.heap a (.frz ob (.lst xs)) from I.hok a _ ea)
  exact PySem.W.kia_one PySem.W.kitx_list I.kIn ⟨_,h1,rfl⟩ e (fun z=>nomatch z) h
 | @tup a xs ea =>
  cases (show u=Value.ref a from rx)
  obtain ⟨_,_,_,p⟩:=(show ObjOk X.prog X.w H s.heap a (.tup xs) from I.hok a _ ea)
  obtain ⟨o,h1,h2,_⟩:=p
  exact PySem.W.kia_one PySem.W.kitx_tuple I.kIn ⟨o,h1,h2⟩ e (fun z=>nomatch z) h
 | @dK a kvs ea =>
  cases (show u=Value.ref a from rx)
  obtain ⟨_,_,vs,_,p⟩:=(show ObjOk X.prog X.w H s.heap a (.dK kvs) from I.hok a _ ea)
  obtain ⟨o,es,ep,h1,h2,_⟩:=p
  exact PySem.W.kia_one PySem.W.kitx_dict I.kIn ⟨o,h1,h2.1⟩ e (fun z=>nomatch z) h
 | @dT a kvs ea =>
  cases (show u=Value.ref a from rx)
  obtain ⟨_,_,xs,_,o,es,ep,h1,h2,_⟩:=(show ObjOk X.prog X.w H s.heap a (.dT kvs) from I.hok a _ ea)
  exact PySem.W.kia_one PySem.W.kitx_dict I.kIn ⟨o,h1,h2.1⟩ e (fun z=>nomatch z) h
 | @ins a C dx fs ea cl ha hn htk hm =>
  cases (show u=Value.ref a from rx)
  obtain ⟨mA,O,_⟩:=zcC I.hok ea
  obtain ⟨od,J,_⟩:=O.look
  exact PySem.W.kia_one (PySem.W.kitx_own (cl.get _) cl.hd ha hn htk hm) I.kIn J e (fun z=>nomatch z) h
end
end L2
namespace L2
open PySem PySem.Spec PyProof.Rows
structure Room (k:Nat) (A:Around):Prop where
 hd:A.handled=none
 dp:A.depth+3*k+5<recursionLimit
 un:A.units+16*k+200<cLine
theorem Room.mono {j k:Nat} {A:Around} (r:Room k A) (h:j<=k):Room j A:=⟨r.hd,by have:=r.dp;omega,by have:=r.un;omega⟩
theorem Room.deeper {k:Nat} {A:Around} (r:Room (k+1) A) (env:Env):Room k (A.deeper env) :=
 ⟨r.hd,by have:=r.dp;show A.depth+1+3*k+5<_;omega,by have:=r.un;show A.units+3+16*k+200<_;omega⟩
theorem zgD {A:Around} {C:Addr} {us:List Value} {kw:List (Str×Value)}:(A.under (.builtin "type.__call__" ⟨.ref C::us,kw⟩)).depth=A.depth+1:=by
 first | rfl | simp [Around.under,Code.weight,Code.isCreation,Code.isGuard,Code.isCaller,Code.frames,Code.isFrame,guardIds]
theorem zgE {A:Around} {C:Addr} {us:List Value} {kw:List (Str×Value)}:(A.under (.builtin "type.__call__" ⟨.ref C::us,kw⟩)).units=A.units+1:=by
 first | rfl | simp [Around.under,Code.cUnits,Code.frames,Code.isFrame]
theorem Room.make {k:Nat} {A:Around} (r:Room (k+1) A) (C:Addr) (us:List Value) (kw:List (Str×Value)):Room k (A.under (.builtin "type.__call__" ⟨.ref C::us,kw⟩)) :=
 ⟨r.hd,by have:=r.dp;rw [zgD];omega,by have:=r.un;rw [zgE];omega⟩
theorem Room.depth {k:Nat} {A:Around} (r:Room k A):A.depth<recursionLimit:=by have:=r.dp;omega
def tNil:TA:=fun _ H Q=>Q [] H
def yiB (ta:TE) (tr:TA):TA:=fun σ H Q=>ta σ H fun x H1=>tr σ H1 fun xs H2=>Q (x::xs) H2
section
variable {X:Cx} {e:Expr} {es:List Expr} {te:TE} {t:TA} {pos:Pos}
theorem yfv:PA X [] tNil:=fun _ _ _ _ H Q I h=>Calls.spliced_nil ⟨[],H,I,.nil,h⟩
theorem zdD (ha:PE X e te) (hr:PA X es t) (hs:starEach (e::es) X.env=(false,eval e X.env)::starEach es X.env:=by rfl):PA X (e::es) (yiB te t):=by
 intro pos pins s σ H Q I h
 rw [hs];show wpAny _ _ (spliced ((false,eval e X.env)::backTo pos (starEach es X.env))) _ _ s
 refine Calls.spliced_cons (thn (ha pins s σ H _ I h) fun u s1 ⟨x,H1,I1,r1,q1⟩=>?_)
 exact thn (hr pos pins s1 σ H1 _ I1 q1) fun us s2 ⟨xs,H2,I2,r2,q2⟩=>⟨x::xs,H2,I2,.cons r1 r2,q2⟩
def tTup (t:TA):TE:=fun σ H Q=>t σ H fun xs H1=>xs.length<=sizeLine/\∀ p,H1 p=none->Q (.ref p) (upd H1 p (.tup xs))
def tLst (t:TA):TE:=fun σ H Q=>t σ H fun xs H1=>xs.length<=sizeLine/\∀ p,H1 p=none->Q (.ref p) (upd H1 p (.lst xs))
theorem yhm {x1} (h:PA X es t):PE X (.Tuple es x1 pos) (tTup t):=by
 intro pins s σ H Q I hq
 refine wpAny_Tuple_spliced (thn (h pos pins s σ H _ I hq) fun us s1 ⟨xs,H1,I1,r,z,q⟩=>⟨by rw [<- r.length];exact z,?_⟩)
 have hf:H1 s1.heap.objs.size=none:=I1.hok.fresh (Nat.le_refl _)
 refine ⟨.ref s1.heap.objs.size,upd H1 s1.heap.objs.size (.tup xs),I1.laid (t' := s1.toks) (fun b u e=>Heap.get?_push_of_some _ e) (Nat.le_refl _) ?_,rfl,q _ hf⟩
 exact ⟨z,us,r,⟨_,Heap.get?_push_size _ rfl,rfl,_,rfl⟩⟩
theorem yfw (h:PA X es t):PE X (.List es pos) (tLst t):=by
 intro pins s σ H Q I hq
 refine wpAny_List_spliced (thn (h pos pins s σ H _ I hq) fun us s1 ⟨xs,H1,I1,r,z,q⟩=>⟨by rw [<- r.length];exact z,?_⟩)
 have hf:H1 s1.heap.objs.size=none:=I1.hok.fresh (Nat.le_refl _)
 refine ⟨.ref s1.heap.objs.size,upd H1 s1.heap.objs.size (.lst xs),I1.laid (t' := s1.toks) (fun b u e=>Heap.get?_push_of_some _ e) (Nat.le_refl _) ?_,rfl,q _ hf⟩
 exact ⟨z,us,0,r,Heap.get?_push_size _ rfl⟩
end
abbrev Sp:=List V->Hp->VK->XK->Prop
abbrev CXT:=List Env->Hp->Shared->XK->Value->Shared->Prop
structure Env0 (P:Program) (w:World) (K:PySem.W.Frag) (mg:Str->Option Value) (base:Heap) (A:Around) (outer:List Env) (s:Shared) (H:Hp):Prop where
 frames:A.frames=some outer
 mod:Mod K mg base
 bs:∀ b o,base.get? b=some o->s.heap.get? b=some o/\H b=none
 bsz:base.objs.size<=s.heap.objs.size
 funs:s.heap.FunFrames base outer
 frf:∀ b∈frs outer,H b=none
 hok:HOk P w H s.heap
 bare:AllBare s.gens
def CE (outer:List Env) (P:Program) (w:World) (H:Hp) (s:Shared) (Q:VK) (u:Value) (s':Shared):Prop :=
 ∃ v H',s'.os=s.os/\AllBare s'.gens/\Un (frs outer) [] H H' s.heap s'.heap/\HOk P w H' s'.heap/\RelV v u/\Q v H'
def CR (CX:CXT) (outer:List Env) (P:Program) (w:World) (H:Hp) (s:Shared) (Q:VK) (E:XK) (r:Result) (s':Shared):Prop :=
 match r with
 | .ok (.ret u)=>CE outer P w H s Q u s'
 | .ok _=>False
 | .error e=>CX outer H s E e s'
structure FnOk (P:Program) (w:World) (K:PySem.W.Frag) (mg:Str->Option Value) (base:Heap) (CX:CXT) (k:Nat) (f:Addr) (fd:FuncData) (ps:List Str) (sp:Sp):Prop where
 len:∀ vs H Q E,sp vs H Q E->vs.length=ps.length
 run:∀ (A:Around) (outer:List Env) (s:Shared) (H:Hp) (args:Args) (us:List Value) (vs:List V) (Q:VK) (E:XK),Room k A->Env0 P w K mg base A outer s H->BindsTo s fd args (ps.zip us)->Vals vs us->sp vs H Q E ->
  codeAny (model P w) A (.call (.ref f) args) (CR CX outer P w H s Q E) s
theorem FnOk.imp {P:Program} {w:World} {K:PySem.W.Frag} {mg:Str->Option Value} {base:Heap} {CX:CXT} {k:Nat} {f:Addr} {fd:FuncData} {ps:List Str} {sp sp':Sp} (F:FnOk P w K mg base CX k f fd ps sp)
  (h:∀ vs H Q E,sp' vs H Q E->sp vs H Q E):FnOk P w K mg base CX k f fd ps sp' :=
 ⟨fun vs H Q E q=>F.len vs H Q E (h _ _ _ _ q),fun A outer s H args us vs Q E hr he hb hv hs=>F.run A outer s H args us vs Q E hr he hb hv (h _ _ _ _ hs)⟩
theorem Env0.make {P:Program} {w:World} {K:PySem.W.Frag} {mg:Str->Option Value} {base:Heap} {A:Around} {outer:List Env} {s:Shared} {H:Hp} (e:Env0 P w K mg base A outer s H) (C:Addr) (us:List Value) (kw:List (Str×Value)) :
  Env0 P w K mg base (A.under (.builtin "type.__call__" ⟨.ref C::us,kw⟩)) outer s H:=⟨by first | exact e.frames | (simpa [Around.under,Code.envs,Code.isFrame,pushEnvs] using e.frames),e.mod,e.bs,e.bsz,e.funs,e.frf,e.hok,e.bare⟩
section
variable {X:Cx} {pins:List (Addr×Obj)} {σ:St} {H:Hp} {s s':Shared}
theorem Inv.env0 (I:Inv X pins σ H s):Env0 X.prog X.w X.K X.mg X.base X.A X.stack s H :=
 ⟨I.ok.frames,I.ok.mod,I.bs,Nat.le_trans I.ok.bsz I.sz,I.stack,I.stkFree,I.hok,I.bare⟩
theorem Inv.after {Q:VK} {u:Value} (I:Inv X pins σ H s) (h:CE X.stack X.prog X.w H s Q u s'):EP X pins σ Q u s' := by
 obtain ⟨v,H',os,bare,un,hok,r,q⟩:=h
 obtain ⟨hh,g,d,t,os'⟩:=s'
 obtain rfl:os'=s.os:=os
 exact ⟨v,H',I.call (h' := hh) (g' := g) (d' := d) (t' := t) (ch:=[]) un hok bare (fun b z=>absurd z (by simp)),r,q⟩
end
def Binds (K:PySem.W.Frag) (fd:FuncData) (ps:List Str) (ds:List Value):Prop :=
 ∀ (s:Shared) (us:List Value),K.In s.heap->(us++ds).length=ps.length->BindsTo s fd ⟨us,[]⟩ (ps.zip (us++ds))
theorem Binds.all {K:PySem.W.Frag} {fd:FuncData} {ps:List Str} (h:∀ us:List Value,us.length=ps.length->bindArgs fd ⟨us,[]⟩=pure (ps.zip us)):Binds K fd ps []:=fun s us _ hl=>by
 rw [List.append_nil] at hl ⊢;exact .of_eq (h us hl)
def yhn (CX:CXT) (X:Cx) (E:XK):Prop:=∀ (pins:List (Addr×Obj)) (σ:St) (H:Hp) (s:Shared) (e:Value) (s':Shared),Inv X pins σ H s->CX X.stack H s E e s'->X.xe e s'
section
variable {X:Cx} {CX:CXT} {k:Nat} {f C:Addr} {fd:FuncData} {ps:List Str} {sp:Sp} {dvs:List V} {ds:List Value} {E:XK} {x m:Str} {p pos apos:Pos} {e o:Expr} {es:List Expr} {ta:TE} {t:TA}
structure Mk (K:PySem.W.Frag) (C f:Addr):Prop where
 makes:PySem.W.makesIn K C=true
 init:PySem.W.findIn K (.ref C) "__init__" = some (some (.ref f))
 fn:PySem.W.isFn K (.ref f)=true
 kp:PySem.W.keepIn K (.ref C)=true
end
section
variable {X:Cx} {CX:CXT} {k:Nat} {f C:Addr} {fd:FuncData} {ps ks:List Str} {sp:Sp} {E:XK} {x m:Str} {p pos apos kpos:Pos} {e o:Expr} {es:List Expr} {kws:List Keyword} {te ta:TE} {t tk:TA} {nm:Option Str}
variable {g:List Value->List Value->List Value} {gV:List V->List V->List V}
end
structure FnScope (N P:List Str) (sc:Scope):Prop where
 kind:sc.kind = .function
 co:sc.isCoroutine=false
 gen:sc.isGenerator=false
 nd:N.Nodup
 pre:N.take P.length=P
 par:∀ x∈P,sc.names.lookup x=some .local\/sc.names.lookup x=some .cell
 nofree:∀ y∈sc.names,y.2 ≠ .free
theorem zd4 {kindOf:Str->Option NameKind} {x:Str}:∀ {binds:List (Str×Value)} {m:Str->Option Value},(∀ v,(x,v)∉binds)->bindL kindOf binds m x=m x
 | [],_,_=>rfl
 | (n,v)::r,m,h=>by
  unfold bindL
  rw [zd4 fun w hw=>h w (List.mem_cons_of_mem _ hw)];split
  ·have:x≠n:=by rintro rfl;exact h v List.mem_cons_self
   simp [this]
  ·rfl
theorem zd5 {kindOf:Str->Option NameKind} {x:Str}:∀ {binds:List (Str×Value)} {m:Str->Option Value},(∀ v,(x,v)∉binds)->bindC kindOf binds m x=m x
 | [],_,_=>rfl
 | (n,v)::r,m,h=>by
  unfold bindC
  rw [zd5 fun w hw=>h w (List.mem_cons_of_mem _ hw)];split
  ·rfl
  ·have:x≠n:=by rintro rfl;exact h v List.mem_cons_self
   simp [this]
theorem zd6 {kindOf:Str->Option NameKind} {x:Str} {v:Value}:∀ {P:List Str} {vs:List Value} {i:Nat} {m:Str->Option Value},P.Nodup->P[i]? = some x->vs[i]? = some v->kindOf x=some .local ->
  bindL kindOf (P.zip vs) m x=some v
 | [],_,_,_,_,h,_,_=>by simp at h
 | _::_,[],_,_,_,_,h,_=>by simp at h
 | p::P,w::vs,0,m,nd,h1,h2,hk=>by
  simp at h1 h2;subst h1;subst h2
  show bindL kindOf ((p,w)::P.zip vs) m p=_
  unfold bindL
  rw [zd4 fun v hv=>(List.nodup_cons.mp nd).1 (List.of_mem_zip hv).1,if_pos hk];simp
 | p::P,w::vs,i+1,m,nd,h1,h2,hk=>by
  show bindL kindOf ((p,w)::P.zip vs) m x=_
  unfold bindL
  exact zd6 (i:=i) (List.nodup_cons.mp nd).2 (by simpa using h1) (by simpa using h2) hk
theorem zd7 {kindOf:Str->Option NameKind} {x:Str} {v:Value}:∀ {P:List Str} {vs:List Value} {i:Nat} {m:Str->Option Value},P.Nodup->P[i]? = some x->vs[i]? = some v->kindOf x≠some .local ->
  bindC kindOf (P.zip vs) m x=some v
 | [],_,_,_,_,h,_,_=>by simp at h
 | _::_,[],_,_,_,_,h,_=>by simp at h
 | p::P,w::vs,0,m,nd,h1,h2,hk=>by
  simp at h1 h2;subst h1;subst h2
  show bindC kindOf ((p,w)::P.zip vs) m p=_
  unfold bindC
  rw [zd5 fun v hv=>(List.nodup_cons.mp nd).1 (List.of_mem_zip hv).1,if_neg hk];simp
 | p::P,w::vs,i+1,m,nd,h1,h2,hk=>by
  show bindC kindOf ((p,w)::P.zip vs) m x=_
  unfold bindC
  exact zd7 (i:=i) (List.nodup_cons.mp nd).2 (by simpa using h1) (by simpa using h2) hk
def start (N:List Str) (vs:List V):St:=vs.map some++List.replicate (N.length-vs.length) none
def cxOf (CX:CXT) (P:Program) (w:World) (K:PySem.W.Frag) (mg:Str->Option Value) (base:Heap) (N:List Str) (qual:Str) (scope:Scope) (f:Addr) (cd:Value) (A:Around) (outer:List Env) (s:Shared) (H:Hp) (E:XK):Cx where
 prog:=P
 w:=w
 K:=K
 mg:=mg
 base:=base
 A:=A.deeper (envOfC qual scope s.heap.objs.size f cd)
 N:=N
 s₀:=s
 H₀:=H
 env:=envOfC qual scope s.heap.objs.size f cd
 outer:=outer
 stack:=envOfC qual scope s.heap.objs.size f cd::outer
 ex:=[]
 calm:=true
 fn:=fun _=>true
 pn:=[]
 xe:=fun e s' => wpAny (model P w) (A.deeper (envOfC qual scope s.heap.objs.size f cd)) (leaving (envOfC qual scope s.heap.objs.size f cd) e) (fun _ s'' => CX outer H s E e s'') (fun e' s'' => CX outer H s E e' s'') s'
theorem zes {sc:Scope} {n:Nat} {x:Str} (h:sc.names.lookup x=some .cell):∃ c,(cellsFrom n sc.names []).lookup x=some c:=by
 have q:=PySem.W.cellsFrom_some sc.names n [] (.inl h)
 exact Option.isSome_iff_exists.mp q
theorem zhd {CX:CXT} {P:Program} {w:World} {K:PySem.W.Frag} {mg:Str->Option Value} {base:Heap} {N ps:List Str} {qual:Str} {scope:Scope} {f:Addr} {cd:Value} {A:Around} {outer:List Env} {s s1:Shared} {H:Hp} {E:XK} {us:List Value} {vs:List V}
  (S:FnScope N ps scope) (hd:A.handled=none) (e0:Env0 P w K mg base A outer s H) (hl:vs.length=ps.length) (r:Vals vs us)
  (x:InCallC s s.heap.objs.size (bindL (envOfC qual scope s.heap.objs.size f cd).kindOf (ps.zip us) fun _=>none) (cellsFrom (s.heap.objs.size+1) scope.names []) (bindC (envOfC qual scope s.heap.objs.size f cd).kindOf (ps.zip us) fun _=>none) s1) :
  Inv (cxOf CX P w K mg base N qual scope f cd A outer s H E) [] (start N vs) H s1:=by
 have hpl:ps.length<=N.length:=by have:=congrArg List.length S.pre;rw [List.length_take] at this;omega
 obtain ⟨h1,tk,rfl,hk⟩:=x.done
 have noA:∀ b:Addr,b∉(cxOf CX P w K mg base N qual scope f cd A outer s H E).ex:=fun b z=>absurd (show b∈([]:List Addr) from z) (by simp)
 refine ⟨⟨e0.mod,S.kind,rfl,rfl,Nat.le_refl _,fun y z c h1 h2=>?_,fun y hy=>?_,fun y c _ h=>?_,fun _=>hd,Around.frames_deeper e0.frames,.inr ⟨rfl,rfl⟩,fun b z=>absurd z (noA b),e0.bs,e0.bsz,fun b _ _=>noA b,fun b z=>absurd z (noA b),e0.funs,e0.frf⟩,
  rfl,e0.bare,Un.kept hk,⟨_,x.toInCall.ns,fun i y v h1 h2 h3=>?_⟩,fun y c h=>⟨_,x.cell y c h⟩,e0.hok.fresh (Nat.le_refl _),fun y c h=>?_,fun p hp=>absurd (show p∈([]:List (Addr×Obj)) from hp) (by simp),e0.hok.kept hk,?_⟩
 ·exact name_of_addr x.apart (PySem.mem_of_lookup h1) (PySem.mem_of_lookup h2)
 ·have hy:scope.names.lookup y=some .cell\/scope.names.lookup y=some .free:=hy
  rcases hy with hy | hy
  ·exact zes hy
  ·exact absurd rfl (S.nofree _ (PySem.mem_of_lookup hy))
 ·exact Nat.le_of_lt (x.above y c (PySem.mem_of_lookup h))
 ·have hi:i<vs.length:=by
   unfold start at h2
   by_cases hi:i<vs.length
   ·exact hi
   ·rw [List.getElem?_append_right (by simpa using hi)] at h2
    rw [List.getElem?_replicate] at h2;split at h2<;>cases h2
  have ha:vs[i]? = some v:=by
   unfold start at h2
   rw [List.getElem?_append_left (by simpa using hi),List.getElem?_map] at h2
   cases e:vs[i]? with
   | none=>rw [e] at h2;cases h2
   | some a=>rw [e] at h2;cases h2;rfl
  obtain ⟨u,hu,rv⟩:=r.get ha
  have hp:ps[i]? = some y:=by
   rw [<- S.pre,List.getElem?_take_of_lt (by omega)];exact h1
  have ndP:ps.Nodup:=by rw [<- S.pre];exact S.nd.sublist (List.take_sublist _ _)
  refine ⟨u,rv,?_⟩
  rcases S.par y (List.mem_of_getElem? hp) with k | k
  ·exact .inl ⟨k,zd6 ndP hp hu k⟩
  ·obtain ⟨c,e⟩:=zes (n:=s.heap.objs.size+1) k
   refine .inr ⟨.inl k,c,e,?_⟩
   have q:=x.cell y c e
   rw [zd7 ndP hp hu (by show scope.names.lookup y≠_;rw [k];decide)] at q
   exact q
 ·exact e0.hok.fresh (Nat.le_of_lt (x.above y c (PySem.mem_of_lookup h)))
 ·unfold start
  show _=N.length
  rw [List.length_append,List.length_map,List.length_replicate];omega
theorem yiC {CX:CXT} {P:Program} {w:World} {K:PySem.W.Frag} {mg:Str->Option Value} {base:Heap} {k:Nat} {f:Addr} {name qual:Str} {params:Arguments} {body:List Stmt} {scope:Scope} {dV kV doc pm cdv ct oc:Value} {an od:Option Addr}
  {osl:Array (Option Value)} {N ps:List Str} {sp:Sp} (lk:K.lookup f=some ⟨oc,od,.func (PySem.W.fnOf name qual params body scope dV kV doc pm an cdv ct),osl⟩) (hcd:PySem.W.codeIn K cdv qual=true) (S:FnScope N ps scope)
  (len:∀ vs H Q E,sp vs H Q E->vs.length=ps.length)
  (hbody:∀ (A:Around) (outer:List Env) (s:Shared) (H:Hp) (vs:List V) (Q:VK) (E:XK),Room k (A.deeper (envOfC qual scope s.heap.objs.size f cdv))->sp vs H Q E ->
   ∃ t,PSs (cxOf CX P w K mg base N qual scope f cdv A outer s H E) body t/\t { nx:=fun _ H' => Q .non H',rt:=Q } (start N vs) H) :
  FnOk P w K mg base CX (k+1) f (PySem.W.fnOf name qual params body scope dV kV doc pm an cdv ct) ps sp:=by
 refine ⟨len,fun A outer s H args us vs Q E hr e0 hb r hsp=>?_⟩
 have hl:=len _ _ _ _ hsp
 have KX:K.In s.heap:=e0.mod.kin.keeps fun b o e=>(e0.bs b o e).1
 have lim:s.heap.NoLimit:=e0.mod.nolimit.keeps fun b o e=>(e0.bs b o e).1
 have hkind:∀ y∈ps.zip us,scope.names.lookup y.1=some .local\/(scope.names.lookup y.1=some .cell/\((cellsFrom (s.heap.objs.size+1) scope.names []).lookup y.1).isSome=true):=fun ⟨n,v⟩ hy=>by
  rcases S.par n (List.of_mem_zip hy).1 with q | q
  ·exact .inl q
  ·exact .inr ⟨q,PySem.W.cellsFrom_some _ _ _ (.inl q)⟩
 refine codeAny_call_function hr.depth (KX _ _ lk) rfl S.co S.gen rfl (PySem.W.codeRec_of KX hcd) (hb _ _ _ _ ?_)
 refine wpAny_newFunctionEnv_cells S.kind hkind fun env he s1 x=>?_
 subst he;refine ⟨lim.keeps x.toInCall.keep,codeAny_func ?_⟩
 obtain ⟨t,ht,hq⟩:=hbody A outer s H vs Q E (hr.deeper _) hsp
 have I:Inv (cxOf CX P w K mg base N qual scope f cdv A outer s H E) [] (start N vs) H s1:=zhd S hr.hd e0 hl r x
 refine wpAny_mono (ht [] s1 (start N vs) H _ I hq) (fun fl s' hs=>?_) fun e s' hs=>hs
 have fin:∀ {σ':St} {H':Hp} {v:V} {u:Value},Inv (cxOf CX P w K mg base N qual scope f cdv A outer s H E) [] σ' H' s'->RelV v u->Q v H'->CE outer P w H s Q u s' :=
  fun {σ' H' v u} J rv q=>⟨v,H',J.os,J.bare,J.base,J.hok,rv,q⟩
 cases fl with
 | ret u =>
  obtain ⟨v,σ',H',J,rv,q⟩:=hs
  exact fin J rv q
 | next =>
  obtain ⟨σ',H',J,q⟩:=hs
  exact fin (v:=V.non) (u:=Value.none) J rfl q
 | brk =>
  obtain ⟨_,_,_,q⟩:=hs
  exact False.elim q
 | cont =>
  obtain ⟨_,_,_,q⟩:=hs
  exact False.elim q
end L2
namespace L2
open PySem PySem.Spec PyProof.Rows
section
variable {X:Cx} {x:Str} {p pos:Pos} {e:Expr} {es:List Expr} {t:TA} {id T:String} {r:List V->Hp->VK->Prop}
def tCB (r:List V->Hp->VK->Prop) (t:TA):TE:=fun σ H Q=>t σ H fun vs H1=>r vs H1 Q
theorem zet (hc:CallR X (.builtin id) r) (hg:Gl X x) (hm:X.mg x=none) (hv:bootBuiltins x=some (.builtin id)) (ha:PA X (e::es) t) (hn:x ≠ "__name__" := by decide) (hdb:(x == ("__debug__" : Str))=false:=by decide)
  (he:starEach (e::es) X.env=(false,eval e X.env)::starEach es X.env:=by rfl) (hpl:(backTo pos (starEach es X.env)).any (·.1)=false:=by rfl):PE X (.Call (.Name x p) (e::es) [] pos) (tCB r t):=by
 intro pins s σ H Q I h
 refine wpAny_Call_Name_kw (ydY I hg hm hv ?_ hn hdb)
 exact PyProof.Rows.callWith_builtin1 (thn (ha pos pins s σ H _ I h) fun us s1 ⟨vs,H1,I1,r1,q1⟩=>hc pins s1 σ H1 vs us Q I1 r1 q1) he hpl
theorem zhe (hc:CallR X (.type T) r) (hg:Gl X x) (hm:X.mg x=none) (hv:bootBuiltins x=some (.type T)) (ha:PA X (e::es) t) (hn:x ≠ "__name__" := by decide) (hdb:(x == ("__debug__" : Str))=false:=by decide)
  (he:starEach (e::es) X.env=(false,eval e X.env)::starEach es X.env:=by rfl) (hpl:(backTo pos (starEach es X.env)).any (·.1)=false:=by rfl):PE X (.Call (.Name x p) (e::es) [] pos) (tCB r t):=by
 intro pins s σ H Q I h
 refine wpAny_Call_Name_kw (ydY I hg hm hv ?_ hn hdb)
 exact PyProof.Rows.callWith_type1 (thn (ha pos pins s σ H _ I h) fun us s1 ⟨vs,H1,I1,r1,q1⟩=>hc pins s1 σ H1 vs us Q I1 r1 q1) he hpl
end
end L2
namespace HT
open PySem PyProof.Rows
section
open PySem.SeqAt
open PySem.AutoSeq1 (wpAny_loadPart')
open PySem.MeetsSeq PySem.MeetsSeq2 PySem.MeetsSeq3
end
section
variable {prog:Program} {w:World} {A:Around} {E:Value->Shared->Prop} {s:Shared}
theorem cat_tup {t b:Addr} {vs ws:List Value} {Q:Value->Shared->Prop} (ht:IsTup s.heap t vs.toArray) (hb:IsTup s.heap b ws.toArray) (hv:vs≠[])
  (h1:ws=[]->Q (.ref t) s) (h2:ws≠[]->Q (.ref s.heap.objs.size) { s with heap:=s.heap.push { cls:=.type "tuple",data:=.seq (vs++ws).toArray } })
  (hsz:vs.length+ws.length<=sizeLine):wpAny (model prog w) A (binaryOp .Add (.ref t) (.ref b)) Q E s:=by
 obtain ⟨⟨cls,dd,data,sl⟩,ho,hc,n,hd⟩:=id ht
 obtain ⟨⟨cls2,dd2,data2,sl2⟩,ho2,hc2,n2,hd2⟩:=id hb
 simp only at hc hd hc2 hd2
 subst hc hd hc2 hd2
 have e:vs.toArray++ws.toArray=(vs++ws).toArray:=by simp
 by_cases hw:ws=[]
 ·exact concat_meets ⟨_,ho,rfl⟩ ⟨_,ho2,rfl⟩ noFill_tuple_add seq_tuple_add PySem.F.slot_tuple_add PySem.F.entry_tuple_add (PySem.F.args_tuple_add_2 _ _)
   (tuple_addW1 t b vs.toArray ws.toArray n n2 dd dd2 sl sl2 (by simpa using hv) (by simp [hw])) ⟨ho,ho2,h1 hw⟩
 ·refine concat_meets ⟨_,ho,rfl⟩ ⟨_,ho2,rfl⟩ noFill_tuple_add seq_tuple_add PySem.F.slot_tuple_add PySem.F.entry_tuple_add (PySem.F.args_tuple_add_2 _ _)
   (tuple_addW2 t b vs.toArray ws.toArray n n2 dd dd2 sl sl2 (by simpa using hv) (by simpa using hw) (by rw [List.size_toArray,List.size_toArray];exact hsz)) ⟨ho,ho2,?_⟩
  rw [e];exact h2 hw
def sIx (n d:Nat):Option Int->Nat
 | none=>d
 | some v=>if v<0 then (v+(n:Int)).toNat else min v.toNat n
theorem sIx_none (n d:Nat):sIx n d none=d:=rfl
theorem sIx_nat (n d k:Nat):sIx n d (some (k:Int))=min k n:=by
 show (if (k:Int)<0 then ((k:Int)+(n:Int)).toNat else min (k:Int).toNat n)=min k n
 rw [if_neg (by omega),Int.toNat_natCast]
theorem sIx_le (n d:Nat) (hd:d<=n) (o:Option Int):sIx n d o<=n:=by
 cases o with
 | none=>exact hd
 | some v =>
  show (if v<0 then (v+(n:Int)).toNat else min v.toNat n)<=n
  by_cases hv:v<0
  ·rw [if_pos hv];omega
  ·rw [if_neg hv];exact Nat.min_le_right _ _
theorem zfu (v:Int) (n d:Nat):(if v<0 then max (v+(n:Int)) 0 else min v (n:Int))=((sIx n d (some v):Nat):Int):=by
 show (if v<0 then max (v+(n:Int)) 0 else min v (n:Int))=(((if v<0 then (v+(n:Int)).toNat else min v.toNat n):Nat):Int)
 by_cases hv:v<0
 ·simp only [if_pos hv];omega
 ·simp only [if_neg hv];omega
theorem zgF (lo hi:Option Int) (n:Nat):Builtin.Slice.sliceAdjust lo hi 1 (n:Int)=(((sIx n 0 lo:Nat):Int),((sIx n n hi:Nat):Int)):=by
 have h1 : ¬ ((1:Int)<0):=by omega
 unfold Builtin.Slice.sliceAdjust
 simp only [h1,if_false]
 refine Prod.ext ?_ ?_
 ·cases lo with
  | none=>rfl
  | some v=>exact zfu v n 0
 ·cases hi with
  | none=>rfl
  | some v=>exact zfu v n n
theorem zgG (i j:Nat):Builtin.Slice.slicePlaces (i:Int) (j:Int) 1=j-i:=by
 unfold Builtin.Slice.slicePlaces
 have h1:(1:Int) > 0:=by omega
 simp only [h1,if_true,Int.ediv_one]
 split<;>omega
theorem zds {v:Value} {o:Option Int} {Q:Option Int->Shared->Prop} (p:IsPart v o) (h:Q o s):wpAny (model prog w) A (Builtin.Slice.slicePartIndex v) Q E s:=by
 cases p with
 | none=>exact slicePart_none h
 | int i t=>exact slicePart_int h
theorem zc6 {sl:Addr} {vl vu:Value} {lo hi:Option Int} {n:Nat} {Q:Int×Int×Nat->Shared->Prop} (hs:s.heap.IsSliceOf sl vl vu .none) (pl:IsPart vl lo) (pu:IsPart vu hi)
  (h:Q (((sIx n 0 lo:Nat):Int),1,sIx n n hi-sIx n 0 lo) s):wpAny (model prog w) A (Builtin.Slice.sliceApplied (.ref sl) (pure (n:Int))) Q E s:=by
 obtain ⟨os,hos,hcs,hds⟩:=id hs
 unfold Builtin.Slice.sliceApplied Builtin.Slice.sliceFields
 refine wpAny_bind (wpAny_bind (wpAny_field hos hds (x:=vl) rfl (wpAny_bind (wpAny_field hos hds (x:=vu) rfl (wpAny_bind (wpAny_field hos hds (x:=.none) rfl (wpAny_pure ?_)))))))
 refine wpAny_bind (slicePart_none ?_)
 show wpAny _ _ (if ((1:Int) == 0)=true then _ else _) _ _ s
 rw [if_neg (by decide)]
 refine wpAny_bind (zds pl (wpAny_bind (zds pu (wpAny_bind (wpAny_pure ?_)))))
 show wpAny _ _ (match Builtin.Slice.sliceAdjust lo hi 1 (n:Int) with | (lo,hi)=>pure (lo,(1:Int),Builtin.Slice.slicePlaces lo hi 1)) _ _ s
 rw [zgF lo hi n];show wpAny _ _ (pure (((sIx n 0 lo:Nat):Int),(1:Int),Builtin.Slice.slicePlaces ((sIx n 0 lo:Nat):Int) ((sIx n n hi:Nat):Int) 1)) _ _ s
 rw [zgG];exact wpAny_pure h
theorem zhV (xs:Array Value) (i k:Nat):((List.range k).filterMap fun (m:Nat)=>xs[((i:Int)+(m:Int)*1).toNat]?).toArray=((xs.toList.drop i).take k).toArray:=by
 have e:(fun (m:Nat)=>xs[((i:Int)+(m:Int)*1).toNat]?)=fun m=>xs[i+m]? := by
  funext m
  have:((i:Int)+(m:Int)*1).toNat=i+m:=by omega
  rw [this]
 rw [e];have:=pick_run xs i k
 rw [List.filterMap_map] at this;have e2:((fun x=>xs[x]?) ∘ fun x=>i+x)=fun m=>xs[i+m]? := rfl
 rw [e2] at this;rw [this]
theorem getItem_tuple_cut {t sl:Addr} {items:Array Value} {vl vu:Value} {lo hi:Option Int} {Q:Value->Shared->Prop} (ht:IsTup s.heap t items) (hs:s.heap.IsSliceOf sl vl vu .none) (pl:IsPart vl lo) (pu:IsPart vu hi)
  (hw : ¬ (sIx items.size 0 lo=0/\sIx items.size items.size hi=items.size))
  (h:Q (.ref s.heap.objs.size) { s with heap:=s.heap.push { cls:=.type "tuple",data:=.seq ((items.toList.drop (sIx items.size 0 lo)).take (sIx items.size items.size hi-sIx items.size 0 lo)).toArray } })
  (hsz:items.size<=sizeLine):wpAny (model prog w) A (getItem (.ref t) (.ref sl)) Q E s:=by
 have htake:sizeOk (.seq ((items.toList.drop (sIx items.size 0 lo)).take (sIx items.size items.size hi-sIx items.size 0 lo)).toArray):=by
  show ((items.toList.drop (sIx items.size 0 lo)).take (sIx items.size items.size hi-sIx items.size 0 lo)).toArray.size<=sizeLine
  rw [List.size_toArray,List.length_take,List.length_drop,Array.length_toList];omega
 have hj:sIx items.size items.size hi<=items.size:=sIx_le _ _ (Nat.le_refl _) hi
 obtain ⟨os,hos,hcs,hds⟩:=id hs
 have hTs:s.TypeIs (.ref sl) "slice" := ⟨os,hos,hcs⟩
 unfold getItem
 try with_reducible refine wpAny_holding ?_
 first | refine wpAny_bind (wpAny_pure ?_) | skip
 refine wpAny_bind (wpAny_sequenceKey ht.typeIs (by decide) ?_)
 refine wpAny_bind (wpAny_callSpecial?_slot (name:=Str.ofString "__getitem__") ht.typeIs PyProof.Rows.slot_tuple_getitem
  (wpAny_call_entry PyProof.Rows.slot_tuple_getitem ht.typeIs entry_tuple_getitem ?_ (args_tuple_getitem _ _)))
 show wpAny _ _ (Builtin.Tuple.tupleItemsOf (.ref t) >>= _) _ _ s
 refine wpAny_bind (tupleItemsOf_ ht ?_)
 refine wpAny_bind (wpAny_typeOf hTs ?_)
 rw [if_pos (by decide)]
 refine wpAny_bind (zc6 hs pl pu ?_)
 have hno : ¬ ((((sIx items.size 0 lo:Nat):Int) == 0 && (1:Int) == 1 && (sIx items.size items.size hi-sIx items.size 0 lo) == items.size)=true):=by
  intro q
  rw [Bool.and_eq_true,Bool.and_eq_true] at q;have q1:((sIx items.size 0 lo:Nat):Int)=0:=eq_of_beq q.1.1
  have q2:sIx items.size items.size hi-sIx items.size 0 lo=items.size:=eq_of_beq q.2
  exact hw ⟨by omega,by omega⟩
 show wpAny _ _ (if (((sIx items.size 0 lo:Nat):Int) == 0 && (1:Int) == 1 && (sIx items.size items.size hi-sIx items.size 0 lo) == items.size)=true then _ else _) _ _ s
 rw [if_neg hno,zhV];first
  | exact wpAny_bind (m:=Builtin.Tuple.tupleExact _) (wpAny_newObj_type (wpAny_pure ⟨_,rfl,wpAny_pure h⟩) htake)
  | exact wpAny_bind (m:=Builtin.Tuple.tupleExact _) (wpAny_newObj_type (wpAny_bind (wpAny_pure (wpAny_pure ⟨_,rfl,wpAny_pure h⟩))) htake)
  | exact wpAny_bind (wpAny_bind (m:=Builtin.Tuple.tupleExact _) (wpAny_newObj_type (wpAny_pure (wpAny_pure ⟨_,rfl,wpAny_pure h⟩)) htake))
  | exact wpAny_bind (wpAny_bind (m:=Builtin.Tuple.tupleExact _) (wpAny_newObj_type (wpAny_pure ⟨_,rfl,wpAny_pure h⟩) htake))
end
end HT
namespace L2
open PySem PySem.Spec PyProof.Rows
abbrev TO:=St->Hp->(Option Int->Hp->Prop)->Prop
def PO (X:Cx) (e:Option Expr) (t:TO):Prop :=
 ∀ (pins:List (Addr×Obj)) (s:Shared) (σ:St) (H:Hp) (Q:Option Int->Hp->Prop),Inv X pins σ H s->t σ H Q ->
  wpAny (model X.prog X.w) X.A (evalPart e X.env) (fun u s' => ∃ o H',Inv X pins σ H' s'/\IsPart u o/\Q o H') X.xe s
def yfe:TO:=fun _ H Q=>Q none H
def ygj (t:TE):TO:=fun σ H Q=>t σ H fun x H1=>∃ i,x = .int i/\Q (some i) H1
section
variable {X:Cx} {e:Expr} {te:TE} {lo hi:Option Expr} {tl th:TO} {pos p2:Pos}
theorem ziS:PO X none yfe:=by
 intro pins s σ H Q I h
 rw [evalPart_none];exact wpAny_pure ⟨none,H,I,.none,h⟩
theorem ziT (h:PE X e te):PO X (some e) (ygj te):=by
 intro pins s σ H Q I hw
 rw [evalPart_some];refine thn (h pins s σ H _ I hw) fun u s1 ⟨x,H1,I1,r1,q1⟩=>?_
 obtain ⟨i,rfl,q⟩:=q1
 obtain ⟨t,rfl⟩:=r1
 exact ⟨some i,H1,I1,.int i t,q⟩
def SlR (X:Cx) (r:V->Option Int->Option Int->Hp->VK->Prop):Prop :=
 ∀ (pins:List (Addr×Obj)) (s:Shared) (σ:St) (H:Hp) (x:V) (v vl vu:Value) (lo hi:Option Int) (sl:Addr) (Q:VK),Inv X pins σ H s->RelV x v->s.heap.IsSliceOf sl vl vu .none->IsPart vl lo->IsPart vu hi->r x lo hi H Q ->
  ∃ T id,typeLookup (.type T) "__getitem__" = pure (some (.builtin id))/\s.TypeIs v T/\wpAny (model X.prog X.w) X.A (getItem v (.ref sl)) (EP X pins σ Q) X.xe s
theorem SlR.or {r r':V->Option Int->Option Int->Hp->VK->Prop} (h:SlR X r) (h':SlR X r'):SlR X (fun x lo hi H Q=>r x lo hi H Q\/r' x lo hi H Q):=by
 intro pins s σ H x v vl vu lo hi sl Q I rx hs pl pu q
 rcases q with q | q
 ·exact h pins s σ H x v vl vu lo hi sl Q I rx hs pl pu q
 ·exact h' pins s σ H x v vl vu lo hi sl Q I rx hs pl pu q
def tSl (r:V->Option Int->Option Int->Hp->VK->Prop) (te:TE) (tl th:TO):TE:=fun σ H Q=>te σ H fun x H1=>tl σ H1 fun l H2=>th σ H2 fun u H3=>r x l u H3 Q
theorem zhW {r:V->Option Int->Option Int->Hp->VK->Prop} (hr:SlR X r) (he:PE X e te) (hl:PO X lo tl) (hu:PO X hi th):PE X (.Subscript e (.Slice lo hi none p2) pos) (tSl r te tl th):=by
 intro pins s σ H Q I h
 refine Subscript_ (thn (he pins s σ H _ I h) fun v s1 ⟨x,H1,I1,r1,q1⟩=>?_)
 refine wpAny_Slice (thn (hl pins s1 σ H1 _ I1 q1) fun vl s2 ⟨l,H2,I2,pl,q2⟩=>thn (hu pins s2 σ H2 _ I2 q2) fun vu s3 ⟨u,H3,I3,pu,q3⟩=>?_)
 rw [evalPart_none];refine wpAny_pure ?_
 have I4:Inv X pins σ H3 { s3 with heap:=s3.heap.push { cls:=.type "slice",data:=.fields #[vl,vu,.none] } }:=I3.kept (t' := s3.toks) fun b ob q=>Heap.get?_push_of_some _ q
 obtain ⟨T,id,hT,ht,hg⟩:=hr pins { s3 with heap:=s3.heap.push { cls:=.type "slice",data:=.fields #[vl,vu,.none] } } σ H3 x v vl vu l u s3.heap.objs.size Q I4 r1 (Heap.IsSliceOf.new ..) pl pu q3
 show wpAny (model X.prog X.w) X.A (subscriptTail e (.Slice lo hi none p2) v (.ref s3.heap.objs.size)) (EP X pins σ Q) X.xe { s3 with heap:=s3.heap.push { cls:=.type "slice",data:=.fields #[vl,vu,.none] } }
 exact tail_any (ops:=[.ref s3.heap.objs.size,v]) ht hT hg (by with_unfolding_all rfl)
def cutV (xs:List V) (lo hi:Option Int):List V:=(xs.drop (HT.sIx xs.length 0 lo)).take (HT.sIx xs.length xs.length hi-HT.sIx xs.length 0 lo)
theorem zcT (xs:List V) (lo hi:Option Int):(cutV xs lo hi).length<=xs.length:=by
 unfold cutV
 rw [List.length_take,List.length_drop];omega
def rSlT (K:PySem.W.Frag):V->Option Int->Option Int->Hp->VK->Prop:=fun x lo hi H Q=>∃ a xs,x = .ref a/\SqT K H a xs /\
 ¬ (HT.sIx xs.length 0 lo=0/\HT.sIx xs.length xs.length hi=xs.length)/\∀ p,H p=none->Q (.ref p) (upd H p (.tup (cutV xs lo hi)))
theorem sl_tup:SlR X (rSlT X.K):=by
 intro pins s σ H x v vl vu lo hi sl Q I rx hs pl pu h
 obtain ⟨a,xs,rfl,hx,hw,q⟩:=h
 cases rx
 obtain ⟨its,r,ht,hz⟩:=I.tuple hx
 have hlen:its.toArray.size=xs.length:=by rw [List.size_toArray];exact r.length.symm
 refine ⟨"tuple",_,PyProof.Rows.slot_tuple_getitem.lookup,ht.typeIs,?_⟩
 refine HT.getItem_tuple_cut ht hs pl pu (by rw [hlen];exact hw) ?_ (by rw [hlen];exact hz)
 rw [hlen];refine ⟨.ref s.heap.objs.size,_,I.laid (t' := s.toks) (o:=.tup (cutV xs lo hi)) (fun b ob q=>Heap.get?_push_of_some _ q) (Nat.le_refl _) ?_,rfl,q _ (I.hok.fresh (Nat.le_refl _))⟩
 exact ⟨Nat.le_trans (zcT xs lo hi) hz,_,(r.drop (HT.sIx xs.length 0 lo)).take (HT.sIx xs.length xs.length hi-HT.sIx xs.length 0 lo),IsTup.new _ _⟩
def yiD (K:PySem.W.Frag):R2:=fun x y H Q=>∃ a b xs ys,x = .ref a/\y = .ref b/\SqT K H a xs/\SqT K H b ys/\xs≠[]/\xs.length+ys.length<=sizeLine /\
 (ys=[]->Q (.ref a) H)/\(ys≠[]->∀ p,H p=none->Q (.ref p) (upd H p (.tup (xs++ys))))
theorem Vals.nil_iff {xs:List V} {us:List Value} (r:Vals xs us):us=[] ↔ xs=[]:=by
 cases r with
 | nil=>simp
 | cons _ _=>simp
theorem ziU:OpR X (binaryOp .Add) (yiD X.K):=by
 intro pins s σ H x y v u Q I rx ry h
 obtain ⟨a,b,xs,ys,rfl,rfl,ha,hb,hx,hz,q1,q2⟩:=h
 cases rx
 cases ry
 obtain ⟨its,r1,p1,_⟩:=I.tuple ha
 obtain ⟨its2,r2,p2,_⟩:=I.tuple hb
 refine HT.cat_tup p1 p2 (fun z=>hx (r1.nil_iff.mp z)) (fun z=>⟨.ref a,H,I,rfl,q1 (r2.nil_iff.mp z)⟩) (fun z=>?_) (by rw [<- r1.length,<- r2.length];exact hz)
 refine ⟨.ref s.heap.objs.size,_,I.laid (t' := s.toks) (o:=.tup (xs++ys)) (fun b ob q=>Heap.get?_push_of_some _ q) (Nat.le_refl _) ?_,rfl,q2 (fun w=>z (r2.nil_iff.mpr w)) _ (I.hok.fresh (Nat.le_refl _))⟩
 exact ⟨by rw [List.length_append];exact hz,_,r1.append r2,IsTup.new _ _⟩
end
end L2
namespace L2
open PySem PySem.Spec PyProof.Rows
def ixN (n:Nat) (i:Int):Option Nat:=if 0<=i then (if i<n then some i.toNat else none) else if -(n:Int)<=i then some (i+n).toNat else none
def atI {α:Type} (xs:List α) (i:Int):Option α:=(ixN xs.length i).bind fun j=>xs[j]?
theorem zfv {n:Nat} {i:Int} {j:Nat} (h:ixN n i=some j):seqIndex? i n=some j/\j<n /\ -(n:Int)<=i/\i<n:=by
 unfold ixN at h
 by_cases h0:0<=i
 ·rw [if_pos h0] at h
  by_cases h1:i<n
  ·rw [if_pos h1] at h
   have e:i.toNat=j:=Option.some.inj h
   exact ⟨by rw [seqIndex_of h0 h1,e],by omega,by omega,h1⟩
  ·rw [if_neg h1] at h;cases h
 ·rw [if_neg h0] at h
  by_cases h1 : -(n:Int)<=i
  ·rw [if_pos h1] at h
   have e:(i+n).toNat=j:=Option.some.inj h
   exact ⟨by rw [seqIndex_neg (by omega) h1,e],by omega,h1,by omega⟩
  ·rw [if_neg h1] at h;cases h
theorem zcD {α:Type} {xs:List α} {i:Int} {v:α} (h:atI xs i=some v):∃ j,seqIndex? i xs.length=some j/\xs[j]? = some v/\j<xs.length /\ -(xs.length:Int)<=i/\i<xs.length:=by
 unfold atI at h
 cases e:ixN xs.length i with
 | none=>rw [e] at h;cases h
 | some j =>
  rw [e] at h;obtain ⟨h1,h2,h3,h4⟩:=zfv e
  exact ⟨j,h1,h,h2,h3,h4⟩
theorem zbr {α:Type} {xs:List α} {j:Nat} {v:α} (h:xs[j]? = some v):atI xs (j:Int)=some v:=by
 have hj:j<xs.length:=(List.getElem?_eq_some_iff.mp h).1
 have e:ixN xs.length (j:Int)=some j:=by
  unfold ixN
  rw [if_pos (by omega),if_pos (by omega)];simp
 unfold atI;rw [e];exact h
def yff (b:Expr):Prop:=∀ o i,subscripted b false o i=operate [o,i] (getItem o i)
def IxR (X:Cx) (r:R2):Prop :=
 ∀ (value slice:Expr) (pins:List (Addr×Obj)) (s:Shared) (σ:St) (H:Hp) (x y:V) (v u:Value) (Q:VK),Inv X pins σ H s->RelV x v->RelV y u->r x y H Q ->
  subscripted slice false v u=operate [v,u] (getItem v u)->wpAny (model X.prog X.w) X.A (subscriptTail value slice v u) (EP X pins σ Q) X.xe s
def MtR (X:Cx) (id:String) (r:V->List V->Hp->VK->Prop):Prop :=
 ∀ (pins:List (Addr×Obj)) (s:Shared) (σ:St) (H:Hp) (x:V) (xs:List V) (v:Value) (us:List Value) (Q:VK),Inv X pins σ H s->RelV x v->Vals xs us->r x xs H Q ->
  wpAny (model X.prog X.w) X.A (call (.builtin id) (v::us)) (EP X pins σ Q) X.xe s
section
variable {X:Cx} {a b:Expr} {ta tb:TE} {pos:Pos}
theorem IxR.or {r r':R2} (h:IxR X r) (h':IxR X r'):IxR X (fun x y H Q=>r x y H Q\/r' x y H Q):=by
 intro value slice pins s σ H x y v u Q I rx ry q hs
 rcases q with q | q
 ·exact h value slice pins s σ H x y v u Q I rx ry q hs
 ·exact h' value slice pins s σ H x y v u Q I rx ry q hs
theorem yiE {r:R2} (hr:IxR X r) (ha:PE X a ta) (hb:PE X b tb) (hs:yff b):PE X (.Subscript a b pos) (tOp r ta tb):=by
 intro pins s σ H Q I h
 exact Subscript_ (binT ha hb I h fun v u s2 x y H2 I2 rx ry q=>hr a b pins s2 σ H2 x y v u Q I2 rx ry q (hs _ _))
def rIxL (K:PySem.W.Frag):R2:=fun x y H Q=>∃ p xs i v,x = .ref p/\y = .int i/\SqL K H p xs/\atI xs i=some v/\Q v H
def rIxT (K:PySem.W.Frag):R2:=fun x y H Q=>∃ p xs i v,x = .ref p/\y = .int i/\SqT K H p xs/\atI xs i=some v/\Q v H
def rIxS:R2:=fun x y H Q=>∃ z i c,x = .str z/\y = .int i/\z.length<=sizeLine/\atI z.cps.toList i=some c/\Q (.str ⟨#[c]⟩) H
theorem ziV:IxR X (rIxL X.K):=by
 intro value slice pins s σ H x y v u Q I rx ry h hs
 obtain ⟨p,xs,i,z,rfl,rfl,hq,he,q⟩:=h
 cases rx
 obtain ⟨t,rfl⟩:=ry
 obtain ⟨its,r,pl,hz⟩:=I.list hq
 obtain ⟨j,h1,h2,h3,h4,h5⟩:=zcD he
 obtain ⟨w,ew,rw'⟩:=r.get h2
 have hl:=r.length
 have hn:=ydP
 have fin:EP X pins σ Q w s:=⟨z,H,I,rw',q⟩
 by_cases h0:0<=i
 ·have hj:i.toNat=j:=by
   rw [seqIndex_of h0 h5] at h1;exact Option.some.inj h1
  exact item_listR pl.isList h0 (by omega) (by rw [hj];simpa using ew) fin hs
 ·have hj:(i+(its.toArray.size:Int)).toNat=j:=by
   rw [seqIndex_neg (by omega) h4] at h1
   rw [List.size_toArray,<- hl];exact Option.some.inj h1
  exact subscriptTail_builtinR (x:=w) pl.isList.typeIs slot_list_getitem.lookup
   (wpAny_getItem_list_neg (Q:=fun r s' => r=w/\EP X pins σ Q r s') pl.isList (by omega) (by rw [List.size_toArray]<;>omega) (by omega) (by rw [hj];simpa using ew) ⟨rfl,fin⟩) hs
theorem ix_tup:IxR X (rIxT X.K):=by
 intro value slice pins s σ H x y v u Q I rx ry h hs
 obtain ⟨p,xs,i,z,rfl,rfl,hq,he,q⟩:=h
 cases rx
 obtain ⟨t,rfl⟩:=ry
 obtain ⟨its,r,pl,hz⟩:=I.tuple hq
 obtain ⟨j,h1,h2,h3,h4,h5⟩:=zcD he
 obtain ⟨w,ew,rw'⟩:=r.get h2
 have hl:=r.length
 have hn:=ydP
 have fin:EP X pins σ Q w s:=⟨z,H,I,rw',q⟩
 exact subscriptTail_builtinR (x:=w) pl.typeIs slot_tuple_getitem.lookup
  (getItem_tuple (j:=j) (Q:=fun r s' => r=w/\EP X pins σ Q r s') pl (by omega) (by omega) (by rw [List.size_toArray,<- hl];exact h1) (by simpa using ew) ⟨rfl,fin⟩) hs
theorem yho:IxR X rIxS:=by
 intro value slice pins s σ H x y v u Q I rx ry h hs
 obtain ⟨z,i,c,rfl,rfl,hz,he,q⟩:=h
 obtain ⟨t,rfl⟩:=rx
 obtain ⟨t',rfl⟩:=ry
 obtain ⟨j,h1,h2,h3,h4,h5⟩:=zcD he
 have hl:z.cps.toList.length=z.length:=by simp [Str.length]
 rw [hl] at h1 h4 h5;have hn:=ydP
 exact tail_any (typeIs_str s z t) slot_str_getitem.lookup (getItem_str (c:=c) (by
  have e1:decide (i < -(2 ^ 63:Int))=false:=decide_eq_false (by omega)
  have e2:decide (i ≥ 2 ^ 63)=false:=decide_eq_false (by omega)
  rw [e1,e2,Bool.or_false]) (by rw [h1];simpa using h2) ⟨.str ⟨#[c]⟩,H,I.tok _,⟨_,rfl⟩,q⟩) hs
def rIx (K:PySem.W.Frag):R2:=fun x y H Q=>rIxL K x y H Q\/rIxT K x y H Q\/rIxS x y H Q
theorem yhp:IxR X (rIx X.K):=ziV.or (ix_tup.or yho)
theorem zgH (its:List Value) (n j:Nat) (u:Value):Obj.mapSeq (·.setIfInBounds j u) { cls:=.type "list",data:=.seq its.toArray n }={ cls:=.type "list",data:=.seq (its.set j u).toArray n }:=by
 simp [Obj.mapSeq]
theorem Inv.lst {pins:List (Addr×Obj)} {σ:St} {H:Hp} {s:Shared} {p:Addr} {xs:List V} (I:Inv X pins σ H s) (h:H p=some (.lst xs)) :
  ∃ (its:List Value) (n:Nat),Vals xs its/\s.heap.get? p=some { cls:=.type "list",data:=.seq its.toArray n }/\xs.length<=sizeLine:=by
 obtain ⟨z,its,n,r,e⟩:=I.hok p _ h
 exact ⟨its,n,r,e,z⟩
theorem Inv.lstUpd {pins:List (Addr×Obj)} {σ:St} {H:Hp} {s:Shared} {p:Addr} {xs ys:List V} {its its':List Value} {n n':Nat} {f:Obj->Obj} (I:Inv X pins σ H s) (h:H p=some (.lst xs))
  (ho:s.heap.get? p=some { cls:=.type "list",data:=.seq its.toArray n }) (hf:f { cls:=.type "list",data:=.seq its.toArray n }={ cls:=.type "list",data:=.seq its'.toArray n' }) (r:Vals ys its') (hz:ys.length<=sizeLine) (t:Nat) :
  Inv X pins σ (upd H p (.lst ys)) { s with heap:=s.heap.update p f,toks:=t }:=by
 have e:(s.heap.update p f).get? p=some { cls:=.type "list",data:=.seq its'.toArray n' }:=by
  rw [Heap.get?_update_self f ho (by rw [hf]<;>rfl),hf]
 refine I.write (x:=p) (e:=p) (by rw [h];trivial) (.inl rfl) (fun b u hb q=>(Heap.get?_update_other _ _ (Ne.symm hb)).trans q) ⟨_,e⟩ ?_
 exact ⟨hz,its',n',r,e⟩
def yiF:V->V->V->Hp->(Hp->Prop)->Prop:=fun o i v H Q=>∃ p xs k j,o = .ref p/\i = .int k/\H p=some (.lst xs)/\ixN xs.length k=some j/\Q (upd H p (.lst (xs.set j v)))
theorem zhX:PSet X yiF:=by
 intro pins s σ H o i v ov iv u Q I ro ri rv h
 obtain ⟨p,xs,k,j,rfl,rfl,hp,hj,q⟩:=h
 cases ro
 obtain ⟨t,rfl⟩:=ri
 obtain ⟨its,n,r,ho,hz⟩:=I.lst hp
 obtain ⟨h1,h2,h3,h4⟩:=zfv hj
 have hl:=r.length
 have hn:=ydP
 have I':Inv X pins σ (upd H p (.lst (xs.set j v))) { s with heap:=s.heap.update p (Obj.mapSeq (·.setIfInBounds j u)) } :=
  I.lstUpd hp ho (zgH its n j u) (r.set rv j) (by rw [List.length_set];exact hz) s.toks
 by_cases h0:0<=k
 ·have hk:k.toNat=j:=by
   rw [seqIndex_of h0 h4] at h1;exact Option.some.inj h1
  exact PySem.W.ki_setAt ho h0 (by omega) (by rw [List.size_toArray,<- hl];exact h4) (by rw [hk];exact ⟨_,I',q⟩)
 ·have hk:(k+(its.toArray.size:Int)).toNat=j:=by
   rw [seqIndex_neg (by omega) h3] at h1
   rw [List.size_toArray,<- hl];exact Option.some.inj h1
  exact PySem.W.ki_setBack ho (by omega) (by rw [List.size_toArray,<- hl];exact h3) (by omega) (by rw [hk];exact ⟨_,I',q⟩)
theorem zeu (lo hi:Option Int) (n:Nat):(sliceBounds lo hi none n).1=((HT.sIx n 0 lo:Nat):Int)/\(sliceBounds lo hi none n).2.1=((HT.sIx n n hi:Nat):Int)/\(sliceBounds lo hi none n).2.2=1:=by
 refine ⟨?_,?_,rfl⟩
 ·cases lo with
  | none=>simp [sliceBounds,HT.sIx]
  | some i =>
   simp only [sliceBounds,HT.sIx,Option.getD_none,show (1:Int) > 0 by decide,if_true]
   by_cases h:i<0
   ·simp only [h,if_true]<;>omega
   ·simp only [h,if_false]<;>omega
 ·cases hi with
  | none=>simp [sliceBounds,HT.sIx]
  | some i =>
   simp only [sliceBounds,HT.sIx,Option.getD_none,show (1:Int) > 0 by decide,if_true]
   by_cases h:i<0
   ·simp only [h,if_true]<;>omega
   ·simp only [h,if_false]<;>omega
theorem zce (its:List Value) (lo hi:Option Int):slicePick its.toArray lo hi none=((its.drop (HT.sIx its.length 0 lo)).take (HT.sIx its.length its.length hi-HT.sIx its.length 0 lo)).toArray:=by
 obtain ⟨h1,h2,h3⟩:=zeu lo hi its.toArray.size
 unfold slicePick
 rw [h1,h2,h3];simp only [sliceRange_one,pick_run,List.size_toArray]<;>rfl
def rSlL (K:PySem.W.Frag):V->Option Int->Option Int->Hp->VK->Prop:=fun x lo hi H Q=>∃ a xs,x = .ref a/\SqL K H a xs/\∀ p,H p=none->Q (.ref p) (upd H p (.lst (cutV xs lo hi)))
theorem ziW:SlR X (rSlL X.K):=by
 intro pins s σ H x v vl vu lo hi sl Q I rx hs pl pu h
 obtain ⟨a,xs,rfl,hx,q⟩:=h
 cases rx
 obtain ⟨its,r,ht,hz⟩:=I.list hx
 have hlen:=r.length
 refine ⟨"list",_,slot_list_getitem.lookup,ht.isList.typeIs,?_⟩
 refine wpAny_getItem_list_slice ht.isList hs pl pu .none (by simp) ?_ (by rw [List.size_toArray]<;>omega)
 rw [zce,<- hlen];refine ⟨.ref s.heap.objs.size,_,I.laid (t' := s.toks) (o:=.lst (cutV xs lo hi)) (fun b ob q=>Heap.get?_push_of_some _ q) (Nat.le_refl _) ?_,rfl,q _ (I.hok.fresh (Nat.le_refl _))⟩
 exact ⟨Nat.le_trans (zcT xs lo hi) hz,_,0,(r.drop (HT.sIx xs.length 0 lo)).take (HT.sIx xs.length xs.length hi-HT.sIx xs.length 0 lo),Heap.get?_push_size _ rfl⟩
theorem zev:OpR X (compareOp .NotIn) (fun x y H Q=>∃ i j,x = .str i/\y = .str j/\Q (.bl (!(!(Builtin.Str.occurrences j i 0 j.length 1).isEmpty))) H):=by
 intro pins s σ H x y v u Q I rx ry h
 obtain ⟨i,j,rfl,rfl,q⟩:=h
 obtain ⟨t,rfl⟩:=rx
 obtain ⟨t',rfl⟩:=ry
 exact notIn_str ⟨.bl _,H,I,rfl,q⟩
theorem zew:CallR X (.builtin "len") (fun xs H Q=>∃ p ys,xs=[.ref p]/\(SqL X.K H p ys\/SqT X.K H p ys)/\Q (.int ys.length) H):=by
 intro pins s σ H xs us Q I r h
 obtain ⟨p,ys,rfl,hq,q⟩:=h
 obtain ⟨u,rfl,rx⟩:=ydu r
 cases rx
 have hn:=ydP
 rcases hq with hq | hq
 ·obtain ⟨its,r',pl,hz⟩:=I.list hq
  have hlen:=r'.length
  exact Calls.call_len_list pl.isList (by simp only [List.size_toArray]<;>omega) ⟨.int ys.length,H,I.tok _,⟨s.toks+1,by rw [List.size_toArray,hlen]⟩,q⟩
 ·obtain ⟨its,r',pl,hz⟩:=I.tuple hq
  have hlen:=r'.length
  exact len_tuple pl (by simp only [List.size_toArray]<;>omega) ⟨.int ys.length,H,I.tok _,⟨s.toks+1,by rw [List.size_toArray,hlen]⟩,q⟩
theorem zex:CallR X (.builtin "len") (fun xs H Q=>∃ z,xs=[.str z]/\z.length<=sizeLine/\Q (.int z.length) H):=by
 intro pins s σ H xs us Q I r h
 obtain ⟨z,rfl,hz,q⟩:=h
 obtain ⟨u,rfl,t,rfl⟩:=ydu r
 have hn:=ydP
 exact len_str (by omega) ⟨.int z.length,H,I.tok _,⟨_,rfl⟩,q⟩
theorem CallR.or {f:Value} {r r':List V->Hp->VK->Prop} (h:CallR X f r) (h':CallR X f r'):CallR X f (fun xs H Q=>r xs H Q\/r' xs H Q):=by
 intro pins s σ H xs us Q I rs q
 rcases q with q | q
 ·exact h pins s σ H xs us Q I rs q
 ·exact h' pins s σ H xs us Q I rs q
theorem zey:CallR X (.type "list") (fun xs H Q=>∃ p ys,xs=[.ref p]/\(SqL X.K H p ys\/SqT X.K H p ys)/\∀ l,H l=none->Q (.ref l) (upd H l (.lst ys))):=by
 intro pins s σ H xs us Q I r h
 obtain ⟨p,ys,rfl,hq,q⟩:=h
 obtain ⟨u,rfl,rx⟩:=ydu r
 cases rx
 have fin:∀ (its:List Value),Vals ys its->ys.length<=sizeLine->∀ (h':Heap) (c':Nat),(∀ b o',s.heap.get? b=some o'->h'.get? b=some o') ->
   h'.get? s.heap.objs.size=some { cls:=.type "list",dict:=none,data:=.seq its.toArray c',slots:=#[] }->EP X pins σ Q (.ref s.heap.objs.size) { s with heap:=h' }:=fun its r' hz h' c' kp e =>
  ⟨.ref s.heap.objs.size,_,I.laid (t' := s.toks) kp (Nat.le_refl _) (show ObjOk X.prog X.w _ h' _ (.lst ys) from ⟨hz,its,c',r',e⟩),rfl,q _ (I.hok.fresh (Nat.le_refl _))⟩
 rcases hq with hq | hq
 ·obtain ⟨its,r',pl,hz⟩:=I.list hq
  have hlen:=r'.length
  obtain ⟨o,ho,hc,n,hd⟩:=pl.isList
  exact call_list_seq p (.inl rfl) ho hc hd (fun h' c' kp e=>fin its r' hz h' c' kp e) (by simp only [List.size_toArray]<;>omega)
 ·obtain ⟨its,r',pl,hz⟩:=I.tuple hq
  have hlen:=r'.length
  obtain ⟨o,ho,hc,n,hd⟩:=pl
  exact call_list_seq p (.inr rfl) ho hc hd (fun h' c' kp e=>fin its r' hz h' c' kp e) (by simp only [List.size_toArray]<;>omega)
def tyV (K:PySem.W.Frag) (T:String) (x:V) (H:Hp):Prop:=match x with
 | .str _=>T = "str"
 | .int _=>T = "int"
 | .ref p=>(T = "list" /\ ∃ xs,SqL K H p xs)\/(T = "tuple" /\ ∃ o,K.lookup p=some o/\o.cls = .type "tuple" /\ o.dict=none) \/
   (T = "dict" /\ ((∃ kvs,H p=some (.dK kvs))\/∃ kvs,H p=some (.dT kvs)))\/(T = "set" /\ ∃ S n,H p=some (.set S n))
 | _=>False
theorem yfx {pins:List (Addr×Obj)} {σ:St} {H:Hp} {s:Shared} {T:String} {x:V} {v:Value} (I:Inv X pins σ H s) (r:RelV x v) (ty:tyV X.K T x H) :
  s.TypeIs v T/\∀ a,v = .ref a->∃ ob,s.heap.get? a=some ob/\ob.dict=none:=by
 cases x with
 | str z =>
  obtain ⟨t,rfl⟩:=r
  cases (show T = "str" from ty)
  exact ⟨typeIs_str s z t,fun _ e=>nomatch e⟩
 | int i =>
  obtain ⟨t,rfl⟩:=r
  cases (show T = "int" from ty)
  exact ⟨typeIs_int s i t,fun _ e=>nomatch e⟩
 | ref p =>
  cases r
  rcases ty with ⟨rfl,xs,hq⟩ | ⟨rfl,o,hk,hc,hd⟩ | ⟨rfl,hk⟩ | ⟨rfl,S,n,hk⟩
  ·obtain ⟨its,_,pl,_⟩:=I.list hq
   refine ⟨pl.isList.typeIs,fun a e=>?_⟩
   cases e
   obtain ⟨o,n,e,c,hd,_⟩:=pl
   exact ⟨o,e,hd⟩
  ·refine ⟨⟨o,I.kIn p o hk,hc⟩,fun a e=>?_⟩
   cases e
   exact ⟨o,I.kIn _ o hk,hd⟩
  ·have z:∃ o,s.heap.get? p=some o/\o.ExactDict:=by
    rcases hk with ⟨kvs,hk⟩ | ⟨kvs,hk⟩
    ·obtain ⟨_,_,_,_,o,_,_,e,ex,_⟩:=I.hok p _ hk
     exact ⟨o,e,ex⟩
    ·obtain ⟨_,_,_,_,o,_,_,e,ex,_⟩:=I.hok p _ hk
     exact ⟨o,e,ex⟩
   obtain ⟨o,e,ex⟩:=z
   refine ⟨⟨o,e,ex.1⟩,fun a e2=>?_⟩
   cases e2
   exact ⟨o,e,ex.2.1⟩
  ·obtain ⟨o,_,_,_,e,ex,_⟩:=I.hok p _ hk
   refine ⟨⟨o,e,ex.1⟩,fun a e2=>?_⟩
   cases e2
   exact ⟨o,e,ex.2.1⟩
 | _=>exact False.elim ty
def tBM0 (K:PySem.W.Frag) (T:String) (r:V->List V->Hp->VK->Prop) (to:TE):TE:=fun σ H Q=>to σ H fun x H1=>tyV K T x H1/\r x [] H1 Q
def tBM (K:PySem.W.Frag) (T:String) (r:V->List V->Hp->VK->Prop) (to:TE) (t:TA):TE:=fun σ H Q=>to σ H fun x H1=>tyV K T x H1/\t σ H1 fun xs H2=>r x xs H2 Q
variable {o e:Expr} {es:List Expr} {to:TE} {t:TA} {name:Str} {apos cpos:Pos} {T id:String} {r:V->List V->Hp->VK->Prop}
theorem yhq (pa:PlainAttrs T) (slot:Slot T name id) (hty:typeOf (.builtin id)=pure (.type "method_descriptor")) (hm:MtR X id r) (ho:PE X o to)
  (hbase:attributeBase o name X.env (eval o X.env)=eval o X.env:=by rfl) (hline:(apos.endLine == cpos.line)=true:=by rfl):PE X (.Call (.Attribute o name apos) [] [] cpos) (tBM0 X.K T r to):=by
 intro pins s σ H Q I h
 refine wpAny_Call_method0_late hbase hline (thn (ho pins s σ H _ I h) fun v s1 ⟨x,H1,I1,r1,ty,q1⟩=>?_)
 obtain ⟨h1,h2⟩:=yfx I1 r1 ty
 exact ⟨T,id,pa,slot,hty,h1,h2,Calls.callWith_builtin rfl (PySem.evalArgs_none (hm pins s1 σ H1 x [] v [] Q I1 r1 .nil q1))⟩
theorem yiG (pa:PlainAttrs T) (slot:Slot T name id) (hty:typeOf (.builtin id)=pure (.type "method_descriptor")) (hm:MtR X id r) (ho:PE X o to) (ha:PA X (e::es) t)
  (hbase:attributeBase o name X.env (eval o X.env)=eval o X.env:=by rfl)
  (hfew:((backTo cpos (starEach (e::es) X.env)).all (fun x=>!x.1) && (backToKw cpos (keywordEach [] X.env)).all (fun x=>x.1.isSome)
   && decide ((e::es).length+([]:List Keyword).length+(if ([]:List Keyword).isEmpty then 0 else 1)<30))=true:=by rfl)
  (hline:(apos.endLine == cpos.line)=true:=by rfl) (hs:starEach (e::es) X.env=(false,eval e X.env)::starEach es X.env:=by rfl) (hplain:(backTo cpos (starEach es X.env)).any (·.1)=false:=by rfl) :
  PE X (.Call (.Attribute o name apos) (e::es) [] cpos) (tBM X.K T r to t):=by
 intro pins s σ H Q I h
 refine wpAny_Call_method_late hbase hfew hline rfl (thn (ho pins s σ H _ I h) fun v s1 ⟨x,H1,I1,r1,ty,q1⟩=>?_)
 obtain ⟨h1,h2⟩:=yfx I1 r1 ty
 refine ⟨T,id,pa,slot,hty,h1,h2,?_⟩
 have hA:=ha cpos pins s1 σ H1 _ I1 q1
 rw [hs] at hA ⊢;refine Calls.callWith_builtin (by show (false || (backTo cpos (starEach es X.env)).any (·.1))=false;rw [hplain]<;>rfl) (Calls.evalArgs_plain ?_)
 exact thn hA fun us s2 ⟨vs,H2,I2,r2,q2⟩=>hm pins s2 σ H2 x vs v us Q I2 r1 r2 q2
end
end L2
namespace L2
open PySem PySem.Spec PyProof.Rows
def MtM (X:Cx) (id:String) (r:V->List V->Hp->VK->Prop):Prop :=
 ∀ (pins:List (Addr×Obj)) (s:Shared) (σ:St) (H:Hp) (x:V) (xs:List V) (v:Value) (us:List Value) (Q:VK),Inv X pins σ H s->RelV x v->Vals xs us->r x xs H Q ->
  wpAny (model X.prog X.w) X.A (call (.builtin id) (v::us)) (EP X pins σ Q) X.xe s
theorem Vals.one:∀ {x:V} {us:List Value},Vals [x] us->∃ u,us=[u]/\RelV x u
 | _,_,.cons r .nil=>⟨_,rfl,r⟩
theorem Vals.zero:∀ {us:List Value},Vals [] us->us=[]
 | _,.nil=>rfl
theorem Vals.dropLast {xs:List V} {us:List Value} (h:Vals xs us):Vals xs.dropLast us.dropLast:=by
 induction h with
 | nil=>exact .nil
 | cons r t ih =>
  cases t with
  | nil=>exact .nil
  | cons q t' => exact .cons r ih
theorem Vals.reverse {xs:List V} {us:List Value} (h:Vals xs us):Vals xs.reverse us.reverse:=by
 induction h with
 | nil=>exact .nil
 | cons r t ih=>rw [List.reverse_cons,List.reverse_cons];exact Vals.append ih (.cons r .nil)
theorem zgI {α:Type} (l:List α):l.eraseIdx (l.length-1)=l.dropLast:=by
 induction l with
 | nil=>rfl
 | cons a r ih =>
  cases r with
  | nil=>rfl
  | cons b r =>
   have e:(a::b::r).length-1=((b::r).length-1)+1:=by
    have h1:(a::b::r).length=r.length+2:=rfl
    have h2:(b::r).length=r.length+1:=rfl
    omega
   rw [e,List.eraseIdx_cons_succ,ih];all_goals rfl
section
variable {X:Cx} {pins:List (Addr×Obj)} {σ:St} {H:Hp} {s:Shared} {l b:Addr} {xs ys zs:List V}
theorem Inv.lset {its its':List Value} {n:Nat} {f:Array Value->Array Value} {t':Nat} (I:Inv X pins σ H s) (hH:H l=some (.lst xs))
  (e:s.heap.get? l=some { cls:=.type "list",data:=.seq its.toArray n }) (hf:f its.toArray=its'.toArray) (hv:Vals ys its') (hz:ys.length<=sizeLine) :
  Inv X pins σ (upd H l (.lst ys)) { s with heap:=s.heap.update l (Obj.mapSeq f),toks:=t' }:=by
 have q:=PySem.IsL.update e f
 rw [hf] at q;refine I.write (x:=l) (e:=l) (by rw [hH];exact trivial) (.inl rfl) (fun b' u hb hu=>(Heap.get?_update_other s.heap (Obj.mapSeq f) (Ne.symm hb)).trans hu) ⟨_,q⟩ ?_
 exact ⟨hz,its',_,hv,q⟩
theorem Inv.lnew {its:List Value} {t':Nat} (I:Inv X pins σ H s) (hv:Vals ys its) (hz:ys.length<=sizeLine) :
  Inv X pins σ (upd H s.heap.objs.size (.lst ys)) { s with heap:=s.heap.push { cls:=.type "list",data:=.seq its.toArray },toks:=t' } :=
 I.laid (fun _ _ q=>Heap.get?_push_of_some _ q) (Nat.le_refl _) ⟨hz,its,0,hv,Heap.get?_push_size _ rfl⟩
theorem Inv.fresh (I:Inv X pins σ H s):H s.heap.objs.size=none:=I.hok.fresh (Nat.le_refl _)
theorem Inv.lstM (I:Inv X pins σ H s) (hH:H l=some (.lst xs)):xs.length<=sizeLine/\∃ (its:List Value) (n:Nat),Vals xs its/\xs.length=its.length/\s.heap.get? l=some { cls:=.type "list",data:=.seq its.toArray n }:=by
 obtain ⟨z,its,n,r,e⟩:=I.hok l _ hH
 exact ⟨z,its,n,r,r.length,e⟩
end
section
variable {X:Cx}
def ygR:V->List V->Hp->VK->Prop:=fun x vs H Q=>∃ l xs y,x = .ref l/\vs=[y]/\H l=some (.lst xs)/\xs.length<sizeLine/\Q .non (upd H l (.lst (xs++[y])))
theorem zd8:MtM X "list.append" ygR:=by
 intro pins s σ H x vs v us Q I rx rv h
 obtain ⟨l,xs,y,rfl,rfl,hH,hz,q⟩:=h
 cases rx
 obtain ⟨u,rfl,ru⟩:=rv.one
 obtain ⟨z,its,n,r,hl,e⟩:=I.lstM hH
 refine call_meets F.slot_list_append ⟨_,e,rfl⟩ F.entry_list_append (F.args_list_append_2 _ _) (PySem.list_append l its.toArray n u (by rw [List.size_toArray];omega)) ⟨e,?_⟩
 refine ⟨.non,_,I.lset (its' := its++[u]) hH e (by simp) (r.append (.cons ru .nil)) ?_,rfl,q⟩
 rw [List.length_append,List.length_singleton];omega
def rPop:V->List V->Hp->VK->Prop:=fun x vs H Q=>∃ l xs y,x = .ref l/\vs=[]/\H l=some (.lst xs)/\xs[xs.length-1]? = some y/\Q y (upd H l (.lst xs.dropLast))
theorem yhr:MtM X "list.pop" rPop:=by
 intro pins s σ H x vs v us Q I rx rv h
 obtain ⟨l,xs,y,rfl,rfl,hH,hy,q⟩:=h
 cases rx
 have hus:=rv.zero
 subst hus;obtain ⟨z,its,n,r,hl,e⟩:=I.lstM hH
 obtain ⟨u,hu,ru⟩:=r.get hy
 have hy':its.toArray[its.toArray.size-1]? = some u:=by
  show its.toArray[its.length-1]? = some u
  rw [<- Array.getElem?_toList,<- hl];exact hu
 refine call_meets F.slot_list_pop ⟨_,e,rfl⟩ F.entry_list_pop (F.args_list_pop_1 _) (MeetsSeq.list_pop_last l its.toArray n u hy' (by rw [List.size_toArray];omega)) ⟨e,?_⟩
 refine ⟨y,_,I.lset (its' := its.dropLast) hH e ?_ r.dropLast ?_,ru,q⟩
 ·show its.toArray.eraseIdxIfInBounds (its.toArray.size-1)=its.dropLast.toArray
  rw [List.size_toArray,List.eraseIdxIfInBounds_toArray,zgI]
 ·rw [List.length_dropLast]
  omega
end
section
variable {prog:Program} {w:World} {A:Around} {E:Value->Shared->Prop} {s:Shared}
end
section
variable {X:Cx}
end
end L2
namespace L2
open PySem PySem.Spec PyProof.Rows
section
variable {κ:Type} [DecidableEq κ]
def valV (kvs:List (κ×V)) (k:κ):Option V:=(kvs.find? fun kv=>decide (kv.1=k)).map (·.2)
def putK (kvs:List (κ×V)) (k:κ) (v:V):List (κ×V) :=
 if (kvs.any fun kv=>decide (kv.1=k))=true then kvs.map (fun kv=>if kv.1=k then (kv.1,v) else kv) else kvs++[(k,v)]
theorem zbX {p:κ×V} {r:List (κ×V)} {k:κ} (e:p.1=k):valV (p::r) k=some p.2:=by simp [valV,List.find?_cons,e]
theorem zbv {p:κ×V} {r:List (κ×V)} {k:κ} (e : ¬ p.1=k):valV (p::r) k=valV r k:=by simp [valV,List.find?_cons,e]
theorem zc7 (k:κ):∀ kvs:List (κ×V),(kvs.any fun kv=>decide (kv.1=k))=(valV kvs k).isSome
 | []=>rfl
 | p::r=>by
  rw [List.any_cons];by_cases e:p.1=k
  ·simp only [zbX e,decide_eq_true e,Bool.true_or,Option.isSome_some]
  ·rw [zbv e,decide_eq_false e,Bool.false_or];exact zc7 k r
theorem zcU (kvs:List (κ×V)) (k:κ) (v:V):(putK kvs k v).length<=kvs.length+1:=by
 unfold putK
 split
 ·rw [List.length_map];omega
 ·rw [List.length_append,List.length_cons,List.length_nil];omega
theorem RelO.isSome_eq {o:Option V} {u:Option Value} (r:RelO o u):o.isSome=u.isSome:=by
 cases o with
 | none=>cases u with
  | none=>rfl
  | some _=>exact (show False from r).elim
 | some _=>cases u with
  | none=>exact (show False from r).elim
  | some _=>rfl
theorem KV.val {kvs:List (κ×V)} {vs:List (κ×Value)} (r:KV kvs vs) (k:κ):RelO (valV kvs k) (valueAt vs k):=by
 unfold KV at r
 induction r with
 | nil=>exact True.intro
 | @cons p q ps qs h t ih =>
  obtain ⟨h1,h2⟩:=h
  by_cases e:p.1=k
  ·have e':q.1=k:=h1.symm.trans e
   have b:valueAt (q::qs) k=some q.2:=by simp [valueAt,List.find?_cons,e']
   rw [zbX e,b];exact h2
  ·have e' : ¬ q.1=k:=fun z=>e (h1.trans z)
   have b:valueAt (q::qs) k=valueAt qs k:=by simp [valueAt,List.find?_cons,e']
   rw [zbv e,b];exact ih
theorem KV.any {kvs:List (κ×V)} {vs:List (κ×Value)} (r:KV kvs vs) (k:κ):(kvs.any fun kv=>decide (kv.1=k))=vs.any fun kv=>decide (kv.1=k):=by
 unfold KV at r
 induction r with
 | nil=>rfl
 | cons h t ih=>rw [List.any_cons,List.any_cons,ih,h.1]
theorem KV.repl {kvs:List (κ×V)} {vs:List (κ×Value)} (r:KV kvs vs) (k:κ) {y:V} {u:Value} (ry:RelV y u) :
  KV (kvs.map fun kv=>if kv.1=k then (kv.1,y) else kv) (vs.map fun kv=>if kv.1=k then (kv.1,u) else kv):=by
 unfold KV at r ⊢
 induction r with
 | nil=>exact .nil
 | @cons p q ps qs h t ih =>
  rw [List.map_cons,List.map_cons];refine .cons ?_ ih
  obtain ⟨h1,h2⟩:=h
  by_cases e:p.1=k
  ·rw [if_pos e,if_pos (h1.symm.trans e)];exact ⟨h1,ry⟩
  ·rw [if_neg e,if_neg (fun z=>e (h1.trans z))];exact ⟨h1,h2⟩
theorem KV.put {kvs:List (κ×V)} {vs:List (κ×Value)} (r:KV kvs vs) (k:κ) {y:V} {u:Value} (ry:RelV y u):KV (putK kvs k y) (stored vs k u):=by
 unfold putK stored
 rw [r.any k];by_cases e:(vs.any fun kv=>decide (kv.1=k))=true
 ·rw [if_pos e,if_pos e];exact r.repl k ry
 ·rw [if_neg e,if_neg e];exact Paired.snoc r ⟨rfl,ry⟩
theorem KV.length {kvs:List (κ×V)} {vs:List (κ×Value)} (r:KV kvs vs):kvs.length=vs.length:=Paired.length r
end
theorem yfh {P:Program} {w:World} {k:Key} {u:Value} (r:RelV (kV k) u):(ybx P w).is k u=true:=by
 cases k with
 | inl i=>obtain ⟨t,e⟩:=(show ∃ t,u=Value.int i t from r);subst e;exact zcQ P w i t
 | inr x=>obtain ⟨t,e⟩:=(show ∃ t,u=Value.str x t from r);subst e;exact zcR P w x t
theorem yhs {P:Program} {w:World} {y:V} {k:Key} {u:Value} (e:kOf y=some k) (r:RelV y u):(ybx P w).is k u=true:=by
 cases y with
 | int i=>cases e;obtain ⟨t,e⟩:=(show ∃ t,u=Value.int i t from r);subst e;exact zcQ P w i t
 | str x=>cases e;obtain ⟨t,e⟩:=(show ∃ t,u=Value.str x t from r);subst e;exact zcR P w x t
 | bl b=>cases e;cases (show u=Value.bool b from r);exact decide_eq_true rfl
 | _=>cases e
theorem zd9 {P:Program} {w:World}:∀ {ys:List V} {ks:List Key} {us:List Value},ys.map kOf=ks.map some->Vals ys us->ItemsAre (ybx P w) ks us
 | [],[],_,_,r=>by cases r;exact .nil
 | [],_::_,_,e,_=>by simp at e
 | _::_,[],_,e,_=>by simp at e
 | y::ys,k::ks,_,e,r=>by
  rw [List.map_cons,List.map_cons] at e;injection e with e1 e2
  cases r with
  | cons h t=>exact .cons (yhs e1 h) (zd9 e2 t)
def KTup (H:Hp) (b:Addr) (k:List Key):Prop:=∃ ys,H b=some (.tup ys)/\ys.map kOf=k.map some
theorem KTup.of {H:Hp} {b:Addr} {k:List Key} (e:H b=some (.tup (k.map kV))):KTup H b k:=⟨_,e,by rw [List.map_map];exact List.map_congr_left fun x _=>ygV x⟩
abbrev KT (H:Hp):List (List Key×V)->List (List Key×Addr×Value)->Prop:=Paired fun p q=>p.1=q.1/\(∃ ys,H q.2.1=some (.tup ys)/\ys.map kOf=p.1.map some)/\RelV p.2 q.2.2
theorem KT.val {H:Hp} {kvs:List (List Key×V)} {xs:List (List Key×Addr×Value)} (r:KT H kvs xs) (k:List Key):RelO (valV kvs k) ((atKey xs k).map (·.2)):=by
 induction r with
 | nil=>exact True.intro
 | @cons p q ps qs h t ih =>
  obtain ⟨h1,_,h2⟩:=h
  by_cases e:p.1=k
  ·have e':q.1=k:=h1.symm.trans e
   have b:atKey (q::qs) k=some q.2:=by simp [atKey,List.find?_cons,e']
   rw [zbX e,b];exact h2
  ·have e' : ¬ q.1=k:=fun z=>e (h1.trans z)
   have b:atKey (q::qs) k=atKey qs k:=by simp [atKey,List.find?_cons,e']
   rw [zbv e,b];exact ih
theorem KT.repl {H:Hp} {kvs:List (List Key×V)} {xs:List (List Key×Addr×Value)} (r:KT H kvs xs) (k:List Key) {y:V} {u:Value} (ry:RelV y u) :
  KT H (kvs.map fun kv=>if kv.1=k then (kv.1,y) else kv) (xs.map (putAt k u)):=by
 induction r with
 | nil=>exact .nil
 | @cons p q ps qs h t ih =>
  rw [List.map_cons,List.map_cons];refine .cons ?_ ih
  obtain ⟨h1,h2,h3⟩:=h
  unfold putAt
  by_cases e:p.1=k
  ·rw [if_pos e,if_pos (h1.symm.trans e)];exact ⟨h1,h2,ry⟩
  ·rw [if_neg e,if_neg (fun z=>e (h1.trans z))];exact ⟨h1,h2,h3⟩
theorem KT.put {H:Hp} {kvs:List (List Key×V)} {xs:List (List Key×Addr×Value)} (r:KT H kvs xs) (k:List Key) {b:Addr} {y:V} {u:Value} (hb:KTup H b k) (ry:RelV y u) :
  KT H (putK kvs k y) (storedH xs k b u):=by
 have e:(kvs.any fun kv=>decide (kv.1=k))=(atKey xs k).isSome:=by
  rw [zc7,(r.val k).isSome_eq,Option.isSome_map]
 unfold putK storedH
 rw [e];by_cases q:(atKey xs k).isSome=true
 ·rw [if_pos q,if_pos q];exact r.repl k ry
 ·rw [if_neg q,if_neg q];exact Paired.snoc r ⟨rfl,hb,ry⟩
theorem KT.keeps {H H':Hp} {kvs:List (List Key×V)} {xs:List (List Key×Addr×Value)} (r:KT H kvs xs) (ht:∀ b ys,H b=some (.tup ys)->H' b=some (.tup ys)):KT H' kvs xs :=
 Paired.mapP r fun _ _ z=>⟨z.1,z.2.1.imp fun _ e=>⟨ht _ _ e.1,e.2⟩,z.2.2⟩
section
variable {P:Program} {w:World} {H:Hp} {h:Heap} {a:Addr}
theorem ygk {u:HO} (ok:HOk P w H h) (e:Rd H a u):ObjOk P w H h a u:=e.ok ok
theorem yeo {kvs:List (Key×V)} (ok:HOk P w H h) (e:Rd H a (.dK kvs)):kvs.length<=sizeLine/\(a == sysModules)=false/\∃ vs,KV kvs vs/\h.DictOf (ybx P w) a vs :=
 show ObjOk P w H h a (.dK kvs) from ygk ok e
theorem yiH {kvs:List (Key×V)} (ok:HOk P w H h) (e:H a=some (.dK kvs)):kvs.length<=sizeLine/\(a == sysModules)=false/\∃ vs,KV kvs vs/\h.DictOf (ybx P w) a vs:=yeo ok (.inl e)
theorem yep {ks:List Key} (ok:HOk P w H h) (e:KTup H a ks):(tupleKind (ybx P w)).is h ks a:=by
 obtain ⟨ys,e,ek⟩:=e
 obtain ⟨_,its,r,o,h1,h2,n,h3⟩:=(show ObjOk P w H h a (.tup ys) from ok a _ e)
 exact ⟨o,its.toArray,n,h1,h2,h3,by simpa using zd9 ek r⟩
theorem yeN {kvs:List (List Key×V)} (ok:HOk P w H h) (e:Rd H a (.dT kvs)):kvs.length<=sizeLine/\(a == sysModules)=false /\
  ∃ xs,KT H kvs xs/\h.DictOfH (tupleKind (ybx P w)) a xs:=by
 obtain ⟨z,y,xs,r,o,es,ep,h1,h2,h3,h4,h5⟩:=(show ObjOk P w H h a (.dT kvs) from ygk ok e)
 refine ⟨z,y,xs,r,o,es,ep,h1,h2,h3,h4,fun x hx=>?_,h5⟩
 have all:∀ {l:List (List Key×V)} {m:List (List Key×Addr×Value)},KT H l m->∀ x∈m,(tupleKind (ybx P w)).is h x.1 x.2.1:=by
  intro l m q
  induction q with
  | nil=>intro x hx;exact nomatch hx
  | @cons p q ps qs hq t ih =>
   intro x hx
   rcases List.mem_cons.mp hx with e | hx
   ·subst e
    exact yep ok (by rw [<- hq.1];exact hq.2.1)
   ·exact ih x hx
 exact all r x hx
theorem yiI {kvs:List (List Key×V)} (ok:HOk P w H h) (e:H a=some (.dT kvs)):kvs.length<=sizeLine/\(a == sysModules)=false /\
  ∃ xs,KT H kvs xs/\h.DictOfH (tupleKind (ybx P w)) a xs:=yeN ok (.inl e)
end
def DGet (H:Hp) (a:Addr) (y:V) (r:Option V):Prop :=
 (∃ kvs k,Rd H a (.dK kvs)/\y=kV k/\r=valV kvs k)\/∃ kvs k b,Rd H a (.dT kvs)/\y = .ref b/\KTup H b k/\r=valV kvs k
def DPut (H:Hp) (a:Addr) (y v:V) (H':Hp):Prop :=
 (∃ kvs k,H a=some (.dK kvs)/\y=kV k/\kvs.length<sizeLine/\H'=upd H a (.dK (putK kvs k v))) \/
 ∃ kvs k b,H a=some (.dT kvs)/\y = .ref b/\KTup H b k/\kvs.length<sizeLine/\H'=upd H a (.dT (putK kvs k v))
theorem DGet.k {H:Hp} {a:Addr} {kvs:List (Key×V)} {k:Key} (e:H a=some (.dK kvs)):DGet H a (kV k) (valV kvs k):=.inl ⟨kvs,k,.inl e,rfl,rfl⟩
theorem DGet.t {H:Hp} {a b:Addr} {kvs:List (List Key×V)} {k:List Key} (e:H a=some (.dT kvs)) (eb:KTup H b k):DGet H a (.ref b) (valV kvs k):=.inr ⟨kvs,k,b,.inl e,rfl,eb,rfl⟩
theorem DPut.k {H:Hp} {a:Addr} {kvs:List (Key×V)} {k:Key} {v:V} (e:H a=some (.dK kvs)) (hl:kvs.length<sizeLine):DPut H a (kV k) v (upd H a (.dK (putK kvs k v))):=.inl ⟨kvs,k,e,rfl,hl,rfl⟩
theorem DPut.t {H:Hp} {a b:Addr} {kvs:List (List Key×V)} {k:List Key} {v:V} (e:H a=some (.dT kvs)) (eb:KTup H b k) (hl:kvs.length<sizeLine) :
  DPut H a (.ref b) v (upd H a (.dT (putK kvs k v))):=.inr ⟨kvs,k,b,e,rfl,eb,hl,rfl⟩
section
variable {X:Cx} {pins:List (Addr×Obj)} {σ:St} {H:Hp} {s:Shared} {a:Addr} {y v:V} {u r:Value} {o:Option V} {A:Around} {E:Value->Shared->Prop}
theorem Inv.big (I:Inv X pins σ H s):sysModules<s.heap.objs.size:=by
 have h:mainGlobals<s.heap.objs.size:=(I.mod.glob.keeps I.bk).lt
 exact Nat.lt_trans (by decide) h
theorem zhf {Q:Value->Shared->Prop} (hu:A.units+1<cLine) (I:Inv X pins σ H s) (g:DGet H a y (some v)) (ry:RelV y u) (h:∀ w' s',Inv X pins σ H s'->RelV v w'->Q w' s') :
  wpAny (model X.prog X.w) A (getItem (.ref a) u) Q E s:=by
 rcases g with ⟨kvs,k,e,ey,l⟩ | ⟨kvs,k,b,e,ey,eb,l⟩
 ·subst ey
  obtain ⟨z,hd,vs,rel,dd⟩:=yeo I.hok e
  obtain ⟨w',hw,rw'⟩:=RelO.some_of (v:=v) (o:=valueAt vs k) (by rw [l];exact rel.val k)
  exact wpAny_getItem_of (yfh ry) dd.mapOf hw (h w' _ (I.tok _) rw')
 ·subst ey
  cases (show u=Value.ref b from ry)
  obtain ⟨z,hd,xs,rel,dd⟩:=yeN I.hok e
  obtain ⟨w',hw,rw'⟩:=RelO.some_of (v:=v) (o:=(atKey xs k).map (·.2)) (by rw [l];exact rel.val k)
  obtain ⟨p,hp,hp2⟩:=Option.map_eq_some_iff.mp hw
  refine wpAny_getItem_heap (tupleKind_room_in1 hu) (yep I.hok eb) dd hp ?_
  rw [hp2];exact h w' _ (I.tok _) rw'
theorem ziX {Q:Value->Shared->Prop} (hu:A.units+1<cLine) (I:Inv X pins σ H s) (g:DGet H a y o) (ry:RelV y u) (h:∀ s',Inv X pins σ H s'->Q (.bool (!o.isSome)) s') :
  wpAny (model X.prog X.w) A (compareOp .NotIn u (.ref a)) Q E s:=by
 rcases g with ⟨kvs,k,e,ey,l⟩ | ⟨kvs,k,b,e,ey,eb,l⟩
 ·subst ey
  obtain ⟨z,hd,vs,rel,dd⟩:=yeo I.hok e
  refine wpAny_notIn_of (yfh ry) hd dd.mapOf ?_
  rw [<- (rel.val k).isSome_eq,<- l];exact h _ (I.tok _)
 ·subst ey
  cases (show u=Value.ref b from ry)
  obtain ⟨z,hd,xs,rel,dd⟩:=yeN I.hok e
  refine wpAny_notIn_heap (tupleKind_room_in1 hu) (yep I.hok eb) hd dd ?_
  have q:=(rel.val k).isSome_eq
  rw [Option.isSome_map] at q;rw [<- q,<- l];exact h _ (I.tok _)
theorem zfw {h':Heap} {t':Nat} {ob:HO} (I:Inv X pins σ H s) (mu:Mut (H a)) (hs:Heap.SameBut a s.heap h') (he:∃ q,h'.get? a=some q) (new:ObjOk X.prog X.w (upd H a ob) h' a ob) :
  Inv X pins σ (upd H a ob) { s with heap:=h',toks:=t' } :=
 I.write (x:=a) (e:=a) mu (.inl rfl) (fun b q hb z=>(hs.2 b hb).trans z) he new
theorem yht {P:Program} {w:World} {H':Hp} {h':Heap} {kvs:List (Key×V)} {vs:List (Key×Value)} (z:kvs.length<=sizeLine) (hd:(a == sysModules)=false) (rel:KV kvs vs) (dd:h'.DictOf (ybx P w) a vs) :
  ObjOk P w H' h' a (.dK kvs):=⟨z,hd,vs,rel,dd⟩
theorem zhg {H':Hp} {Q:Unit->Shared->Prop} (hu:A.units+1<cLine) (I:Inv X pins σ H s) (g:DPut H a y v H') (ry:RelV y u) (rv:RelV v r) (h:∀ s',Inv X pins σ H' s'->Q () s') :
  wpAny (model X.prog X.w) A (setItem (.ref a) u r) Q E s:=by
 rcases g with ⟨kvs,k,e,ey,l,eH⟩ | ⟨kvs,k,b,e,ey,eb,l,eH⟩
 ·subst ey eH
  obtain ⟨z,hd,vs,rel,dd⟩:=yiH I.hok e
  have hz:vs.length<=sizeLine:=by rw [<- rel.length];exact z
  have hl:(putK kvs k v).length<=sizeLine:=by have:=zcU kvs k v;omega
  refine wpAny_setItem_pairs (hsz:=hz) (yfh ry) dd fun h' dd' hs=>h _ ?_
  have he:∃ q,h'.get? a=some q:=let ⟨q,_,_,hq,_⟩:=dd';⟨q,hq⟩
  exact zfw I (by rw [e];exact True.intro) hs he (yht hl hd (rel.put k rv) dd')
 ·subst ey eH
  cases (show u=Value.ref b from ry)
  obtain ⟨z,hd,xs,rel,dd⟩:=yiI I.hok e
  have hz:xs.length<=sizeLine:=by rw [<- Paired.length rel];exact z
  have hl:(putK kvs k v).length<=sizeLine:=by have:=zcU kvs k v;omega
  refine wpAny_setItem_heap (hsz:=hz) (tupleKind_room_in1 hu) (yep I.hok eb) dd fun h' dd' hs=>h _ ?_
  obtain ⟨q,es,ep,hq,h2,h3,h4,_,h5⟩:=dd'
  refine zfw I (by rw [e];exact True.intro) hs ⟨q,hq⟩ ⟨hl,hd,_,(rel.put k eb rv).keeps fun c ys ec=>?_,q,es,ep,hq,h2,h3,h4,h5⟩
  rw [yaC (yim ec e (fun z=>nomatch z))];exact ec
end
section
variable {X:Cx} {pins:List (Addr×Obj)} {σ:St} {H:Hp} {s:Shared} {a:Addr} {kvs:List (Key×V)} {k:Key} {u:Value} {A:Around} {E:Value->Shared->Prop}
theorem yiJ {Q:Value->Shared->Prop} (I:Inv X pins σ H s) (e:Rd H a (.dK kvs)) (h:∀ t s',Inv X pins σ H s'->Q (.int kvs.length t) s'):wpAny (model X.prog X.w) A (call (.builtin "len") [.ref a]) Q E s:=by
 obtain ⟨z,hd,vs,rel,dd⟩:=yeo I.hok e
 refine call_len_dict hd dd (by rw [<- rel.length];rw [sizeLine_eq] at z;omega) ?_
 rw [<- rel.length];exact h _ _ (I.tok _)
end
def NoSl (i:Expr):Prop:=∀ ov iv,subscripted i false ov iv=operate [ov,iv] (getItem ov iv)
theorem ziY {prog:Program} {w:World} {A:Around} {E:Value->Shared->Prop} {s:Shared} {env:Env} {value slice:Expr} {pos:Pos} {T id:String} {Q:Value->Shared->Prop}
  (hl:typeLookup (.type T) "__getitem__" = pure (some (.builtin id))) (hs:NoSl slice)
  (h:wpAny (model prog w) A (eval value env) (fun o s₁=>wpAny (model prog w) A (eval slice env) (fun i s₂=>s₂.TypeIs o T/\wpAny (model prog w) A (getItem o i) Q E s₂) E s₁) E s) :
  wpAny (model prog w) A (eval (.Subscript value slice pos) env) Q E s:=by
 refine Subscript_ (wpAny_mono h (fun o s₁ h₁=>wpAny_mono h₁ (fun i s₂ h₂=>?_) fun _ _ x=>x) fun _ _ x=>x)
 obtain ⟨hT,h₂⟩:=h₂
 unfold subscriptTail
 refine wpAny_bind ?_
 rw [getitemInPython_of_ne hT.not_modules];refine wpAny_bind (wpAny_specialOf hT hl ?_)
 have fin:wpAny (model prog w) A (subscripted slice false o i) (fun r s₃=>wpAny (model prog w) A (letTemporaryGo value o r >>= fun _=>pure r) Q E s₃) E s₂:=by
  rw [hs o i];exact wpAny_operating (wpAny_mono h₂ (fun r s₃ h₃=>wpAny_bind (wpAny_letTemporaryGo (wpAny_pure h₃))) fun _ _ x=>x)
 first
  | exact wpAny_pure (wpAny_bind fin)
  | exact wpAny_bind (wpAny_pure (wpAny_bind fin))
  | exact wpAny_bind fin
theorem ze8 {X:Cx} {pins:List (Addr×Obj)} {σ:St} {H:Hp} {s:Shared} {a:Addr} {y:V} {o:Option V} (I:Inv X pins σ H s) (g:DGet H a y o):s.TypeIs (.ref a) "dict" := by
 rcases g with ⟨kvs,k,e,_,_⟩ | ⟨kvs,k,b,e,_,_,_⟩
 ·obtain ⟨_,_,vs,_,dd⟩:=yeo I.hok e
  exact dd.typeIs
 ·obtain ⟨_,_,xs,_,dd⟩:=yeN I.hok e
  exact dd.typeIs
def yiK (td ty:TE):TE:=fun σ H Q=>td σ H fun x H1=>ty σ H1 fun y H2=>∃ a v,x = .ref a/\DGet H2 a y (some v)/\Q v H2
def yiL (td ty tv:TE):TS:=fun D σ H=>tv σ H fun v H1=>td σ H1 fun x H2=>ty σ H2 fun y H3=>∃ a H4,x = .ref a/\DPut H3 a y v H4/\D.nx σ H4
section
variable {X:Cx} {o i e value:Expr} {pos pos' tpos:Pos} {td ty tv:TE}
theorem ziZ (hu:X.A.units+1<cLine) (ho:PE X o td) (hi:PE X i ty) (hs:NoSl i):PE X (.Subscript o i pos) (yiK td ty):=by
 intro pins s σ H Q I h
 refine ziY PySem.F.slot_dict_getitem.lookup hs (thn (ho pins s σ H _ I h) fun u s1 ⟨x,H1,I1,rx,q1⟩=>thn (hi pins s1 σ H1 _ I1 q1) fun iv s2 ⟨y,H2,I2,ry,a,v,ex,g,q2⟩=>?_)
 subst ex;obtain rfl:u=Value.ref a:=rx
 exact ⟨ze8 I2 g,zhf hu I2 g ry fun w' s3 I3 rw' => ⟨v,H2,I3,rw',q2⟩⟩
theorem zi0 (hu:X.A.units+1<cLine) (ho:PE X o td) (hi:PE X i ty) (hv:PE X value tv) (hs:swapsWith value (some (.Subscript o i pos')) pos.line X.env=pure false) :
  PS X (.Assign [.Subscript o i pos'] value pos) (yiL td ty tv):=by
 intro pins s σ H D I h
 refine wpAny_Assign_Subscript (thn (hv pins s σ H _ I h) fun r s1 ⟨v,H1,I1,rv,q1⟩=>thn (ho pins s1 σ H1 _ I1 q1) fun u s2 ⟨x,H2,I2,rx,q2⟩=>thn (hi pins s2 σ H2 _ I2 q2) fun iv s3 ⟨y,H3,I3,ry,a,H4,ex,g,q3⟩=>?_) hs
 subst ex;obtain rfl:u=Value.ref a:=rx
 exact zhg hu I3 g ry rv fun s4 I4=>⟨σ,H4,I4,q3⟩
end
theorem zhY {P:Program} {w:World} {H:Hp} (h:Heap) (hb:sysModules<h.objs.size):ObjOk P w H (h.push { cls:=.type "dict",data:=.dict #[] }) h.objs.size (.dT []) :=
 ⟨Nat.zero_le _,beq_eq_false_iff_ne.mpr (Ne.symm (Nat.ne_of_lt hb)),[],.nil,_,#[],0,Heap.get?_push_size _ rfl,⟨rfl,rfl,rfl⟩,rfl,rfl,List.nodup_nil⟩
def yhu:TE:=fun _ H Q=>∀ p,H p=none->Q (.ref p) (upd H p (.dT []))
section
variable {X:Cx} {pos:Pos}
theorem zhZ:PE X (.Dict [] [] pos) yhu:=fun pins s σ H Q I h =>
 wpAny_Dict_empty ⟨.ref s.heap.objs.size,_,I.laid (a:=s.heap.objs.size) (o:=.dT []) (t' := s.toks) (fun _ _ q=>Heap.get?_push_of_some _ q) (Nat.le_refl _) (zhY s.heap I.big),rfl,h _ (I.hok.fresh (Nat.le_refl _))⟩
end
section
variable {X:Cx} {pins:List (Addr×Obj)} {σ:St} {H:Hp} {s:Shared} {a:Addr} {y d:V} {u r:Value} {o:Option V} {A:Around} {E:Value->Shared->Prop}
end
section
variable {X:Cx} {o e f:Expr} {apos cpos:Pos} {td ty tx:TE}
end
section
variable {X:Cx} {pins:List (Addr×Obj)} {σ:St} {H:Hp} {s:Shared} {a:Addr} {kvs:List (Key×V)} {A:Around} {E:Value->Shared->Prop}
end
section
variable {X:Cx} {pins:List (Addr×Obj)} {σ:St} {H:Hp} {s:Shared} {a:Addr} {y:V} {u:Value} {A:Around} {E:Value->Shared->Prop}
end
end L2
namespace Att
open PySem PySem.W PySem.Calls PyProof.Rows
theorem zdt {P:Params} {h:Heap}:∀ (ns:List Int) (vs:List Value),WellAll P h vs (ns.map WData.int)->IntsAre vs ns:=by
 intro ns
 induction ns with
 | nil =>
  intro vs w
  rw [List.map_nil] at w
  cases w
  exact .nil
 | cons n ns ih =>
  intro vs w
  rw [List.map_cons] at w
  cases w with
  | cons a b =>
   cases a
   exact .cons _ _ (ih _ b)
theorem zhh {l:OpenLaw} {n:Nat} (hn:l.most=some n) {P:Params} {h:Heap} {args:List WData} {vals:List Value}
  (hpre:l.row.toRowW.claim.pre args=true) (hwl:WellAll P h vals args) :
  ∃ a vs ns,vals=[Value.ref a]/\args=[WData.list (ns.map WData.int)]/\h.get? a=some { cls:=.type "list",data:=.seq vs.toArray }/\IntsAre vs ns/\ns.length<=n:=by
 have hsh:WShape.hasAll [] args [.list .int]=true:=(pre_splitW hpre).1
 have hc:l.pre.holds [] { args:=args }=true:=(pre_splitW hpre).2
 obtain ⟨d,r,rfl,h1,h2⟩:=hasAllW_cons hsh
 obtain rfl:=hasAllW_nil h2
 obtain ⟨xs,rfl,h3⟩:=hasW_list h1
 obtain ⟨ns,rfl⟩:=items_int h3
 have hlen:ns.length<=n:=by
  unfold OpenLaw.pre at hc
  have h4:(WTm.not (.lt (.lit (.int (n:Int))) (.len (.arg 0)))).holds [] { args:=[.list (ns.map .int)] }=true:=by
   have h4:=(holds_andW hc).1
   rw [hn] at h4;exact h4
  have h5:=condW_of h4 (w_not (w_lt w_lit (w_len_list (w_arg rfl))))
  rw [List.length_map] at h5;refine Nat.le_of_not_lt fun q=>?_
  have q':(n:Int)<((ns.length:Nat):Int):=by omega
  first
   | (rw [decide_eq_true q'] at h5;exact absurd h5 (by decide))
   | (simp at h5;omega)
 cases hwl with
 | cons w1 w2 =>
  cases w2
  cases w1 with
  | list ho hall=>exact ⟨_,_,ns,rfl,rfl,ho,zdt ns _ hall,hlen⟩
theorem zhi (l:OpenLaw) (args:List WData):l.row.toRowW.claim.post args (.bool true) args=true :=
 postW_of (r:=l.row.toRowW) (X:=(true == true))
  (show WShape.has [] (.bool true) .bool=true by first | rfl | decide | simp [WShape.has,WShape.arms,WShape.armsAll])
  (show (WTm.eq .res (.lit (.bool true))).value [] { args:=args,res:=some (.bool true),after:=args }=some (.bool (true == true)) from w_eq_bool (w_res rfl) w_lit) rfl
theorem attach_call {l:OpenLaw} {n:Nat} {q:Program} {loose:List Str} {XP:(Str->Option Value)->Heap->Prop} {YP:World->Heap->Prop} {d:DefRec}
  (hn:l.most=some n) (hdf:d.params.defaults=[])
  (call:∀ (w:World) (s₀ s₁:Shared) (mg mb:Str->Option Value) (fa:Addr) (o:Obj) (pm cd doc:Value) (a:Addr) (vs:List Value) (ns:List Int),
   Ground q loose [] XP w s₀ mg mb s₁.heap->YP w s₁.heap ->
   s₁.heap.get? fa=some o->o.data = .func (docDef d.name d.params d.body d.scope pm cd doc)->s₁.heap.CodeRec cd d.name->mg d.name=some (.ref fa) ->
   s₁.heap.get? a=some { cls:=.type "list",data:=.seq vs.toArray }->IntsAre vs ns->ns.length<=n->s₁.gens = #[] ->
   codeAny (model l.prog w) callerA (.call (.ref fa) ⟨[.ref a],[]⟩) (fun r s' => r = .ok (.ret (.bool true))/\OldK s₁.heap s'.heap/\s'.os=s₁.os/\AllBare s'.gens) s₁) :
  WalkO q loose XP YP l.row.toRowW d [] (fun f vs=>PySem.call f vs):=by
 intro w s₀ s₁ mg mb G Y fa o pm cd doc dV kV ho hd hcd hD hmg hg args vals as hpre hlay hrd hwl hlo
 obtain rfl:dV = .none:=Dflts.none hD hdf
 obtain rfl:kV = .none:=Dflts.noKw hD
 obtain ⟨a,vs,ns,rfl,rfl,hobj,hints,hlen⟩:=zhh hn hpre hwl
 refine enter_call (codeAny_mono (call w s₀ s₁ mg mb fa o pm cd doc a vs ns G Y ho (fd_plain hd) hcd hmg hobj hints hlen hg) fun r s' hq=>?_)
 obtain ⟨rfl,h2,h3,h4⟩:=hq
 exact ⟨.inl ⟨.bool true,.bool true,[],rfl,fun _=>rfl,.bool true,zhi l _,fun _=>⟨List.Pairwise.nil,fun _ hm=>(nomatch hm)⟩⟩,h2,h3,h4⟩
section
variable {prog:Program} {w:World} {A:Around} {E:Value->Shared->Prop} {s:Shared} {K:Frag}
end
end Att
namespace L2
open PySem PySem.Spec PyProof.Rows
theorem zea:∀ {vs:List Value} {ns:List Int},IntsAre vs ns->Vals (ns.map V.int) vs
 | _,_,.nil=>.nil
 | _,_,.cons n t h=>.cons ⟨t,rfl⟩ (zea h)
def Only (H:Hp):Prop:=∀ b,H b=none\/∃ o xs,H b=some (.frz o (.lst xs))
theorem zh0 {P:Program} {w:World} {K:PySem.W.Frag} {mg mb:Str->Option Value} {CX:CXT} {k:Nat} {fa a:Addr} {fd:FuncData} {x:Str} {sp:Sp} {s₁:Shared} {vs:List Value} {ns:List Int}
  (KX:K.In s₁.heap) (hns:s₁.heap.Ns mainGlobals mg) (hb:s₁.heap.Ns builtinsNs mb) (hbb:∀ x:Str,x ≠ "__name__" -> mb x=bootBuiltins x) (hlim:s₁.heap.NoLimit) (hg:s₁.gens = #[])
  (ha:s₁.heap.get? a=some { cls:=.type "list",data:=.seq vs.toArray }) (hi:IntsAre vs ns) (hl:ns.length<=sizeLine) (hr:Room k callerA)
  (F:∀ base:Heap,K.In base->base.Ns mainGlobals mg->FnOk P w K mg base CX k fa fd [x] sp) (hbind:∀ (s:Shared) (u:Value),BindsTo s fd ⟨[u],[]⟩ [(x,u)])
  (hsp:∀ H:Hp,Only H->SqL K H a (ns.map V.int)->sp [.ref a] H (fun v _=>v = .bl true) fun _ _ _=>False)
  (hCX:∀ H e s',CX [] H s₁ (fun _ _ _=>False) e s'->False) :
  codeAny (model P w) callerA (.call (.ref fa) ⟨[.ref a],[]⟩) (fun r s' => r = .ok (.ret (.bool true))/\OldK s₁.heap s'.heap/\s'.os=s₁.os/\AllBare s'.gens) s₁:=by
 have rv:=zea hi
 have lenV:=hi.length
 have core:∀ H:Hp,Only H->SqL K H a (ns.map V.int)->HOk P w H s₁.heap->(∀ b,H b≠none->b=a)->(H a≠none->K.lookup a=none) ->
   codeAny (model P w) callerA (.call (.ref fa) ⟨[.ref a],[]⟩) (fun r s' => r = .ok (.ret (.bool true))/\OldK s₁.heap s'.heap/\s'.os=s₁.os/\AllBare s'.gens) s₁:=by
  intro H hO hS hok hA hK
  have base_of:∀ {b:Addr} {o:Obj},s₁.heap.get? b=some o->H b=none->(hidT s₁.heap H).get? b=some o:=fun e n=>zhI e n
  have noA:∀ {b:Addr} {o:Obj} {es:Array DictEntry} {ep:Nat},s₁.heap.get? b=some o->o.data = .dict es ep->H b=none:=fun {b o es ep} e d=>by
   cases q:H b with
   | none=>rfl
   | some u =>
    have e':b=a:=hA b (by rw [q];simp)
    subst e'
    rw [ha] at e;cases e
    have d':Data.seq vs.toArray _=Data.dict es ep:=d
    cases d'
  have nsK:∀ {b:Addr} {m:Str->Option Value},s₁.heap.Ns b m->(hidT s₁.heap H).Ns b m:=fun {b m} ⟨o,es,ep,e,d,r⟩=>⟨o,es,ep,base_of e (noA e d),d,r⟩
  have hKb:K.In (hidT s₁.heap H):=fun b o e=>base_of (KX b o e) (by
   cases q:H b with
   | none=>rfl
   | some u =>
    have e':b=a:=hA b (by rw [q];simp)
    subst e'
    rw [hK (by rw [q];simp)] at e;cases e)
  have hM:Mod K mg (hidT s₁.heap H):=⟨hKb,nsK hns,⟨mb,nsK hb,hbb⟩,let ⟨mc,h1,h2⟩:=hlim;⟨mc,nsK h1,h2⟩⟩
  have e0:Env0 P w K mg (hidT s₁.heap H) callerA [] s₁ H:=⟨rfl,hM,fun b o e=>ziD e,Nat.le_of_eq (zg3 _ _),trivial,fun b hb=>absurd (show b∈([]:List Addr) from hb) (by simp),hok,.of_eq hg⟩
  refine codeAny_mono ((F _ hKb (nsK hns)).run callerA [] s₁ H ⟨[.ref a],[]⟩ [.ref a] [.ref a] _ _ hr e0 (hbind s₁ (.ref a)) (.cons rfl .nil) (hsp H hO hS)) fun r s' h=>?_
  cases r with
  | error e=>exact (hCX H e s' h).elim
  | ok fl =>
   cases fl with
   | next=>exact False.elim h
   | brk=>exact False.elim h
   | cont=>exact False.elim h
   | ret u =>
    obtain ⟨v,H',os,bare,un,hok',r',q⟩:=h
    have q':v = .bl true:=q
    subst q'
    obtain rfl:u=Value.bool true:=r'
    refine ⟨rfl,OldK.of_keep fun b o e=>?_,os,bare⟩
    cases q:H b with
    | none=>exact un.keep b o e q (by intro z;exact absurd (show b∈([]:List Addr) from z) (by simp)) (by simp)
    | some u =>
     rcases hO b with z | ⟨ob,xs,z⟩
     ·rw [q] at z;cases z
     ·have z2:=un.frzs b ob _ z
      obtain ⟨e1,_⟩:=hok b _ z
      obtain ⟨e2,_⟩:=hok' b _ z2
      rw [e] at e1;cases e1
      exact e2
 cases hk:K.lookup a with
 | some o =>
  have e:=KX a o hk
  rw [ha] at e
  cases e
  refine core (fun _=>none) (fun _=>.inl rfl) (.inr ⟨_,vs.toArray,_,hk,rfl,rfl,rfl,by rw [List.size_toArray,lenV];exact hl,by simpa using rv⟩) (fun b u z=>by have z':(none:Option HO)=some u:=z;cases z') (fun b z=>absurd rfl z) fun z=>absurd rfl z
 | none =>
  refine core (fun b=>if b=a then some (.frz { cls:=.type "list",data:=.seq vs.toArray } (.lst (ns.map V.int))) else none) (fun b=>?_) (.inl (.inr ⟨{ cls:=.type "list",data:=.seq vs.toArray },if_pos rfl⟩)) (fun b u z=>?_) (fun b z=>?_) fun _=>hk
  ·by_cases hb:b=a
   ·exact .inr ⟨_,_,if_pos hb⟩
   ·exact .inl (if_neg hb)
  ·by_cases hb:b=a
   ·have z' := (if_pos hb).symm.trans z
    cases z'
    subst hb;exact ⟨ha,by rw [List.length_map];exact hl,vs,_,rv,ha⟩
   ·have z' := (if_neg hb).symm.trans z
    cases z'
  ·by_cases hb:b=a
   ·exact hb
   ·exact absurd (if_neg hb) z
end L2
namespace L2
open PySem PySem.Spec PyProof.Rows
theorem walk_of {l:PySem.W.OpenLaw} {n k:Nat} {q:Program} {loose:List Str} {XP:(Str->Option Value)->Heap->Prop} {YP:World->Heap->Prop} {d:DefRec} {K:Params->PySem.W.Frag} {CX:World->CXT} {sp:World->Sp} {x:Str}
  (hn:l.most=some n) (hn2:n<=sizeLine) (hdf:d.params.defaults=[]) (hr:Room k callerA)
  (hY:∀ (w:World) (h:Heap),YP w h->(K w.params).In h)
  (F:∀ (w:World) (mg:Str->Option Value) (fa:Addr) (h:Heap),(K w.params).In h->h.Ns mainGlobals mg->mg d.name=some (.ref fa) ->
   ∃ fd:FuncData,(∀ (s:Shared) (u:Value),BindsTo s fd ⟨[u],[]⟩ [(x,u)]) /\
    ∀ base:Heap,(K w.params).In base->base.Ns mainGlobals mg->FnOk l.prog w (K w.params) mg base (CX w) k fa fd [x] (sp w))
  (hsp:∀ (w:World) (H:Hp) (a:Addr) (ns:List Int),ns.length<=n->Only H->SqL (K w.params) H a (ns.map V.int)->sp w [.ref a] H (fun v _=>v = .bl true) fun _ _ _=>False)
  (hCX:∀ (w:World) (H:Hp) (s:Shared) (e:Value) (s':Shared),CX w [] H s (fun _ _ _=>False) e s'->False) :
  PySem.W.WalkO q loose XP YP l.row.toRowW d [] (fun f vs=>PySem.call f vs):=by
 refine Att.attach_call hn hdf fun w s₀ s₁ mg mb fa o pm cd doc a vs ns G Y ho hd hcd hmg hobj hints hlen hg=>?_
 have KX:=hY w _ Y
 obtain ⟨fd,hb,hF⟩:=F w mg fa _ KX G.T.g hmg
 exact zh0 KX G.T.g G.T.b G.T.builtins G.T.nolimit hg hobj hints (Nat.le_trans hlen hn2) hr hF hb (fun H hO hS=>hsp w H a ns hlen hO hS) fun H e s' => hCX w H s₁ e s'
end L2
namespace L2
open PySem PySem.Spec PyProof.Rows
def ybs (s:Stmt) (j:Nat):Stmt:=match s with
 | .ClassDef _ _ _ body _ _ _ _ _ _ _=>body.getD j (.Pass ⟨0,0,0,0⟩)
 | _=>.Pass ⟨0,0,0,0⟩
def yan (s:Stmt):Arguments:=match s with
 | .FunctionDef _ a _ _ _ _ _ _ _ _=>a
 | _=>{ posonlyargs:=[],args:=[],vararg:=none,kwonlyargs:=[],kw_defaults:=[],kwarg:=none,defaults:=[] }
def yal (s:Stmt):List Stmt:=match s with
 | .FunctionDef _ _ b _ _ _ _ _ _ _=>b
 | _=>[]
def yad (s:Stmt):Scope:=match s with
 | .FunctionDef _ _ _ _ _ _ sc _ _ _=>sc
 | _=>{ kind:=.function,names:=[],isGenerator:=false,isCoroutine:=false }
abbrev E0:XK:=fun _ _ _=>False
structure Fun (K:PySem.W.Frag) (x qual:Str) (st:Stmt) (f:Addr) (fd:FuncData):Prop where
 ex:∃ (oc:Value) (od:Option Addr) (kV doc pm:Value) (an:Option Addr) (cdv ct:Value) (osl:Array (Option Value)),
  fd=PySem.W.fnOf x qual (yan st) (yal st) (yad st) .none kV doc pm an cdv ct/\K.lookup f=some ⟨oc,od,.func fd,osl⟩/\PySem.W.codeIn K cdv qual=true
 kp:PySem.W.keepIn K (.ref f)=true
section
variable {P:Program} {w:World} {K:PySem.W.Frag} {mg:Str->Option Value} {base:Heap}
theorem Fun.binds {x qual:Str} {st:Stmt} {f:Addr} {fd:FuncData} {ps:List Str} (F:Fun K x qual st f fd)
  (h:∀ (kV doc pm:Value) (an:Option Addr) (cdv ct:Value) (us:List Value),us.length=ps.length->bindArgs (PySem.W.fnOf x qual (yan st) (yal st) (yad st) .none kV doc pm an cdv ct) ⟨us,[]⟩=pure (ps.zip us)):Binds K fd ps []:=by
 obtain ⟨oc,od,kV,doc,pm,an,cdv,ct,osl,rfl,lk,hcd⟩:=F.ex
 exact .all (h kV doc pm an cdv ct)
theorem yau {x qual:Str} {st:Stmt} {f:Addr} {oc:Value} {od an:Option Addr} {osl:Array (Option Value)} {kV doc pm cdv ct:Value} (l:K.lookup f=some ⟨oc,od,.func (PySem.W.fnOf x qual (yan st) (yal st) (yad st) .none kV doc pm an cdv ct),osl⟩)
  (c:PySem.W.codeIn K cdv qual=true) (k:PySem.W.keepIn K (.ref f)=true):Fun K x qual st f (PySem.W.fnOf x qual (yan st) (yal st) (yad st) .none kV doc pm an cdv ct):=⟨⟨oc,od,kV,doc,pm,an,cdv,ct,osl,rfl,l,c⟩,k⟩
end
section
variable {X:Cx}
theorem pv (i:Nat) {x:Str} {pos:Pos} (hN:X.N[i]? = some x:=by rfl) (hv:Vis X.env.scope x:=by first | exact Or.inl rfl | exact Or.inr (Or.inl rfl) | exact Or.inr (Or.inr rfl)) (hd:(x == ("__debug__" : Str))=false:=by decide)
  (hcd:(x == ("__classdict__" : Str))=false:=by decide):PE X (.Name x pos) (tVar i):=ygW hN hv hd hcd
theorem zhj:CallR X (.builtin "len") (fun xs H Q=>∃ a kvs,xs=[V.ref a]/\H a=some (.dK kvs)/\Q (.int kvs.length) H):=by
 intro pins s σ H xs us Q I r h
 obtain ⟨a,kvs,rfl,ha,q⟩:=h
 obtain ⟨u,rfl,ru⟩:=ydu r
 cases ru
 exact yiJ I (.inl ha) fun t s' I' => ⟨.int kvs.length,H,I',⟨t,rfl⟩,q⟩
end
section
variable {κ:Type} [DecidableEq κ]
end
end L2
set_option maxHeartbeats 4000000
namespace L2
open PySem PySem.Spec PyProof.Rows
section
variable {X:Cx} {pins:List (Addr×Obj)} {σ:St} {H:Hp} {s:Shared} {h':Heap}
theorem Inv.turnedL {t':Nat} {fp:List Addr} (I:Inv X pins σ H s) (k:∀ b o,b∉fp->s.heap.get? b=some o->h'.get? b=some o) (hf:∀ b∈fp,FpOk X pins H b) :
  Inv X pins σ H { s with heap:=h',toks:=t' }:=by
 have nit:∀ b u,H b=some u->b∉fp:=fun b u e z=>by
  have q:=(hf b z).1
  rw [q] at e
  cases e
 refine I.step (g' := s.gens) (d' := s.drawn) (ch:=fp) (fun b hb=>?_) (fun b o _ _ hc e _=>k b o hc e) (fun b o _ _ hc e _=>⟨o.slots,k b o hc e⟩) (fun _ _ _ _ n=>n)
  (fun b o hc e=>⟨o,k b o hc e⟩) (fun _ _ e=>e) (fun _ _ _ e=>e) (fun b ps e=>⟨#[],by rw [e];simp⟩) (fun m hm=>?_) (fun b u e=>?_) I.bare
 ·obtain ⟨_,f1,_,f3,f4,f5⟩:=hf b hb
  exact ⟨f3,f1,f4,f5⟩
 ·obtain ⟨o,es,ep,ho,r⟩:=hm
  exact ⟨o,es,ep,k _ o (fun z=>(hf _ z).2.1 rfl) ho,r⟩
 ·refine (I.hok b u e).stay (fun c v hc q=>k c v ?_ q) (fun _ q=>q) fun _ _ q=>q
  rcases hc with z | z
  ·rw [z];exact nit b u e
  ·exact nit c _ z
theorem Inv.adopt {T:Addr} {ob:HO} (I:Inv X pins σ H s) (hn:H T=none) (hT:X.s₀.heap.objs.size<=T) (hL:T≠X.env.locals) (hc:∀ x c,X.env.cells.lookup x=some c->c≠T)
  (hp:∀ p∈X.pn++pins,p.1≠T) (new:ObjOk X.prog X.w (upd H T ob) s.heap T ob):Inv X pins σ (upd H T ob) s:=by
 have hne:∀ b u,H b=some u->b≠T:=fun b u e=>zau e hn
 refine I.step (h' := s.heap) (g' := s.gens) (d' := s.drawn) (t' := s.toks) (ch:=[T]) (fun b hb=>?_) (fun b o _ _ _ e _=>e) (fun b o _ _ _ e _=>⟨o.slots,e⟩) (fun b o hb e n=>?_) (fun b o _ e=>⟨o,e⟩)
  (fun b xs e=>by rw [yaC (hne b _ e)];exact e) (fun b o u e=>by rw [yaC (hne b _ e)];exact e) (fun b ps e=>⟨#[],by rw [yaC (hne b _ e),e];simp⟩) (fun m hm=>hm) (fun b u e=>?_) I.bare
 ·have e:b=T:=by simpa using hb
  subst e;exact ⟨.inr hT,hL,hc,hp⟩
 ·rw [yaC (fun z=>hb (by simp [z]))];exact n
 ·by_cases hb:b=T
  ·subst hb;rw [zav] at e;cases e;exact new
  ·rw [yaC hb] at e
   exact (I.hok b u e).stay (fun c v _ q=>q) (fun c q=>by rw [yaC (hne c _ q)];exact q) fun c xs q=>by rw [yaC (hne c _ q)];exact q
end
section
variable {X:Cx}
end
def Its (x:Str):It:=⟨fun i _=>i<x.cps.size,fun i H v H' => H'=H/\∃ c,x.cps[i]? = some c/\v = .str ⟨#[c]⟩,fun i _=>x.cps.size<=i⟩
theorem zhk {P:Program} {w:World} {A:Around} (hh:A.handled=none) (it:Addr) (x:Str) (t:Tok) :
  Walks P w A it [it] [it] x.cps.size (SignAt x) (fun i h=>h.IsStrIter it (strIterType x) x t i):=by
 cases ha:x.cps.all (· < 128) with
 | false =>
  have e:strIterType x = "str_iterator" := by simp [strIterType,ha]
  rw [e];exact Walks.strWide hh it x t
 | true =>
  have e:strIterType x = "str_ascii_iterator" := by simp [strIterType,ha]
  rw [e];exact Walks.strAscii hh it x t
theorem zh1 {P:Program} {w:World} {K:PySem.W.Frag} {y:Str} {py:Pos} (it:Addr) (x:Str) (t:Tok):Turn P w K (.Name y py) (Its x) [it] it (fun i h=>h.IsStrIter it (strIterType x) x t i) where
 mem:=by simp
 obj:=fun i h st b hb=>by
  have e:b=it:=by simpa using hb
  subst e;obtain ⟨o,e,c,d⟩:=st
  exact ⟨o,e,fun v z=>by rw [d] at z;cases z⟩
 keep:=fun i h h' st k=>by
  obtain ⟨o,e,r⟩:=st
  exact ⟨o,k it (by simp) o e,r⟩
 item:=by
  intro X hP hw hK hc i pins s σ H E I hf st hg
  subst hP hw hK
  refine (zhk (I.ok.hd hc) it x t).item i s _ _ hg st fun v h1 tk hv st1 kk=>?_
  obtain ⟨c,u,hcp,rfl⟩:=hv
  have I1:Inv X pins σ H { s with heap:=h1,toks:=tk }:=I.turnedL (fp:=[it]) kk hf
  exact ⟨_,rfl,wpAny_pure ⟨.str ⟨#[c]⟩,H,I1,⟨u,rfl⟩,⟨rfl,c,hcp,rfl⟩,st1,fun b hb=>(hf b hb).1⟩⟩
 done:=by
  intro X hP hw hK hc i pins s σ H E I hf st hg
  subst hP hw hK
  have hx:x.cps[i]? = none:=Array.getElem?_eq_none hg
  cases ha:x.cps.all (· < 128) with
  | false =>
   have e:strIterType x = "str_iterator" := by simp [strIterType,ha]
   rw [e] at st;exact wpAny_pyNext_wide_end (I.ok.hd hc) st hx fun h' eb=>⟨rfl,I.turnedL (fp:=[it]) (t' := s.toks) (fun b o hb q=>eb b o (fun z=>hb (by simp [z])) q) hf⟩
  | true =>
   have e:strIterType x = "str_ascii_iterator" := by simp [strIterType,ha]
   rw [e] at st;exact wpAny_pyNext_ascii_end (I.ok.hd hc) st hx fun h' eb=>⟨rfl,I.turnedL (fp:=[it]) (t' := s.toks) (fun b o hb q=>eb b o (fun z=>hb (by simp [z])) q) hf⟩
 self:=fun A i s Q E st h=>by
  cases ha:x.cps.all (· < 128) with
  | false =>
   have e:strIterType x = "str_iterator" := by simp [strIterType,ha]
   rw [e] at st;exact wpAny_pyIter_striter_wide st h
  | true =>
   have e:strIterType x = "str_ascii_iterator" := by simp [strIterType,ha]
   rw [e] at st;exact wpAny_pyIter_striter_ascii st h
section
variable {X:Cx}
def iStr (tl:TE):TI:=fun σ H R=>tl σ H fun x H1=>∃ t,x = .str t/\R (Its t) H1
theorem yhv {l:Expr} {tl:TE} {y:Str} {py:Pos} (hl:PE X l tl):PI X (.Name y py) l (iStr tl):=by
 intro pins s σ H R I h
 refine thn (hl pins s σ H _ I h) fun v s1 ⟨x,H1,I1,r1,q1⟩=>?_
 obtain ⟨t,e,q⟩:=q1
 subst e;obtain ⟨tk,rfl⟩:=r1
 refine wpAny_pyIter_strU ?_
 refine ⟨s1.heap.objs.size,[s1.heap.objs.size],_,_,H1,rfl,I1.kept (t' := s1.toks) fun b o e=>Heap.get?_push_of_some _ e,zh1 _ t tk,⟨_,Heap.get?_push_size _ rfl,rfl,rfl⟩,fun b hb=>?_,q⟩
 have e:b=s1.heap.objs.size:=by simpa using hb
 subst e;exact I1.fpOk (Nat.le_refl _) (I1.hok.fresh (Nat.le_refl _))
end
def yaZ (env:Env):List (Str×NameKind)->List (Str×Addr)->List (Str×Addr)
 | [],acc=>acc
 | (n,k)::r,acc=>yaZ env r (if k = .free then (n,(env.cells.lookup n).getD 0)::acc else acc)
theorem zgJ {env:Env} {scope:Scope} (h:∀ y∈scope.names,y.2 = .free->(env.cells.lookup y.1).isSome=true):closureFor scope env=pure (yaZ env scope.names []):=by
 have all:∀ (l:List (Str×NameKind)) (acc:List (Str×Addr)),(∀ y∈l,y.2 = .free->(env.cells.lookup y.1).isSome=true) ->
   (forIn l acc fun (x:Str×NameKind) (cs:List (Str×Addr))=>if (x.2 == NameKind.free)=true then (do let a <- cellOf env x.1;pure (ForInStep.yield ((x.1,a)::cs))) else (pure (ForInStep.yield cs):Sem _))=pure (yaZ env l acc):=by
  intro l
  induction l with
  | nil=>intro acc _;rfl
  | cons y r ih =>
   intro acc hl
   obtain ⟨n,k⟩:=y
   rw [List.forIn_cons];have hr:=fun z hz=>hl z (List.mem_cons_of_mem _ hz)
   by_cases hk:k = .free
   ·subst hk
    obtain ⟨c,hc⟩:=Option.isSome_iff_exists.mp (hl (n,.free) List.mem_cons_self rfl)
    have e1:cellOf env n=pure c:=by
     simp only [cellOf]
     have hc':env.cells.lookup n=some c:=hc
     rw [hc']
    simp only [beq_self_eq_true,if_true,e1,pure_bind,yaZ]
    have hc':env.cells.lookup n=some c:=hc
    rw [hc'];exact ih _ hr
   ·have hb:(k == NameKind.free)=false:=by simpa using hk
    simp only [hb,Bool.false_eq_true,if_false,pure_bind,yaZ,hk]
    exact ih _ hr
 unfold closureFor
 have q:=all scope.names [] h
 first
  | exact q
  | (simp only [bind_pure];exact q)
  | (rw [<- q];simp)
theorem zc8 {env:Env}:∀ {l:List (Str×NameKind)} {acc:List (Str×Addr)},(∀ y∈l,y.2 = .free->(env.cells.lookup y.1).isSome=true)->(∀ y c,acc.lookup y=some c->env.cells.lookup y=some c) ->
  ∀ y c,(yaZ env l acc).lookup y=some c->env.cells.lookup y=some c
 | [],_,_,h,y,c,e=>h y c e
 | (n,k)::r,acc,hl,h,y,c,e=>by
  refine zc8 (l:=r) (fun z hz=>hl z (List.mem_cons_of_mem _ hz)) ?_ y c e
  intro y c e
  by_cases hk:k = .free
  ·rw [if_pos hk] at e
   rw [List.lookup_cons] at e
   cases hy:y == n with
   | true =>
    rw [hy] at e;have e':y=n:=by simpa using hy
    obtain ⟨c',hc'⟩:=Option.isSome_iff_exists.mp (hl (n,k) List.mem_cons_self hk)
    have hc'':env.cells.lookup n=some c' := hc'
    rw [hc''] at e;rw [e',hc''];exact e
   | false =>
    rw [hy] at e;exact h y c e
  ·rw [if_neg hk] at e
   exact h y c e
theorem zc9 {env:Env}:∀ {l:List (Str×NameKind)} {acc:List (Str×Addr)} {y:Str},(y,NameKind.free)∈l\/(acc.lookup y).isSome=true->((yaZ env l acc).lookup y).isSome=true
 | [],_,_,h=>by
  rcases h with h | h
  ·cases h
  ·exact h
 | (n,k)::r,acc,y,h=>by
  refine zc9 (l:=r) ?_
  rcases h with h | h
  ·rcases List.mem_cons.mp h with e | e
   ·right
    cases e
    rw [if_pos rfl,List.lookup_cons];simp
   ·exact .inl e
  ·right
   by_cases hk:k = .free
   ·rw [if_pos hk,List.lookup_cons]
    cases hy:y == n with
    | true=>rfl
    | false=>exact h
   ·rw [if_neg hk];exact h
theorem zaK {names:List (Str×NameKind)} {x:Str} {k:NameKind} (h:names.lookup x=some k):(x,k)∈names:=PySem.mem_of_lookup h
theorem zaZ {env:Env} {x:Str} {k:NameKind}:∀ {names:List (Str×NameKind)},(names.map fun (n,k)=>if (k == NameKind.free && env.scope.kind == .function && env.kindOf n == some .cell) then (n,NameKind.cell) else (n,k)).lookup x=some k ->
  names.lookup x=some k\/(k = .cell/\names.lookup x=some .free)
 | [],h=>by simp at h
 | (n,kk)::r,h=>by
  have ih:=@zaZ env x k r
  by_cases hc:(kk == NameKind.free && env.scope.kind == .function && env.kindOf n == some .cell)=true
  ·have hf:kk = .free:=by
    have q:=(Bool.and_eq_true _ _).mp ((Bool.and_eq_true _ _).mp hc).1
    simpa using q.1
   subst hf;have h':List.lookup x ((n,NameKind.cell)::(r.map fun (n,k)=>if (k == NameKind.free && env.scope.kind == .function && env.kindOf n == some .cell) then (n,NameKind.cell) else (n,k)))=some k:=by
    have e:(fun (p:Str×NameKind)=>match p with | (n,k)=>if (k == NameKind.free && env.scope.kind == .function && env.kindOf n == some .cell)=true then (n,NameKind.cell) else (n,k)) (n,NameKind.free)=(n,NameKind.cell):=by
     show (if _ then _ else _)=_
     rw [if_pos hc]
    rw [List.map_cons] at h;rw [<- e];exact h
   rw [List.lookup_cons] at h' ⊢
   cases hx:x == n with
   | true =>
    rw [hx] at h';right
    exact ⟨(Option.some.inj h').symm,rfl⟩
   | false =>
    rw [hx] at h';exact ih h'
  ·have h':List.lookup x ((n,kk)::(r.map fun (n,k)=>if (k == NameKind.free && env.scope.kind == .function && env.kindOf n == some .cell) then (n,NameKind.cell) else (n,k)))=some k:=by
    have e:(fun (p:Str×NameKind)=>match p with | (n,k)=>if (k == NameKind.free && env.scope.kind == .function && env.kindOf n == some .cell)=true then (n,NameKind.cell) else (n,k)) (n,kk)=(n,kk):=by
     show (if _ then _ else _)=_
     rw [if_neg hc]
    rw [List.map_cons] at h;rw [<- e];exact h
   rw [List.lookup_cons] at h' ⊢
   cases hx:x == n with
   | true =>
    rw [hx] at h';exact .inl h'
   | false =>
    rw [hx] at h';exact ih h'
def ybc (X:Cx) (pins:List (Addr×Obj)) (x₁:Str) (jf:List (Nat×Str)) (scope:Scope) (cl:List (Str×Addr)) (s:Shared) (H:Hp) (fp:List Addr):Cx where
 prog:=X.prog
 w:=X.w
 K:=X.K
 mg:=X.mg
 base:=X.base
 A:=X.A
 N:=x₁::jf.map (·.2)
 s₀:=s
 H₀:=H
 env:=compEnvC scope cl s.heap.objs.size X.env
 outer:=X.stack
 stack:=X.stack
 ex:=fp
 fn:=fun _=>false
 calm:=X.calm
 pn:=X.pn++pins
 xe:=fun _ _=>False
def ybL (v:Option V) (js:List (Nat×Str)) (σ:St):St:=v::js.map fun j=>(σ[j.1]?).join
def PTs (X:Cx) (ifs:List Expr) (t:TT):Prop :=
 ∀ (pins:List (Addr×Obj)) (s:Shared) (σ:St) (H:Hp) (Q:Bool->Hp->Prop),Inv X pins σ H s->t σ H Q ->
  wpAny (model X.prog X.w) X.A (forIn ifs true fun c r=>if r=true then do let ok <- isTrue c X.env (eval c X.env);pure (ForInStep.yield ok) else pure (ForInStep.yield r)) (TP X pins σ Q) X.xe s
def tYes:TT:=fun _ H Q=>Q true H
theorem zi1 {X:Cx}:PTs X [] tYes:=fun pins s σ H Q I h=>wpAny_tests_nil ⟨H,I,h⟩
theorem zi2 {X:Cx} {c:Expr} {t:TT} (hc:PT X c t):PTs X [c] t:=fun pins s σ H Q I h=>wpAny_tests_one (hc pins s σ H Q I h)
def yeq (jf:List (Nat×Str)) (wi:TI) (tc:TT) (te:TE):TE:=fun σ H Q=>wi σ H fun J H1=>∀ D,H1 D=none->∃ W:Nat->Nat->List V->Hp->Prop,(∃ m,W 0 m [] (upd H1 D (.lst []))) /\
 ∀ i m ys H2,W i m ys H2->H2 D=some (.lst ys)/\((J.stop i H2/\Q (.ref D) H2)\/(J.go i H2/\ys.length<sizeLine/\∀ x H3,J.yld i H2 x H3->tc (ybL (some x) jf σ) H3 fun b H5 =>
  if b=true then te (ybL (some x) jf σ) H5 fun v H6=>H6 D=some (.lst ys)/\∃ m',m'<m/\W (i+1) m' (ys++[v]) (upd H6 D (.lst (ys++[v]))) else ∃ m',m'<m/\W (i+1) m' ys H5))
section
variable {X:Cx} {pins:List (Addr×Obj)} {σ:St} {H:Hp} {s:Shared} {x₁:Str} {jf:List (Nat×Str)} {scope:Scope} {fp:List Addr}
theorem Inv.block {h1:Heap} {tk:Nat} (I:Inv X pins σ H s) (hf:∀ b∈fp,FpOk X pins H b) (hlt:∀ b∈fp,b<s.heap.objs.size) (hjf:∀ p∈jf,X.N[p.1]? = some p.2) (hjl:∀ p∈jf,scope.names.lookup p.2=some .free) (hkind:scope.kind = .function)
  (hcell:∀ y∈scope.names,y.2 ≠ .cell) (hfr:∀ y∈scope.names,y.2 = .free->X.env.kindOf y.1=some .cell\/X.env.kindOf y.1=some .free)
  (hn:h1.Ns s.heap.objs.size (fun _=>none)) (hk:∀ b o,s.heap.get? b=some o->h1.get? b=some o) :
  Inv (ybc X pins x₁ jf scope (yaZ X.env scope.names []) s H fp) [] (ybL none jf σ) H { s with heap:=h1,toks:=tk }:=by
 have hsome:∀ y∈scope.names,y.2 = .free->(X.env.cells.lookup y.1).isSome=true:=fun y hy hyf=>Option.isSome_iff_exists.mpr (I.ok.has y.1 (hfr y hy hyf))
 have sub:∀ y c,(yaZ X.env scope.names []).lookup y=some c->X.env.cells.lookup y=some c:=zc8 hsome (fun y c e=>by simp at e)
 have hsz:=I.sz
 have inE:∀ b,b∈(ybc X pins x₁ jf scope (yaZ X.env scope.names []) s H fp).ex->b∈fp:=fun b z=>z
 have stk:∀ b∈frs X.stack,b<s.heap.objs.size:=fun b hb=>by
  obtain ⟨_,o,ho,_⟩:=I.stack.mem hb
  exact Heap.lt_size ho
 refine ⟨⟨I.ok.mod,hkind,I.ok.glob,I.ok.blt,Nat.le_refl _,fun y z c e1 e2=>I.ok.inj y z c (sub y c e1) (sub z c e2),fun y hy=>?_,fun y c hfn _=>(by cases hfn),I.ok.hd,I.ok.frames,.inl rfl,fun b hb=>?_,fun b o e=>I.bs b o e,Nat.le_trans I.ok.bsz hsz,fun b o e z=>?_,fun b hb z=>?_,I.stack,I.stkFree⟩,
  rfl,I.bare,Un.kept hk,⟨_,hn,fun i y v e1 e2 e3=>?_⟩,fun y c e=>?_,I.hok.fresh (Nat.le_refl _),fun y c e=>I.freeC y c (sub y c e),fun p hp=>?_,I.hok.kept hk,?_⟩
 ·have hy':(relabel scope X.env).names.lookup y=some .cell\/(relabel scope X.env).names.lookup y=some .free:=hy
  have mem:(y,NameKind.free)∈scope.names:=by
   rcases hy' with q | q
   ·rcases zaZ (env:=X.env) q with z | z
    ·exact absurd rfl (hcell _ (zaK z))
    ·exact zaK z.2
   ·rcases zaZ (env:=X.env) q with z | z
    ·exact zaK z
    ·exact zaK z.2
  exact Option.isSome_iff_exists.mp (zc9 (.inl mem))
 ·exact ⟨Nat.ne_of_lt (hlt b hb),fun y c e=>(hf b hb).2.2.2.2.1 y c (sub y c e)⟩
 ·rcases (hf b z).2.2.2.1 with q | q
  ·exact I.ok.noex b o e q
  ·exact absurd (Nat.lt_of_lt_of_le (Heap.lt_size e) (Nat.le_trans I.ok.bsz q)) (Nat.lt_irrefl _)
 ·rcases List.mem_cons.mp (I.stkSub b z) with q | q
  ·exact (hf b hb).2.1 q
  ·exact (hf b hb).2.2.1 q
 ·have e1':(x₁::jf.map (·.2))[i]? = some y:=e1
  unfold ybL at e2
  cases i with
  | zero=>cases e2
  | succ i =>
   rw [List.getElem?_cons_succ,List.getElem?_map] at e1' e2
   cases q:jf[i]? with
   | none=>rw [q] at e2;cases e2
   | some p =>
    rw [q] at e1' e2;have ey:p.2=y:=Option.some.inj e1'
    have ev:(σ[p.1]?).join=some v:=Option.some.inj e2
    have hp:p∈jf:=List.mem_of_getElem? q
    have eσ:σ[p.1]? = some (some v):=by
     cases z:σ[p.1]? with
     | none=>rw [z] at ev;cases ev
     | some r=>rw [z] at ev;rw [show r=some v from ev]
    have hfree:scope.names.lookup y=some .free:=by rw [<- ey];exact hjl p hp
    have mem:=zaK hfree
    have kX:=hfr _ mem rfl
    obtain ⟨m,hnX,hl⟩:=I.loc
    obtain ⟨u,ru,lk⟩:=hl p.1 y v (by rw [<- ey];exact hjf p hp) eσ (by
     rcases kX with z | z
     ·exact .inr (.inl z)
     ·exact .inr (.inr z))
    refine ⟨u,ru,.inr ⟨?_,?_⟩⟩
    ·have e3':Vis (relabel scope X.env) y:=e3
     rcases e3' with z | z | z
     ·exfalso
      rcases zaZ (env:=X.env) z with q | q
      ·rw [hfree] at q;cases q
      ·cases q.1
     ·exact .inl z
     ·exact .inr z
    ·rcases lk with ⟨z,_⟩ | ⟨_,c,hc,hcell'⟩
     ·exfalso
      rcases kX with q | q
      ·rw [show X.env.kindOf y=some .cell from q] at z;cases z
      ·rw [show X.env.kindOf y=some .free from q] at z;cases z
     ·obtain ⟨c',hc'⟩:=Option.isSome_iff_exists.mp (zc9 (env:=X.env) (acc:=[]) (.inl mem))
      have e:=sub y c' hc'
      rw [hc] at e
      cases e
      obtain ⟨o,ho,hd⟩:=hcell'
      exact ⟨c,hc',o,hk c o ho,hd⟩
 ·obtain ⟨v,o,ho,hd⟩:=I.cell y c (sub y c e)
  exact ⟨v,o,hk c o ho,hd⟩
 ·have hp':p∈X.pn++pins:=by simpa [ybc] using hp
  obtain ⟨e,n,ne,nf,d⟩:=I.pin p hp'
  refine ⟨hk _ _ e,n,Nat.ne_of_lt (Heap.lt_size e),fun z=>?_,d⟩
  rcases List.mem_cons.mp (I.stkSub p.1 z) with q | q
  ·exact ne q
  ·exact nf q
 ·unfold ybL
  show _=(x₁::jf.map (·.2)).length
  rw [List.length_cons,List.length_cons,List.length_map,List.length_map]
end
theorem zez {prog:Program} {w:World} {A:Around} {R:Result->Shared->Prop} {s:Shared} {elt target iter:Expr} {ifs:List Expr} {scope:Scope} {pos:Pos} {it acc:Value} {env:Env} (I:Nat->Shared->Prop)
  (turn:∀ n s,I n s->wpAny (model prog w) A (pyNext it) (fun r s₁=>match r with
   | none=>R (.ok .next) s₁
   | some v=>wpAny (model prog w) A (letOwnedTupleGo target it v) (fun _ s₂=>wpAny (model prog w) A (assign target env v) (fun _ s₃ =>
     wpAny (model prog w) A (forIn ifs true fun c r=>if r=true then do let ok <- isTrue c env (eval c env);pure (ForInStep.yield ok) else pure (ForInStep.yield r)) (fun ok s₄ =>
      if ok=true then wpAny (model prog w) A (eval elt env) (fun x s₅=>wpAny (model prog w) A (call (.builtin "list.append") [acc,x]) (fun _ s₆=>∃ m,m<n/\I m s₆) (fun _ _=>False) s₅) (fun _ _=>False) s₄
      else ∃ m,m<n/\I m s₄) (fun _ _=>False) s₃) (fun _ _=>False) s₂) (fun _ _=>False) s₁) (fun _ _=>False) s)
  (n:Nat) (h:I n s):codeAny (model prog w) A (.compLoop (.ListComp elt [⟨target,iter,ifs,0⟩] scope pos) 0 it acc env) R s:=by
 refine codeAny_loop rfl I (fun n s hI=>?_) n h
 show wpAny _ A ((compTurn (.ListComp elt [⟨target,iter,ifs,0⟩] scope pos) 0 it acc env).onRaise (fun x=>do noteFrame x env;theTreesLotGoes x)) _ _ s
 refine wpAny_noted ?_
 rw [compTurn_list];refine wpAny_bind (wpAny_standAt (wpAny_bind (wpAny_mono (turn n s hI) (fun r s₁ h₁=>?_) fun _ _ z=>z.elim)))
 cases r with
 | none=>exact wpAny_pure h₁
 | some v =>
  refine wpAny_bind (wpAny_mono h₁ (fun _ s₂ h₂=>?_) fun _ _ z=>z.elim)
  refine wpAny_bind (wpAny_mono h₂ (fun _ s₃ h₃=>wpAny_bind (wpAny_mono h₃ (fun ok s₄ h₄=>?_) fun _ _ z=>z.elim)) fun _ _ z=>z.elim)
  cases ok with
  | false=>exact wpAny_pure ⟨rfl,h₄⟩
  | true =>
   exact wpAny_bind (wpAny_bind (wpAny_mono h₄ (fun x s₅ h₅=>wpAny_bind (wpAny_mono h₅ (fun _ s₆ h₆=>wpAny_pure (wpAny_pure ⟨rfl,h₆⟩)) fun _ _ z=>z.elim)) fun _ _ z=>z.elim))
section
variable {X:Cx} {x₁:Str} {px:Pos} {jf:List (Nat×Str)} {scope:Scope} {iter elt:Expr} {ifs:List Expr} {pos:Pos} {wi:TI} {tc:TT} {te:TE}
theorem zeA (hcalm:X.calm=true) (hi:PI X (.Name x₁ px) iter wi) (hc:∀ pins cl s H fp,PTs (ybc X pins x₁ jf scope cl s H fp) ifs tc) (he:∀ pins cl s H fp,PE (ybc X pins x₁ jf scope cl s H fp) elt te)
  (hN:(x₁::jf.map (·.2)).Nodup) (hx:scope.names.lookup x₁=some .local) (hjf:∀ p∈jf,X.N[p.1]? = some p.2) (hjl:∀ p∈jf,scope.names.lookup p.2=some .free) (hkind:scope.kind = .function)
  (hcell:∀ y∈scope.names,y.2 ≠ .cell) (hfr:∀ y∈scope.names,y.2 = .free->X.env.kindOf y.1=some .cell\/X.env.kindOf y.1=some .free)
  (hnames:∀ y∈scope.names,y.2 = .local->scope.names.lookup y.1=some .local) {use:Option (Value->Sem Unit)} {Qf:Value->Shared->Prop} {cpos:Pos}
  {pins:List (Addr×Obj)} {σ:St} {H:Hp} {s:Shared} {Q:VK} (I:Inv X pins σ H s) (h:yeq jf wi tc te σ H Q)
  (fin:∀ D C s6 H6 m6,Inv X pins σ H6 s6->Q (.ref D) H6->FpOk X pins H6 C->s6.heap.Ns C m6->compPost (model X.prog X.w) X.A X.xe use Qf (.ref D) C (.ok .next) s6) (hs:∀ x,foldedSetIterable iter X.env x=pure x) :
  wpAny (model X.prog X.w) X.A (comprehension (.ListComp elt [⟨.Name x₁ px,iter,ifs,0⟩] scope pos) scope X.env cpos (newList []) false (eval iter X.env) use) Qf X.xe s:=by
 have hsome:∀ y∈scope.names,y.2 = .free->(X.env.cells.lookup y.1).isSome=true:=fun y hy hyf=>Option.isSome_iff_exists.mpr (I.ok.has y.1 (hfr y hy hyf))
 refine wpAny_comprehension_free (use:=use) rfl hs (zgJ hsome) hkind hnames (thn (hi pins s σ H _ I h) fun xv s1 h1=>thn h1 fun itv s2 h2=>?_)
 obtain ⟨it,fp,tn,J,H2,e,I2,T,st2,f2,h⟩:=h2
 subst e;refine wpAny_newObj_type (wpAny_newFunctionEnv hcell (by intro y hy;simp at hy) (fun h₁ hns₁ hsb₁=>?_) hkind)
 have hD0:H2 s2.heap.objs.size=none:=I2.hok.fresh (Nat.le_refl _)
 obtain ⟨W,⟨m0,w0⟩,step⟩:=h s2.heap.objs.size hD0
 dsimp only at hns₁ hsb₁ ⊢
 have I3:Inv X pins σ (upd H2 s2.heap.objs.size (.lst [])) { s2 with heap:=s2.heap.push { cls:=.type "list",dict:=none,data:=.seq ([]:List Value).toArray } } :=
  I2.laid (t' := s2.toks) (fun b u q=>Heap.get?_push_of_some _ q) (Nat.le_refl _) ⟨Nat.zero_le _,[],0,.nil,Heap.get?_push_size _ rfl⟩
 generalize hH3:s2.heap.push { cls:=.type "list",dict:=none,data:=.seq ([]:List Value).toArray }=hp3 at hns₁ hsb₁ I3 ⊢
 have hsz3:hp3.objs.size=s2.heap.objs.size+1:=by rw [<- hH3,Heap.size_push]
 have k23:∀ b o,s2.heap.get? b=some o->hp3.get? b=some o:=fun b o q=>by rw [<- hH3];exact Heap.get?_push_of_some _ q
 have flt:∀ b∈fp,b<s2.heap.objs.size:=fun b hb=>by
  obtain ⟨o,q,_⟩:=T.obj 0 _ st2 b hb
  exact Heap.lt_size q
 have f3:∀ b∈fp,FpOk X pins (upd H2 s2.heap.objs.size (.lst [])) b:=fun b hb=>by
  obtain ⟨g0,g⟩:=f2 b hb
  exact ⟨by rw [yaC (Nat.ne_of_lt (flt b hb))];exact g0,g⟩
 have kC:∀ b o,hp3.get? b=some o->h₁.get? b=some o:=fun b o q=>(hsb₁.2 b (Nat.ne_of_lt (Heap.lt_size q))).trans (Heap.get?_push_of_some _ q)
 have B0:=I3.block (x₁:=x₁) (jf:=jf) (scope:=scope) (fp:=fp) (h1:=h₁) (tk:=s2.toks+([]:List (Str×Value)).length) f3 (fun b hb=>by show b<hp3.objs.size;rw [hsz3];exact Nat.lt_succ_of_lt (flt b hb)) hjf hjl hkind hcell hfr (by simpa using hns₁) kC
 have st4:tn 0 h₁:=T.keep _ _ _ st2 fun b _ o q=>kC b o (k23 b o q)
 have w0' := w0
 have stat:∀ {H':Hp},(∀ b∈fp,H' b=none)->∀ b∈fp,FpOk (ybc X pins x₁ jf scope (yaZ X.env scope.names []) { s2 with heap:=hp3 } (upd H2 s2.heap.objs.size (.lst [])) fp) [] H' b:=fun hn b hb=>by
  obtain ⟨_,g1,g2,g3,g4,g5⟩:=f2 b hb
  refine ⟨hn b hb,Nat.ne_of_lt (by show b<hp3.objs.size;rw [hsz3];exact Nat.lt_succ_of_lt (flt b hb)),fun z=>?_,.inl hb,fun y c q=>g4 y c (zc8 hsome (fun y c e=>by simp at e) y c q),fun p hp=>g5 p (by simpa [ybc] using hp)⟩
  rcases List.mem_cons.mp (I2.stkSub b z) with q | q
  ·exact g1 q
  ·exact g2 q
 have loop:codeAny (model X.prog X.w) X.A (.compLoop (.ListComp elt [⟨.Name x₁ px,iter,ifs,0⟩] scope pos) 0 (.ref it) (.ref s2.heap.objs.size) (compEnvC scope (yaZ X.env scope.names []) hp3.objs.size X.env))
   (compPost (model X.prog X.w) X.A X.xe use Qf (.ref s2.heap.objs.size) hp3.objs.size) { s2 with heap:=h₁,toks:=s2.toks+([]:List (Str×Value)).length }:=by
  refine zez (fun n s' => ∃ i ys H',Inv (ybc X pins x₁ jf scope (yaZ X.env scope.names []) { s2 with heap:=hp3 } (upd H2 s2.heap.objs.size (.lst [])) fp) [] (ybL none jf σ) H' s'/\tn i s'.heap/\(∀ b∈fp,H' b=none)/\W i n ys H') ?_ m0
   ⟨0,[],_,B0,st4,fun b hb=>(f3 b hb).1,w0⟩
  rintro n s5 ⟨i,ys,H5,I5,st5,fr5,w5⟩
  obtain ⟨hD5,alt⟩:=step i n ys H5 w5
  rcases alt with ⟨stop,q5⟩ | ⟨go,hlen,next⟩
  ·refine wpAny_mono (T.done (ybc X pins x₁ jf scope (yaZ X.env scope.names []) { s2 with heap:=hp3 } (upd H2 s2.heap.objs.size (.lst [])) fp) rfl rfl rfl hcalm i [] s5 _ H5 (fun _ _=>False) I5 (stat fr5) st5 stop) (fun r s6 ⟨hr,I6⟩=>?_) fun _ _ z=>z
   subst hr;obtain ⟨m6,hn6,_⟩:=id I6.loc
   refine fin _ _ s6 H5 m6 ?_ q5 (I3.fpOk (Nat.le_refl _) I6.free) hn6
   refine I3.call' (ch:=fp) I6.os I6.base I6.hok I6.bare (fun b hb=>?_)
   obtain ⟨_,g1,g2,g3,g4,g5⟩:=f2 b hb
   exact ⟨g3,g1,g4,g5⟩
  ·refine wpAny_mono (T.item (ybc X pins x₁ jf scope (yaZ X.env scope.names []) { s2 with heap:=hp3 } (upd H2 s2.heap.objs.size (.lst [])) fp) rfl rfl rfl hcalm i [] s5 _ H5 (fun _ _=>False) I5 (stat fr5) st5 go) (fun r s6 ⟨u,hr,h6⟩=>?_) fun _ _ z=>z
   subst hr;refine wpAny_mono h6 (fun _ s7 ⟨x,H7,I7,r7,y7,st7,fr7⟩=>?_) fun _ _ z=>z
   have I7' := I7.pinned (stat fr7) (T.obj _ _ st7)
   have hloc:Loc (ybc X pins x₁ jf scope (yaZ X.env scope.names []) { s2 with heap:=hp3 } (upd H2 s2.heap.objs.size (.lst [])) fp).env.scope x₁:=.inl (lookup_relabel_local hx)
   refine wpAny_assign_Name (zc5 (i:=0) I7' hN rfl hloc r7 (fun s8 I8=>?_) (.inr (lookup_relabel_local hx)))
   have q8:=next x H7 y7
   have I8':Inv (ybc X pins x₁ jf scope (yaZ X.env scope.names []) { s2 with heap:=hp3 } (upd H2 s2.heap.objs.size (.lst [])) fp) ([]++ydd fp s7.heap) (ybL (some x) jf σ) H7 s8:=I8
   have again:∀ {s9:Shared} {H9:Hp} {zs:List V} {m':Nat},Inv (ybc X pins x₁ jf scope (yaZ X.env scope.names []) { s2 with heap:=hp3 } (upd H2 s2.heap.objs.size (.lst [])) fp) ([]++ydd fp s7.heap) (ybL (some x) jf σ) H9 s9->m'<n->W (i+1) m' zs H9 ->
     ∃ m,m<n/\∃ i ys H',Inv (ybc X pins x₁ jf scope (yaZ X.env scope.names []) { s2 with heap:=hp3 } (upd H2 s2.heap.objs.size (.lst [])) fp) [] (ybL none jf σ) H' s9/\tn i s9.heap/\(∀ b∈fp,H' b=none)/\W i m ys H' := fun {s9 H9 zs m'} I9 hm w9=>by
    refine ⟨m',hm,i+1,zs,H9,I9.unpinned.weak (by simp [ybL]) (fun j v e=>?_),T.keep _ _ _ st7 fun b hb o e=>(I9.pin (b,o) (List.mem_append_right _ (List.mem_append_right _ (zbo hb e)))).1,fun b hb=>?_,w9⟩
    ·cases j with
     | zero=>simp [ybL] at e
     | succ j=>simpa [ybL] using e
    ·obtain ⟨o,e,d⟩:=T.obj _ _ st7 b hb
     exact (I9.pin (b,o) (List.mem_append_right _ (List.mem_append_right _ (zbo hb e)))).2.1
   refine wpAny_mono (hc pins _ _ _ fp ([]++ydd fp s7.heap) s8 _ H7 _ I8' q8) (fun ok s9 ⟨H9,I9,q9⟩=>?_) fun _ _ z=>z
   cases ok with
   | false =>
    rw [if_neg Bool.false_ne_true] at q9 ⊢;obtain ⟨m',hm,w9⟩:=q9
    exact again I9 hm w9
   | true =>
    rw [if_pos rfl] at q9 ⊢;refine wpAny_mono (he pins _ _ _ fp ([]++ydd fp s7.heap) s9 _ H9 _ I9 q9) (fun y s10 ⟨v,H10,I10,r10,hD10,m',hm,w10⟩=>?_) fun _ _ z=>z
    refine wpAny_mono (zd8 (X:=(ybc X pins x₁ jf scope (yaZ X.env scope.names []) { s2 with heap:=hp3 } (upd H2 s2.heap.objs.size (.lst [])) fp)) ([]++ydd fp s7.heap) s10 (ybL (some x) jf σ) H10 (.ref s2.heap.objs.size) [v] (.ref s2.heap.objs.size) [y] (fun _ H' => H'=upd H10 s2.heap.objs.size (.lst (ys++[v]))) I10 rfl (.cons r10 .nil) ⟨_,ys,v,rfl,rfl,hD10,hlen,rfl⟩)
     (fun _ s11 ⟨_,H11,I11,_,e11⟩=>?_) fun _ _ z=>z
    subst e11;exact again I11 hm w10
 exact codeAny_compStart_list loop (T.self _ 0 _ _ _ st4 loop)
theorem zi3 (hcalm:X.calm=true) (hi:PI X (.Name x₁ px) iter wi) (hc:∀ pins cl s H fp,PTs (ybc X pins x₁ jf scope cl s H fp) ifs tc) (he:∀ pins cl s H fp,PE (ybc X pins x₁ jf scope cl s H fp) elt te)
  (hN:(x₁::jf.map (·.2)).Nodup) (hx:scope.names.lookup x₁=some .local) (hjf:∀ p∈jf,X.N[p.1]? = some p.2) (hjl:∀ p∈jf,scope.names.lookup p.2=some .free) (hkind:scope.kind = .function)
  (hcell:∀ y∈scope.names,y.2 ≠ .cell) (hfr:∀ y∈scope.names,y.2 = .free->X.env.kindOf y.1=some .cell\/X.env.kindOf y.1=some .free)
  (hnames:∀ y∈scope.names,y.2 = .local->scope.names.lookup y.1=some .local) (hs:∀ x,foldedSetIterable iter X.env x=pure x:=by intro _;rfl) :
  PE X (.ListComp elt [⟨.Name x₁ px,iter,ifs,0⟩] scope pos) (yeq jf wi tc te):=by
 intro pins s σ H Q I h
 rw [eval_ListComp];refine zeA hcalm hi hc he hN hx hjf hjl hkind hcell hfr hnames (use:=none) (Qf:=EP X pins σ Q) I h (fun D C s6 H6 m6 I6 q6 f6 n6=>?_) hs
 refine ⟨m6,n6,fun h' hs' => ⟨.ref D,H6,?_,rfl,q6⟩⟩
 exact I6.turnedL (fp:=[C]) (t' := s6.toks) (fun b o hb q=>(hs'.2 b (fun z=>hb (by simp [z]))).trans q) (fun b hb=>by
  have e:b=C:=by simpa using hb
  subst e;exact f6)
theorem zi4 {y:Str} {py spos:Pos} {i:Nat} (hcalm:X.calm=true) (hi:PI X (.Name x₁ px) iter wi) (hc:∀ pins cl s H fp,PTs (ybc X pins x₁ jf scope cl s H fp) ifs tc) (he:∀ pins cl s H fp,PE (ybc X pins x₁ jf scope cl s H fp) elt te)
  (hN:(x₁::jf.map (·.2)).Nodup) (hx:scope.names.lookup x₁=some .local) (hjf:∀ p∈jf,X.N[p.1]? = some p.2) (hjl:∀ p∈jf,scope.names.lookup p.2=some .free) (hkind:scope.kind = .function)
  (hcell:∀ y∈scope.names,y.2 ≠ .cell) (hfr:∀ y∈scope.names,y.2 = .free->X.env.kindOf y.1=some .cell\/X.env.kindOf y.1=some .free)
  (hnames:∀ y∈scope.names,y.2 = .local->scope.names.lookup y.1=some .local) (hNX:X.N.Nodup) (hi':X.N[i]? = some y) (hy:X.env.scope.names.lookup y=some .local)
  (hsw:swapsWith (.ListComp elt [⟨.Name x₁ px,iter,ifs,0⟩] scope pos) (some (.Name y py)) spos.line X.env=pure true) (hs:∀ x,foldedSetIterable iter X.env x=pure x:=by intro _;rfl) :
  PS X (.Assign [.Name y py] (.ListComp elt [⟨.Name x₁ px,iter,ifs,0⟩] scope pos) spos) (tAsg (yeq jf wi tc te) (yeK i)):=by
 intro pins s σ H D I h
 rw [exec_Assign_Name_used _ _ _ _ hsw];refine wpAny_bind (wpAny_standAt (wpAny_bind ?_))
 show wpAny _ X.A (do let _ <- comprehension (.ListComp elt [⟨.Name x₁ px,iter,ifs,0⟩] scope pos) scope X.env _ (newList []) false (eval iter X.env) (some (assign (.Name y py) X.env))) _ _ s
 refine wpAny_bind (wpAny_mono (zeA (Qf:=fun _ s' => SP X pins D .next s') hcalm hi hc he hN hx hjf hjl hkind hcell hfr hnames (use:=some (assign (.Name y py) X.env)) I h (fun D' C s6 H6 m6 I6 q6 f6 n6=>?_) hs) (fun _ s' hq=>wpAny_pure (wpAny_pure hq)) fun _ _ e=>e)
 refine wpAny_assign_Name (zd3 I6 hNX hi' (.inl hy) (v:=.ref D') rfl (fun s7 I7 ⟨a,hsa,ha⟩=>?_) (.inr hy))
 have ne:C≠a:=by
  rcases ha with z | z
  ·rw [z];exact f6.2.1
  ·exact fun q=>f6.2.2.2.2.1 y a z q.symm
 refine ⟨m6,n6.sameBut hsa ne,fun h' hs' => ⟨_,H6,?_,q6⟩⟩
 exact I7.turnedL (fp:=[C]) (t' := s7.toks) (fun b o hb q=>(hs'.2 b (fun z=>hb (by simp [z]))).trans q) (fun b hb=>by
  have e:b=C:=by simpa using hb
  subst e;exact f6)
end
end L2
namespace L2
open PySem PySem.Spec PyProof.Rows
section
variable {X:Cx} {a b e:Expr} {ta tb:TE} {p p2 pos:Pos}
theorem zh2 {c:V} {cv:Value} (rc:∀ u,RelV c u->u=cv) :
  CallR X (.builtin "isinstance") (fun xs H Q=>∃ x t r,xs=[x,c]/\TyOf X.K H x t/\PySem.W.kitOne X.K t cv=some r/\Q (.bl r) H):=by
 intro pins s σ H xs us Q I r h
 obtain ⟨x,t,k,rfl,ty,hk,q⟩:=h
 obtain ⟨u,w',rfl,rx,ry⟩:=yeM r
 obtain rfl:=rc _ ry
 exact zhc I rx ty hk fun tk=>⟨.bl k,H,I.tok _,rfl,q⟩
theorem ygl (n:String):∀ u,RelV (.ty n) u->u=Value.type n:=fun _ r=>r
theorem zhl:OpR X (compareOp .LtE) (fun x y H Q=>∃ i j,x = .str i/\y = .str j/\Q (.bl (!decide (j.cps.toList<i.cps.toList))) H):=by
 intro pins s σ H x y v u Q I rx ry h
 obtain ⟨i,j,rfl,rfl,q⟩:=h
 obtain ⟨t,rfl⟩:=rx
 obtain ⟨t',rfl⟩:=ry
 exact PySem.P.le_str (yaQ I q rfl)
theorem zeB:MtR X "str.count" (fun x vs H Q=>∃ z y,x = .str z/\vs=[.str y]/\Q (.int ((Builtin.Str.occurrences z y 0 z.length (z.length+1)).length:Nat)) H):=by
 intro pins s σ H x vs v us Q I rx rv h
 obtain ⟨z,y,rfl,rfl,q⟩:=h
 obtain ⟨t,rfl⟩:=rx
 obtain ⟨u,rfl,t',rfl⟩:=ydu rv
 exact call_gives F.slot_str_count (typeIs_str s z t) F.entry_str_count (F.args_str_count_2 _ _) (gives_str_count z y t t') ⟨.int _,H,I.tok _,⟨_,rfl⟩,q⟩
theorem zh3 (hc:X.calm=true):CallR X (.builtin "all") (fun xs H Q=>∃ (a:Addr) (bs:List Bool),xs=[.ref a]/\SqL X.K H a (bs.map V.bl)/\Q (.bl (bs.all id)) H):=by
 intro pins s σ H xs us Q I r h
 obtain ⟨l,bs,rfl,hq,q⟩:=h
 obtain ⟨u,rfl,rx⟩:=ydu r
 cases rx
 obtain ⟨its,rv,pl,hz⟩:=I.list hq
 have hlt:l<s.heap.objs.size:=by obtain ⟨_,_,e,_⟩:=pl;exact Heap.lt_size e
 have hlen:its.length=bs.length:=by rw [<- rv.length,List.length_map]
 refine call_all_walk (wpAny_pyIter_list pl.isList ?_)
 refine ⟨s.heap.objs.size,[s.heap.objs.size,l],[s.heap.objs.size],its.toArray.size,_,_,fun i=>(bs[i]?).getD true,rfl,Walks.list (A:=X.A.in1) (I.ok.hd hc) _ l (Nat.ne_of_lt hlt) its.toArray,
  ⟨⟨_,Heap.get?_push_size _ rfl,rfl,rfl⟩,pl.isList.push _⟩,fun i v s' Q' E' hP hQ=>?_,fun h' tk hk=>?_⟩
 ·have hP':its[i]? = some v:=by simpa using hP
  have hi:i<its.length:=(List.getElem?_eq_some_iff.mp hP').1
  have hb:(bs.map V.bl)[i]? = some (V.bl (bs[i]'(by omega))):=by rw [List.getElem?_map,List.getElem?_eq_getElem (by omega)];rfl
  obtain ⟨u,hu,ru⟩:=rv.get hb
  rw [hP'] at hu
  cases hu
  cases ru
  have e:(bs[i]?).getD true=bs[i]'(by omega):=by rw [List.getElem?_eq_getElem (by omega)];rfl
  have hQ2:Q' ((bs[i]?).getD true) s' := hQ
  rw [e] at hQ2;exact wpAny_truthy_bool hQ2
 ·have e:((List.range its.toArray.size).all fun i=>(bs[i]?).getD true)=bs.all id:=by
   rw [List.size_toArray,hlen,Bool.eq_iff_iff,List.all_eq_true,List.all_eq_true];constructor
   ·intro z c hc'
    obtain ⟨i,hi,rfl⟩:=List.getElem_of_mem hc'
    have:=z i (List.mem_range.mpr hi)
    rw [List.getElem?_eq_getElem hi] at this;exact this
   ·intro z i hi
    have hi' := List.mem_range.mp hi
    rw [List.getElem?_eq_getElem hi'];exact z _ (List.getElem_mem hi')
  rw [e];refine ⟨.bl _,H,I.kept (t' := tk) fun b o q=>?_,rfl,q⟩
  exact hk b o (fun hm=>by rw [List.mem_singleton.mp hm] at q;exact Nat.lt_irrefl _ (Heap.lt_size q)) (Heap.get?_push_of_some _ q)
end
end L2
namespace L2
open PySem PySem.Spec PyProof.Rows
section
variable {X:Cx}
theorem zh4:OpR X (binaryOp .FloorDiv) (rI (fun _ j=>0<j/\j<2 ^ 200) fun i j=>.int (i / j)):=opI fun i j _ _ _ _ _ hc q=>by
 obtain ⟨h1,h2⟩:=hc
 refine floordiv_int (by omega) (by rw [Int.fdiv_eq_ediv_of_nonneg i (by omega)];exact q) (.inl (PyProof.noPylong_of_log2 ?_))
 have h3:j.natAbs<2 ^ 200:=by omega
 have h4:j.natAbs.log2<200:=(Nat.log2_lt (by omega)).mpr h3
 omega
theorem zh5:OpR X (binaryOp .Mult) (rI IntMulOk fun i j=>.int (i*j)):=opI fun _ _ _ _ _ _ _ hc q=>mul_int q hc
end
end L2
namespace L2
open PySem PySem.Spec PyProof.Rows
theorem yfy:bootBuiltins "int" = some (.type "int"):=by decide +kernel
theorem zfx:bootBuiltins "bool" = some (.type "bool"):=by decide +kernel
theorem ydZ:bootBuiltins "str" = some (.type "str"):=by decide +kernel
end L2
namespace L2
open PySem PySem.Spec PyProof.Rows
theorem ObjOk.some {P:Program} {w:World} {H:Hp} {h:Heap} {a:Addr} {o:HO} (x:ObjOk P w H h a o):∃ ob,h.get? a=Option.some ob:=by
 cases o with
 | lst xs=>obtain ⟨_,_,_,_,e⟩:=x;exact ⟨_,e⟩
 | tup xs=>obtain ⟨_,_,_,o,e,_⟩:=x;exact ⟨o,e⟩
 | dK kvs=>obtain ⟨_,_,_,_,o,_,_,e,_⟩:=x;exact ⟨_,e⟩
 | dT kvs=>obtain ⟨_,_,_,_,o,_,_,e,_⟩:=x;exact ⟨_,e⟩
 | set S n=>obtain ⟨o,_,_,_,e,_⟩:=x;exact ⟨_,e⟩
 | ins C dx fs=>obtain ⟨_,_,_,e,_⟩:=x;exact ⟨_,e⟩
 | own y=>obtain ⟨_,e⟩:=x;exact ⟨_,e⟩
 | xd fs=>obtain ⟨_,⟨_,_,_,e,_⟩,_⟩:=x;exact ⟨_,e⟩
 | rng lo hi=>obtain ⟨_,_,_,e⟩:=x;exact ⟨_,e⟩
 | frz ob u=>obtain ⟨e,_⟩:=x;exact ⟨_,e⟩
 | tbl ps=>exact ⟨_,(show h.get? a=Option.some _ from x)⟩
 | met f y=>exact ⟨_,(show h.get? a=Option.some _ from x)⟩
 | ext φ=>obtain ⟨_,⟨_,e⟩,_⟩:=x;exact ⟨_,e⟩
def Firm (X:Cx) (pins:List (Addr×Obj)) (H:Hp) (h B:Heap):Prop :=
 ∀ b o,h.get? b=some o->b∉frs X.stack->((∃ u,H b=some u)\/(∃ o',X.s₀.heap.get? b=some o')\/∃ p∈X.pn++pins,p.1=b)->B.get? b=some o
section
variable {X:Cx} {pins:List (Addr×Obj)} {σ:St} {H:Hp} {s:Shared}
theorem Inv.nofr (I:Inv X pins σ H s) {b:Addr} {o:Obj} (e:X.s₀.heap.get? b=some o) (hb:b∉X.fs):b∉frs X.stack:=fun z=>by
 rcases List.mem_cons.mp (I.stkSub b z) with q | q
 ·exact Nat.ne_of_lt (Nat.lt_of_lt_of_le (Heap.lt_size e) I.ok.above) q
 ·exact hb q
theorem Inv.nofrT (I:Inv X pins σ H s) {b:Addr} {u:HO} (e:H b=some u):b∉frs X.stack:=fun z=>by
 have q:=I.stkFree b z
 rw [q] at e
 cases e
theorem Inv.nofrP (I:Inv X pins σ H s) {p:Addr×Obj} (hp:p∈X.pn++pins):p.1∉frs X.stack:=fun z=>by
 obtain ⟨_,_,ne,nf,_⟩:=I.pin p hp
 rcases List.mem_cons.mp (I.stkSub p.1 z) with q | q
 ·exact ne q
 ·exact nf q
theorem Inv.flown {B h':Heap} {t':Nat} (I:Inv X pins σ H s) (hex:X.ex=[]) (F:Firm X pins H s.heap B) (st:B.StaysIn h') (sm:s.heap.UpToSlots h'):Inv X pins σ H { s with heap:=h',toks:=t' }:=by
 have nx:∀ b,b∉X.ex:=fun b z=>by rw [hex] at z;cases z
 refine ⟨I.ok,I.os,I.bare,⟨fun b o e n hb hx=>?_,fun b o e n hb hx=>?_,I.base.free,fun b o e hx=>?_,I.base.tups,I.base.frzs,I.base.tbls⟩,?_,fun x c e=>?_,I.free,I.freeC,fun p hp=>?_,fun b u e=>?_,I.len⟩
 ·exact st b o (F b o (I.base.keep b o e n hb hx) (I.nofr e hb) (.inr (.inl ⟨o,e⟩)))
 ·obtain ⟨sl,q⟩:=I.base.slot b o e n hb hx
  obtain ⟨_,o',ho',hd⟩:=I.funs.mem hb
  rw [q] at ho'
  cases ho'
  obtain ⟨sl',q'⟩:=sm b _ q hd
  exact ⟨sl',q'⟩
 ·obtain ⟨o',q⟩:=I.base.there b o e hx
  by_cases hb:b∈X.fs
  ·obtain ⟨_,o'',ho'',hd⟩:=I.funs.mem hb
   rw [q] at ho''
   cases ho''
   obtain ⟨sl',q'⟩:=sm b _ q hd
   exact ⟨_,q'⟩
  ·exact ⟨o',st b o' (F b o' q (I.nofr e hb) (.inr (.inl ⟨o,e⟩)))⟩
 ·obtain ⟨m,hn,hl⟩:=I.loc
  refine ⟨m,sm.ns hn,fun i x v e1 e2 e3=>?_⟩
  obtain ⟨u,r,l⟩:=hl i x v e1 e2 e3
  refine ⟨u,r,?_⟩
  rcases l with l | ⟨k,c,e,o,ho,hd⟩
  ·exact .inl l
  ·obtain ⟨sl,q⟩:=sm c o ho fun vs z=>by rw [hd] at z;cases z
   exact .inr ⟨k,c,e,_,q,hd⟩
 ·obtain ⟨v,o,ho,hd⟩:=I.cell x c e
  obtain ⟨sl,q⟩:=sm c o ho fun vs z=>by rw [hd] at z;cases z
  exact ⟨v,_,q,hd⟩
 ·obtain ⟨e,n,ne,nf,d⟩:=I.pin p hp
  exact ⟨st _ _ (F _ _ e (I.nofrP hp) (.inr (.inr ⟨p,hp,rfl⟩))),n,ne,nf,d⟩
 ·refine (I.hok b u e).stay (fun c v hc q=>?_) (fun _ q=>q) fun _ _ q=>q
  rcases hc with z | z
  ·subst z
   exact st _ _ (F _ _ q (I.nofrT e) (.inl ⟨_,e⟩))
  ·exact st _ _ (F _ _ q (I.nofrT z) (.inl ⟨_,z⟩))
end
structure Arr (X:Cx) (pins:List (Addr×Obj)) (σ:St) (H:Hp) (a:Addr) (cls:Value) (s:Shared):Prop where
 inv:Inv X pins σ H s
 un:H a=none
 new:X.s₀.heap.get? a=none
 nl:a≠X.env.locals
 nc:∀ x c,X.env.cells.lookup x=some c->c≠a
 np:∀ p∈X.pn++pins,p.1≠a
 fly:∃ B a0,Firm X pins H s.heap B/\B.StaysIn s.heap/\B.get? a=none/\s.heap.FunFrames B X.stack /\
  ((∃ oe vs,s.heap.get? a=some oe/\oe.cls=cls/\oe.data = .fields vs/\vs[0]? = some a0/\vs[1]? = some .none)\/s.heap.TracedW B a cls a0)
def CXE (P:Program) (w:World):CXT:=fun outer H s E e s' => ∃ (a:Addr) (cls a0:Value) (H':Hp) (B:Heap),e = .ref a/\s'.os=s.os/\AllBare s'.gens/\Un (frs outer) [] H H' s.heap s'.heap/\HOk P w H' s'.heap /\
 Heap.FlyingW B outer a cls a0 s'.heap/\(∀ b o,s'.heap.get? b=some o->b∉frs outer->((∃ u,H' b=some u)\/∃ o',s.heap.get? b=some o')->B.get? b=some o)/\H' a=none/\s.heap.get? a=none/\E cls none H'
section
variable {X:Cx} {pins:List (Addr×Obj)} {σ:St} {H:Hp} {s:Shared}
theorem zh6 {h':Heap} {e:Addr} {cls:Value} {args:List Value} {t':Nat} (I:Inv X pins σ H s) (hex:X.ex=[]) (hx:Heap.MadeExcOf s.heap h' e cls args):Arr X pins σ H e cls { s with heap:=h',toks:=t' }:=by
 have nx:∀ b,b∉X.ex:=fun b z=>by rw [hex] at z;cases z
 have none_of:∀ b o,s.heap.get? b=some o->b≠e:=fun b o q z=>by rw [z,hx.new] at q;cases q
 have eq_of:∀ b o o1,h'.get? b=some o->s.heap.get? b=some o1->o1=o:=fun b o o1 q q1=>by
  have z:=hx.keeps b o1 q1
  rw [q] at z;exact (Option.some.inj z).symm
 obtain ⟨t,he,_,_⟩:=hx.there
 refine ⟨I.kept hx.keeps,?_,?_,fun z=>?_,fun x c q z=>?_,fun p hp z=>?_,PySem.W.hideAll s.heap (frs X.stack),.ref t,fun b o q nb alt=>?_,fun b o q=>hx.keeps b o (PySem.W.of_hideAll _ q),?_,?_,.inl ⟨_,_,he,rfl,rfl,rfl,rfl⟩⟩
 ·cases q:H e with
  | none=>rfl
  | some u =>
   obtain ⟨ob,z⟩:=(I.hok e u q).some
   exact absurd rfl (none_of e ob z)
 ·cases q:X.s₀.heap.get? e with
  | none=>rfl
  | some o =>
   obtain ⟨ob,z⟩:=I.base.there e o q (nx e)
   exact absurd rfl (none_of e ob z)
 ·obtain ⟨m,⟨o,_,_,ho,_⟩,_⟩:=I.loc
  exact none_of _ o ho z.symm
 ·obtain ⟨v,o,ho,_⟩:=I.cell x c q
  exact none_of _ o ho z
 ·exact none_of _ _ (I.pin p hp).1 z
 ·have there:∃ o1,s.heap.get? b=some o1:=by
   rcases alt with ⟨u,q'⟩ | ⟨o',q'⟩ | ⟨p,hp,rfl⟩
   ·exact (I.hok b u q').some
   ·exact I.base.there b o' q' (nx b)
   ·exact ⟨_,(I.pin p hp).1⟩
  obtain ⟨o1,q1⟩:=there
  rw [<- eq_of b o o1 q q1];exact PySem.W.hideAll_get _ q1 nb
 ·cases q:(PySem.W.hideAll s.heap (frs X.stack)).get? e with
  | none=>rfl
  | some o=>exact absurd rfl (none_of e o (PySem.W.of_hideAll _ q))
 ·refine (PySem.W.funFrames_hide I.stack fun env henv b hb=>List.mem_filterMap.mpr ⟨env,henv,hb⟩).of_keeps fun b o q _=>⟨o,hx.keeps b o q,rfl⟩
theorem zh7 {E:XK} {e:Value} {s':Shared} (I:Inv X pins σ H s) (hex:X.ex=[]) (h:CXE X.prog X.w X.stack H s E e s'):∃ a cls H',e = .ref a/\Arr X pins σ H' a cls s'/\E cls none H' := by
 obtain ⟨a,cls,a0,H',B,rfl,os,bare,un,hok,⟨f1,f2,f3,f4⟩,ext,na,ns,q⟩:=h
 have nx:∀ b,b∉X.ex:=fun b z=>by rw [hex] at z;cases z
 have none_of:∀ b o,s.heap.get? b=some o->b≠a:=fun b o q z=>by rw [z,ns] at q;cases q
 refine ⟨a,cls,H',rfl,⟨I.call' (ch:=[]) os un hok bare (fun b z=>absurd z (by simp)),na,?_,fun z=>?_,fun x c q z=>?_,fun p hp z=>?_,B,a0,fun b o q nb alt=>?_,f1,f2,f3,.inr f4⟩,q⟩
 ·cases q:X.s₀.heap.get? a with
  | none=>rfl
  | some o =>
   obtain ⟨ob,z⟩:=I.base.there a o q (nx a)
   exact absurd rfl (none_of a ob z)
 ·obtain ⟨m,⟨o,_,_,ho,_⟩,_⟩:=I.loc
  exact none_of _ o ho z.symm
 ·obtain ⟨v,o,ho,_⟩:=I.cell x c q
  exact none_of _ o ho z
 ·exact none_of _ _ (I.pin p hp).1 z
 ·refine ext b o q nb ?_
  rcases alt with ⟨u,q'⟩ | ⟨o',q'⟩ | ⟨p,hp,rfl⟩
  ·exact .inl ⟨u,q'⟩
  ·exact .inr (I.base.there b o' q' (nx b))
  ·exact .inr ⟨_,(I.pin p hp).1⟩
theorem Arr.land {a:Addr} {cls:Value} {Q:Unit->Shared->Prop} {E:Value->Shared->Prop} {M:Model} {A:Around} (R:Arr X pins σ H a cls s) (hex:X.ex=[]) (hfr:A.frames=some X.stack) {outer:List Env} (hst:X.stack=X.env::outer) (hf:X.env.frame=some X.env.locals)
  (hQ:∀ h' B a0,Firm X pins H s.heap B->Heap.FlyingW B X.stack a cls a0 h'->s.heap.UpToSlots h'->Inv X pins σ H { s with heap:=h' }->Q () { s with heap:=h' }) :
  wpAny M A (noteFrame (.ref a) X.env) (fun _ s₂=>wpAny M A (setFlight (.ref a) none) Q E s₂) E s:=by
 obtain ⟨B,a0,fm,st,hb,ff,alt⟩:=R.fly
 have after:∀ h4,Heap.HeldW B X.stack a cls a0 X.env.locals h4->s.heap.UpToSlots h4->wpAny M A (setFlight (.ref a) none) Q E { s with heap:=h4 }:=fun h4 hh sm=>by
  refine wpAny_landsW (s:={ s with heap:=h4 }) hh fun h5 fl sm5=>?_
  have sm':s.heap.UpToSlots h5:=sm.trans sm5
  exact hQ h5 B a0 fm fl sm' (R.inv.flown (t' := s.toks) hex fm fl.1 sm')
 rw [hst] at hfr;rw [hst] at ff;rcases alt with ⟨oe,vs,he,hc,hd,h0,h1⟩ | tr
 ·subst hc
  have hsz:1<vs.size:=(Array.getElem?_eq_some_iff.mp h1).1
  unfold noteFrame
  simp only [hf]
  refine wpAny_bind (wpAny_field he hd h1 ?_)
  rw [if_neg (by decide)]
  refine wpAny_entryW hfr ff hf he st hb hd hsz h0 fun h4 hN=>?_
  obtain ⟨k1,k2,k3,k4⟩:=hN
  exact after h4 (by rw [hst];exact ⟨k1,hb,k2,k3⟩) k4
 ·exact wpAny_looks_onW hfr hf ⟨st,hb,ff,tr⟩ fun h4 hh sm=>after h4 (by rw [hst];exact hh) sm
theorem zeb {P:Program} {w:World} {K:PySem.W.Frag} {mg:Str->Option Value} {base:Heap} {N:List Str} {qual:Str} {scope:Scope} {f:Addr} {cd:Value} {A:Around} {outer:List Env} {s0:Shared} {H0:Hp} {E:XK} {a:Addr} {cls:Value}
  (R:Arr (cxOf (CXE P w) P w K mg base N qual scope f cd A outer s0 H0 E) pins σ H a cls s) (q:E cls none H):(cxOf (CXE P w) P w K mg base N qual scope f cd A outer s0 H0 E).xe (.ref a) s:=by
 show wpAny _ _ (leaving _ _) _ _ s
 unfold leaving
 refine wpAny_bind (R.land (E:=fun e' s'' => CXE P w outer H0 s0 E e' s'') rfl R.inv.ok.frames rfl rfl fun h' B a0 fm fl sm I' => ?_)
 have I:=R.inv
 obtain ⟨k1,k2,⟨_,_,k3⟩,k4⟩:=fl
 refine ⟨a,cls,a0,H,B,rfl,I'.os,I'.bare,I'.base,I'.hok,⟨k1,k2,k3,k4⟩,fun b o e nb alt=>?_,R.un,R.new,q⟩
 have nstk:b∉frs (cxOf (CXE P w) P w K mg base N qual scope f cd A outer s0 H0 E).stack:=by
  rcases alt with ⟨u,z⟩ | ⟨o',z⟩
  ·exact I.nofrT z
  ·exact I.nofr z nb
 have there:∃ o1,s.heap.get? b=some o1:=by
  rcases alt with ⟨u,z⟩ | ⟨o',z⟩
  ·exact (I.hok b u z).some
  ·exact I.base.there b o' z (fun z=>absurd (show b∈([]:List Addr) from z) (by simp))
 obtain ⟨o1,q1⟩:=there
 have z:B.get? b=some o1:=fm b o1 q1 nstk (by
  rcases alt with ⟨u,z⟩ | ⟨o',z⟩
  ·exact .inl ⟨u,z⟩
  ·exact .inr (.inl ⟨o',z⟩))
 have z2:=k1 b o1 z
 rw [show (Heap.get? h' b)=some o from e] at z2
 cases z2
 exact z
end
def yeI (X:Cx) (Ex:St->XK):Prop:=∀ (pins:List (Addr×Obj)) (σ:St) (H:Hp) (s:Shared) (a:Addr) (cls:Value),Arr X pins σ H a cls s->Ex σ cls none H->X.xe (.ref a) s
def yd0 (CX:CXT) (X:Cx) (Ex:St->XK):Prop:=∀ (pins:List (Addr×Obj)) (σ:St) (H:Hp) (s:Shared) (e:Value) (s':Shared),Inv X pins σ H s->CX X.stack H s (Ex σ) e s'->X.xe e s'
section
variable {P:Program} {w:World} {K:PySem.W.Frag} {mg:Str->Option Value} {base:Heap} {N:List Str} {qual:Str} {scope:Scope} {f:Addr} {cd:Value} {A:Around} {outer:List Env} {s0:Shared} {H0:Hp} {E:XK}
theorem za0:yeI (cxOf (CXE P w) P w K mg base N qual scope f cd A outer s0 H0 E) (fun _=>E):=fun _ _ _ _ _ _ R q=>zeb R q
theorem zi5:yhn (CXE P w) (cxOf (CXE P w) P w K mg base N qual scope f cd A outer s0 H0 E) E:=fun pins σ H s e s' I h=>by
 obtain ⟨a,cls,H',rfl,R,q⟩:=zh7 (X:=cxOf (CXE P w) P w K mg base N qual scope f cd A outer s0 H0 E) I rfl h
 exact zeb R q
end
section
variable {X:Cx} {x:Str} {C:Addr} {bm:List Value} {B newId initId:String} {np cpos pos:Pos} {e:Expr} {es:List Expr} {t:TA} {Ex:St->XK}
def yhw (cls:Value) (Ex:St->XK) (t:TA):TS:=fun _ σ H=>t σ H fun vs H1=>vs.length<=1000/\Ex σ cls none H1
theorem zh8 (O:OwnCls x C bm newId X.mg X.base) (FB:ExcBaseFacts B newId initId bm) (hc:X.calm=true) (hex:X.ex=[]) (hr:yeI X Ex) (hg:Gl X x) (ha:PA X (e::es) t)
  (hdb:(x == ("__debug__" : Str))=false:=by decide) (he:starEach (e::es) X.env=(false,eval e X.env)::starEach es X.env:=by rfl) (hpl:(backTo cpos (starEach es X.env)).any (·.1)=false:=by rfl) :
  PS X (.Raise (some (.Call (.Name x np) (e::es) [] cpos)) none pos) (yhw (.ref C) Ex t):=by
 intro pins s σ H D I h
 obtain ⟨tl,NN,nm,q,bs,hdct,sn,sub,ab,col,dd,k0,k1,k2,k3,k5,mN,hC,hN,hni,T⟩:=O.obj
 refine wpAny_Raise_call_subT (C:=C) (nm:=nm) (q:=q) (N:=NN) (bs:=bs) (bm:=tl) (hdct:=hdct) (sn:=sn) (sub:=sub) (ab:=ab) (col:=col) (dd:=dd) (k0:=k0) (k1:=k1) (k2:=k2) (k3:=k3) (k5:=k5) FB (mN:=mN)
  (T.hasType FB.hasBase) (I.ok.hd hc) (by rw [he];show (false || (backTo cpos (starEach es X.env)).any (·.1))=false;rw [hpl];rfl) hni (zcB I hg O.bound ⟨rfl,?_⟩ hdb)
 have hA:=ha cpos pins s σ H _ I h
 rw [he] at hA ⊢;refine Calls.evalArgs_plain (thn hA fun us s2 ⟨vs,H1,I1,r1,hl,q1⟩=>⟨rfl,?_,I1.bk _ _ hC,hN.keeps I1.bk,T.keeps I1.bk,fun h' a hm=>hr pins σ H1 _ a _ (zh6 (t' := s2.toks) I1 hex hm) q1⟩)
 show us.length<=sizeLine
 rw [<- r1.length];exact Nat.le_trans hl (by decide)
end
section
variable {X:Cx} {CX:CXT} {k:Nat} {f C:Addr} {fd:FuncData} {ps:List Str} {sp:Sp} {dvs:List V} {ds:List Value} {Ex:St->XK} {x m:Str} {p pos apos:Pos} {e o:Expr} {es:List Expr} {ta:TE} {t:TA}
theorem zdE {pins:List (Addr×Obj)} {σ:St} {H:Hp} {s:Shared} {Q:VK} {us:List Value} {vs:List V} (F:FnOk X.prog X.w X.K X.mg X.base CX k f fd ps sp) (hr:Room k X.A) (hb:Binds X.K fd ps ds) (hd:Vals dvs ds) (hx:yd0 CX X Ex)
  (I:Inv X pins σ H s) (r:Vals vs us) (h:sp (vs++dvs) H Q (Ex σ)):wpAny (model X.prog X.w) X.A (call (.ref f) us) (EP X pins σ Q) X.xe s:=by
 have r2:Vals (vs++dvs) (us++ds):=r.append hd
 have hl:(us++ds).length=ps.length:=by rw [<- r2.length];exact F.len _ _ _ _ h
 refine wpAny_call (codeAny_mono (F.run X.A X.stack s H ⟨us,[]⟩ (us++ds) (vs++dvs) Q (Ex σ) hr I.env0 (hb s us I.kIn hl) r2 h) fun r s' hq=>?_)
 cases r with
 | error e=>exact hx pins σ H s e s' I hq
 | ok fl =>
  cases fl with
  | ret u=>exact I.after hq
  | next=>exact False.elim hq
  | brk=>exact False.elim hq
  | cont=>exact False.elim hq
def yhx (sp:Sp) (dvs:List V) (Ex:St->XK) (t:TA):TE:=fun σ H Q=>t σ H fun vs H1=>sp (vs++dvs) H1 Q (Ex σ)
theorem zh9 (F:FnOk X.prog X.w X.K X.mg X.base CX k f fd ps sp) (hr:Room k X.A) (hg:Gl X x) (hm:X.mg x=some (.ref f)) (hk:PySem.W.keepIn X.K (.ref f)=true) (hb:Binds X.K fd ps ds) (hd:Vals dvs ds) (hx:yd0 CX X Ex)
  (ha:PA X (e::es) t) (hdb:(x == ("__debug__" : Str))=false:=by decide) (he:starEach (e::es) X.env=(false,eval e X.env)::starEach es X.env:=by rfl) (hpl:(backTo pos (starEach es X.env)).any (·.1)=false:=by rfl) :
  PE X (.Call (.Name x p) (e::es) [] pos) (yhx sp dvs Ex t):=by
 intro pins s σ H Q I h
 refine wpAny_Call_Name_kw (zcB I hg hm ?_ hdb)
 refine PySem.W.callWith_K (h₀:=X.base) I.ok.mod.kin hk (thn (ha pos pins s σ H _ I h) fun us s1 ⟨vs,H1,I1,r,q⟩=>⟨I1.kIn,?_⟩) he hpl
 exact zdE F hr hb hd hx I1 r q
def yfz (C:Addr) (m:Str) (sp:Sp) (dvs:List V) (Ex:St->XK) (ta:TE) (t:TA):TE:=fun σ H Q=>ta σ H fun x H1=>∃ a dx fs,x = .ref a/\H1 a=some (.ins C dx fs)/\fs.lookup m=none /\
 t σ H1 fun vs H2=>sp (x::(vs++dvs)) H2 Q (Ex σ)
theorem zia {pl:Sem Bool} (he:PE X o ta) (c:Cls X.K C) (hm:Meth X.K C m f) (F:FnOk X.prog X.w X.K X.mg X.base CX k f fd ps sp) (hr:Room k X.A) (hb:Binds X.K fd ps ds) (hd:Vals dvs ds) (hx:yd0 CX X Ex) (ha:PA X (e::es) t)
  (hst:starEach (e::es) X.env=(false,eval e X.env)::starEach es X.env:=by rfl) (hpl:(backTo pos (starEach es X.env)).any (·.1)=false:=by rfl)
  (ht:eval (.Call (.Attribute o m apos) (e::es) [] pos) X.env=(do
   let ov <- eval o X.env
   standAt apos.atName
   let (f,first) <- holding [ov] (getMethod ov m pl)
   callWith pos f first (backTo pos (starEach (e::es) X.env)) (backToKw pos (keywordEach [] X.env))):=by rfl) :
  PE X (.Call (.Attribute o m apos) (e::es) [] pos) (yfz C m sp dvs Ex ta t):=by
 intro pins s σ H Q I h
 refine PySem.W.methodCall_KW (pl:=pl) (thn (he pins s σ H _ I h) fun u s1 ⟨x,H1,I1,rx,a,dx,fs,ex,ea,l,q⟩=>?_) ht
 subst ex;obtain rfl:u=Value.ref a:=rx
 refine zdr I1 ea c hm l ?_
 refine PySem.W.callWith_K (first:=[.ref a]) (h₀:=X.base) I.ok.mod.kin hm.kp (thn (ha pos pins s1 σ H1 _ I1 q) fun us s2 ⟨vs,H2,I2,r,q2⟩=>⟨I2.kIn,?_⟩) hst hpl
 exact zdE (us:=.ref a::us) (vs:=.ref a::vs) F hr hb hd hx I2 (.cons rfl r) q2
end
def excO (a:Addr) (cls:Value):HO:=.ext fun h=>∃ ob vs,h.get? a=some ob/\ob.cls=cls/\ob.data = .fields vs
section
variable {X:Cx} {pins pins':List (Addr×Obj)} {σ:St} {H:Hp} {s:Shared} {xe:Value->Shared->Prop}
end
section
variable {X:Cx} {xc n:Str} {C:Addr} {i:Nat} {body suite:List Stmt} {b0:Stmt} {np hpos pos:Pos} {tb:(St->XK)->TS} {th:TS} {outer:List Env}
end
section
variable {P:Program} {w:World} {K:PySem.W.Frag} {mg:Str->Option Value} {base:Heap}
theorem Fun.okE {x qual:Str} {st:Stmt} {f:Addr} {fd:FuncData} {N ps:List Str} {k:Nat} {sp:Sp} (F:Fun K x qual st f fd) (S:FnScope N ps (yad st)) (len:∀ vs H Q E,sp vs H Q E->vs.length=ps.length)
  (hbody:∀ (cdv:Value) (A:Around) (outer:List Env) (s:Shared) (H:Hp) (vs:List V) (Q:VK) (E:XK),Room k (A.deeper (envOfC qual (yad st) s.heap.objs.size f cdv))->sp vs H Q E ->
   ∃ t,PSs (cxOf (CXE P w) P w K mg base N qual (yad st) f cdv A outer s H E) (yal st) t/\t { nx:=fun _ H' => Q .non H',rt:=Q } (start N vs) H):FnOk P w K mg base (CXE P w) (k+1) f fd ps sp:=by
 obtain ⟨oc,od,kV,doc,pm,an,cdv,ct,osl,rfl,lk,hcd⟩:=F.ex
 exact yiC lk hcd S len fun A outer s H vs Q E hr hsp=>hbody cdv A outer s H vs Q E hr hsp
end
end L2
namespace L2
open PySem PySem.Spec PyProof.Rows
theorem zbw {K:PySem.W.Frag} {hp:Heap} {g:Str->Option Value} {nm:Str} {Ca:Addr} {bb:List Value} {nid:String} (Z:K.In hp) (hb:g nm=some (.ref Ca)) (ok:PySem.W.excIn K Ca bb nid=true):OwnCls nm Ca bb nid g hp:=by
 refine ⟨hb,?_⟩
 unfold PySem.W.excIn at ok
 split at ok
 ·rename_i dA cA sA hA
  split at ok
  ·rename_i D' tl w0 w1 w2 w3 bn w5 eM eS
   simp only [Bool.and_eq_true,beq_iff_eq,Bool.not_eq_true'] at ok
   obtain ⟨⟨⟨⟨⟨rfl,rfl⟩,e1⟩,e2⟩,e3⟩,e4⟩:=ok
   obtain ⟨f1,f2,f3,f4,f5,f6,f7,f8,f9,f10,f11⟩:=cA
   dsimp only at eM e1 e3 e4
   subst eM e1
   have eA:sA = #[w0,w1,w2,w3,some (.builtin bn),w5]:=by
    obtain ⟨ll⟩:=sA
    simp only at eS
    rw [eS]
   subst eA;refine ⟨tl,f4,f1,f5,f2,f6,f7,f8,f9,f10,dA,w0,w1,w2,w3,w5,_,Z _ _ hA,.of_isNs (PySem.W.isNs_of_in Z e3),?_,PySem.W.tail_of_in Z e2⟩
   exact PySem.W.nsMap_none_of_in Z e3 e4
  ·cases ok
 ·cases ok
mutual
inductive DaV (K:PySem.W.Frag) (H:Hp):V->PyData->Prop
 | non:DaV K H .non .none
 | bl (b):DaV K H (.bl b) (.bool b)
 | int (i):DaV K H (.int i) (.int i)
 | str (x):DaV K H (.str x) (.str x)
 | lst {a xs ds}:SqL K H a xs->DaVs K H xs ds->DaV K H (.ref a) (.list ds)
 | tup {a xs ds}:SqT K H a xs->DaVs K H xs ds->DaV K H (.ref a) (.tuple ds)
inductive DaVs (K:PySem.W.Frag) (H:Hp):List V->List PyData->Prop
 | nil:DaVs K H [] []
 | cons {x xs d ds}:DaV K H x d->DaVs K H xs ds->DaVs K H (x::xs) (d::ds)
end
section
variable {X:Cx} {pins:List (Addr×Obj)} {σ:St} {H:Hp} {s:Shared}
mutual
theorem DaV.reads (I:Inv X pins σ H s):∀ {x:V} {d:PyData} {u:Value},DaV X.K H x d->RelV x u->∃ as,Reads s.heap u d as
 | _,_,_,.non,r=>by cases r;exact ⟨_,.none⟩
 | _,_,_,.bl b,r=>by cases r;exact ⟨_,.bool b⟩
 | _,_,_,.int i,r=>by obtain ⟨t,rfl⟩:=r;exact ⟨_,.int i t⟩
 | _,_,_,.str x,r=>by obtain ⟨t,rfl⟩:=r;exact ⟨_,.str x t⟩
 | _,_,_,.lst (a:=a) h1 h2,r=>by
  cases r
  obtain ⟨its,rv,⟨o,n,e1,e2,e3⟩,_⟩:=I.list h1
  obtain ⟨as,q⟩:=DaVs.reads I h2 rv
  exact ⟨_,.list (vs:=its.toArray) (n:=n) e1 (by first | exact e2.1 | exact e2) (by first | exact e2.2.2 | exact e2.2 | exact e3 | exact e3.2) (by simpa using q)⟩
 | _,_,_,.tup (a:=a) h1 h2,r=>by
  cases r
  obtain ⟨its,rv,⟨o,e1,e2,n,e3⟩,_⟩:=I.tuple h1
  obtain ⟨as,q⟩:=DaVs.reads I h2 rv
  exact ⟨_,.tuple (vs:=its.toArray) (n:=n) e1 e2 e3 (by simpa using q)⟩
theorem DaVs.reads (I:Inv X pins σ H s):∀ {xs:List V} {ds:List PyData} {us:List Value},DaVs X.K H xs ds->Vals xs us->∃ as,ReadsAll s.heap us ds as
 | _,_,_,.nil,r=>by cases r;exact ⟨_,.nil⟩
 | _,_,_,.cons h1 h2,r=>by
  cases r with
  | cons r1 r2 =>
   obtain ⟨as,q1⟩:=DaV.reads I h1 r1
   obtain ⟨bs,q2⟩:=DaVs.reads I h2 r2
   exact ⟨_,.cons q1 q2⟩
end
def rEqD (K:PySem.W.Frag):R2:=fun x y H Q=>∃ d e,DaV K H x d/\DaV K H y e/\d.canLay0=true/\e.canLay0=true/\d.depth<=60/\Q (.bl (PyData.eqv d e)) H
def rNeD (K:PySem.W.Frag):R2:=fun x y H Q=>∃ d e,DaV K H x d/\DaV K H y e/\d.canLay0=true/\e.canLay0=true/\d.depth<=60/\Q (.bl (!PyData.eqv d e)) H
theorem yfA (hu:X.A.units+64<cLine):OpR X (compareOp .Eq) (rEqD X.K):=by
 intro pins s σ H x y v u Q I rx ry h
 obtain ⟨d,e,h1,h2,c1,c2,dp,q⟩:=h
 obtain ⟨as,r1⟩:=h1.reads I rx
 obtain ⟨bs,r2⟩:=h2.reads I ry
 exact SeqAt.compareEq_reads r1 r2 c1 c2 (by have:=Nat.min_le_left d.depth e.depth;omega) ⟨.bl _,H,I,rfl,q⟩
theorem yfB (hu:X.A.units+64<cLine):OpR X (compareOp .NotEq) (rNeD X.K):=by
 intro pins s σ H x y v u Q I rx ry h
 obtain ⟨d,e,h1,h2,c1,c2,dp,q⟩:=h
 obtain ⟨as,r1⟩:=h1.reads I rx
 obtain ⟨bs,r2⟩:=h2.reads I ry
 exact SeqAt.compareNe_reads r1 r2 c1 c2 (by have:=Nat.min_le_left d.depth e.depth;omega) ⟨.bl _,H,I,rfl,q⟩
end
theorem hu64 {A:Around} {k:Nat} (hr:Room k A):A.units+64<cLine:=by
 have:=hr.un
 omega
def yiM (K:PySem.W.Frag):R2:=fun x y H Q=>∃ l b xs zs,x = .ref l/\y = .ref b/\SqL K H l xs/\SqL K H b zs/\xs.length+zs.length<=sizeLine/\∀ p,H p=none->Q (.ref p) (upd H p (.lst (xs++zs)))
theorem zfy {X:Cx}:OpR X (binaryOp .Add) (yiM X.K):=by
 intro pins s σ H x y v u Q I rx ry h
 obtain ⟨l,b,xs,zs,rfl,rfl,hH,hB,hz,q⟩:=h
 cases rx
 cases ry
 obtain ⟨its,r,⟨o,n,e1,e2,e3,e4⟩,z⟩:=I.list hH
 obtain ⟨its2,r2,⟨o2,n2,g1,g2,g3,g4⟩,z2⟩:=I.list hB
 obtain ⟨oc,od,oda,osl⟩:=o
 obtain ⟨oc2,od2,oda2,osl2⟩:=o2
 dsimp only at e2 e3 e4 g2 g3 g4
 subst e2 e3 e4 g2 g3 g4
 have l1:=r.length
 have l2:=r2.length
 refine concat_meets ⟨_,e1,rfl⟩ ⟨_,g1,rfl⟩ noFill_list_add seq_list_add PySem.F.slot_list_add PySem.F.entry_list_add (PySem.F.args_list_add_2 _ _) (list_addW l b its.toArray its2.toArray n n2 none none osl osl2 (by rw [List.size_toArray,List.size_toArray];omega)) ⟨e1,g1,?_⟩
 have ea:its.toArray++its2.toArray=(its++its2).toArray:=by simp
 rw [ea];exact ⟨.ref s.heap.objs.size,_,I.lnew (t' := s.toks) (r.append r2) (by rw [List.length_append];exact hz),rfl,q _ I.fresh⟩
end L2
namespace L2
open PySem PySem.Spec PyProof.Rows
section
variable {X:Cx} {pins:List (Addr×Obj)} {σ:St} {H:Hp} {s:Shared}
open Classical in
def isD (h:Heap) (d:PyData) (v:Value):Bool:=if q:∃ e as,e.canLay0=true/\Reads h v e as then PyData.eqv q.choose d else false
theorem yfC {h:Heap} {d e:PyData} {v:Value} {as:List Addr} (c:e.canLay0=true) (r:Reads h v e as):isD h d v=PyData.eqv e d:=by
 have q:∃ e as,e.canLay0=true/\Reads h v e as:=⟨e,as,c,r⟩
 unfold isD
 rw [dif_pos q];obtain ⟨as',c',r'⟩:=q.choose_spec
 have z:q.choose=e:=by first | exact (Reads.unique _ _ r' r).1 | exact (Reads.unique r' r).1 | exact Reads.unique _ _ _ _ _ c' r' r | exact PySem.SeqAt.Reads.unique _ _ _ _ _ c' r' r | exact PySem.Reads.unique _ _ _ _ _ c' r' r
 rw [z]
theorem zfz (I:Inv X pins σ H s):∀ {xs:List V} {ds:List PyData} {us:List Value},DaVs X.K H xs ds->Vals xs us->us.length=ds.length/\∀ (j:Nat) u d,us[j]? = some u->ds[j]? = some d->∃ as,Reads s.heap u d as
 | _,_,_,.nil,r=>by cases r;exact ⟨rfl,fun j u d e=>by cases e⟩
 | _,_,_,.cons h1 h2,r=>by
  cases r with
  | cons r1 r2 =>
   obtain ⟨l,q⟩:=zfz I h2 r2
   refine ⟨by rw [List.length_cons,List.length_cons,l],fun j u d e1 e2=>?_⟩
   cases j with
   | zero=>cases e1;cases e2;exact h1.reads I r1
   | succ j=>exact q j u d e1 e2
theorem zfA {h:Heap} {d:PyData}:∀ {us:List Value} {ds:List PyData},us.length=ds.length->(∀ (j:Nat) u e,us[j]? = some u->ds[j]? = some e->isD h d u=PyData.eqv e d)->us.any (isD h d)=ds.any fun e=>PyData.eqv e d
 | [],[],_,_=>rfl
 | u::us,e::ds,hl,hh=>by
  rw [List.any_cons,List.any_cons,hh 0 u e rfl rfl,zfA (us:=us) (ds:=ds) (Nat.succ.inj hl) fun j u' e' a b=>hh (j+1) u' e' a b]
end
theorem zfB:∀ {xs:List Str} {us:List Value},Vals (xs.map V.str) us->∃ l:List (Str×Tok),us=strValues l/\l.map (·.1)=xs
 | [],_,r=>by cases r;exact ⟨[],rfl,rfl⟩
 | x::xs,_,r=>by
  cases r with
  | cons r1 r2 =>
   obtain ⟨t,rfl⟩:=r1
   obtain ⟨l,e1,e2⟩:=zfB r2
   exact ⟨(x,t)::l,by rw [e1];rfl,by rw [List.map_cons,e2]⟩
theorem zgK:∀ (xs:List Str),(Builtin.Str.glued Str.empty xs).cps.toList=(xs.map fun x=>x.cps.toList).flatten:=by
 have all:∀ (xs:List Str) (acc:Array Nat),(xs.foldl (fun acc p=>acc++Str.empty.cps++p.cps) acc).toList=acc.toList++(xs.map fun x=>x.cps.toList).flatten:=by
  intro xs
  induction xs with
  | nil=>intro acc;simp
  | cons x r ih =>
   intro acc
   rw [List.foldl_cons,ih];have e:(Str.empty.cps) = #[]:=rfl
   simp [e]
 intro xs
 unfold Builtin.Str.glued
 cases xs with
 | nil=>rfl
 | cons x r=>simp only [List.drop_succ_cons,List.drop_zero,List.headD_cons];rw [all];simp
theorem zda:∀ (xs:List Str) (a:Nat),xs.foldl (fun n x=>n+x.length+Str.empty.length) a=a+((xs.map fun x=>x.cps.toList).flatten).length
 | [],a=>by simp
 | x::r,a=>by
  rw [List.foldl_cons,zda r];have e1:Str.empty.length=0:=rfl
  have e2:x.length=x.cps.toList.length:=by simp [Str.length]
  rw [e1,e2,List.map_cons,List.flatten_cons,List.length_append];omega
def yiN (K:PySem.W.Frag):V->List V->Hp->VK->Prop:=fun x vs H Q=>∃ (l:Addr) (xs:List Str),x = .str Str.empty/\vs=[.ref l]/\SqL K H l (xs.map V.str)/\((xs.map fun x:Str=>x.cps.toList).flatten).length<=1000000/\∀ r:Str,r.cps.toList=(xs.map fun x:Str=>x.cps.toList).flatten->Q (.str r) H
theorem zi6 {X:Cx}:MtR X "str.join" (yiN X.K):=by
 intro pins s σ H x vs v us Q I rx rv h
 obtain ⟨l,xs,rfl,rfl,hq,hz,q⟩:=h
 obtain ⟨t,rfl⟩:=rx
 obtain ⟨u,rfl,ru⟩:=ydu rv
 cases ru
 obtain ⟨its,r,pl,_⟩:=I.list hq
 obtain ⟨ll,rfl,e2⟩:=zfB r
 have hok:JoinOk Str.empty xs=true:=by
  unfold JoinOk
  rw [Bool.not_eq_true'];first
   | (rw [List.foldl_toArray,zda,Nat.zero_add];unfold Builtin.Str.tooLong;exact decide_eq_false (Nat.not_lt.mpr (Nat.le_trans hz (by decide))))
   | (unfold joinFit;rw [List.foldl_toArray,zda,Nat.zero_add];unfold Builtin.Str.tooLong;exact decide_eq_false (Nat.not_lt.mpr (Nat.le_trans hz (by decide))))
 exact SC.join pl.isList e2 hok fun t' k=>⟨.str _,H,I.tok _,⟨_,rfl⟩,q _ (zgK xs)⟩
end L2
namespace L2
open PySem PySem.Spec PyProof.Rows
section
variable {X:Cx} {tg:Expr}
theorem zcV (ns:List Int):∀ k,k<=ns.length->preSum (fun i=>(ns[i]?).getD 0) k=(ns.take k).sum
 | 0,_=>by simp [preSum]
 | k+1,h=>by
  show preSum _ k+(ns[k]?).getD 0=_
  rw [zcV ns k (by omega),List.take_succ,List.sum_append]
  congr 1
  rw [List.getElem?_eq_getElem (by omega)]
  simp
theorem zib (hc:X.calm=true):CallR X (.builtin "sum") (fun xs H Q=>∃ (a:Addr) (ns:List Int),xs=[.ref a]/\SqL X.K H a (ns.map V.int)/\Q (.int ns.sum) H):=by
 intro pins s σ H xs us Q I r h
 obtain ⟨l,bs,rfl,hq,q⟩:=h
 obtain ⟨u,rfl,rx⟩:=ydu r
 cases rx
 obtain ⟨its,rv,pl,hz⟩:=I.list hq
 have hlt:l<s.heap.objs.size:=by obtain ⟨_,_,e,_⟩:=pl;exact Heap.lt_size e
 have hlen:its.length=bs.length:=by rw [<- rv.length,List.length_map]
 refine call_sum_walkAnyS (wpAny_pyIter_list pl.isList ?_)
 refine ⟨s.heap.objs.size,[s.heap.objs.size,l],[s.heap.objs.size],_,its.toArray.size,_,_,fun i=>(bs[i]?).getD 0,rfl,(Walks.list (prog:=X.prog) (w:=X.w) (A:=X.A.in1) (I.ok.hd hc) s.heap.objs.size l (Nat.ne_of_lt hlt) its.toArray).toS,
  ⟨⟨_,Heap.get?_push_size _ rfl,rfl,rfl⟩,pl.isList.push _⟩,fun b hb=>?_,fun i v hP=>?_,fun s' t' hm=>?_⟩
 ·rcases List.mem_cons.mp hb with rfl | hb
  ·exact Heap.lt_size (Heap.get?_push_size _ rfl)
  ·obtain rfl:=List.mem_singleton.mp hb
   obtain ⟨_,_,e,_⟩:=pl
   exact Heap.lt_size (Heap.get?_push_of_some _ e)
 ·have hP':its[i]? = some v:=by simpa using hP
  have hi:i<its.length:=(List.getElem?_eq_some_iff.mp hP').1
  have hb:(bs.map V.int)[i]? = some (V.int (bs[i]'(by omega))):=by rw [List.getElem?_map,List.getElem?_eq_getElem (by omega)];rfl
  obtain ⟨u,hu,ru⟩:=rv.get hb
  rw [hP'] at hu
  cases hu
  obtain ⟨t,rfl⟩:=ru
  refine ⟨t,?_⟩
  show Value.int _ t=Value.int ((bs[i]?).getD 0) t
  rw [List.getElem?_eq_getElem (by omega)];rfl
 ·obtain ⟨h',g',d',tk',os'⟩:=s'
  have e1:g'=s.gens:=hm.gens
  have e2:d'=s.drawn:=hm.drawn
  have e3:os'=s.os:=hm.os
  subst e1 e2 e3
  have e:preSum (fun i=>(bs[i]?).getD 0) its.toArray.size=bs.sum:=by
   rw [List.size_toArray,hlen,zcV bs _ (Nat.le_refl _),List.take_of_length_le (Nat.le_refl _)]
  rw [e];refine ⟨.int _,H,I.kept (t' := tk') fun b o q=>?_,⟨_,rfl⟩,q⟩
  exact hm.heap b o (fun hb=>by rw [List.mem_singleton.mp hb] at q;exact Nat.lt_irrefl _ (Heap.lt_size q)) (Heap.get?_push_of_some _ q)
def Itr3 (lo c:Int) (n:Nat):It:=⟨fun i _=>i<n,fun i H x H' => H'=H/\x = .int (lo+i*c),fun i _=>n<=i⟩
theorem ze9 {P:Program} {w:World} {K:PySem.W.Frag} {tg:Expr} (it:Addr) (lo c:Int) (n:Nat):Turn P w K tg (Itr3 lo c n) [it] it (fun i h=>IsRangeIter h it (lo+(i:Nat)*c) ((n:Int)-(i:Nat)) c) where
 mem:=by simp
 obj:=fun i h st b hb=>by
  have e:b=it:=by simpa using hb
  subst e;exact ⟨_,st,fun v z=>by
   have z':Data.fields _=Data.cell v:=z
   cases z'⟩
 keep:=fun i h h' st k=>k it (by simp) _ st
 item:=by
  intro X hP hw hK hc i pins s σ H E I hf st hg
  subst hP hw hK
  obtain ⟨f0,f1,f2,f3,f4,f5⟩:=hf it (by simp)
  have W:=Walks.range (prog:=X.prog) (w:=X.w) (I.ok.hd hc) it lo c n
  refine W.item i s _ _ hg st fun v h' tk hv st' kk=>?_
  obtain ⟨t,rfl⟩:=hv
  have I1:Inv X pins σ H { s with heap:=h',toks:=tk }:=I.turned (fun b o hb e=>kk b o (by simpa using hb) e) f0 f1 f3 f4 f5
  exact ⟨_,rfl,yeL (s:={ s with heap:=h',toks:=tk }) (n := "range_iterator") st' rfl rfl (by decide) ⟨.int (lo+i*c),H,I1,⟨t,rfl⟩,⟨rfl,rfl⟩,st',fun b hb=>(hf b hb).1⟩⟩
 done:=by
  intro X hP hw hK hc i pins s σ H E I hf st hg
  subst hP hw hK
  obtain ⟨f0,f1,f2,f3,f4,f5⟩:=hf it (by simp)
  exact wpAny_pyNext_range_end (I.ok.hd hc) st (by have:n<=i:=hg;omega) fun h' eb=>⟨rfl,I.turned (t' := s.toks) (fun b o hb e=>eb b o hb e) f0 f1 f3 f4 f5⟩
 self:=fun _ _ _ _ _ st h=>wpAny_pyIter_rangeiter st h
theorem zhm {a b c:Int} (hc:0<c):Builtin.Range.rangeSize a b c=(((if a<b then (b-a-1) / c+1 else 0:Int).toNat:Nat):Int):=by
 unfold Builtin.Range.rangeSize
 rw [if_pos hc];split
 ·have:0<=(b-a-1) / c:=Int.ediv_nonneg (by omega) (by omega)
  omega
 ·rfl
theorem zbS {x:Int} (h:x.natAbs<2 ^ 42):Builtin.Range.rangeFitsLong x=true:=by
 have h2:x.natAbs<4398046511104:=h
 simp only [Builtin.Range.rangeFitsLong,Bool.and_eq_true,decide_eq_true_eq]
 omega
theorem zhn {a b c:Int} (ha:a.natAbs<2 ^ 40) (hb:b.natAbs<2 ^ 40) (hc:0<c):(Builtin.Range.rangeSize a b c).natAbs<2 ^ 42:=by
 have ha2:a.natAbs<1099511627776:=ha
 have hb2:b.natAbs<1099511627776:=hb
 show _<4398046511104
 unfold Builtin.Range.rangeSize
 rw [if_pos hc];split
 ·have h1:0<=(b-a-1) / c:=Int.ediv_nonneg (by omega) (by omega)
  have h2:(b-a-1) / c<=b-a-1:=Int.ediv_le_self _ (by omega)
  generalize (b-a-1) / c=d at *;omega
 ·decide
theorem zgL {a b c:Int} (ha:a.natAbs<2 ^ 40) (hb:b.natAbs<2 ^ 40) (hc:0<c) (hc':c<2 ^ 20):Builtin.Range.small a b c=true:=by
 have l:(2:Nat) ^ 40<2 ^ 42:=by decide
 unfold Builtin.Range.small
 rw [zbS (Nat.lt_trans ha l),zbS (Nat.lt_trans hb l),zbS (x:=c) (by have h2:c<1048576:=hc';show _<4398046511104;omega),zbS (zhn ha hb hc),if_pos hc,zbS (x:=b+(c-1)) (by have h2:c<1048576:=hc';have h3:b.natAbs<1099511627776:=hb;show _<4398046511104;omega)]
 simp
def yiO (ta:TA):TI:=fun σ H R=>ta σ H fun vs H1=>∃ i j c:Int,vs=[.int i,.int j,.int c]/\(i.natAbs<2 ^ 40/\j.natAbs<2 ^ 40/\0<c/\c<2 ^ 20)/\R (Itr3 i c (if i<j then (j-i-1) / c+1 else 0:Int).toNat) H1
theorem zho {pins:List (Addr×Obj)} {σ:St} {H:Hp} {s:Shared} {R:It->Hp->Prop} {E:Value->Shared->Prop} {lo hi c:Int} {t u v:Tok} {tk:Nat} (I:Inv X pins σ H s) (h1:lo.natAbs<2 ^ 40) (h2:hi.natAbs<2 ^ 40) (h3:0<c) (h4:c<2 ^ 20)
  (q:R (Itr3 lo c (if lo<hi then (hi-lo-1) / c+1 else 0:Int).toNat) H):wpAny (model X.prog X.w) X.A (pyIter (.ref s.heap.objs.size)) (PIE X pins σ tg R) E { s with heap:=s.heap.push { cls:=.type "range",data:=.fields #[.int lo t,.int hi u,.int c v] },toks:=tk }:=by
 refine wpAny_pyIter_range (IsRange.new ..) (zgL h1 h2 h3 h4) ?_
 have I1:Inv X pins σ H { s with heap:=s.heap.push { cls:=.type "range",data:=.fields #[.int lo t,.int hi u,.int c v] },toks:=tk }:=I.kept fun b o e=>Heap.get?_push_of_some _ e
 refine ⟨(s.heap.push { cls:=.type "range",data:=.fields #[.int lo t,.int hi u,.int c v] }).objs.size,[(s.heap.push { cls:=.type "range",data:=.fields #[.int lo t,.int hi u,.int c v] }).objs.size],_,_,H,rfl,
  I1.kept (t' := tk) fun b o e=>Heap.get?_push_of_some _ e,ze9 _ lo c (if lo<hi then (hi-lo-1) / c+1 else 0:Int).toNat,?_,fun b hb=>?_,q⟩
 ·have e1:lo+((0:Nat):Int)*c=lo:=by simp
  have e2:(((if lo<hi then (hi-lo-1) / c+1 else 0:Int).toNat:Nat):Int)-((0:Nat):Int)=Builtin.Range.rangeSize lo hi c:=by rw [zhm h3];omega
  show IsRangeIter _ _ (lo+((0:Nat):Int)*c) ((((if lo<hi then (hi-lo-1) / c+1 else 0:Int).toNat:Nat):Int)-((0:Nat):Int)) c
  rw [e1,e2];exact Heap.get?_push_size _ rfl
 ·have e:b=(s.heap.push { cls:=.type "range",data:=.fields #[.int lo t,.int hi u,.int c v] }).objs.size:=by simpa using hb
  subst e;exact I1.fpOk (Nat.le_refl _) (I1.hok.fresh (Nat.le_refl _))
theorem zhp {a b c:Expr} {ta:TA} {p pos:Pos} (hg:Gl X "range") (hm:X.mg "range" = none) (ha:PA X [a,b,c] ta) (hs:starEach [a,b,c] X.env=[(false,eval a X.env),(false,eval b X.env),(false,eval c X.env)]:=by rfl) (hs2:starEach [b,c] X.env=[(false,eval b X.env),(false,eval c X.env)]:=by rfl) :
  PI X tg (.Call (.Name "range" p) [a,b,c] [] pos) (yiO ta):=by
 intro pins s σ H R I h
 refine Call_ (ydY I hg hm boot_range (PyProof.Rows.callWith_type1 (thn (ha pos pins s σ H _ I h) fun us s1 ⟨vs,H1,I1,r1,q1⟩=>?_) (by rw [hs,hs2]) (by rw [hs2];rfl)))
 obtain ⟨i,j,c,e,⟨q1,q2,q3,q4⟩,q⟩:=q1
 subst e
 cases r1 with
 | cons r rr =>
  cases rr with
  | cons r' rr =>
   cases rr with
   | cons r'' rr =>
    cases rr
    obtain ⟨t,rfl⟩:=r
    obtain ⟨t',rfl⟩:=r'
    obtain ⟨t'',rfl⟩:=r''
    exact call_range_3 (by omega) (zho I1 q1 q2 q3 q4 q) (.inl (PyProof.noPylong_small (by omega)))
end
end L2
namespace L2
open PySem PySem.Spec PyProof.Rows
open PySem.Builtin PySem.Builtin.Str
section
variable {X:Cx}
def cutS (z:Str) (lo hi:Option Int):Str:=⟨((z.cps.toList.drop (HT.sIx z.cps.toList.length 0 lo)).take (HT.sIx z.cps.toList.length z.cps.toList.length hi-HT.sIx z.cps.toList.length 0 lo)).toArray⟩
theorem zbG (n d:Nat) (i:Int):max 0 (min (if i<0 then i+(n:Int) else i) (n:Int))=((HT.sIx n d (some i):Nat):Int):=by
 show max 0 (min (if i<0 then i+(n:Int) else i) (n:Int))=(((if i<0 then (i+(n:Int)).toNat else min i.toNat n):Nat):Int)
 split<;>omega
theorem zbY {a b:Int} {A B:Nat} (ha:a=A) (hb:b=B):sliceRange a b 1=(List.range (B-A)).map fun k=>A+k:=by
 subst ha hb
 unfold sliceRange
 simp only [show (1:Int) > 0 by decide,if_true]
 have:(if (A:Int)<(B:Int) then ((B:Int)-A+1-1) / 1 else 0).toNat=B-A:=by
  split<;>(try simp only [Int.ediv_one])<;>omega
 rw [this];apply List.map_congr_left
 intro k _
 omega
theorem zic (xs:List Nat) (i k:Nat):(List.range k).filterMap (fun m=>xs[i+m]?)=(xs.drop i).take k:=by
 induction k generalizing i with
 | zero=>simp
 | succ k ih =>
  rw [List.range_succ_eq_map,List.filterMap_cons,List.filterMap_map];have e:((fun m=>xs[i+m]?) ∘ Nat.succ)=fun m=>xs[(i+1)+m]? := by
   funext m;show xs[i+(m+1)]? = _;congr 1;omega
  rw [e,ih (i+1)]
  cases h:xs[i]? with
  | none =>
   have hl:xs.length<=i:=List.getElem?_eq_none_iff.mp h
   simp only [Nat.add_zero,h]
   rw [List.drop_of_length_le (by omega),List.drop_of_length_le hl];simp
  | some v =>
   have hi:=(List.getElem?_eq_some_iff.mp h).1
   simp only [Nat.add_zero,h]
   rw [List.drop_eq_getElem_cons hi,List.take_succ_cons];congr 1
   exact (Option.some.inj ((List.getElem?_eq_getElem hi).symm.trans h)).symm
theorem zgM (n:Nat) (lo hi:Option Int):strSliceIndices lo hi 1 n=(List.range (HT.sIx n n hi-HT.sIx n 0 lo)).map fun k=>HT.sIx n 0 lo+k:=by
 cases lo with
 | none =>
  cases hi with
  | none=>exact zbY rfl rfl
  | some j=>exact zbY rfl (zbG n n j)
 | some i =>
  cases hi with
  | none=>exact zbY (zbG n 0 i) rfl
  | some j=>exact zbY (zbG n 0 i) (zbG n n j)
theorem zid (z:Str) (lo hi:Option Int):Txt.slice z lo hi=cutS z lo hi:=by
 have hz:z.length=z.cps.toList.length:=by simp [Str.length]
 unfold Txt.slice cutS
 rw [hz,zgM,List.filterMap_map];have e:((fun x=>z.cps[x]?) ∘ fun k=>HT.sIx z.cps.toList.length 0 lo+k)=fun m=>z.cps.toList[HT.sIx z.cps.toList.length 0 lo+m]? := by
  funext m;simp
 rw [e,zic];split
 ·rename_i hc
  simp only [beq_self_eq_true,Bool.true_and,beq_iff_eq,List.length_map,List.length_range] at hc
  have h1:HT.sIx z.cps.toList.length z.cps.toList.length hi<=z.cps.toList.length:=HT.sIx_le _ _ (Nat.le_refl _) _
  have h2:HT.sIx z.cps.toList.length 0 lo=0\/z.cps.toList.length=0:=by omega
  rw [hc];rcases h2 with h2 | h2
  ·rw [h2,List.drop_zero,List.take_of_length_le (Nat.le_refl _)]
  ·have:z.cps.toList=[]:=List.eq_nil_of_length_eq_zero h2
   have h3:z.cps = #[]:=by simpa using this
   simp [h3]
   cases z;simp_all
 ·rfl
theorem zdu {v:Value} {o:Option Int} (p:IsPart v o):∃ l:Option (Int×Tok),v=partValue l/\l.map (·.1)=o:=by
 cases p with
 | none=>exact ⟨none,rfl,rfl⟩
 | int i t=>exact ⟨some (i,t),rfl,rfl⟩
theorem yhy:SlR X (fun x lo hi H Q=>∃ z,x = .str z/\z.length<=sizeLine/\Q (.str (cutS z lo hi)) H):=by
 intro pins s σ H x v vl vu lo hi sl Q I rx hs pl pu h
 obtain ⟨z,rfl,hz,q⟩:=h
 obtain ⟨t,rfl⟩:=rx
 obtain ⟨l,rfl,rfl⟩:=zdu pl
 obtain ⟨u,rfl,rfl⟩:=zdu pu
 refine ⟨"str",_,F.slot_str_getitem.lookup,typeIs_str _ _ _,?_⟩
 refine wpAny_getItem_str_slice (l:=l) (u:=u) (st:=none) hs rfl ?_
 refine post_val_or_str ⟨Nat.le_trans (Txt.slice_le z (l.map (·.1)) (u.map (·.1))) hz,fun t' k=>?_⟩
 have e:=zid z (l.map (·.1)) (u.map (·.1))
 refine ⟨.str (cutS z (l.map (·.1)) (u.map (·.1))),H,I.tok _,⟨t',?_⟩,q⟩
 rw [<- e];rfl
end
end L2
namespace L2
open PySem PySem.Spec PyProof.Rows
section
variable {X:Cx} {pins:List (Addr×Obj)} {σ:St} {H:Hp} {s:Shared} {x₁ x₂:Str} {jf:List (Nat×Str)} {scope:Scope} {fp:List Addr}
end
section
variable {X:Cx} {x₁ x₂:Str} {px p1 p2:Pos} {kk:Nat} {jf:List (Nat×Str)} {scope:Scope} {iter elt:Expr} {ifs:List Expr} {pos:Pos} {wi:TI} {tc:TT} {te:TE}
end
section
variable {X:Cx}
theorem zie (items:Array Value):slicePick items none none (some 1)=items:=by
 have e:slicePick items none none (some 1)=slicePick items none none none:=rfl
 rw [e,zce];simp [HT.sIx]
 rw [List.take_of_length_le (by rw [Array.length_toList];exact Nat.le_refl _)]
theorem zi7 {e st:Expr} {te ts:TE} {p2 pos:Pos} (he:PE X e te) (hs:PE X st ts):PE X (.Subscript e (.Slice none none (some st) p2) pos) (fun σ H Q=>te σ H fun x H1=>ts σ H1 fun y H2=>∃ a xs i,x = .ref a/\SqL X.K H2 a xs/\y = .int i/\(i=1\/i = -1)/\∀ p,H2 p=none->Q (.ref p) (upd H2 p (.lst (if i=1 then xs else xs.reverse)))):=by
 intro pins s σ H Q I h
 refine Subscript_ (thn (he pins s σ H _ I h) fun v s1 ⟨x,H1,I1,r1,q1⟩=>?_)
 refine wpAny_Slice ?_
 rw [evalPart_none];refine wpAny_pure ?_
 refine wpAny_pure ?_
 rw [evalPart_some];refine thn (hs pins s1 σ H1 _ I1 q1) fun u s2 ⟨y,H2,I2,r2,q2⟩=>?_
 obtain ⟨a,xs,i,rfl,hx,rfl,hi,q⟩:=q2
 cases r1
 obtain ⟨t2,rfl⟩:=r2
 have I4:Inv X pins σ H2 { s2 with heap:=s2.heap.push { cls:=.type "slice",data:=.fields #[.none,.none,.int i t2] } }:=I2.kept (t' := s2.toks) fun b ob q=>Heap.get?_push_of_some _ q
 show wpAny (model X.prog X.w) X.A (subscriptTail e (.Slice none none (some st) p2) (.ref a) (.ref s2.heap.objs.size)) (EP X pins σ Q) X.xe { s2 with heap:=s2.heap.push { cls:=.type "slice",data:=.fields #[.none,.none,.int i t2] } }
 obtain ⟨its,r,ht,hz⟩:=I4.list hx
 have hlen:=r.length
 refine tail_any (T := "list") (ops:=[.ref a,.ref s2.heap.objs.size]) ht.isList.typeIs slot_list_getitem.lookup ?_ (by with_unfolding_all rfl)
 refine wpAny_getItem_list_slice ht.isList (Heap.IsSliceOf.new ..) .none .none (.int i t2) (by rcases hi with rfl | rfl<;>simp) ?_ (by rw [List.size_toArray]<;>omega)
 have hp:slicePick its.toArray none none (some i)=(if i=1 then its else its.reverse).toArray:=by
  rcases hi with rfl | rfl
  ·rw [zie];rfl
  ·rw [PySem.W.krv_pick];rfl
 rw [hp];refine ⟨.ref _,_,I4.laid (t' := s2.toks) (o:=.lst (if i=1 then xs else xs.reverse)) (fun b ob q=>Heap.get?_push_of_some _ q) (Nat.le_refl _) ?_,rfl,q _ (I4.hok.fresh (Nat.le_refl _))⟩
 refine ⟨by split;exact hz;rw [List.length_reverse];exact hz,if i=1 then its else its.reverse,0,?_,Heap.get?_push_size _ rfl⟩
 split
 ·exact r
 ·exact r.reverse
end
end L2
namespace L2
open PySem PySem.Spec PyProof.Rows
open PySem.Builtin PySem.Builtin.Str
section
variable {X:Cx} {tg:Expr}
theorem zif:MtR X "str.upper" (fun x vs H Q=>∃ z,x = .str z/\vs=[]/\(Txt.upper z).length<=sizeLine/\Q (.str (Txt.upper z)) H):=by
 intro pins s σ H x vs v us Q I rx rv h
 obtain ⟨z,rfl,rfl,hl,q⟩:=h
 obtain ⟨t,rfl⟩:=rx
 cases rv
 exact call_gives F.slot_str_upper (typeIs_str s z t) F.entry_str_upper (F.args_str_upper_1 _) (gives_str_upper z t (decide_eq_false (Nat.not_lt.mpr hl))) ⟨hl,.str _,H,I.tok _,⟨_,rfl⟩,q⟩
end
end L2
namespace Sm
open PySem L2
inductive AV where
 | non | bl (b:Bool) | int (i:Int) | str (x:Str)
 | tup (xs:List AV)
 | fl (xs:List AV)
 | ref (n:Nat)
 | exc (c:Nat)
 deriving Inhabited
inductive AO where
 | lst (xs:List AV)
 | dct (t:Bool) (kvs:List (AV×AV))
 | ins (c:Nat) (fs:List (Option AV))
abbrev AH:=List AO
abbrev En:=List (Option AV)
inductive Out (α:Type) where
 | ok (a:α) (h:AH)
 | ex (c:Nat) (h:AH)
 | bad
@[simp] def Out.bind {α β:Type} (o:Out α) (f:α->AH->Out β):Out β :=
 match o with
 | .ok a h=>f a h
 | .ex c h=>.ex c h
 | .bad=>.bad
inductive OutS where
 | nx (e:En) (h:AH)
 | rt (v:AV) (h:AH)
 | bk (e:En) (h:AH)
 | ct (e:En) (h:AH)
 | ex (c:Nat) (e:En) (h:AH)
 | bad
abbrev SE:=En->AH->Out AV
abbrev SB:=En->AH->Out Bool
abbrev SL:=En->AH->Out (List AV)
abbrev SS:=En->AH->OutS
abbrev Fn:=List AV->AH->Out AV
@[simp] def Out.go {α:Type} (o:Out α) (e:En) (f:α->AH->OutS):OutS :=
 match o with
 | .ok a h=>f a h
 | .ex c h=>.ex c e h
 | .bad=>.bad
structure Tb where
 K:PySem.W.Frag
 cls:Nat->Option Addr
 exc:Nat->Option Addr
 fields:Nat->List Str
 nd:∀ c,(fields c).Nodup
 few:∀ c,(fields c).length<=500
def KL (K:PySem.W.Frag) (a:Addr) (xs:List V):Prop:=∃ (o:Obj) (its:Array Value) (n:Nat),K.lookup a=some o/\o.cls = .type "list" /\ o.dict=none/\o.data = .seq its n/\its.size<=sizeLine/\Vals xs its.toList
structure Ix where
 refs:List Addr
 priv:List Addr
def Ix.all (ι:Ix):List Addr:=ι.refs++ι.priv
mutual
inductive RV (T:Tb) (ι:Ix) (H:Hp):AV->V->Prop
 | non:RV T ι H .non .non
 | bl (b:Bool):RV T ι H (.bl b) (.bl b)
 | int (i:Int):RV T ι H (.int i) (.int i)
 | str {x:Str} (n:x.length<=sizeLine) (o:x.cps.all (· < 0x110000)=true):RV T ι H (.str x) (.str x)
 | tup {xs:List AV} {us:List V} {a:Addr} (n:a∉ι.all) (h:H a=some (.tup us)) (r:RVs T ι H xs us):RV T ι H (.tup xs) (.ref a)
 | fl {xs:List AV} {us:List V} {a:Addr} (n:a∉ι.all) (h:Rd H a (.lst us)) (r:RVs T ι H xs us):RV T ι H (.fl xs) (.ref a)
 | kfl {xs:List AV} {us:List V} {a:Addr} (h:KL T.K a us) (r:RVs T ι H xs us):RV T ι H (.fl xs) (.ref a)
 | ref {k:Nat} {a:Addr} (h:ι.refs[k]? = some a):RV T ι H (.ref k) (.ref a)
 | exc {c:Nat} {C a:Addr} (n:a∉ι.all) (h:T.exc c=some C) (q:H a=some (excO a (.ref C))):RV T ι H (.exc c) (.ref a)
inductive RVs (T:Tb) (ι:Ix) (H:Hp):List AV->List V->Prop
 | nil:RVs T ι H [] []
 | cons {x:AV} {u:V} {xs:List AV} {us:List V} (r:RV T ι H x u) (rs:RVs T ι H xs us):RVs T ι H (x::xs) (u::us)
end
structure Grow (ι:Ix) (H:Hp) (ι':Ix) (H':Hp):Prop where
 pre:∃ n,ι'.refs=ι.refs++n/\∀ a∈n,H a=none
 priv:ι'.priv=ι.priv
 keep:∀ a o,a∉ι.refs->H a=some o->H' a=some o
 live:∀ a∈ι.all,H' a≠none
theorem zeC:∀ {l:List Addr} {i j:Nat} {a:Addr},l.Nodup->l[i]? = some a->l[j]? = some a->i=j
 | [],_,_,_,_,e,_=>by simp at e
 | x::l,0,0,_,_,_,_=>rfl
 | x::l,0,j+1,a,n,e,f=>by
  simp at e f;subst e
  exact absurd (List.mem_of_getElem? f) (List.nodup_cons.mp n).1
 | x::l,i+1,0,a,n,e,f=>by
  simp at e f;subst f
  exact absurd (List.mem_of_getElem? e) (List.nodup_cons.mp n).1
 | x::l,i+1,j+1,a,n,e,f=>by
  simp at e f
  rw [zeC (List.nodup_cons.mp n).2 e f]
theorem Ix.nr {ι:Ix} {a:Addr} (h:a∉ι.all):a∉ι.refs:=fun z=>h (List.mem_append_left _ z)
theorem Ix.np {ι:Ix} {a:Addr} (h:a∉ι.all):a∉ι.priv:=fun z=>h (List.mem_append_right _ z)
theorem Grow.refl {ι:Ix} {H:Hp} (l:∀ a∈ι.all,H a≠none):Grow ι H ι H:=⟨⟨[],by simp,by simp⟩,rfl,fun _ _ _ e=>e,l⟩
theorem Grow.at {ι ι':Ix} {H H':Hp} (g:Grow ι H ι' H') {k:Nat} {a:Addr} (h:ι.refs[k]? = some a):ι'.refs[k]? = some a:=by
 obtain ⟨n,e,_⟩:=g.pre
 rw [e,List.getElem?_append_left (List.getElem?_eq_some_iff.mp h).1];exact h
theorem Grow.outR {ι ι':Ix} {H H':Hp} (g:Grow ι H ι' H') {a:Addr} {o:HO} (n:a∉ι.refs) (e:H a=some o):a∉ι'.refs:=fun z=>by
 obtain ⟨m,e',hm⟩:=g.pre
 rw [e'] at z;rcases List.mem_append.mp z with z | z
 ·exact n z
 ·rw [hm a z] at e;cases e
theorem Grow.out {ι ι':Ix} {H H':Hp} (g:Grow ι H ι' H') {a:Addr} {o:HO} (n:a∉ι.all) (e:H a=some o):a∉ι'.all:=fun z=>by
 rcases List.mem_append.mp z with z | z
 ·exact g.outR (Ix.nr n) e z
 ·rw [g.priv] at z;exact Ix.np n z
theorem Grow.trans {ι ι' ι'':Ix} {H H' H'':Hp} (g:Grow ι H ι' H') (k:Grow ι' H' ι'' H''):Grow ι H ι'' H'' := by
 obtain ⟨n,e1,hn⟩:=g.pre
 obtain ⟨m,e2,hm⟩:=k.pre
 refine ⟨⟨n++m,by rw [e2,e1];simp,fun a ha=>?_⟩,k.priv.trans g.priv,fun a o na e=>k.keep a o (g.outR na e) (g.keep a o na e),fun a ha=>k.live a ?_⟩
 ·rcases List.mem_append.mp ha with z | z
  ·exact hn a z
  ·have q:=hm a z
   by_cases hi:a∈ι.refs
   ·exact absurd q (g.live a (List.mem_append_left _ hi))
   ·cases e:H a with
    | none=>rfl
    | some o=>rw [g.keep a o hi e] at q;cases q
 ·rcases List.mem_append.mp ha with z | z
  ·exact List.mem_append_left _ (by rw [e1];exact List.mem_append_left _ z)
  ·exact List.mem_append_right _ (by rw [g.priv];exact z)
structure Ext (ι:Ix) (H:Hp) (ι':Ix) (H':Hp):Prop where
 at_:∀ {k:Nat} {a:Addr},ι.refs[k]? = some a->ι'.refs[k]? = some a
 keep:∀ a o,a∉ι.all->H a=some o->H' a=some o
 out:∀ a o,a∉ι.all->H a=some o->a∉ι'.all
theorem Grow.ext {ι ι':Ix} {H H':Hp} (g:Grow ι H ι' H'):Ext ι H ι' H' := ⟨g.at,fun a o n e=>g.keep a o (Ix.nr n) e,fun a o n e=>g.out n e⟩
theorem Ext.trans {ι ι' ι'':Ix} {H H' H'':Hp} (g:Ext ι H ι' H') (k:Ext ι' H' ι'' H''):Ext ι H ι'' H'' :=
 ⟨fun e=>k.at_ (g.at_ e),fun a o n e=>k.keep a o (g.out a o n e) (g.keep a o n e),fun a o n e=>k.out a o (g.out a o n e) (g.keep a o n e)⟩
theorem zfC {ι ι':Ix} {H H':Hp} (g:Ext ι H ι' H') {a:Addr} {u:HO} (n:a∉ι.all) (r:Rd H a u):Rd H' a u:=by
 rcases r with r | ⟨o,r⟩
 ·exact .inl (g.keep a _ n r)
 ·exact .inr ⟨o,g.keep a _ n r⟩
theorem yhz {ι ι':Ix} {H H':Hp} (g:Ext ι H ι' H') {a:Addr} {u:HO} (n:a∉ι.all) (r:Rd H a u):a∉ι'.all:=by
 rcases r with r | ⟨o,r⟩
 ·exact g.out _ _ n r
 ·exact g.out _ _ n r
mutual
theorem RV.ext {T:Tb} {ι ι':Ix} {H H':Hp} (g:Ext ι H ι' H'):∀ {x:AV} {u:V},RV T ι H x u->RV T ι' H' x u
 | _,_,.non=>.non
 | _,_,.bl b=>.bl b
 | _,_,.int i=>.int i
 | _,_,.str n o=>.str n o
 | _,_,.tup n h r=>.tup (g.out _ _ n h) (g.keep _ _ n h) (RVs.ext g r)
 | _,_,.fl n h r=>.fl (yhz g n h) (zfC g n h) (RVs.ext g r)
 | _,_,.kfl h r=>.kfl h (RVs.ext g r)
 | _,_,.ref h=>.ref (g.at_ h)
 | _,_,.exc n h q=>.exc (g.out _ _ n q) h (g.keep _ _ n q)
theorem RVs.ext {T:Tb} {ι ι':Ix} {H H':Hp} (g:Ext ι H ι' H'):∀ {xs:List AV} {us:List V},RVs T ι H xs us->RVs T ι' H' xs us
 | _,_,.nil=>.nil
 | _,_,.cons r rs=>.cons (RV.ext g r) (RVs.ext g rs)
end
theorem RV.mono {T:Tb} {ι ι':Ix} {H H':Hp} (g:Grow ι H ι' H') {x:AV} {u:V} (r:RV T ι H x u):RV T ι' H' x u:=r.ext g.ext
theorem RVs.mono {T:Tb} {ι ι':Ix} {H H':Hp} (g:Grow ι H ι' H') {xs:List AV} {us:List V} (r:RVs T ι H xs us):RVs T ι' H' xs us:=r.ext g.ext
section
variable {T:Tb} {ι:Ix} {H:Hp}
theorem RVs.length:∀ {xs:List AV} {us:List V},RVs T ι H xs us->xs.length=us.length
 | _,_,.nil=>rfl
 | _,_,.cons _ rs=>by simp [RVs.length rs]
theorem RVs.get:∀ {xs:List AV} {us:List V} {i:Nat} {x:AV},RVs T ι H xs us->xs[i]? = some x->∃ u,us[i]? = some u/\RV T ι H x u
 | _,_,_,_,.nil,e=>by simp at e
 | _,_,0,_,.cons r _,e=>by simp at e;subst e;exact ⟨_,rfl,r⟩
 | _,_,i+1,x,.cons _ t,e=>by
  obtain ⟨u,h1,h2⟩:=RVs.get (i:=i) (x:=x) t (by simpa using e)
  exact ⟨u,by simpa using h1,h2⟩
theorem RVs.append:∀ {xs ys:List AV} {us ws:List V},RVs T ι H xs us->RVs T ι H ys ws->RVs T ι H (xs++ys) (us++ws)
 | _,_,_,_,.nil,s=>s
 | _,_,_,_,.cons r t,s=>.cons r (RVs.append t s)
theorem RVs.set {x:AV} {u:V} (r:RV T ι H x u):∀ {xs:List AV} {us:List V} (i:Nat),RVs T ι H xs us->RVs T ι H (xs.set i x) (us.set i u)
 | _,_,_,.nil=>.nil
 | _,_,0,.cons _ t=>.cons r t
 | _,_,i+1,.cons q t=>.cons q (RVs.set r i t)
theorem RVs.take:∀ {xs:List AV} {us:List V} (n:Nat),RVs T ι H xs us->RVs T ι H (xs.take n) (us.take n)
 | _,_,0,_=>by simpa using RVs.nil
 | _,_,_+1,.nil=>.nil
 | _,_,n+1,.cons r t=>.cons r (RVs.take n t)
theorem RVs.drop:∀ {xs:List AV} {us:List V} (n:Nat),RVs T ι H xs us->RVs T ι H (xs.drop n) (us.drop n)
 | _,_,0,r=>r
 | _,_,_+1,.nil=>.nil
 | _,_,n+1,.cons _ t=>RVs.drop n t
theorem RVs.reverse:∀ {xs:List AV} {us:List V},RVs T ι H xs us->RVs T ι H xs.reverse us.reverse
 | _,_,.nil=>.nil
 | _,_,.cons r t=>by simpa using (RVs.reverse t).append (.cons r .nil)
end
def kA:Key->AV
 | .inl i=>.int i
 | .inr x=>.str x
def OR (T:Tb) (ι:Ix) (H:Hp):AO->HO->Prop
 | .lst xs,o=>∃ us,o = .lst us/\RVs T ι H xs us
 | .dct false kvs,o=>∃ kus:List (Key×V),o = .dK kus/\Paired (fun (p:AV×AV) (q:Key×V)=>p.1=kA q.1/\RV T ι H p.2 q.2) kvs kus
 | .dct true kvs,o=>∃ kus:List (List Key×V),o = .dT kus/\Paired (fun (p:AV×AV) (q:List Key×V)=>p.1 = .tup (q.1.map kA)/\RV T ι H p.2 q.2) kvs kus
 | .ins c fs,o=>∃ C dx fus,T.cls c=some C/\o = .ins C dx fus/\(fus.map (·.1)).Nodup/\(∀ p∈fus,p.1∈T.fields c)/\fs.length=(T.fields c).length /\
   ∀ (i:Nat) (v:AV),fs[i]? = some (some v)->∃ f u,(T.fields c)[i]? = some f/\fus.lookup f=some u/\RV T ι H v u
theorem OR.mono {T:Tb} {ι ι':Ix} {H H':Hp} (g:Grow ι H ι' H') {o:AO} {u:HO} (h:OR T ι H o u):OR T ι' H' o u:=by
 cases o with
 | lst xs=>obtain ⟨us,e,r⟩:=h;exact ⟨us,e,r.mono g⟩
 | dct t kvs =>
  cases t with
  | false=>obtain ⟨us,e,r⟩:=h;exact ⟨us,e,Paired.mapP r fun _ _ ⟨a,b⟩=>⟨a,b.mono g⟩⟩
  | true=>obtain ⟨us,e,r⟩:=h;exact ⟨us,e,Paired.mapP r fun _ _ ⟨a,b⟩=>⟨a,b.mono g⟩⟩
 | ins c fs =>
  obtain ⟨C,dx,fus,a,b,n,w,l,r⟩:=h
  refine ⟨C,dx,fus,a,b,n,w,l,fun i v e=>?_⟩
  obtain ⟨f,u,e1,e2,q⟩:=r i v e
  exact ⟨f,u,e1,e2,q.mono g⟩
structure Sim (T:Tb) (ι:Ix) (h:AH) (H:Hp):Prop where
 len:ι.refs.length=h.length
 nd:ι.refs.Nodup
 plive:∀ a∈ι.priv,H a≠none
 obj:∀ (i:Nat) (o:AO) (a:Addr),h[i]? = some o->ι.refs[i]? = some a->∃ u,H a=some u/\OR T ι H o u
section
variable {T:Tb} {ι:Ix} {h:AH} {H:Hp}
theorem Sim.live (S:Sim T ι h H):∀ a∈ι.all,H a≠none:=fun a ha z=>by
 rcases List.mem_append.mp ha with ha | ha
 ·obtain ⟨i,hi⟩:=List.mem_iff_getElem?.mp ha
  have hl:i<h.length:=by rw [<- S.len];exact (List.getElem?_eq_some_iff.mp hi).1
  obtain ⟨u,e,_⟩:=S.obj i h[i] a (by simp [hl]) hi
  rw [z] at e;cases e
 ·exact S.plive a ha z
theorem Sim.refl (S:Sim T ι h H):Grow ι H ι H:=.refl S.live
theorem Sim.fresh (S:Sim T ι h H) {p:Addr} (n:H p=none):p∉ι.all:=fun z=>S.live p z n
theorem Sim.still (S:Sim T ι h H) {H':Hp} (g:Grow ι H ι H') (k:∀ a∈ι.refs,H' a=H a):Sim T ι h H' :=
 ⟨S.len,S.nd,fun a ha=>g.live a (List.mem_append_right _ ha),fun i o a e1 e2=>by
  obtain ⟨u,e,r⟩:=S.obj i o a e1 e2
  exact ⟨u,by rw [k a (List.mem_of_getElem? e2)];exact e,r.mono g⟩⟩
theorem Sim.growNew (S:Sim T ι h H) {p:Addr} {o:HO} (n:H p=none):Grow ι H ι (upd H p o) :=
 ⟨⟨[],by simp,by simp⟩,rfl,fun a u _ e=>by rw [yaC (zau e n)];exact e,fun a ha=>by
  rw [yaC (show a≠p from fun z=>S.fresh n (z▸ha))];exact S.live a ha⟩
theorem Sim.new (S:Sim T ι h H) {p:Addr} {o:HO} (n:H p=none):Sim T ι h (upd H p o) :=
 S.still (S.growNew n) fun a ha=>yaC fun z=>S.fresh n (z▸List.mem_append_left _ ha)
def Ix.add (ι:Ix) (p:Addr):Ix:=⟨ι.refs++[p],ι.priv⟩
theorem Sim.growAdd (S:Sim T ι h H) {p:Addr} {u:HO} (n:H p=none):Grow ι H (ι.add p) (upd H p u) :=
 ⟨⟨[p],rfl,fun a ha=>by have e:a=p:=(by simpa using ha);rw [e];exact n⟩,rfl,(S.growNew n).keep,(S.growNew n).live⟩
theorem Sim.add (S:Sim T ι h H) {p:Addr} {u:HO} {o:AO} (n:H p=none) (r:OR T (ι.add p) (upd H p u) o u):Sim T (ι.add p) (h++[o]) (upd H p u):=by
 refine ⟨by simp [Ix.add,S.len],?_,fun a ha=>(S.growNew n).live a (List.mem_append_right _ ha),fun i o' a e1 e2=>?_⟩
 ·show (ι.refs++[p]).Nodup
  rw [List.nodup_append];exact ⟨S.nd,by simp,fun a ha b hb z=>by have e:b=p:=(by simpa using hb);subst e;subst z;exact S.fresh n (List.mem_append_left _ ha)⟩
 ·replace e2:(ι.refs++[p])[i]? = some a:=e2
  by_cases hi:i<h.length
  ·rw [List.getElem?_append_left hi] at e1
   rw [List.getElem?_append_left (by rw [S.len];exact hi)] at e2
   obtain ⟨v,e,q⟩:=S.obj i o' a e1 e2
   exact ⟨v,by rw [yaC (zau e n)];exact e,q.mono (S.growAdd n)⟩
  ·have e3:i=h.length:=by
    have:=(List.getElem?_eq_some_iff.mp e1).1
    simp at this;omega
   subst e3;rw [List.getElem?_append_right (Nat.le_refl _)] at e1;rw [List.getElem?_append_right (by rw [S.len];exact Nat.le_refl _),S.len] at e2
   simp at e1 e2
   subst e1 e2
   exact ⟨u,zav,r⟩
theorem Sim.addAt (S:Sim T ι h H) {p:Addr}:(ι.add p).refs[h.length]? = some p:=by
 show (ι.refs++[p])[h.length]? = some p
 rw [<- S.len];simp
theorem Sim.growSet (S:Sim T ι h H) {i:Nat} {a:Addr} {u:HO} (e:ι.refs[i]? = some a):Grow ι H ι (upd H a u) :=
 ⟨⟨[],by simp,by simp⟩,rfl,fun b o nb q=>by rw [yaC (show b≠a from fun z=>nb (by rw [z];exact List.mem_of_getElem? e))];exact q,fun b hb=>by
  by_cases z:b=a
  ·subst z;rw [zav];simp
  ·rw [yaC z];exact S.live b hb⟩
theorem Sim.set (S:Sim T ι h H) {i:Nat} {a:Addr} {u:HO} {o:AO} (e:ι.refs[i]? = some a) (r:OR T ι (upd H a u) o u):Sim T ι (h.set i o) (upd H a u):=by
 refine ⟨by simp [S.len],S.nd,fun b hb=>(S.growSet e).live b (List.mem_append_right _ hb),fun j o' b e1 e2=>?_⟩
 by_cases hj:j=i
 ·subst hj
  rw [e] at e2;cases e2
  have hl:j<h.length:=by rw [<- S.len];exact (List.getElem?_eq_some_iff.mp e).1
  rw [List.getElem?_set_self hl] at e1;cases e1
  exact ⟨u,zav,r⟩
 ·rw [List.getElem?_set_ne (Ne.symm hj)] at e1
  obtain ⟨v,q,r'⟩:=S.obj j o' b e1 e2
  have ne:b≠a:=fun z=>hj (by
   subst z;exact zeC S.nd e2 e)
  exact ⟨v,by rw [yaC ne];exact q,r'.mono (S.growSet e)⟩
end
def Ix.hide (ι:Ix) (D:Addr):Ix:=⟨ι.refs,D::ι.priv⟩
theorem Ix.hide_all {ι:Ix} {D a:Addr}:a∉(ι.hide D).all ↔ a∉ι.all/\a≠D:=by
 unfold Ix.all Ix.hide
 simp only [List.mem_append,List.mem_cons]
 constructor
 ·intro h;exact ⟨fun z=>h (z.elim .inl fun z=>.inr (.inr z)),fun z=>h (.inr (.inl z))⟩
 ·rintro ⟨h1,h2⟩ (z | z | z)
  ·exact h1 (.inl z)
  ·exact h2 z
  ·exact h1 (.inr z)
section
variable {T:Tb} {ι:Ix} {H:Hp} {D:Addr}
theorem Ext.hide {o:HO} (hn:H D=none):Ext ι H (ι.hide D) (upd H D o):=⟨fun e=>e,fun a u n e=>by rw [yaC (zau e hn)];exact e,fun a u n e=>Ix.hide_all.mpr ⟨n,zau e hn⟩⟩
theorem Ext.poke {o:HO}:Ext (ι.hide D) H (ι.hide D) (upd H D o):=⟨fun e=>e,fun a u n e=>by rw [yaC (Ix.hide_all.mp n).2];exact e,fun a u n e=>n⟩
theorem Ext.show:Ext (ι.hide D) H ι H:=⟨fun e=>e,fun a u n e=>e,fun a u n e=>(Ix.hide_all.mp n).1⟩
theorem OR.ext {ι ι':Ix} {H H':Hp} (g:Ext ι H ι' H') {o:AO} {u:HO} (h:OR T ι H o u):OR T ι' H' o u:=by
 cases o with
 | lst xs=>obtain ⟨us,e,r⟩:=h;exact ⟨us,e,r.ext g⟩
 | dct t kvs =>
  cases t with
  | false=>obtain ⟨us,e,r⟩:=h;exact ⟨us,e,Paired.mapP r fun _ _ ⟨a,b⟩=>⟨a,b.ext g⟩⟩
  | true=>obtain ⟨us,e,r⟩:=h;exact ⟨us,e,Paired.mapP r fun _ _ ⟨a,b⟩=>⟨a,b.ext g⟩⟩
 | ins c fs =>
  obtain ⟨C,dx,fus,a,b,n,w,l,r⟩:=h
  refine ⟨C,dx,fus,a,b,n,w,l,fun i v e=>?_⟩
  obtain ⟨f,u,e1,e2,q⟩:=r i v e
  exact ⟨f,u,e1,e2,q.ext g⟩
theorem Sim.hide {h:AH} {o:HO} (S:Sim T ι h H) (hn:H D=none):Sim T (ι.hide D) h (upd H D o) :=
 ⟨S.len,S.nd,fun a ha=>by
  rcases List.mem_cons.mp ha with rfl | ha
  ·rw [zav];simp
  ·rw [yaC (show a≠D from fun z=>S.plive a ha (z▸hn))];exact S.plive a ha,fun i o' a e1 e2=>by
  obtain ⟨u,e,r⟩:=S.obj i o' a e1 e2
  exact ⟨u,by rw [yaC (zau e hn)];exact e,r.ext (Ext.hide hn)⟩⟩
theorem Sim.poke {h:AH} {o:HO} (S:Sim T (ι.hide D) h H) (hr:D∉ι.refs):Sim T (ι.hide D) h (upd H D o) :=
 ⟨S.len,S.nd,fun a ha=>by
  by_cases z:a=D
  ·subst z;rw [zav];simp
  ·rw [yaC z];exact S.plive a ha,fun i o' a e1 e2=>by
  obtain ⟨u,e,r⟩:=S.obj i o' a e1 e2
  have ne:a≠D:=fun z=>hr (z▸List.mem_of_getElem? e2)
  exact ⟨u,by rw [yaC ne];exact e,r.ext Ext.poke⟩⟩
theorem Sim.show {h:AH} (S:Sim T (ι.hide D) h H):Sim T ι h H :=
 ⟨S.len,S.nd,fun a ha=>S.plive a (List.mem_cons_of_mem _ ha),fun i o' a e1 e2=>by
  obtain ⟨u,e,r⟩:=S.obj i o' a e1 e2
  exact ⟨u,e,r.ext Ext.show⟩⟩
end
def ER (T:Tb) (ι:Ix) (H:Hp) (e:En) (σ:St):Prop:=e.length=σ.length/\∀ (i:Nat) (v:AV),e[i]? = some (some v)->∃ u,σ[i]? = some (some u)/\RV T ι H v u
theorem ER.mono {T:Tb} {ι ι':Ix} {H H':Hp} {e:En} {σ:St} (r:ER T ι H e σ) (g:Grow ι H ι' H'):ER T ι' H' e σ :=
 ⟨r.1,fun i v q=>let ⟨u,a,b⟩:=r.2 i v q;⟨u,a,b.mono g⟩⟩
theorem ER.ext {T:Tb} {ι ι':Ix} {H H':Hp} {e:En} {σ:St} (r:ER T ι H e σ) (g:Ext ι H ι' H'):ER T ι' H' e σ :=
 ⟨r.1,fun i v q=>let ⟨u,a,b⟩:=r.2 i v q;⟨u,a,b.ext g⟩⟩
theorem ER.set {T:Tb} {ι:Ix} {H:Hp} {e:En} {σ:St} (r:ER T ι H e σ) {v:AV} {u:V} (q:RV T ι H v u) (i:Nat):ER T ι H (e.set i (some v)) (σ.set i (some u)):=by
 refine ⟨by simp [r.1],fun j w z=>?_⟩
 by_cases hj:j=i
 ·subst hj
  by_cases hl:j<e.length
  ·rw [List.getElem?_set_self hl] at z;cases z
   exact ⟨u,by rw [List.getElem?_set_self (by rw [<- r.1];exact hl)],q⟩
  ·rw [List.getElem?_eq_none (by simpa using hl)] at z;cases z
 ·rw [List.getElem?_set_ne (Ne.symm hj)] at z ⊢
  exact r.2 j w z
def Post {α β:Type} (T:Tb) (ι:Ix) (H:Hp) (E:XK) (R:Ix->Hp->α->β->Prop) (o:Out α) (Q:β->Hp->Prop):Prop :=
 match o with
 | .ok v h' => ∀ ι' H' u,Grow ι H ι' H'->Sim T ι' h' H'->R ι' H' v u->Q u H'
 | .ex c h' => ∀ ι' H' C,Grow ι H ι' H'->Sim T ι' h' H'->T.exc c=some C->E (.ref C) none H'
 | .bad=>False
def PostS (T:Tb) (ι:Ix) (H:Hp) (E:St->XK) (o:OutS) (D:Ends):Prop :=
 match o with
 | .nx e h' => ∀ ι' H' σ',Grow ι H ι' H'->Sim T ι' h' H'->ER T ι' H' e σ'->D.nx σ' H'
 | .bk e h' => ∀ ι' H' σ',Grow ι H ι' H'->Sim T ι' h' H'->ER T ι' H' e σ'->D.bk σ' H'
 | .ct e h' => ∀ ι' H' σ',Grow ι H ι' H'->Sim T ι' h' H'->ER T ι' H' e σ'->D.ct σ' H'
 | .rt v h' => ∀ ι' H' u,Grow ι H ι' H'->Sim T ι' h' H'->RV T ι' H' v u->D.rt u H'
 | .ex c e h' => ∀ ι' H' σ' C,Grow ι H ι' H'->Sim T ι' h' H'->ER T ι' H' e σ'->T.exc c=some C->E σ' (.ref C) none H'
 | .bad=>False
abbrev REq {α:Type}:Ix->Hp->α->α->Prop:=fun _ _ a b=>a=b
section
variable {T:Tb} {ι ι':Ix} {h:AH} {H H':Hp} {α β γ δ:Type} {E:XK} {R:Ix->Hp->α->β->Prop} {R':Ix->Hp->γ->δ->Prop}
theorem Post.shift {o:Out α} {Q:β->Hp->Prop} (p:Post T ι H E R o Q) (g:Grow ι H ι' H'):Post T ι' H' E R o Q:=by
 cases o with
 | ok v h' => exact fun i2 H2 u g2=>p i2 H2 u (g.trans g2)
 | ex c h' => exact fun i2 H2 C g2=>p i2 H2 C (g.trans g2)
 | bad=>exact p
theorem Post.bind {o:Out α} {f:α->AH->Out γ} {Q:δ->Hp->Prop} {Q1:β->Hp->Prop} (p:Post T ι H E R' (o.bind f) Q)
  (k:∀ v h' ι' H' u,Grow ι H ι' H'->Sim T ι' h' H'->R ι' H' v u->Post T ι' H' E R' (f v h') Q->Q1 u H'):Post T ι H E R o Q1:=by
 cases o with
 | ok v h' => exact fun i2 H2 u g S r=>k v h' i2 H2 u g S r (Post.shift p g)
 | ex c h' => exact p
 | bad=>exact p
theorem Post.now {v:α} {u:β} {Q:β->Hp->Prop} (p:Post T ι H E R (.ok v h) Q) (S:Sim T ι h H) (r:R ι H v u):Q u H:=p ι H u S.refl S r
theorem PostS.shift {E:St->XK} {o:OutS} {D:Ends} (p:PostS T ι H E o D) (g:Grow ι H ι' H'):PostS T ι' H' E o D:=by
 cases o with
 | nx e h' => exact fun i2 H2 u g2=>p i2 H2 u (g.trans g2)
 | bk e h' => exact fun i2 H2 u g2=>p i2 H2 u (g.trans g2)
 | ct e h' => exact fun i2 H2 u g2=>p i2 H2 u (g.trans g2)
 | rt v h' => exact fun i2 H2 u g2=>p i2 H2 u (g.trans g2)
 | ex c e h' => exact fun i2 H2 u C g2=>p i2 H2 u C (g.trans g2)
 | bad=>exact p
theorem PostS.go {E:St->XK} {o:Out α} {en:En} {σ:St} {f:α->AH->OutS} {D:Ends} {Q1:β->Hp->Prop} (p:PostS T ι H E (o.go en f) D) (er:ER T ι H en σ)
  (k:∀ v h' ι' H' u,Grow ι H ι' H'->Sim T ι' h' H'->R ι' H' v u->PostS T ι' H' E (f v h') D->Q1 u H'):Post T ι H (E σ) R o Q1:=by
 cases o with
 | ok v h' => exact fun i2 H2 u g S r=>k v h' i2 H2 u g S r (PostS.shift p g)
 | ex c h' => exact fun i2 H2 C g S e=>p i2 H2 σ C g S (er.mono g) e
 | bad=>exact p
end
def tE (T:Tb) (E:St->XK) (a:SE):TE:=fun σ H Q=>∃ ι h en,Sim T ι h H/\ER T ι H en σ/\Post T ι H (E σ) (RV T) (a en h) Q
def tT (T:Tb) (E:St->XK) (a:SB):TT:=fun σ H Q=>∃ ι h en,Sim T ι h H/\ER T ι H en σ/\Post T ι H (E σ) REq (a en h) Q
def tA (T:Tb) (E:St->XK) (a:SL):TA:=fun σ H Q=>∃ ι h en,Sim T ι h H/\ER T ι H en σ/\Post T ι H (E σ) (RVs T) (a en h) Q
def tS (T:Tb) (E:St->XK) (b:SS):TS:=fun D σ H=>∃ ι h en,Sim T ι h H/\ER T ι H en σ/\PostS T ι H E (b en h) D
abbrev PEA (T:Tb) (E:St->XK) (X:Cx) (e:Expr) (a:SE):Prop:=PE X e (tE T E a)
abbrev PTA (T:Tb) (E:St->XK) (X:Cx) (e:Expr) (a:SB):Prop:=PT X e (tT T E a)
abbrev PWA (T:Tb) (E:St->XK) (X:Cx) (e:Expr) (a:SB):Prop:=PW X e (tT T E a)
abbrev PAA (T:Tb) (E:St->XK) (X:Cx) (es:List Expr) (a:SL):Prop:=PA X es (tA T E a)
abbrev PSA (T:Tb) (E:St->XK) (X:Cx) (st:Stmt) (b:SS):Prop:=PS X st (tS T E b)
abbrev PSsA (T:Tb) (E:St->XK) (X:Cx) (sts:List Stmt) (b:SS):Prop:=PSs X sts (tS T E b)
theorem yaY {X:Cx} {e:Expr} {t t':TE} (h:PE X e t) (k:∀ σ H Q,t' σ H Q->t σ H Q):PE X e t' := fun pins s σ H Q I q=>h pins s σ H Q I (k σ H Q q)
theorem yer {X:Cx} {e:Expr} {t t':TT} (h:PT X e t) (k:∀ σ H Q,t' σ H Q->t σ H Q):PT X e t' := fun pins s σ H Q I q=>h pins s σ H Q I (k σ H Q q)
theorem yfD {X:Cx} {e:Expr} {t t':TT} (h:PW X e t) (k:∀ σ H Q,t' σ H Q->t σ H Q):PW X e t' := fun w pins s σ H Q I q=>h w pins s σ H Q I (k σ H Q q)
theorem yfE {X:Cx} {e:List Expr} {t t':TA} (h:PA X e t) (k:∀ σ H Q,t' σ H Q->t σ H Q):PA X e t' := fun p pins s σ H Q I q=>h p pins s σ H Q I (k σ H Q q)
theorem ycy {X:Cx} {e:Stmt} {t t':TS} (h:PS X e t) (k:∀ D σ H,t' D σ H->t D σ H):PS X e t' := fun pins s σ H D I q=>h pins s σ H D I (k D σ H q)
theorem zfD {X:Cx} {e:List Stmt} {t t':TS} (h:PSs X e t) (k:∀ D σ H,t' D σ H->t D σ H):PSs X e t' := fun pins s σ H D I q=>h pins s σ H D I (k D σ H q)
theorem yfF {X:Cx} {st:Stmt} {t:TS} (h:PS X.nox st t):PS X st t:=fun pins s σ H D I hw=>by
 refine wpAny_mono (h pins s σ H D (I.wish _) hw) (fun f s' q=>SP.unwish q) fun _ _ z=>z.elim
end Sm
namespace Sm
open PySem L2
instance:DecidableEq AV:=fun _ _=>Classical.propDecidable _
@[simp] def sVar (i:Nat):SE:=fun en h=>match en[i]? with
 | some (some v)=>.ok v h
 | _=>.bad
@[simp] def sLit (v:AV):SE:=fun _ h=>.ok v h
abbrev F1:=AV->AH->Out AV
abbrev F2:=AV->AV->AH->Out AV
@[simp] def sOp1 (f:F1) (a:SE):SE:=fun en h=>(a en h).bind f
@[simp] def sOp2 (f:F2) (a b:SE):SE:=fun en h=>(a en h).bind fun x h1=>(b en h1).bind fun y h2=>f x y h2
@[simp] def sNil:SL:=fun _ h=>.ok [] h
@[simp] def yab (a:SE) (r:SL):SL:=fun en h=>(a en h).bind fun x h1=>(r en h1).bind fun xs h2=>.ok (x::xs) h2
@[simp] def yae (F:Fn) (as:SL):SE:=fun en h=>(as en h).bind F
@[simp] def sTup (as:SL):SE:=fun en h=>(as en h).bind fun xs h1=>if xs.length<=1000 then .ok (.tup xs) h1 else .bad
@[simp] def sLst (as:SL):SE:=fun en h=>(as en h).bind fun xs h1=>if xs.length<=1000 then .ok (.fl xs) h1 else .bad
@[simp] def ycW (as:SL):SE:=fun en h=>(as en h).bind fun xs h1=>if xs.length<=1000 then .ok (.ref h1.length) (h1++[.lst xs]) else .bad
@[simp] def ygm (t:Bool):SE:=fun _ h=>.ok (.ref h.length) (h++[.dct t []])
@[simp] def yjb (v:AV) (h:AH):Option (List AV):=match v with
 | .tup xs=>some xs
 | .fl xs=>some xs
 | .ref n=>match h[n]? with
  | some (.lst xs)=>some xs
  | _=>none
 | _=>none
@[simp] def yb8 (v:AV) (h:AH):Option (List AV):=match v with
 | .fl xs=>some xs
 | .ref n=>match h[n]? with
  | some (.lst xs)=>some xs
  | _=>none
 | _=>none
@[simp] def fAdd:F2:=fun x y h=>match x,y with
 | .int i,.int j=>.ok (.int (i+j)) h
 | .str i,.str j=>if i.length+j.length<=sizeLine then .ok (.str (i++j)) h else .bad
 | .tup xs,.tup ys=>if xs≠[]/\xs.length+ys.length<=sizeLine then .ok (.tup (xs++ys)) h else .bad
 | x,y=>match yb8 x h,yb8 y h with
  | some xs,some ys=>if xs.length+ys.length<=sizeLine then .ok (.fl (xs++ys)) h else .bad
  | _,_=>.bad
@[simp] def fSub:F2:=fun x y h=>match x,y with
 | .int i,.int j=>.ok (.int (i-j)) h
 | _,_=>.bad
@[simp] def fMul:F2:=fun x y h=>match x,y with
 | .int i,.int j=>if (i.natAbs<2 ^ 64\/j.natAbs<2 ^ 64)\/(i.natAbs<2 ^ 4000/\j.natAbs<2 ^ 4000) then .ok (.int (i*j)) h else .bad
 | _,_=>.bad
@[simp] def fDiv:F2:=fun x y h=>match x,y with
 | .int i,.int j=>if 0<j/\j.natAbs<2 ^ 200 then .ok (.int (i / j)) h else .bad
 | _,_=>.bad
@[simp] def fMod:F2:=fun x y h=>match x,y with
 | .int i,.int j=>if 0<j then .ok (.int (i % j)) h else .bad
 | _,_=>.bad
@[simp] def fPow:F2:=fun x y h=>match x,y with
 | .int i,.int j=>if 0<=j/\j<=1000000/\i.natAbs<2 ^ 64 then .ok (.int (i ^ j.toNat)) h else .bad
 | _,_=>.bad
@[simp] def fNeg:F1:=fun x h=>match x with
 | .int i=>.ok (.int (-i)) h
 | _=>.bad
def toDs (f:AV->Option PyData):List AV->Option (List PyData)
 | []=>some []
 | x::xs=>match f x,toDs f xs with
  | some d,some ds=>some (d::ds)
  | _,_=>none
def toD:Nat->AH->AV->Option PyData
 | 0,_,v=>match v with
  | .non=>some .none
  | .bl b=>some (.bool b)
  | .int i=>some (.int i)
  | .str x=>some (.str x)
  | _=>none
 | n+1,h,v=>match v with
  | .non=>some .none
  | .bl b=>some (.bool b)
  | .int i=>some (.int i)
  | .str x=>some (.str x)
  | .tup xs=>(toDs (toD n h) xs).map .tuple
  | .fl xs=>(toDs (toD n h) xs).map .list
  | .ref k=>match h[k]? with
   | some (.lst xs)=>(toDs (toD n h) xs).map .list
   | _=>none
  | .exc _=>none
@[simp] def eqA (x y:AV) (h:AH):Option Bool:=match x,y with
 | .int i,.int j=>some (decide (i=j))
 | .str i,.str j=>some (decide (i=j))
 | .bl i,.bl j=>some (decide (i=j))
 | .non,.non=>some true
 | x,y=>match toD 8 h x,toD 8 h y with
  | some d,some e=>some (PyData.eqv d e)
  | _,_=>none
@[simp] def fEq:F2:=fun x y h=>match eqA x y h with
 | some b=>.ok (.bl b) h
 | none=>.bad
@[simp] def fNe:F2:=fun x y h=>match eqA x y h with
 | some b=>.ok (.bl (!b)) h
 | none=>.bad
@[simp] def fLt:F2:=fun x y h=>match x,y with
 | .int i,.int j=>.ok (.bl (decide (i<j))) h
 | .str i,.str j=>.ok (.bl (decide (i.cps.toList<j.cps.toList))) h
 | _,_=>.bad
@[simp] def fLe:F2:=fun x y h=>match x,y with
 | .int i,.int j=>.ok (.bl (decide (i<=j))) h
 | .str i,.str j=>.ok (.bl (!decide (j.cps.toList<i.cps.toList))) h
 | _,_=>.bad
@[simp] def fGt:F2:=fun x y h=>match x,y with
 | .int i,.int j=>.ok (.bl (decide (j<i))) h
 | _,_=>.bad
@[simp] def fGe:F2:=fun x y h=>match x,y with
 | .int i,.int j=>.ok (.bl (decide (j<=i))) h
 | _,_=>.bad
@[simp] def fIsN:F2:=fun x y h=>match y with
 | .non=>.ok (.bl (decide (x = .non))) h
 | _=>.bad
@[simp] def yd5:F2:=fun x y h=>match y with
 | .non=>.ok (.bl (!decide (x = .non))) h
 | _=>.bad
@[simp] def truA (v:AV) (h:AH):Option Bool:=match v with
 | .non=>some false
 | .bl b=>some b
 | .int i=>some (i != 0)
 | .str y=>some ((y.length:Int) != 0)
 | .tup xs=>some (!xs.isEmpty)
 | .fl xs=>some (!xs.isEmpty)
 | .ref n=>match h[n]? with
  | some (.lst xs)=>some (!xs.isEmpty)
  | some (.dct false kvs)=>some (!kvs.isEmpty)
  | _=>none
 | _=>none
@[simp] def ybi (a:SE):SB:=fun en h=>(a en h).bind fun v h1=>match truA v h1 with
 | some b=>.ok b h1
 | none=>.bad
@[simp] def yam (a:SE):SB:=fun en h=>(a en h).bind fun v h1=>match v with
 | .bl b=>.ok b h1
 | _=>.bad
@[simp] def sAnd (a b:SB):SB:=fun en h=>(a en h).bind fun x h1=>if x=true then b en h1 else .ok false h1
@[simp] def sOr (a b:SB):SB:=fun en h=>(a en h).bind fun x h1=>if x=true then .ok true h1 else b en h1
@[simp] def sNot (a:SB):SB:=fun en h=>(a en h).bind fun x h1=>.ok (!x) h1
@[simp] def ydH (a b:SE):SE:=fun en h=>(a en h).bind fun v h1=>match v with
 | .bl k=>if k=true then b en h1 else .ok (.bl false) h1
 | _=>.bad
@[simp] def sOrV (a b:SE):SE:=fun en h=>(a en h).bind fun v h1=>match v with
 | .bl k=>if k=true then .ok (.bl true) h1 else b en h1
 | _=>.bad
@[simp] def yfi (a:SE):SE:=fun en h=>(a en h).bind fun v h1=>match v with
 | .bl b=>.ok (.bl (!b)) h1
 | _=>.bad
@[simp] def sIfE (c:SB) (a b:SE):SE:=fun en h=>(c en h).bind fun x h1=>if x=true then a en h1 else b en h1
@[simp] def ycg (f f':F2) (a b c:SE):SE:=fun en h=>(a en h).bind fun x h1=>(b en h1).bind fun y h2=>(f x y h2).bind fun z h3=>match z with
 | .bl k=>if k=true then (c en h3).bind fun w h4=>f' y w h4 else .ok (.bl false) h3
 | _=>.bad
@[simp] def yaw:SS:=fun en h=>.nx en h
@[simp] def sSeq (a b:SS):SS:=fun en h=>match a en h with
 | .nx e h' => b e h'
 | o=>o
@[simp] def yfG:SS:=fun en h=>.bk en h
@[simp] def yaU (a:SE):SS:=fun en h=>(a en h).go en fun _ h' => .nx en h'
@[simp] def sRet (a:SE):SS:=fun en h=>(a en h).go en fun v h' => .rt v h'
@[simp] def sIf (c:SB) (a b:SS):SS:=fun en h=>(c en h).go en fun x h' => if x=true then a en h' else b en h'
@[simp] def sSet (i:Nat) (a:SE):SS:=fun en h=>(a en h).go en fun v h' => .nx (en.set i (some v)) h'
def yaG (c:SB) (b:SS):Nat->SS
 | 0=>fun _ _=>.bad
 | n+1=>fun en h=>match c en h with
  | .ok true h1=>(match b en h1 with
   | .nx e2 h2=>yaG c b n e2 h2
   | .ct e2 h2=>yaG c b n e2 h2
   | .bk e2 h2=>.nx e2 h2
   | .rt v h2=>.rt v h2
   | _=>.bad)
  | .ok false h1=>.nx en h1
  | _=>.bad
abbrev SI:=En->AH->Out (List AV×Option Nat)
@[simp] def yct (w:Option Nat) (xs:List AV) (h:AH):Bool:=match w with
 | none=>true
 | some n=>match h[n]? with
  | some (.lst ys)=>decide (ys=xs)
  | _=>false
inductive Tg where
 | nm (i:Nat)
 | tup (is:List Nat)
@[simp] def yeW:List Nat->List AV->En->Option En
 | [],[],en=>some en
 | i::is,x::xs,en=>yeW is xs (en.set i (some x))
 | _,_,_=>none
@[simp] def setT (t:Tg) (v:AV) (en:En):Option En:=match t,v with
 | .nm i,v=>some (en.set i (some v))
 | .tup is,.tup xs=>yeW is xs en
 | _,_=>none
def ybp (w:Option Nat) (all:List AV) (t:Tg) (b:SS):List AV->SS
 | []=>fun en h=>if yct w all h=true then .nx en h else .bad
 | x::xs=>fun en h=>if yct w all h=true then
   (match setT t x en with
   | some e1=>(match b e1 h with
    | .nx e2 h2=>ybp w all t b xs e2 h2
    | .ct e2 h2=>ybp w all t b xs e2 h2
    | .bk e2 h2=>.nx e2 h2
    | .rt v h2=>.rt v h2
    | _=>.bad)
   | none=>.bad) else .bad
@[simp] def sFor (it:SI) (t:Tg) (b:SS):SS:=fun en h=>match it en h with
 | .ok (xs,w) h1=>ybp w xs t b xs en h1
 | _=>.bad
@[simp] def ygn (t:Tg) (a:SE):SS:=fun en h=>(a en h).go en fun v h' => match setT t v en with
 | some e=>.nx e h'
 | none=>.bad
@[simp] def iVal (a:SE):SI:=fun en h=>(a en h).bind fun v h1=>match v with
 | .fl xs=>.ok (xs,none) h1
 | .tup xs=>.ok (xs,none) h1
 | .str z=>.ok (z.cps.toList.map (fun c=>.str ⟨#[c]⟩),none) h1
 | .ref n=>match h1[n]? with
  | some (.lst xs)=>.ok (xs,some n) h1
  | _=>.bad
 | _=>.bad
def ya5 (lo:Int):Nat->List AV
 | 0=>[]
 | n+1=>.int lo::ya5 (lo+1) n
@[simp] def yb3 (a:SE):SI:=fun en h=>(a en h).bind fun v h1=>match v with
 | .int j=>if j.natAbs<2 ^ 62 then .ok (ya5 0 j.toNat,none) h1 else .bad
 | _=>.bad
def numbered (k:Nat):List AV->List AV
 | []=>[]
 | x::xs=>.tup [.int k,x]::numbered (k+1) xs
@[simp] def yjc (a:SE):SI:=fun en h=>(a en h).bind fun v h1=>match v with
 | .fl xs=>.ok (numbered 0 xs,none) h1
 | _=>.bad
def ya3 (js:List Nat) (en:En) (w:Option Nat) (all:List AV) (c:SB) (e:SE):List AV->List AV->AH->Out (List AV)
 | [],ys,h=>if yct w all h=true then .ok ys h else .bad
 | x::xs,ys,h=>if yct w all h=true/\ys.length<sizeLine then
   (match c (some x::js.map fun j=>(en[j]?).join) h with
   | .ok true h1=>(match e (some x::js.map fun j=>(en[j]?).join) h1 with
    | .ok v h2=>ya3 js en w all c e xs (ys++[v]) h2
    | _=>.bad)
   | .ok false h1=>ya3 js en w all c e xs ys h1
   | _=>.bad) else .bad
@[simp] def sYes:SB:=fun _ h=>.ok true h
@[simp] def ybb (js:List Nat) (it:SI) (c:SB) (e:SE):SE:=fun en h=>match it en h with
 | .ok (xs,w) h1=>(match ya3 js en w xs c e xs [] h1 with
  | .ok ys h2=>.ok (.fl ys) h2
  | _=>.bad)
 | _=>.bad
@[simp] def mkFn (n m:Nat) (b:SS):Fn:=fun args h =>
 if args.length=n then
  match b (args.map some++List.replicate (m-n) none) h with
  | .nx _ h' => .ok .non h'
  | .rt v h' => .ok v h'
  | .ex c _ h' => .ex c h'
  | _=>.bad
 else .bad
@[simp] def yap (c:Nat) (F:Fn) (o:SE) (as:SL):SE:=fun en h=>(o en h).bind fun x h1=>match x with
 | .ref n=>match h1[n]? with
  | some (.ins c' _)=>if c'=c then (as en h1).bind fun xs h2=>F (x::xs) h2 else .bad
  | _=>.bad
 | _=>.bad
@[simp] def yeO (c k:Nat) (F:Fn) (as:SL):SE:=fun en h=>(as en h).bind fun xs h1=>match F (.ref h1.length::xs) (h1++[.ins c (List.replicate k none)]) with
 | .ok .non h2=>.ok (.ref h1.length) h2
 | .ex c h2=>.ex c h2
 | _=>.bad
@[simp] def sFld (c i:Nat) (o:SE):SE:=fun en h=>(o en h).bind fun x h1=>match x with
 | .ref n=>match h1[n]? with
  | some (.ins c' fs)=>if c'=c then (match fs[i]? with | some (some v)=>.ok v h1 | _=>.bad) else .bad
  | _=>.bad
 | _=>.bad
@[simp] def ycX (c i:Nat) (o v:SE):SS:=fun en h=>(v en h).go en fun y h1=>(o en h1).go en fun x h2=>match x with
 | .ref n=>match h2[n]? with
  | some (.ins c' fs)=>if c'=c then .nx en (h2.set n (.ins c (fs.set i (some y)))) else .bad
  | _=>.bad
 | _=>.bad
@[simp] def yc5 (c:Nat) (as:SL):SS:=fun en h=>(as en h).go en fun xs h1=>if xs.length<=1000 then .ex c en h1 else .bad
@[simp] def keyOf? (v:AV):Option Key:=match v with
 | .int i=>some (.inl i)
 | .str x=>some (.inr x)
 | _=>none
@[simp] def keysOf? : List AV->Option (List Key)
 | []=>some []
 | v::r=>match keyOf? v,keysOf? r with
  | some k,some ks=>some (k::ks)
  | _,_=>none
@[simp] def ydI (t:Bool) (v:AV):Bool:=match t,v with
 | false,v=>(keyOf? v).isSome
 | true,.tup xs=>(keysOf? xs).isSome
 | true,_=>false
def valA (kvs:List (AV×AV)) (k:AV):Option AV:=(kvs.find? fun p=>decide (p.1=k)).map (·.2)
def putA (kvs:List (AV×AV)) (k v:AV):List (AV×AV) :=
 if kvs.any (fun p=>decide (p.1=k)) then kvs.map fun p=>if p.1=k then (p.1,v) else p else kvs++[(k,v)]
@[simp] def fIx:F2:=fun x y h=>match x,y with
 | .str z,.int i=>match atI z.cps.toList i with
  | some c=>.ok (.str ⟨#[c]⟩) h
  | none=>.bad
 | .tup xs,.int i=>match atI xs i with
  | some v=>.ok v h
  | none=>.bad
 | .fl xs,.int i=>match atI xs i with
  | some v=>.ok v h
  | none=>.bad
 | .ref n,y=>match h[n]? with
  | some (.lst xs)=>match y with
   | .int i=>match atI xs i with
    | some v=>.ok v h
    | none=>.bad
   | _=>.bad
  | some (.dct t kvs)=>if ydI t y then (match valA kvs y with | some v=>.ok v h | none=>.bad) else .bad
  | _=>.bad
 | _,_=>.bad
@[simp] def yes (o i v:SE):SS:=fun en h=>(v en h).go en fun z h1=>(o en h1).go en fun x h2=>(i en h2).go en fun y h3=>match x with
 | .ref n=>match h3[n]? with
  | some (.lst xs)=>match y with
   | .int k=>match ixN xs.length k with
    | some j=>.nx en (h3.set n (.lst (xs.set j z)))
    | none=>.bad
   | _=>.bad
  | some (.dct t kvs)=>if ydI t y=true/\kvs.length<sizeLine then .nx en (h3.set n (.dct t (putA kvs y z))) else .bad
  | _=>.bad
 | _=>.bad
@[simp] def inA (x y:AV) (h:AH):Option Bool:=match x,y with
 | .str i,.str j=>some (!(Builtin.Str.occurrences j i 0 j.length 1).isEmpty)
 | x,.ref n=>match h[n]? with
  | some (.dct t kvs)=>if ydI t x then some (valA kvs x).isSome else none
  | some (.lst xs)=>match toD 8 h x,toDs (toD 8 h) xs with
   | some d,some ds=>some (ds.any fun e=>PyData.eqv e d)
   | _,_=>none
  | _=>none
 | x,.fl xs=>match toD 8 h x,toDs (toD 8 h) xs with
  | some d,some ds=>some (ds.any fun e=>PyData.eqv e d)
  | _,_=>none
 | x,.tup xs=>match toD 8 h x,toDs (toD 8 h) xs with
  | some d,some ds=>some (ds.any fun e=>PyData.eqv e d)
  | _,_=>none
 | _,_=>none
@[simp] def yeX:F2:=fun x y h=>match inA x y h with
 | some b=>.ok (.bl (!b)) h
 | none=>.bad
@[simp] def fLen:Fn:=fun args h=>match args with
 | [.str x]=>.ok (.int x.length) h
 | [.tup xs]=>.ok (.int xs.length) h
 | [.fl xs]=>.ok (.int xs.length) h
 | [.ref n]=>match h[n]? with
  | some (.lst xs)=>.ok (.int xs.length) h
  | some (.dct false kvs)=>.ok (.int kvs.length) h
  | _=>.bad
 | _=>.bad
@[simp] def fAbs:Fn:=fun args h=>match args with
 | [.int i]=>.ok (.int (if i<0 then -i else i)) h
 | _=>.bad
@[simp] def yde:Fn:=fun args h=>match args with
 | [.int i,.int j]=>.ok (.int (if j > i then j else i)) h
 | _=>.bad
@[simp] def yc8:Fn:=fun args h=>match args with
 | [.int i,.int j]=>.ok (.int (if j<i then j else i)) h
 | _=>.bad
@[simp] def yd1:List AV->Option (List Bool)
 | []=>some []
 | .bl b::r=>(yd1 r).map (b :: ·)
 | _::_=>none
@[simp] def fAll:Fn:=fun args h=>match args with
 | [.fl xs]=>match yd1 xs with
  | some bs=>.ok (.bl (bs.all id)) h
  | none=>.bad
 | _=>.bad
@[simp] def tyN (v:AV) (h:AH):Option String:=match v with
 | .non=>some "NoneType"
 | .bl _=>some "bool"
 | .int _=>some "int"
 | .str _=>some "str"
 | .tup _=>some "tuple"
 | .fl _=>some "list"
 | .ref n=>match h[n]? with
  | some (.lst _)=>some "list"
  | some (.dct _ _)=>some "dict"
  | _=>none
 | .exc _=>none
@[simp] def sIsB (t:String) (a:SE):SE:=fun en h=>(a en h).bind fun v h1=>match tyN v h1 with
 | some n=>.ok (.bl (n == t || (t == "int" && n == "bool"))) h1
 | none=>.bad
abbrev FM:=AV->List AV->AH->Out AV
@[simp] def yaB (v:AV) (h:AH):Bool:=(yb8 v h).isSome
@[simp] def yet (v:AV) (_:AH):Bool:=match v with
 | .str _=>true
 | _=>false
@[simp] def sBM (chk:AV->AH->Bool) (f:FM) (o:SE) (as:SL):SE:=fun en h=>(o en h).bind fun x h1=>if chk x h1=true then (as en h1).bind fun xs h2=>f x xs h2 else .bad
@[simp] def sBM0 (chk:AV->AH->Bool) (f:FM) (o:SE):SE:=fun en h=>(o en h).bind fun x h1=>if chk x h1=true then f x [] h1 else .bad
@[simp] def yax:FM:=fun x vs h=>match x,vs with
 | .ref n,[y]=>match h[n]? with
  | some (.lst xs)=>if xs.length<sizeLine then .ok .non (h.set n (.lst (xs++[y]))) else .bad
  | _=>.bad
 | _,_=>.bad
@[simp] def mPop:FM:=fun x vs h=>match x,vs with
 | .ref n,[]=>match h[n]? with
  | some (.lst xs)=>match xs[xs.length-1]? with
   | some y=>.ok y (h.set n (.lst xs.dropLast))
   | none=>.bad
  | _=>.bad
 | _,_=>.bad
def ygo (d:PyData):List PyData->Nat->Option Nat
 | [],_=>none
 | e::r,k=>if PyData.eqv e d=true then some k else ygo d r (k+1)
@[simp] def yi8:FM:=fun x vs h=>match vs with
 | [y]=>match yb8 x h with
  | some xs=>match toD 8 h y,toDs (toD 8 h) xs with
   | some d,some ds=>match ygo d ds 0 with
    | some k=>.ok (.int k) h
    | none=>.bad
   | _,_=>.bad
  | none=>.bad
 | _=>.bad
@[simp] def yeJ:FM:=fun x vs h=>match x,vs with
 | .str z,[.str y]=>.ok (.int ((Builtin.Str.occurrences z y 0 z.length (z.length+1)).length:Nat)) h
 | _,_=>.bad
@[simp] def yed:List AV->Option (List Str)
 | []=>some []
 | .str x::r=>(yed r).map (x :: ·)
 | _::_=>none
@[simp] def yei:FM:=fun x vs h=>match x,vs with
 | .str z,[y]=>if z=Str.empty then (match yb8 y h with
  | some xs=>match yed xs with
   | some zs=>if ((zs.map fun x:Str=>x.cps.toList).flatten).length<=1000000 then .ok (.str ⟨((zs.map fun x:Str=>x.cps.toList).flatten).toArray⟩) h else .bad
   | none=>.bad
  | none=>.bad) else .bad
 | _,_=>.bad
def cutA {α:Type} (xs:List α) (lo hi:Option Int):List α:=(xs.drop (HT.sIx xs.length 0 lo)).take (HT.sIx xs.length xs.length hi-HT.sIx xs.length 0 lo)
end Sm
namespace Sm
open PySem L2
structure CA (T:Tb) (E:St->XK) (X:Cx):Prop where
 hK:X.K=T.K
 pass:yd0 (CXE X.prog X.w) X E
abbrev EN:St->XK:=fun _=>E0
theorem CA.nox {T:Tb} {E:St->XK} {X:Cx} (c:CA T E X):CA T EN X.nox:=⟨c.hK,fun _ _ _ _ _ _ _ h=>by
 obtain ⟨_,_,_,_,_,_,_,_,_,_,_,_,_,_,q⟩:=h
 exact q.elim⟩
theorem CA.never {T:Tb} {X:Cx} (hK:X.K=T.K):CA T EN X:=⟨hK,fun _ _ _ _ _ _ _ h=>by
 obtain ⟨_,_,_,_,_,_,_,_,_,_,_,_,_,_,q⟩:=h
 exact q.elim⟩
section
variable {T:Tb} {ι:Ix} {h:AH} {H:Hp}
theorem ybq {x:AV} {u:V} {xs:List AV} (S:Sim T ι h H) (r:RV T ι H x u) (e:yb8 x h=some xs):∃ a us,u = .ref a/\SqL T.K H a us/\RVs T ι H xs us:=by
 unfold yb8 at e
 cases r with
 | fl n q r=>cases e;exact ⟨_,_,rfl,.inl q,r⟩
 | kfl q r=>cases e;exact ⟨_,_,rfl,.inr q,r⟩
 | @ref k a q =>
  dsimp only at e
  split at e
  ·rename_i ys hk
   cases e
   obtain ⟨u,e1,us,rfl,r⟩:=S.obj k _ a hk q
   exact ⟨a,us,rfl,.inl (.inl e1),r⟩
  ·cases e
 | _=>cases e
theorem ydf {u:V} {xs:List AV} (r:RV T ι H (.tup xs) u):∃ a us,u = .ref a/\SqT T.K H a us/\RVs T ι H xs us:=by
 cases r with
 | tup n q r=>exact ⟨_,_,rfl,.of q,r⟩
theorem ybh {u:V} {x:Str} (r:RV T ι H (.str x) u):u = .str x/\x.length<=sizeLine/\x.cps.all (· < 0x110000)=true:=by
 cases r with
 | str n o=>exact ⟨rfl,n,o⟩
theorem yaD {u:V} {i:Int} (r:RV T ι H (.int i) u):u = .int i:=by cases r;rfl
theorem ydv {u:V} {i:Bool} (r:RV T ι H (.bl i) u):u = .bl i:=by cases r;rfl
theorem yee {u:V} (r:RV T ι H .non u):u = .non:=by cases r;rfl
theorem ydg {us:List V} {xs:List AV} {p:Addr} {E:XK} {Q:VK} (S:Sim T ι h H) (r:RVs T ι H xs us) (n:H p=none) (q:Post T ι H E (RV T) (.ok (.fl xs) h) Q):Q (.ref p) (upd H p (.lst us)) :=
 q ι _ _ (S.growNew n) (S.new n) (.fl (S.fresh n) (.inl zav) (r.mono (S.growNew n)))
theorem zcE {us:List V} {xs:List AV} {p:Addr} {E:XK} {Q:VK} (S:Sim T ι h H) (r:RVs T ι H xs us) (n:H p=none) (q:Post T ι H E (RV T) (.ok (.tup xs) h) Q):Q (.ref p) (upd H p (.tup us)) :=
 q ι _ _ (S.growNew n) (S.new n) (.tup (S.fresh n) zav (r.mono (S.growNew n)))
theorem zfE {us:List V} {xs:List AV} {p:Addr} {E:XK} {Q:VK} (S:Sim T ι h H) (r:RVs T ι H xs us) (n:H p=none) (q:Post T ι H E (RV T) (.ok (.ref h.length) (h++[.lst xs])) Q):Q (.ref p) (upd H p (.lst us)) :=
 q _ _ _ (S.growAdd n) (S.add n ⟨us,rfl,r.mono (S.growAdd n)⟩) (.ref S.addAt)
end
section
variable {T:Tb} {E:St->XK} {X:Cx} {pos:Pos}
theorem yaa (i:Nat) {x:Str} {p:Pos} (hN:X.N[i]? = some x:=by rfl) (hv:Vis X.env.scope x:=by first | exact Or.inl rfl | exact Or.inr (Or.inl rfl) | exact Or.inr (Or.inr rfl)) (hd:(x == ("__debug__" : Str))=false:=by decide)
  (hcd:(x == ("__classdict__" : Str))=false:=by decide):PEA T E X (.Name x p) (sVar i) :=
 yaY (pv i hN hv hd hcd) fun σ H Q ⟨ι,h,en,S,er,q⟩=>by
  unfold sVar at q
  split at q
  ·rename_i v hv
   obtain ⟨u,e,r⟩:=er.2 i v hv
   exact ⟨u,e,q.now S r⟩
  ·exact q.elim
theorem yaf {i j p}:PEA T E X (.Constant (.int i) j p) (sLit (.int i)):=yaY ygX fun σ H Q ⟨ι,h,en,S,er,q⟩=>q.now S (.int i)
theorem r_bl {i j p}:PEA T E X (.Constant (.bool i) j p) (sLit (.bl i)):=yaY yin fun σ H Q ⟨ι,h,en,S,er,q⟩=>q.now S (.bl i)
theorem yej {j p}:PEA T E X (.Constant .none j p) (sLit .non):=yaY ygY fun σ H Q ⟨ι,h,en,S,er,q⟩=>q.now S .non
theorem yaK {x j p} (n:x.length<=sizeLine:=by decide +kernel) (o:x.cps.all (· < 0x110000)=true:=by decide +kernel):PEA T E X (.Constant (.str x) j p) (sLit (.str x)):=yaY ygZ fun σ H Q ⟨ι,h,en,S,er,q⟩=>q.now S (.str n o)
theorem zi8 {x:Str} {i:Int} {t:Tok} {p:Pos} (hg:Gl X x) (hm:X.mg x=some (.int i t)) (hd:(x == ("__debug__" : Str))=false:=by decide):PEA T E X (.Name x p) (sLit (.int i)) :=
 yaY (ziE (v:=.int i) hg hm ⟨t,rfl⟩ hd) fun σ H Q ⟨ι,h,en,S,er,q⟩=>q.now S (.int i)
def OpS (T:Tb) (f:F2) (r:R2):Prop:=∀ (ι:Ix) (h:AH) (H:Hp) (x y:AV) (u w:V) (E:XK) (Q:VK),Sim T ι h H->RV T ι H x u->RV T ι H y w->Post T ι H E (RV T) (f x y h) Q->r u w H Q
def Op (T:Tb) (X:Cx) (g:Value->Value->Sem Value) (f:F2):Prop:=∃ r,OpR X g r/\OpS T f r
variable {a b c:Expr} {sa sb sc:SE}
theorem two {f:F2} {r:R2} (hs:OpS T f r) {σ:St} {H:Hp} {Q:VK} (q:tE T E (sOp2 f sa sb) σ H Q):tOp r (tE T E sa) (tE T E sb) σ H Q:=by
 obtain ⟨ι,h,en,S,er,q⟩:=q
 refine ⟨ι,h,en,S,er,q.bind fun x h1 ι1 H1 u g1 S1 r1 q1=>⟨ι1,h1,en,S1,er.mono g1,q1.bind fun y h2 ι2 H2 w g2 S2 r2 q2=>?_⟩⟩
 exact hs ι2 h2 H2 x y u w _ Q S2 (r1.mono g2) r2 q2
theorem yat {op:Operator} {f:F2} (ho:Op T X (binaryOp op) f) (ha:PEA T E X a sa) (hb:PEA T E X b sb):PEA T E X (.BinOp a op b pos) (sOp2 f sa sb):=by
 obtain ⟨r,h1,h2⟩:=ho
 exact yaY (yix h1 ha hb) fun σ H Q q=>two h2 q
theorem zi9 {i j:Str} (hi:i.cps.all (· < 0x110000)=true) (hj:j.cps.all (· < 0x110000)=true):(i++j).cps.all (· < 0x110000)=true:=by
 show (i.cps++j.cps).all _=true
 rw [Array.all_append,hi,hj];rfl
theorem zfa (i j:Str):(i++j).length=i.length+j.length:=by
 show (i.cps++j.cps).size=_
 rw [Array.size_append];rfl
theorem yaV (hK:X.K=T.K):Op T X (binaryOp .Add) fAdd:=by
 refine ⟨_,op_add.or (zgA.or (ziU.or zfy)),fun ι h H x y u w E Q S rx ry p=>?_⟩
 unfold fAdd at p
 split at p
 ·rw [yaD rx,yaD ry]
  exact .inl ⟨_,_,rfl,rfl,p.now S (.int _)⟩
 ·split at p
  ·rename_i hz
   obtain ⟨rfl,_,o1⟩:=ybh rx
   obtain ⟨rfl,_,o2⟩:=ybh ry
   exact .inr (.inl ⟨_,_,rfl,rfl,hz,p.now S (.str (by rw [zfa];exact hz) (zi9 o1 o2))⟩)
  ·exact p.elim
 ·split at p
  ·rename_i hz
   obtain ⟨a,us,rfl,q1,r1⟩:=ydf rx
   obtain ⟨b,ws,rfl,q2,r2⟩:=ydf ry
   refine .inr (.inr (.inl ⟨a,b,us,ws,rfl,rfl,hK▸q1,hK▸q2,fun z=>hz.1 ?_,by rw [<- r1.length,<- r2.length];exact hz.2,fun z=>?_,fun _ l n=>zcE S (r1.append r2) n p⟩))
   ·subst z;cases r1;rfl
   ·subst z;cases r2
    rw [List.append_nil] at p;exact p.now S rx
  ·exact p.elim
 ·split at p
  ·split at p
   ·rename_i e1 e2 hz
    obtain ⟨a,us,rfl,q1,r1⟩:=ybq S rx e1
    obtain ⟨b,ws,rfl,q2,r2⟩:=ybq S ry e2
    exact .inr (.inr (.inr ⟨a,b,us,ws,rfl,rfl,hK▸q1,hK▸q2,by rw [<- r1.length,<- r2.length];exact hz,fun l n=>ydg S (r1.append r2) n p⟩))
   ·exact p.elim
  ·exact p.elim
theorem yeu:Op T X (binaryOp .Sub) fSub:=by
 refine ⟨_,yhe,fun ι h H x y u w E Q S rx ry p=>?_⟩
 unfold fSub at p
 split at p
 ·rw [yaD rx,yaD ry]
  exact ⟨_,_,rfl,rfl,p.now S (.int _)⟩
 ·exact p.elim
theorem zfF {i:Int} (h:i.natAbs<2 ^ 4000):Builtin.Int.intBits i<=2 ^ 20:=by
 unfold Builtin.Int.intBits
 split
 ·exact Nat.zero_le _
 ·rename_i hz
  have h0:i.natAbs≠0:=fun z=>hz (by simpa using z)
  have:i.natAbs.log2<4000:=(Nat.log2_lt h0).mpr h
  exact Nat.le_trans (by omega:i.natAbs.log2+1<=4001) (by decide)
theorem ydJ:Op T X (binaryOp .Mult) fMul:=by
 refine ⟨_,zh5,fun ι h H x y u w E Q S rx ry p=>?_⟩
 unfold fMul at p
 split at p
 ·split at p
  ·rename_i hz
   rw [yaD rx,yaD ry];exact ⟨_,_,rfl,rfl,hz.elim (fun z=>CMul.ok (z.elim (fun z=>.inl ⟨by omega,by omega⟩) (fun z=>.inr ⟨by omega,by omega⟩))) (fun z=>.of_bits (zfF z.1) (zfF z.2)),p.now S (.int _)⟩
  ·exact p.elim
 ·exact p.elim
theorem ygp:Op T X (binaryOp .FloorDiv) fDiv:=by
 refine ⟨_,zh4,fun ι h H x y u w E Q S rx ry p=>?_⟩
 unfold fDiv at p
 split at p
 ·split at p
  ·rename_i hz
   rw [yaD rx,yaD ry];exact ⟨_,_,rfl,rfl,⟨hz.1,by omega⟩,p.now S (.int _)⟩
  ·exact p.elim
 ·exact p.elim
theorem yd6:Op T X (binaryOp .Mod) fMod:=by
 refine ⟨_,yhf,fun ι h H x y u w E Q S rx ry p=>?_⟩
 unfold fMod at p
 split at p
 ·split at p
  ·rename_i hz
   rw [yaD rx,yaD ry];exact ⟨_,_,rfl,rfl,hz,p.now S (.int _)⟩
  ·exact p.elim
 ·exact p.elim
theorem yek:Op T X (binaryOp .Pow) fPow:=by
 refine ⟨_,yhg,fun ι h H x y u w E Q S rx ry p=>?_⟩
 unfold fPow at p
 split at p
 ·split at p
  ·rename_i hz
   rw [yaD rx,yaD ry];exact ⟨_,_,rfl,rfl,hz,p.now S (.int _)⟩
  ·exact p.elim
 ·exact p.elim
theorem ydT (ha:PEA T E X a sa):PEA T E X (.UnaryOp .USub a pos) (sOp1 fNeg sa) :=
 yaY (yiy yhh ha) fun σ H Q ⟨ι,h,en,S,er,q⟩=>⟨ι,h,en,S,er,q.bind fun x h1 ι1 H1 u g1 S1 r1 q1=>by
  unfold fNeg at q1
  split at q1
  ·rw [yaD r1]
   exact ⟨_,rfl,q1.now S1 (.int _)⟩
  ·exact q1.elim⟩
theorem zhq {ds:List PyData} (h:∀ d∈ds,d.canLay0=true):PyData.canLayAll0 ds=true:=by
 induction ds with
 | nil=>rfl
 | cons d r ih=>show (d.canLay0 && PyData.canLayAll0 r)=true;rw [h d (by simp),ih fun e he=>h e (by simp [he])];rfl
theorem zfb {n:Nat} {ds:List PyData} (h:∀ d∈ds,d.depth<=n):PyData.depthAll ds<=n:=by
 induction ds with
 | nil=>exact Nat.zero_le _
 | cons d r ih=>show max d.depth (PyData.depthAll r)<=n;have:=h d (by simp);have:=ih fun e he=>h e (by simp [he]);omega
section
variable {ι:Ix} {h:AH} {H:Hp}
theorem zbT {f:AV->Option PyData} {n:Nat} (hf:∀ {x:AV} {u:V} {d:PyData},RV T ι H x u->f x=some d->DaV T.K H u d/\d.canLay0=true/\d.depth<=n) :
  ∀ {xs:List AV} {us:List V} {ds:List PyData},RVs T ι H xs us->toDs f xs=some ds->DaVs T.K H us ds/\∀ d∈ds,d.canLay0=true/\d.depth<=n
 | _,_,ds,.nil,e=>by cases e;exact ⟨.nil,by simp⟩
 | _,_,ds,.cons (x:=x) (xs:=xs) r rs,e=>by
  unfold toDs at e
  split at e
  ·rename_i d ds' e1 e2
   cases e
   obtain ⟨q1,q2⟩:=hf r e1
   obtain ⟨q3,q4⟩:=zbT hf rs e2
   refine ⟨.cons q1 q3,fun d hd=>?_⟩
   rcases List.mem_cons.mp hd with rfl | hd
   ·exact q2
   ·exact q4 d hd
  ·cases e
theorem ydh (S:Sim T ι h H):∀ (n:Nat) {x:AV} {u:V} {d:PyData},RV T ι H x u->toD n h x=some d->DaV T.K H u d/\d.canLay0=true/\d.depth<=n
 | 0,x,u,d,r,e=>by
  unfold toD at e
  cases r with
  | non=>cases e;exact ⟨.non,rfl,Nat.le_refl _⟩
  | bl b=>cases e;exact ⟨.bl b,rfl,Nat.le_refl _⟩
  | int b=>cases e;exact ⟨.int b,rfl,Nat.le_refl _⟩
  | str a b=>cases e;exact ⟨.str _,b,Nat.le_refl _⟩
  | _=>cases e
 | n+1,x,u,d,r,e=>by
  unfold toD at e
  have many:∀ {xs:List AV} {us:List V} {ds:List PyData},RVs T ι H xs us->toDs (toD n h) xs=some ds->DaVs T.K H us ds/\∀ d∈ds,d.canLay0=true/\d.depth<=n:=fun r e=>zbT (fun r e=>ydh S n r e) r e
  have fin:∀ {ds:List PyData},(∀ d∈ds,d.canLay0=true/\d.depth<=n)->PyData.canLayAll0 ds=true/\PyData.depthAll ds+1<=n+1:=fun q=>⟨zhq fun d hd=>(q d hd).1,Nat.succ_le_succ (zfb fun d hd=>(q d hd).2)⟩
  cases r with
  | non=>cases e;exact ⟨.non,rfl,Nat.zero_le _⟩
  | bl b=>cases e;exact ⟨.bl b,rfl,Nat.zero_le _⟩
  | int b=>cases e;exact ⟨.int b,rfl,Nat.zero_le _⟩
  | str a b=>cases e;exact ⟨.str _,b,Nat.zero_le _⟩
  | tup k q r =>
   obtain ⟨ds,e1,rfl⟩:=Option.map_eq_some_iff.mp e
   obtain ⟨q1,q2⟩:=many r e1
   exact ⟨.tup (.of q) q1,fin q2⟩
  | fl k q r =>
   obtain ⟨ds,e1,rfl⟩:=Option.map_eq_some_iff.mp e
   obtain ⟨q1,q2⟩:=many r e1
   exact ⟨.lst (.inl q) q1,fin q2⟩
  | kfl q r =>
   obtain ⟨ds,e1,rfl⟩:=Option.map_eq_some_iff.mp e
   obtain ⟨q1,q2⟩:=many r e1
   exact ⟨.lst (.inr q) q1,fin q2⟩
  | @ref k a q =>
   dsimp only at e
   split at e
   ·rename_i ys hk
    obtain ⟨ds,e1,rfl⟩:=Option.map_eq_some_iff.mp e
    obtain ⟨u,e2,us,rfl,r⟩:=S.obj k _ a hk q
    obtain ⟨q1,q2⟩:=many r e1
    exact ⟨.lst (.inl (.inl e2)) q1,fin q2⟩
   ·cases e
  | exc _ _ _=>cases e
end
theorem yhA {i j:Int}:decide (V.int i=V.int j)=decide (i=j):=by rw [Bool.eq_iff_iff];simp
theorem yhB {i j:Str}:decide (V.str i=V.str j)=decide (i=j):=by rw [Bool.eq_iff_iff];simp
theorem yiP {i j:Bool}:decide (V.bl i=V.bl j)=decide (i=j):=by rw [Bool.eq_iff_iff];simp
theorem zfG {r:R2} {neg:Bool} (ho:OpR X g r) (h1:∀ x y H Q,(scal x y=true/\Q (.bl (if neg then !decide (x=y) else decide (x=y))) H)->r x y H Q)
  (h2:∀ x y H Q,(∃ d e,DaV T.K H x d/\DaV T.K H y e/\d.canLay0=true/\e.canLay0=true/\d.depth<=60/\Q (.bl (if neg then !PyData.eqv d e else PyData.eqv d e)) H)->r x y H Q) :
  OpS T (fun x y h=>match eqA x y h with | some b=>.ok (.bl (if neg then !b else b)) h | none=>.bad) r:=by
 intro ι h H x y u w E Q S rx ry p
 dsimp only at p
 cases hb:eqA x y h with
 | none=>rw [hb] at p;exact p.elim
 | some b =>
  rw [hb] at p;dsimp only at p
  unfold eqA at hb
  split at hb
  ·cases hb
   rw [yaD rx,yaD ry];exact h1 _ _ _ _ ⟨rfl,by rw [yhA];exact p.now S (.bl _)⟩
  ·cases hb
   obtain ⟨rfl,_⟩:=ybh rx
   obtain ⟨rfl,_⟩:=ybh ry
   exact h1 _ _ _ _ ⟨rfl,by rw [yhB];exact p.now S (.bl _)⟩
  ·cases hb
   rw [ydv rx,ydv ry];exact h1 _ _ _ _ ⟨rfl,by rw [yiP];exact p.now S (.bl _)⟩
  ·cases hb
   rw [yee rx,yee ry];exact h1 _ _ _ _ ⟨rfl,by rw [show decide (V.non=V.non)=true from rfl];exact p.now S (.bl _)⟩
  ·split at hb
   ·rename_i d e e1 e2
    cases hb
    obtain ⟨q1,q2,q3⟩:=ydh S 8 rx e1
    obtain ⟨q4,q5,q6⟩:=ydh S 8 ry e2
    exact h2 _ _ _ _ ⟨d,e,q1,q4,q2,q5,by omega,p.now S (.bl _)⟩
   ·cases hb
theorem o_eq (hK:X.K=T.K) (hu:X.A.units+64<cLine):Op T X (compareOp .Eq) fEq :=
 ⟨_,op_eq.or (yfA hu),zfG (neg:=false) (op_eq.or (yfA hu)) (fun _ _ _ _ q=>.inl q) fun _ _ _ _ q=>.inr (hK▸q)⟩
theorem o_ne (hK:X.K=T.K) (hu:X.A.units+64<cLine):Op T X (compareOp .NotEq) fNe :=
 ⟨_,op_ne.or (yfB hu),zfG (neg:=true) (op_ne.or (yfB hu)) (fun _ _ _ _ q=>.inl q) fun _ _ _ _ q=>.inr (hK▸q)⟩
theorem o_lt:Op T X (compareOp .Lt) fLt:=by
 refine ⟨_,op_lt.or zg7,fun ι h H x y u w E Q S rx ry p=>?_⟩
 unfold fLt at p
 split at p
 ·rw [yaD rx,yaD ry]
  exact .inl ⟨_,_,rfl,rfl,p.now S (.bl _)⟩
 ·obtain ⟨rfl,_⟩:=ybh rx
  obtain ⟨rfl,_⟩:=ybh ry
  exact .inr ⟨_,_,rfl,rfl,p.now S (.bl _)⟩
 ·exact p.elim
theorem o_le:Op T X (compareOp .LtE) fLe:=by
 refine ⟨_,op_le.or zhl,fun ι h H x y u w E Q S rx ry p=>?_⟩
 unfold fLe at p
 split at p
 ·rw [yaD rx,yaD ry]
  exact .inl ⟨_,_,rfl,rfl,p.now S (.bl _)⟩
 ·obtain ⟨rfl,_⟩:=ybh rx
  obtain ⟨rfl,_⟩:=ybh ry
  exact .inr ⟨_,_,rfl,rfl,p.now S (.bl _)⟩
 ·exact p.elim
theorem o_gt:Op T X (compareOp .Gt) fGt:=by
 refine ⟨_,yiz,fun ι h H x y u w E Q S rx ry p=>?_⟩
 unfold fGt at p
 split at p
 ·rw [yaD rx,yaD ry]
  exact ⟨_,_,rfl,rfl,p.now S (.bl _)⟩
 ·exact p.elim
theorem o_ge:Op T X (compareOp .GtE) fGe:=by
 refine ⟨_,yiA,fun ι h H x y u w E Q S rx ry p=>?_⟩
 unfold fGe at p
 split at p
 ·rw [yaD rx,yaD ry]
  exact ⟨_,_,rfl,rfl,p.now S (.bl _)⟩
 ·exact p.elim
theorem RV.non_iff {ι:Ix} {H:Hp} {x:AV} {u:V} (r:RV T ι H x u):decide (x = .non)=decide (u = .non):=by
 exact decide_eq_decide.mpr ⟨fun z=>by subst z;cases r;rfl,fun z=>by subst z;cases r;rfl⟩
theorem ygq:Op T X (compareOp .Is) fIsN:=by
 refine ⟨_,yhi,fun ι h H x y u w E Q S rx ry p=>?_⟩
 unfold fIsN at p
 split at p
 ·refine ⟨yee ry,?_⟩
  rw [<- rx.non_iff];exact p.now S (.bl _)
 ·exact p.elim
theorem yhC:Op T X (compareOp .IsNot) yd5:=by
 refine ⟨_,ziM,fun ι h H x y u w E Q S rx ry p=>?_⟩
 unfold yd5 at p
 split at p
 ·refine ⟨yee ry,?_⟩
  rw [<- rx.non_iff];exact p.now S (.bl _)
 ·exact p.elim
theorem ycO {op:CmpOp} {f:F2} (ho:Op T X (compareOp op) f) (ha:PEA T E X a sa) (hb:PEA T E X b sb) (hm:behindInMarks op b=false):PEA T E X (.Compare a [op] [b] pos) (sOp2 f sa sb):=by
 obtain ⟨r,h1,h2⟩:=ho
 exact yaY (ziN h1 ha hb hm) fun σ H Q q=>two h2 q
theorem yar {op:CmpOp} {f:F2} (ho:Op T X (compareOp op) f) (ha:PEA T E X a sa) (hb:PEA T E X b sb) (hm:behindInMarks op b=false):PTA T E X (.Compare a [op] [b] pos) (yam (sOp2 f sa sb)):=by
 obtain ⟨r,h1,h2⟩:=ho
 refine yer (ziO h1 ha hb hm) fun σ H Q q=>two (E:=E) (Q:=fun x H' => ∃ k,x=V.bl k/\Q k H') h2 ?_
 obtain ⟨ι,h,en,S,er,q⟩:=q
 refine ⟨ι,h,en,S,er,q.bind fun x h1 ι1 H1 u g1 S1 r1 q1=>?_⟩
 split at q1
 ·rw [ydv r1]
  exact ⟨_,rfl,q1.now S1 rfl⟩
 ·exact q1.elim
theorem ygr {f f':F2} {r r':R2} (hs:OpS T f r) (hs':OpS T f' r') {σ:St} {H:Hp} {Q:VK} (q:tE T E (ycg f f' sa sb sc) σ H Q):yeV r r' (tE T E sa) (tE T E sb) (tE T E sc) σ H Q:=by
 obtain ⟨ι,h,en,S,er,q⟩:=q
 refine ⟨ι,h,en,S,er,q.bind fun x h1 ι1 H1 u g1 S1 r1 q1=>⟨ι1,h1,en,S1,er.mono g1,q1.bind fun y h2 ι2 H2 w g2 S2 r2 q2=>?_⟩⟩
 refine hs ι2 h2 H2 x y u w (E σ) _ S2 (r1.mono g2) r2 (q2.bind fun z h3 ι3 H3 k g3 S3 r3 q3=>?_)
 split at q3
 ·rename_i kk
  rw [ydv r3];refine ⟨kk,rfl,?_⟩
  by_cases hkk:kk=true
  ·rw [if_pos hkk] at q3 ⊢
   refine ⟨ι3,h3,en,S3,er.mono (g1.trans (g2.trans g3)),q3.bind fun v h4 ι4 H4 j g4 S4 r4 q4=>?_⟩
   exact hs' ι4 h4 H4 y v w j _ Q S4 (r2.mono (g3.trans g4)) r4 q4
  ·rw [if_neg hkk] at q3 ⊢
   exact q3.now S3 (.bl _)
 ·exact q3.elim
theorem zdF {op op':CmpOp} {f f':F2} (ho:Op T X (compareOp op) f) (ho':Op T X (compareOp op') f') (ha:PEA T E X a sa) (hb:PEA T E X b sb) (hc:PEA T E X c sc) (hm:lastMarks [op,op'] [b,c]=false:=by with_unfolding_all rfl) :
  PEA T E X (.Compare a [op,op'] [b,c] pos) (ycg f f' sa sb sc):=by
 obtain ⟨r,h1,h2⟩:=ho
 obtain ⟨r',h1',h2'⟩:=ho'
 exact yaY (zhP h1 h1' ha hb hc hm) fun σ H Q q=>ygr h2 h2' q
theorem zdb {op op':CmpOp} {f f':F2} (ho:Op T X (compareOp op) f) (ho':Op T X (compareOp op') f') (ha:PEA T E X a sa) (hb:PEA T E X b sb) (hc:PEA T E X c sc) (hm:lastMarks [op,op'] [b,c]=false:=by with_unfolding_all rfl) :
  PTA T E X (.Compare a [op,op'] [b,c] pos) (yam (ycg f f' sa sb sc)):=by
 obtain ⟨r,h1,h2⟩:=ho
 obtain ⟨r',h1',h2'⟩:=ho'
 refine yer (zhQ h1 h1' ha hb hc hm) fun σ H Q q=>ygr (E:=E) (Q:=fun x H' => ∃ k,x=V.bl k/\Q k H') h2 h2' ?_
 obtain ⟨ι,h,en,S,er,q⟩:=q
 refine ⟨ι,h,en,S,er,q.bind fun x h1 ι1 H1 u g1 S1 r1 q1=>?_⟩
 split at q1
 ·rw [ydv r1]
  exact ⟨_,rfl,q1.now S1 rfl⟩
 ·exact q1.elim
theorem yhD {ι:Ix} {h:AH} {H:Hp} {v:AV} {u:V} {k:Bool} (S:Sim T ι h H) (r:RV T ι H v u) (e:truA v h=some k):TruV T.K u H k:=by
 unfold truA at e
 cases r with
 | non=>cases e;rfl
 | bl b=>cases e;rfl
 | int b=>cases e;rfl
 | str n o=>cases e;exact ⟨n,rfl⟩
 | tup n q r=>cases e;exact .inr (.inl ⟨_,.of q,by cases r<;>rfl⟩)
 | fl n q r=>cases e;exact .inl ⟨_,.inl q,by cases r<;>rfl⟩
 | kfl q r=>cases e;exact .inl ⟨_,.inr q,by cases r<;>rfl⟩
 | @ref n a q =>
  dsimp only at e
  split at e
  ·rename_i xs hk
   cases e
   obtain ⟨u,e1,us,rfl,r⟩:=S.obj n _ a hk q
   exact .inl ⟨us,.inl (.inl e1),by cases r<;>rfl⟩
  ·rename_i xs hk
   cases e
   obtain ⟨u,e1,us,rfl,r⟩:=S.obj n _ a hk q
   exact .inr (.inr ⟨us,e1,by cases r<;>rfl⟩)
  ·cases e
 | exc _ _ _=>cases e
theorem zal (hK:X.K=T.K) (ha:PEA T E X a sa) (he:∀ whole,isTrue a X.env whole=(do let v <- whole;standAt a.pos;holding [v] (truthy v)):=by intro _;rfl):PTA T E X a (ybi sa) :=
 yer (zhR ha he) fun σ H Q ⟨ι,h,en,S,er,q⟩=>⟨ι,h,en,S,er,q.bind fun x h1 ι1 H1 u g1 S1 r1 q1=>by
  split at q1
  ·rename_i b hb
   exact ⟨b,hK▸yhD S1 r1 hb,q1.now S1 rfl⟩
  ·exact q1.elim⟩
variable {ca cb:SB} {rest:List Expr}
theorem ych (ha:PTA T E X a ca):PTA T E X (.UnaryOp .Not a pos) (sNot ca) :=
 yer (yg2 ha) fun σ H Q ⟨ι,h,en,S,er,q⟩=>⟨ι,h,en,S,er,q.bind fun x h1 ι1 H1 u g1 S1 r1 q1=>by subst r1;exact q1.now S1 rfl⟩
theorem rt_w (h:PWA T E X a ca):PTA T E X a ca:=PW.pt h
theorem zbs (ha:PTA T E X a ca):PWA T E X (.BoolOp .And [a] pos) ca:=ziG ha
theorem ydQ (ha:PTA T E X a ca):PWA T E X (.BoolOp .Or [a] pos) ca:=yg0 ha
theorem yd2 (ha:PTA T E X a ca) (hb:PWA T E X (.BoolOp .And (b::rest) pos) cb):PWA T E X (.BoolOp .And (a::b::rest) pos) (sAnd ca cb) :=
 yfD (yg1 ha hb) fun σ H Q ⟨ι,h,en,S,er,q⟩=>⟨ι,h,en,S,er,q.bind fun x h1 ι1 H1 u g1 S1 r1 q1=>by
  subst r1;by_cases hx:x=true
  ·rw [if_pos hx] at q1 ⊢
   exact ⟨ι1,h1,en,S1,er.mono g1,q1⟩
  ·rw [if_neg hx] at q1 ⊢
   exact q1.now S1 rfl⟩
theorem ydw (ha:PTA T E X a ca) (hb:PWA T E X (.BoolOp .Or (b::rest) pos) cb):PWA T E X (.BoolOp .Or (a::b::rest) pos) (sOr ca cb) :=
 yfD (yio ha hb) fun σ H Q ⟨ι,h,en,S,er,q⟩=>⟨ι,h,en,S,er,q.bind fun x h1 ι1 H1 u g1 S1 r1 q1=>by
  subst r1;by_cases hx:x=true
  ·rw [if_pos hx] at q1 ⊢
   exact q1.now S1 rfl
  ·rw [if_neg hx] at q1 ⊢
   exact ⟨ι1,h1,en,S1,er.mono g1,q1⟩⟩
theorem ydU {op} (h:PEA T E X a sa):PEA T E X (.BoolOp op [a] pos) sa:=yg3 h
theorem ydV (ha:PEA T E X a sa) (hb:PEA T E X (.BoolOp .And (b::rest) pos) sb):PEA T E X (.BoolOp .And (a::b::rest) pos) (ydH sa sb) :=
 yaY (yg4 ha hb) fun σ H Q ⟨ι,h,en,S,er,q⟩=>⟨ι,h,en,S,er,q.bind fun x h1 ι1 H1 u g1 S1 r1 q1=>by
  split at q1
  ·rename_i kk
   rw [ydv r1];refine ⟨kk,rfl,?_⟩
   by_cases hkk:kk=true
   ·rw [if_pos hkk] at q1 ⊢
    exact ⟨ι1,h1,en,S1,er.mono g1,q1⟩
   ·rw [if_neg hkk] at q1 ⊢
    exact q1.now S1 (.bl _)
  ·exact q1.elim⟩
theorem r_or (ha:PEA T E X a sa) (hb:PEA T E X (.BoolOp .Or (b::rest) pos) sb):PEA T E X (.BoolOp .Or (a::b::rest) pos) (sOrV sa sb) :=
 yaY (yir ha hb) fun σ H Q ⟨ι,h,en,S,er,q⟩=>⟨ι,h,en,S,er,q.bind fun x h1 ι1 H1 u g1 S1 r1 q1=>by
  split at q1
  ·rename_i kk
   rw [ydv r1];refine ⟨kk,rfl,?_⟩
   by_cases hkk:kk=true
   ·rw [if_pos hkk] at q1 ⊢
    exact q1.now S1 (.bl _)
   ·rw [if_neg hkk] at q1 ⊢
    exact ⟨ι1,h1,en,S1,er.mono g1,q1⟩
  ·exact q1.elim⟩
theorem ygs (ha:PEA T E X a sa):PEA T E X (.UnaryOp .Not a pos) (yfi sa) :=
 yaY (yg5 ha) fun σ H Q ⟨ι,h,en,S,er,q⟩=>⟨ι,h,en,S,er,q.bind fun x h1 ι1 H1 u g1 S1 r1 q1=>by
  split at q1
  ·rw [ydv r1]
   exact ⟨_,rfl,q1.now S1 (.bl _)⟩
  ·exact q1.elim⟩
theorem yfj {d:Expr} (hc:PTA T E X d ca) (ha:PEA T E X a sa) (hb:PEA T E X b sb):PEA T E X (.IfExp d a b pos) (sIfE ca sa sb) :=
 yaY (zhJ hc ha hb) fun σ H Q ⟨ι,h,en,S,er,q⟩=>⟨ι,h,en,S,er,q.bind fun x h1 ι1 H1 u g1 S1 r1 q1=>by
  subst r1;by_cases hx:x=true
  ·rw [if_pos hx] at q1 ⊢
   exact ⟨ι1,h1,en,S1,er.mono g1,q1⟩
  ·rw [if_neg hx] at q1 ⊢
   exact ⟨ι1,h1,en,S1,er.mono g1,q1⟩⟩
variable {es:List Expr} {as:SL}
theorem yac:PAA T E X [] sNil:=yfE yfv fun σ H Q ⟨ι,h,en,S,er,q⟩=>q.now S .nil
theorem zaa (ha:PEA T E X a sa) (hr:PAA T E X es as) (hs:starEach (a::es) X.env=(false,eval a X.env)::starEach es X.env:=by rfl):PAA T E X (a::es) (yab sa as) :=
 yfE (zdD ha hr hs) fun σ H Q ⟨ι,h,en,S,er,q⟩=>⟨ι,h,en,S,er,q.bind fun x h1 ι1 H1 u g1 S1 r1 q1=>⟨ι1,h1,en,S1,er.mono g1,q1.bind fun xs h2 ι2 H2 us g2 S2 r2 q2=>q2.now S2 (.cons (r1.mono g2) r2)⟩⟩
theorem ycu {k} (h:PAA T E X es as):PEA T E X (.Tuple es k pos) (sTup as) :=
 yaY (yhm h) fun σ H Q ⟨ι,h,en,S,er,q⟩=>⟨ι,h,en,S,er,q.bind fun xs h1 ι1 H1 us g1 S1 r1 q1=>by
  split at q1
  ·rename_i hl
   exact ⟨by rw [<- r1.length];exact Nat.le_trans hl (by decide),fun p n=>zcE S1 r1 n q1⟩
  ·exact q1.elim⟩
theorem ydi (h:PAA T E X es as):PEA T E X (.List es pos) (sLst as) :=
 yaY (yfw h) fun σ H Q ⟨ι,h,en,S,er,q⟩=>⟨ι,h,en,S,er,q.bind fun xs h1 ι1 H1 us g1 S1 r1 q1=>by
  split at q1
  ·rename_i hl
   exact ⟨by rw [<- r1.length];exact Nat.le_trans hl (by decide),fun p n=>ydg S1 r1 n q1⟩
  ·exact q1.elim⟩
theorem ycz (h:PAA T E X es as):PEA T E X (.List es pos) (ycW as) :=
 yaY (yfw h) fun σ H Q ⟨ι,h,en,S,er,q⟩=>⟨ι,h,en,S,er,q.bind fun xs h1 ι1 H1 us g1 S1 r1 q1=>by
  split at q1
  ·rename_i hl
   exact ⟨by rw [<- r1.length];exact Nat.le_trans hl (by decide),fun p n=>zfE S1 r1 n q1⟩
  ·exact q1.elim⟩
theorem zja:PEA T E X (.Dict [] [] pos) (ygm true) :=
 yaY zhZ fun σ H Q ⟨ι,h,en,S,er,q⟩ p n=>q _ _ _ (S.growAdd n) (S.add n ⟨[],rfl,.nil⟩) (.ref S.addAt)
end
end Sm
namespace Sm
open PySem L2
section
variable {T:Tb} {E:St->XK} {X:Cx} {pos:Pos} {a b:Expr} {sa sb:SE} {ca:SB} {st:Stmt} {sts ss1 ss2:List Stmt} {s1 s2:SS}
theorem yas:PSsA T E X [] yaw:=zfD ziH fun D σ H ⟨ι,h,en,S,er,q⟩=>q ι H σ S.refl S er
theorem zab (h1:PSA T E X st s1) (h2:PSsA T E X sts s2):PSsA T E X (st::sts) (sSeq s1 s2) :=
 zfD (zhK h1 h2) fun D σ H ⟨ι,h,en,S,er,q⟩=>by
  refine ⟨ι,h,en,S,er,?_⟩
  unfold sSeq at q
  cases e:s1 en h with
  | nx e1 h1 =>
   rw [e] at q;exact fun ι' H' σ' g S' er' => ⟨ι',h1,e1,S',er',q.shift g⟩
  | rt v h1=>rw [e] at q;exact q
  | bk e1 h1=>rw [e] at q;exact q
  | ct e1 h1=>rw [e] at q;exact q
  | ex c e1 h1=>rw [e] at q;exact q
  | bad=>rw [e] at q;exact q
theorem yag (h1:PSA T E X st s1):PSsA T E X [st] s1:=ziI h1
theorem zjb:PSA T E X (.Break pos) yfG:=ycy zhL fun D σ H ⟨ι,h,en,S,er,q⟩=>q ι H σ S.refl S er
theorem yaJ (ha:PEA T E X a sa) (hs:swapsWith a none pos.line X.env=pure false:=by rfl):PSA T E X (.Expr a pos) (yaU sa) :=
 ycy (ziJ ha hs) fun D σ H ⟨ι,h,en,S,er,q⟩=>⟨ι,h,en,S,er,q.go er fun v h1 ι1 H1 u g1 S1 r1 q1=>q1 ι1 H1 σ S1.refl S1 (er.mono g1)⟩
theorem yai (ha:PEA T E X a sa):PSA T E X (.Return (some a) pos) (sRet sa) :=
 ycy (yg7 ha) fun D σ H ⟨ι,h,en,S,er,q⟩=>⟨ι,h,en,S,er,q.go er fun v h1 ι1 H1 u g1 S1 r1 q1=>q1 ι1 H1 u S1.refl S1 r1⟩
theorem r_if (hc:PTA T E X a ca) (h1:PSsA T E X ss1 s1) (h2:PSsA T E X ss2 s2):PSA T E X (.If a ss1 ss2 pos) (sIf ca s1 s2) :=
 ycy (yiu hc h1 h2) fun D σ H ⟨ι,h,en,S,er,q⟩=>⟨ι,h,en,S,er,q.go er fun x h1 ι1 H1 u g1 S1 r1 q1=>by
  subst r1;by_cases hx:x=true
  ·rw [if_pos hx] at q1 ⊢
   exact ⟨ι1,h1,en,S1,er.mono g1,q1⟩
  ·rw [if_neg hx] at q1 ⊢
   exact ⟨ι1,h1,en,S1,er.mono g1,q1⟩⟩
theorem yfH {σ:St} {H:Hp} {D:Ends} {i:Nat} (q:tS T E (sSet i sa) D σ H):tAsg (tE T E sa) (yeK i) D σ H:=by
 obtain ⟨ι,h,en,S,er,q⟩:=q
 exact ⟨ι,h,en,S,er,q.go er fun v h1 ι1 H1 u g1 S1 r1 q1=>q1 ι1 H1 _ S1.refl S1 ((er.mono g1).set r1 i)⟩
theorem yaq {i:Nat} {x:Str} {p':Pos} (hN:X.N.Nodup) (ha:PEA T E X a sa) (hi:X.N[i]? = some x:=by rfl) (hx:Loc X.env.scope x:=by first | exact Or.inl rfl | exact Or.inr rfl) (hs:swapsWith a (some (.Name x p')) pos.line X.env=pure false:=by rfl)
  (hf:X.fn x=true\/X.env.scope.names.lookup x=some .local:=by first | exact .inl rfl | exact .inr rfl | assumption):PSA T E X (.Assign [.Name x p'] a pos) (sSet i sa) :=
 ycy (yha hN hi hx ha hs hf) fun D σ H q=>yfH q
theorem zbU (n:Nat) (hc:PTA T EN X.nox a ca) (hb:PSsA T EN X.nox sts s1):PSA T E X (.While a sts [] pos) (yaG ca s1 n) :=
 ycy (yfF (zhN PassesOwn.never hc hb)) fun D σ H ⟨ι,h,en,S,er,q⟩=>by
  refine ⟨fun m σ H=>∃ ι h en,Sim T ι h H/\ER T ι H en σ/\PostS T ι H E (yaG ca s1 m en h) D,⟨n,ι,h,en,S,er,q⟩,?_⟩
  rintro m σ H ⟨ι,h,en,S,er,q⟩
  cases m with
  | zero=>exact (show False from q).elim
  | succ m =>
   unfold yaG at q
   refine ⟨ι,h,en,S,er,?_⟩
   cases e:ca en h with
   | bad=>rw [e] at q;exact q
   | ex c h1=>rw [e] at q;exact (show False from q).elim
   | ok x h1 =>
    rw [e] at q;intro ι1 H1 u g1 S1 r1
    subst r1;have q1:=PostS.shift q g1
    cases x with
    | true =>
     rw [if_pos rfl];refine ⟨fun σ H=>∃ ι h en,Sim T ι h H/\ER T ι H en σ/\PostS T ι H E (yaG ca s1 m en h) D,fun σ' H' w=>⟨m,Nat.lt_succ_self m,w⟩,ι1,h1,en,S1,er.mono g1,?_⟩
     dsimp only at q1
     cases e2:s1 en h1 with
     | nx e3 h3=>rw [e2] at q1;exact fun ι2 H2 σ2 g2 S2 er2=>⟨ι2,h3,e3,S2,er2,q1.shift g2⟩
     | ct e3 h3=>rw [e2] at q1;exact fun ι2 H2 σ2 g2 S2 er2=>⟨ι2,h3,e3,S2,er2,q1.shift g2⟩
     | bk e3 h3=>rw [e2] at q1;exact q1
     | rt v h3=>rw [e2] at q1;exact q1
     | ex c e3 h3=>rw [e2] at q1;exact (show False from q1).elim
     | bad=>rw [e2] at q1;exact q1
    | false =>
     rw [if_neg Bool.false_ne_true];exact q1 ι1 H1 σ S1.refl S1 (er.mono g1)
theorem zec {ι:Ix} {H:Hp}:∀ {is:List Nat} {xs:List AV} {us:List V} {en e:En} {σ:St},RVs T ι H xs us->ER T ι H en σ->yeW is xs en=some e->ER T ι H e ((is.zip us).foldl (fun σ p=>σ.set p.1 (some p.2)) σ)/\us.length=is.length
 | [],_,_,en,e,σ,.nil,er,q=>by cases q;exact ⟨er,rfl⟩
 | i::is,_,_,en,e,σ,.cons r rs,er,q=>by
  obtain ⟨h1,h2⟩:=zec (is:=is) rs (er.set r i) q
  exact ⟨h1,by simp [h2]⟩
 | [],_,_,en,e,σ,.cons r rs,er,q=>by cases q
 | i::is,_,_,en,e,σ,.nil,er,q=>by cases q
def PGA (T:Tb) (X:Cx) (tg:Expr) (t:Tg):Prop:=∃ g,PG X tg g/\∀ {ι:Ix} {h:AH} {H:Hp} {en e:En} {σ:St} {v:AV} {u:V} {Q:St->Hp->Prop},Sim T ι h H->ER T ι H en σ->RV T ι H v u->setT t v en=some e ->
 (∀ σ',ER T ι H e σ'->Q σ' H)->g u σ H Q
theorem zbt {i:Nat} {x:Str} (hN:X.N.Nodup) (hi:X.N[i]? = some x:=by rfl) (hx:Loc X.env.scope x:=by first | exact Or.inl rfl | exact Or.inr rfl) (hf:X.fn x=true\/X.env.scope.names.lookup x=some .local:=by first | exact .inl rfl | exact .inr rfl | assumption) :
  PGA T X (.Name x pos) (.nm i):=⟨_,zfq hN hi hx hf,fun S er r e k=>by cases e;exact k _ (er.set r i)⟩
def PGsA (X:Cx) (es:List Expr) (is:List Nat):Prop:=PGs X es (fun vs σ H Q=>vs.length=is.length/\Q ((is.zip vs).foldl (fun σ p=>σ.set p.1 (some p.2)) σ) H)
theorem zfH {X:Cx} {es:List Expr} {t t':TGs} (h:PGs X es t) (k:∀ vs σ H Q,t' vs σ H Q->t vs σ H Q):PGs X es t' := fun pins s σ H vs us Q I r q=>h pins s σ H vs us Q I r (k vs σ H Q q)
theorem zfI:PGsA X [] []:=zfH ziK fun vs σ H Q ⟨l,q⟩=>by
 cases vs with
 | nil=>exact ⟨rfl,q⟩
 | cons=>cases l
theorem zbZ {i:Nat} {is:List Nat} {x:Str} {p:Pos} {es:List Expr} (hN:X.N.Nodup) (hr:PGsA X es is) (hi:X.N[i]? = some x:=by rfl) (hx:Loc X.env.scope x:=by first | exact Or.inl rfl | exact Or.inr rfl)
  (hf:X.fn x=true\/X.env.scope.names.lookup x=some .local:=by first | exact .inl rfl | exact .inr rfl | assumption) (hs:(assignEach (.Name x p::es) X.env).map (·.2)=assign (.Name x p) X.env::(assignEach es X.env).map (·.2):=by rfl):PGsA X (.Name x p::es) (i::is) :=
 zfH (zhM (zfq hN hi hx hf) hr hs) fun vs σ H Q ⟨l,q⟩=>by
  cases vs with
  | nil=>cases l
  | cons v r=>exact ⟨v,r,rfl,Nat.succ.inj l,q⟩
theorem yfI {es:List Expr} {is:List Nat} {k:Nat} (hK:X.K=T.K) (hc:X.calm=true) (h:PGsA X es is) (hn:(assignEach es X.env).length=is.length:=by rfl) (hst:(assignEach es X.env).findIdx? (·.1)=none:=by rfl):PGA T X (.Tuple es k pos) (.tup is) :=
 ⟨_,yg8 hc h hn hst,fun {ι h H en e σ v u Q} S er r q k=>by
  unfold setT at q
  split at q
  ·rename_i hh;cases hh
  ·rename_i hh
   cases hh
   obtain ⟨a,us,rfl,q1,r1⟩:=ydf r
   obtain ⟨h1,h2⟩:=zec r1 er q
   exact ⟨a,us,rfl,hK▸q1,h2,h2,k _ h1⟩
  ·cases q⟩
theorem yhE {tg:Expr} {t:Tg} (ha:PEA T E X a sa) (hg:PGA T X tg t) (hs:swapsWithSole [tg] a pos.line X.env=pure false:=by rfl) (hw:swappedStores [tg] a X.env=pure none:=by rfl)
  (h1:(assignEach [tg] X.env).map (·.2)=[assign tg X.env]:=by rfl):PSA T E X (.Assign [tg] a pos) (ygn t sa):=by
 obtain ⟨g,hg1,hg2⟩:=hg
 refine ycy (yft ha hg1 hs hw h1) fun D σ H ⟨ι,h,en,S,er,q⟩=>⟨ι,h,en,S,er,q.go er fun v h1 ι1 H1 u g1 S1 r1 q1=>?_⟩
 split at q1
 ·rename_i e he
  exact hg2 S1 (er.mono g1) r1 he fun σ' er' => q1 ι1 H1 σ' S1.refl S1 er'
 ·exact q1.elim
structure ItR (T:Tb) (J:It) (ι:Ix) (H:Hp) (xs:List AV) (w:Option Nat):Prop where
 go:∀ (i:Nat) (ι':Ix) (h':AH) (H':Hp) (x:AV),Ext ι H ι' H'->Sim T ι' h' H'->yct w xs h'=true->xs[i]? = some x->J.go i H'/\∀ u H2,J.yld i H' u H2->Grow ι' H' ι' H2/\Sim T ι' h' H2/\RV T ι' H2 x u
 stop:∀ (i:Nat) (ι':Ix) (h':AH) (H':Hp),Ext ι H ι' H'->Sim T ι' h' H'->yct w xs h'=true->xs.length<=i->J.stop i H'
def tI (T:Tb) (it:SI):TI:=fun σ H R=>∃ ι h en,Sim T ι h H/\ER T ι H en σ/\match it en h with
 | .ok (xs,w) h' => ∀ ι' H' J,Grow ι H ι' H'->Sim T ι' h' H'->ItR T J ι' H' xs w->R J H'
 | _=>False
abbrev PIA (T:Tb) (X:Cx) (tg iter:Expr) (it:SI):Prop:=PI X tg iter (tI T it)
theorem yev {X:Cx} {tg iter:Expr} {t t':TI} (h:PI X tg iter t) (k:∀ σ H R,t' σ H R->t σ H R):PI X tg iter t' := fun pins s σ H R I q=>h pins s σ H R I (k σ H R q)
theorem PI.or {X:Cx} {tg iter:Expr} {t t':TI} (h:PI X tg iter t) (h':PI X tg iter t'):PI X tg iter (fun σ H R=>t σ H R\/t' σ H R):=fun pins s σ H R I q=>q.elim (h pins s σ H R I) (h' pins s σ H R I)
theorem yfJ {ι:Ix} {H:Hp} {a:Addr} {us:List V} {xs:List AV} {K:PySem.W.Frag} (keep:∀ (ι':Ix) (H':Hp),Ext ι H ι' H'->SqL K H' a us) (r:RVs T ι H xs us):ItR T (Itl K a) ι H xs none:=by
 constructor
 ·intro i ι' h' H' x g S _ e
  obtain ⟨u,e1,r1⟩:=(r.ext g).get e
  refine ⟨⟨us,u,keep ι' H' g,e1⟩,?_⟩
  rintro u2 H2 ⟨rfl,y⟩
  have z:=y us (keep ι' _ g)
  rw [e1] at z;cases z
  exact ⟨S.refl,S,r1⟩
 ·intro i ι' h' H' g S _ hl
  exact ⟨us,keep ι' H' g,by rw [<- r.length];exact hl⟩
theorem yhF {ι:Ix} {H:Hp} {a:Addr} {us:List V} {xs:List AV} {K:PySem.W.Frag} (keep:∀ (ι':Ix) (H':Hp),Ext ι H ι' H'->SqT K H' a us) (r:RVs T ι H xs us):ItR T (Itt K a) ι H xs none:=by
 constructor
 ·intro i ι' h' H' x g S _ e
  obtain ⟨u,e1,r1⟩:=(r.ext g).get e
  refine ⟨⟨us,u,keep ι' H' g,e1⟩,?_⟩
  rintro u2 H2 ⟨rfl,y⟩
  have z:=y us (keep ι' _ g)
  rw [e1] at z;cases z
  exact ⟨S.refl,S,r1⟩
 ·intro i ι' h' H' g S _ hl
  exact ⟨us,keep ι' H' g,by rw [<- r.length];exact hl⟩
theorem zjc {ι:Ix} {H:Hp} {a:Addr} {n:Nat} {xs:List AV} {K:PySem.W.Frag} (e:ι.refs[n]? = some a):ItR T (Itl K a) ι H xs (some n):=by
 have at_:∀ {ι':Ix} {h':AH} {H':Hp},Ext ι H ι' H'->Sim T ι' h' H'->yct (some n) xs h'=true->∃ us,H' a=some (.lst us)/\RVs T ι' H' xs us:=fun {ι' h' H'} g S l=>by
  unfold yct at l
  dsimp only at l
  split at l
  ·rename_i ys hy
   have z:=of_decide_eq_true l
   subst z;obtain ⟨u,e1,us,rfl,r⟩:=S.obj n _ a hy (g.at_ e)
   exact ⟨us,e1,r⟩
  ·cases l
 constructor
 ·intro i ι' h' H' x g S l e
  obtain ⟨us,e0,r⟩:=at_ g S l
  obtain ⟨u,e1,r1⟩:=r.get e
  refine ⟨⟨us,u,.of e0,e1⟩,?_⟩
  rintro u2 H2 ⟨rfl,y⟩
  have z:=y us (.of e0)
  rw [e1] at z;cases z
  exact ⟨S.refl,S,r1⟩
 ·intro i ι' h' H' g S l hl
  obtain ⟨us,e0,r⟩:=at_ g S l
  exact ⟨us,.of e0,by rw [<- r.length];exact hl⟩
theorem zjd {ι:Ix} {H:Hp} {x:Str} (o:x.cps.all (· < 0x110000)=true):ItR T (Its x) ι H (x.cps.toList.map fun c=>.str ⟨#[c]⟩) none:=by
 constructor
 ·intro i ι' h' H' y g S _ e
  rw [List.getElem?_map] at e;obtain ⟨c,e1,rfl⟩:=Option.map_eq_some_iff.mp e
  have hi:i<x.cps.size:=by
   have:=(List.getElem?_eq_some_iff.mp e1).1
   simpa using this
  refine ⟨hi,?_⟩
  rintro u H2 ⟨rfl,c',e2,rfl⟩
  have z:x.cps[i]? = some c:=by simpa using e1
  rw [e2] at z;cases z
  refine ⟨S.refl,S,.str (show 1<=sizeLine by decide) ?_⟩
  have m:=Array.mem_of_getElem? e2
  have:=Array.all_eq_true_iff_forall_mem.mp o _ m
  simpa using this
 ·intro i ι' h' H' g S _ hl
  show x.cps.size<=i
  simpa using hl
theorem zgN (n:Nat):∀ (lo:Int) (i:Nat),(ya5 lo n)[i]? = if i<n then some (.int (lo+i)) else none:=by
 induction n with
 | zero=>intro lo i;simp [ya5]
 | succ n ih =>
  intro lo i
  cases i with
  | zero=>simp [ya5]
  | succ i =>
   show (ya5 (lo+1) n)[i]? = _
   rw [ih];by_cases h:i<n
   ·rw [if_pos h,if_pos (by omega)]
    congr 2
    show lo+1+(i:Int)=lo+((i+1:Nat):Int)
    omega
   ·rw [if_neg h,if_neg (by omega)]
theorem zen (n:Nat):∀ lo:Int,(ya5 lo n).length=n:=by
 induction n with
 | zero=>intro lo;rfl
 | succ n ih=>intro lo;show (ya5 (lo+1) n).length+1=n+1;rw [ih]
theorem zhr {ι:Ix} {H:Hp} {lo:Int} {n:Nat}:ItR T (Itr lo n) ι H (ya5 lo n) none:=by
 constructor
 ·intro i ι' h' H' y g S _ e
  rw [zgN] at e;split at e
  ·rename_i hi
   cases e
   refine ⟨hi,?_⟩
   rintro u H2 ⟨rfl,rfl⟩
   exact ⟨S.refl,S,.int _⟩
  ·cases e
 ·intro i ι' h' H' g S _ hl
  rw [zen] at hl;exact hl
theorem zcn:∀ (xs:List AV) (k i:Nat),(numbered k xs)[i]? = (xs[i]?).map fun x=>.tup [.int ((k+i:Nat):Int),x]
 | [],k,i=>by simp [numbered]
 | x::xs,k,0=>by simp [numbered]
 | x::xs,k,i+1=>by
  show (numbered (k+1) xs)[i]? = _
  rw [zcn xs (k+1) i];show _=(xs[i]?).map _
  congr 1
  funext y
  rw [show k+1+i=k+(i+1) by omega]
theorem zbH:∀ (xs:List AV) (k:Nat),(numbered k xs).length=xs.length
 | [],_=>rfl
 | x::xs,k=>by show (numbered (k+1) xs).length+1=_;rw [zbH xs];rfl
theorem yiQ {ι:Ix} {H:Hp} {a:Addr} {us:List V} (n:a∉ι.all) (h:Rd H a (.lst us)):∀ (ι':Ix) (H':Hp),Ext ι H ι' H'->SqL T.K H' a us:=fun _ _ g=>.inl (zfC g n h)
theorem yiR {ι:Ix} {H:Hp} {a:Addr} {us:List V} (n:a∉ι.all) (h:H a=some (.tup us)):∀ (ι':Ix) (H':Hp),Ext ι H ι' H'->SqT T.K H' a us:=fun _ _ g=>.of (g.keep _ _ n h)
theorem yfK {K K':PySem.W.Frag} {H:Hp} {a:Addr} {us:List V} (e:K=K') (h:SqL K' H a us):SqL K H a us:=e▸h
theorem ygt {σ:St} {H:Hp} {R:It->Hp->Prop} {ι:Ix} {h h1:AH} {en:En} {v:AV} {xs:List AV} {w:Option Nat} (hK:X.K=T.K) (S:Sim T ι h H) (er:ER T ι H en σ) (e:sa en h = .ok v h1) (hv:(v = .fl xs/\w=none)\/∃ n,v = .ref n/\h1[n]? = some (.lst xs)/\w=some n)
  (q:∀ ι' H' J,Grow ι H ι' H'->Sim T ι' h1 H'->ItR T J ι' H' xs w->R J H'):ygh X.K (tE T E sa) σ H R:=by
 refine ⟨ι,h,en,S,er,?_⟩
 rw [e];intro ι1 H1 u g1 S1 r1
 rcases hv with ⟨rfl,rfl⟩ | ⟨n,rfl,hn,rfl⟩
 ·cases r1 with
  | fl n hr rs=>exact ⟨_,rfl,⟨_,yfK hK (.inl hr)⟩,q ι1 H1 _ g1 S1 (hK▸yfJ (yiQ n hr) rs)⟩
  | kfl hr rs=>exact ⟨_,rfl,⟨_,yfK hK (.inr hr)⟩,q ι1 H1 _ g1 S1 (hK▸yfJ (fun _ _ _=>.inr hr) rs)⟩
 ·cases r1 with
  | ref hr =>
   obtain ⟨u,e1,us,rfl,rs⟩:=S1.obj n _ _ hn hr
   exact ⟨_,rfl,⟨_,.of e1⟩,q ι1 H1 _ g1 S1 (zjc hr)⟩
theorem yiS {σ:St} {H:Hp} {R:It->Hp->Prop} {ι:Ix} {h h1:AH} {en:En} {xs:List AV} (hK:X.K=T.K) (S:Sim T ι h H) (er:ER T ι H en σ) (e:sa en h = .ok (.tup xs) h1)
  (q:∀ ι' H' J,Grow ι H ι' H'->Sim T ι' h1 H'->ItR T J ι' H' xs none->R J H'):iTup X.K (tE T E sa) σ H R:=by
 refine ⟨ι,h,en,S,er,?_⟩
 rw [e];intro ι1 H1 u g1 S1 r1
 cases r1 with
 | tup n hr rs=>exact ⟨_,rfl,⟨_,.of hr⟩,q ι1 H1 _ g1 S1 (hK▸yhF (yiR n hr) rs)⟩
theorem ydD {y:Str} {py:Pos} (hK:X.K=T.K) (ha:PEA T E X a sa):PIA T X (.Name y py) a (iVal sa) :=
 yev (PI.or (ziL ha) (PI.or (yhc ha) (yhv ha))) fun σ H R ⟨ι,h,en,S,er,q⟩=>by
  unfold iVal at q
  cases e:sa en h with
  | bad=>rw [e] at q;exact q.elim
  | ex c h1=>rw [e] at q;exact q.elim
  | ok v h1 =>
   rw [e] at q
   cases v with
   | fl xs=>exact .inl (ygt hK S er e (.inl ⟨rfl,rfl⟩) q)
   | tup xs=>exact .inr (.inl (yiS hK S er e q))
   | str z =>
    refine .inr (.inr ⟨ι,h,en,S,er,?_⟩)
    rw [e];intro ι1 H1 u g1 S1 r1
    obtain ⟨rfl,_,o⟩:=ybh r1
    exact ⟨_,rfl,q ι1 H1 _ g1 S1 (zjd o)⟩
   | ref n =>
    dsimp only [Out.bind] at q
    cases e2:h1[n]? with
    | none=>rw [e2] at q;exact q.elim
    | some o =>
     rw [e2] at q
     cases o with
     | lst xs=>exact .inl (ygt hK S er e (.inr ⟨n,rfl,e2,rfl⟩) q)
     | _=>exact q.elim
   | _=>exact q.elim
theorem zbI {tg:Expr} {p:Pos} (hg:Gl X "range") (hm:X.mg "range" = none) (ha:PEA T E X a sa) (hs:starEach [a] X.env=[(false,eval a X.env)]:=by rfl):PIA T X tg (.Call (.Name "range" p) [a] [] pos) (yb3 sa) :=
 yev (zg5 hg hm (zaa ha yac hs) hs) fun σ H R ⟨ι,h,en,S,er,q⟩=>by
  unfold yb3 at q
  refine ⟨ι,h,en,S,er,?_⟩
  unfold yab
  cases e:sa en h with
  | bad=>rw [e] at q;exact q
  | ex c h1=>rw [e] at q;exact q.elim
  | ok v h1 =>
   rw [e] at q;intro ι1 H1 u g1 S1 r1
   dsimp only [Out.bind] at q
   cases v with
   | int j =>
    dsimp only at q
    split at q
    ·rename_i hx
     split at hx
     ·rename_i hb
      cases hx
      cases r1 with
      | cons r r' =>
       cases r'
       rw [yaD r];exact ⟨j,rfl,by omega,by omega,q ι1 H1 _ g1 S1 zhr⟩
     ·cases hx
    ·exact q.elim
   | _=>exact q.elim
theorem zed {α:Type} {xs:List α} {i:Nat} (h:i<xs.length):xs.drop i=xs[i]::xs.drop (i+1):=by simp
theorem yd7 {tg iter:Expr} {it:SI} {t:Tg} (hc:X.calm=true) (hi:PIA T X.nox tg iter it) (hg:PGA T X.nox tg t) (hb:PSsA T EN X.nox sts s1) (hs:∀ x,foldedSetIterable iter X.nox.env x=pure x:=by intro _;rfl) :
  PSA T E X (.For tg iter sts [] pos) (sFor it t s1):=by
 obtain ⟨g,hg1,hg2⟩:=hg
 refine ycy (yfF (yhd PassesOwn.never hc hi hg1 hb hs)) fun D σ H ⟨ι,h,en,S,er,q⟩=>⟨ι,h,en,S,er,?_⟩
 unfold sFor at q
 cases e:it en h with
 | bad=>rw [e] at q;exact q
 | ex c h1=>rw [e] at q;exact q
 | ok p h1 =>
  obtain ⟨xs,w⟩:=p
  rw [e] at q;intro ι1 H1 J g1 S1 IR
  refine ⟨fun i m σ H=>m=xs.length-i/\i<=xs.length/\∃ ι' h' en',Grow ι1 H1 ι' H/\Sim T ι' h' H/\ER T ι' H en' σ/\PostS T ι' H E (ybp w xs t s1 (xs.drop i) en' h') D,
   ⟨xs.length,by simp,Nat.zero_le _,ι1,h1,en,S1.refl,S1,er.mono g1,PostS.shift q g1⟩,?_⟩
  rintro i m σ H ⟨rfl,hi,ι',h',en',g',S',er',q'⟩
  by_cases hl:i<xs.length
  ·rw [zed hl] at q'
   unfold ybp at q'
   split at q'
   ·rename_i hlive
    obtain ⟨go,yld⟩:=IR.go i ι' h' H xs[i] g'.ext S' hlive (by simp [hl])
    refine .inr ⟨go,fun σ H=>∃ ι' h' en',Grow ι1 H1 ι' H/\Sim T ι' h' H/\ER T ι' H en' σ/\PostS T ι' H E (ybp w xs t s1 (xs.drop (i+1)) en' h') D,
     fun σ' H' w' => ⟨xs.length-(i+1),by omega,rfl,hl,w'⟩,fun x H' y=>?_⟩
    obtain ⟨g2,S2,r2⟩:=yld x H' y
    split at q'
    ·rename_i e1 he1
     refine hg2 S2 (er'.mono g2) r2 he1 fun σ' er2=>⟨ι',h',e1,S2,er2,?_⟩
     have q2:=PostS.shift q' g2
     cases e2:s1 e1 h' with
     | nx e3 h3=>rw [e2] at q2;exact fun ι3 H3 σ3 g3 S3 er3=>⟨ι3,h3,e3,g'.trans (g2.trans g3),S3,er3,q2.shift g3⟩
     | ct e3 h3=>rw [e2] at q2;exact fun ι3 H3 σ3 g3 S3 er3=>⟨ι3,h3,e3,g'.trans (g2.trans g3),S3,er3,q2.shift g3⟩
     | bk e3 h3=>rw [e2] at q2;exact q2
     | rt v h3=>rw [e2] at q2;exact q2
     | ex c e3 h3=>rw [e2] at q2;exact (show False from q2).elim
     | bad=>rw [e2] at q2;exact q2
    ·exact (show False from q').elim
   ·exact (show False from q').elim
  ·have ei:i=xs.length:=by omega
   subst ei;rw [List.drop_length] at q';unfold ybp at q'
   split at q'
   ·rename_i hlive
    exact .inl ⟨IR.stop _ ι' h' H g'.ext S' hlive (Nat.le_refl _),q' ι' H σ S'.refl S' er'⟩
   ·exact (show False from q').elim
theorem ER.comp {ι:Ix} {H:Hp} {en:En} {σ:St} {x:AV} {u:V} {jf:List (Nat×Str)} (er:ER T ι H en σ) (r:RV T ι H x u):ER T ι H (some x::(jf.map (·.1)).map fun j=>(en[j]?).join) (ybL (some u) jf σ):=by
 refine ⟨by simp [ybL],fun i v e=>?_⟩
 cases i with
 | zero=>simp at e;subst e;exact ⟨u,rfl,r⟩
 | succ i =>
  simp only [List.getElem?_cons_succ,List.getElem?_map] at e
  unfold ybL
  simp only [List.getElem?_cons_succ,List.getElem?_map]
  cases e1:jf[i]? with
  | none=>rw [e1] at e;cases e
  | some j =>
   rw [e1] at e;simp only [Option.map_some,Option.some.injEq] at e
   have e2:en[j.1]? = some (some v):=by
    cases e3:en[j.1]? with
    | none=>rw [e3] at e;cases e
    | some o=>rw [e3] at e;exact congrArg some e
   obtain ⟨u',e4,r'⟩:=er.2 j.1 v e2
   exact ⟨u',by simp [e4],r'⟩
theorem zje {jf:List (Nat×Str)} {it:SI} {cc:SB} {ce:SE} {σ:St} {H:Hp} {Q:VK} {ι:Ix} {h:AH} {en:En} (S:Sim T ι h H) (er:ER T ι H en σ)
  (q:match it en h with | .ok (xs,w) h1=>(match ya3 (jf.map (·.1)) en w xs cc ce xs [] h1 with | .ok ys h2=>∀ ι' H' D vs,Grow ι H ι' H'->Sim T (ι'.hide D) h2 H'->RVs T (ι'.hide D) H' ys vs->H' D=some (.lst vs)->D∉ι'.all->(∀ n,ι'.refs=ι.refs++n->∀ a∈n++[D],H a=none)->Q (.ref D) H' | _=>False) | _=>False) :
  yeq jf (tI T it) (tT T EN cc) (tE T EN ce) σ H Q:=by
 refine ⟨ι,h,en,S,er,?_⟩
 cases e:it en h with
 | bad=>rw [e] at q;exact q
 | ex c h1=>rw [e] at q;exact q
 | ok p h1 =>
  obtain ⟨xs,w⟩:=p
  rw [e] at q;dsimp only at q
  intro ι1 H1 J g1 S1 IR D hD
  refine ⟨fun i m ys H2=>m=xs.length-i/\i<=xs.length/\H2 D=some (.lst ys)/\∃ ι' h' vs,Grow ι1 H1 ι' H2/\Ext ι1 H1 (ι'.hide D) H2/\Sim T (ι'.hide D) h' H2/\ER T (ι'.hide D) H2 en σ/\RVs T (ι'.hide D) H2 vs ys/\D∉ι'.refs /\
   (match ya3 (jf.map (·.1)) en w xs cc ce (xs.drop i) vs h' with | .ok ys h2=>∀ ι' H' D vs,Grow ι H ι' H'->Sim T (ι'.hide D) h2 H'->RVs T (ι'.hide D) H' ys vs->H' D=some (.lst vs)->D∉ι'.all->(∀ n,ι'.refs=ι.refs++n->∀ a∈n++[D],H a=none)->Q (.ref D) H' | _=>False),?_,?_⟩
  ·exact ⟨xs.length,by simp,Nat.zero_le _,zav,ι1,h1,[],S1.growNew hD,Ext.hide hD,S1.hide hD,(er.mono g1).ext (Ext.hide hD),.nil,fun z=>S1.fresh hD (List.mem_append_left _ z),q⟩
  ·rintro i m ys H2 ⟨rfl,hi,hH2,ι',h',vs,g',x',S',er',rv',nD',q'⟩
   refine ⟨hH2,?_⟩
   by_cases hl:i<xs.length
   ·rw [zed hl] at q'
    unfold ya3 at q'
    by_cases hs:yct w xs h'=true/\vs.length<sizeLine
    ·rw [if_pos hs] at q'
     obtain ⟨hs1,hs2⟩:=hs
     obtain ⟨go,yld⟩:=IR.go i _ h' H2 xs[i] x' S' hs1 (by simp [hl])
     refine .inr ⟨go,by rw [<- rv'.length];exact hs2,fun x H3 y=>?_⟩
     obtain ⟨g3,S3,r3⟩:=yld x H3 y
     have er3:=er'.mono g3
     refine ⟨ι'.hide D,h',_,S3,ER.comp er3 r3,?_⟩
     cases ec:cc (some xs[i]::(jf.map (·.1)).map fun j=>(en[j]?).join) h' with
     | bad=>rw [ec] at q';exact q'
     | ex c h5=>rw [ec] at q';exact q'.elim
     | ok bb h5 =>
      rw [ec] at q';intro ι5 H5 b5 g5 S5 r5
      subst r5;have g35:=g3.trans g5
      have hD5:H5 D=some (.lst ys):=g35.keep D _ nD' hH2
      have eι:ι5=Ix.hide ⟨ι5.refs,ι'.priv⟩ D:=by
       have:=g5.priv
       cases ι5
       simp only at this
       subst this;rfl
      have nD5:D∉ι5.refs:=g35.outR nD' hH2
      have gG5:Grow ι1 H1 ⟨ι5.refs,ι'.priv⟩ H5:=by
       obtain ⟨n,en1,hn⟩:=g'.pre
       obtain ⟨k,ek,hk⟩:=g35.pre
       refine ⟨⟨n++k,?_,fun a ha=>?_⟩,g'.priv,fun a o na ea=>?_,fun a ha=>?_⟩
       ·show ι5.refs=_;rw [ek];show ι'.refs++k=_;rw [en1];simp
       ·rcases List.mem_append.mp ha with z | z
        ·exact hn a z
        ·have z2:=hk a z
         by_cases hr:a∈ι1.refs
         ·exact absurd z2 (g'.live a (List.mem_append_left _ hr))
         ·cases e9:H1 a with
          | none=>rfl
          | some o=>rw [g'.keep a o hr e9] at z2;cases z2
       ·exact g35.keep a o (g'.outR na ea) (g'.keep a o na ea)
       ·have:a∈(ι'.hide D).all:=by
         rcases List.mem_append.mp ha with z | z
         ·exact List.mem_append_left _ (by show a∈ι'.refs;rw [en1];exact List.mem_append_left _ z)
         ·exact List.mem_append_right _ (List.mem_cons_of_mem _ (by rw [g'.priv];exact z))
        exact g35.live a this
      have x5:Ext ι1 H1 (Ix.hide ⟨ι5.refs,ι'.priv⟩ D) H5:=eι▸x'.trans g35.ext
      have er5:=er3.mono g5
      have rv5:=(rv'.mono g35)
      cases bb with
      | false =>
       rw [if_neg Bool.false_ne_true];refine ⟨xs.length-(i+1),by omega,rfl,hl,hD5,⟨ι5.refs,ι'.priv⟩,h5,vs,gG5,x5,eι▸S5,eι▸er5,eι▸rv5,nD5,q'⟩
      | true =>
       rw [if_pos rfl];refine ⟨ι5,h5,_,S5,(ER.comp er3 r3).mono g5,?_⟩
       dsimp only at q'
       cases ee:ce (some xs[i]::(jf.map (·.1)).map fun j=>(en[j]?).join) h5 with
       | bad=>rw [ee] at q';exact q'
       | ex c h6=>rw [ee] at q';exact q'.elim
       | ok v h6 =>
        rw [ee] at q';intro ι6 H6 u6 g6 S6 r6
        have g56:=g6
        have hD6:H6 D=some (.lst ys):=g56.keep D _ nD5 hD5
        have eι6:ι6=Ix.hide ⟨ι6.refs,ι'.priv⟩ D:=by
         have h1:=g6.priv
         have h2:=g5.priv
         rw [h2] at h1
         cases ι6
         simp only at h1
         subst h1;rfl
        have nD6:D∉ι6.refs:=g56.outR nD5 hD5
        have gG6:Grow ι1 H1 ⟨ι6.refs,ι'.priv⟩ (upd H6 D (.lst (ys++[u6]))):=by
         obtain ⟨n,en1,hn⟩:=gG5.pre
         obtain ⟨k,ek,hk⟩:=g56.pre
         have hD1:∀ a o,H1 a=some o->a≠D:=fun a o ea=>zau ea hD
         refine ⟨⟨n++k,?_,fun a ha=>?_⟩,g'.priv,fun a o na ea=>?_,fun a ha=>?_⟩
         ·show ι6.refs=_;rw [ek];have z:ι5.refs=ι1.refs++n:=en1;rw [z];simp
         ·rcases List.mem_append.mp ha with z | z
          ·exact hn a z
          ·have z2:=hk a z
           by_cases hr:a∈ι1.refs
           ·exact absurd z2 (gG5.live a (List.mem_append_left _ hr))
           ·cases e9:H1 a with
            | none=>rfl
            | some o=>rw [gG5.keep a o hr e9] at z2;cases z2
         ·rw [yaC (hD1 a o ea)]
          exact g56.keep a o (gG5.outR na ea) (gG5.keep a o na ea)
         ·by_cases zD:a=D
          ·subst zD;rw [zav];simp
          ·rw [yaC zD]
           have:a∈ι5.all:=by
            rcases List.mem_append.mp ha with z | z
            ·exact List.mem_append_left _ (by have z':ι5.refs=ι1.refs++n:=en1;rw [z'];exact List.mem_append_left _ z)
            ·rw [eι];exact List.mem_append_right _ (List.mem_cons_of_mem _ (by show a∈ι'.priv;rw [g'.priv];exact z))
           exact g56.live a this
        refine ⟨hD6,xs.length-(i+1),by omega,rfl,hl,zav,⟨ι6.refs,ι'.priv⟩,h6,vs++[v],gG6,?_,?_,?_,?_,nD6,q'⟩
        ·exact (eι6▸(x'.trans (g35.ext.trans g6.ext))).trans Ext.poke
        ·exact Sim.poke (eι6▸S6) nD6
        ·exact ER.ext (eι6▸er5.mono g6) Ext.poke
        ·have:RVs T ι6 H6 (vs++[v]) (ys++[u6]):=(rv5.mono g6).append (.cons r6 .nil)
         exact RVs.ext Ext.poke (eι6▸this)
    ·rw [if_neg hs] at q';exact q'.elim
   ·have ei:i=xs.length:=by omega
    subst ei;rw [List.drop_length] at q';unfold ya3 at q'
    by_cases hs:yct w xs h'=true
    ·rw [if_pos hs] at q'
     have hp:D∉ι'.priv:=fun z=>by rw [g'.priv] at z;exact S1.plive D z hD
     refine .inl ⟨IR.stop _ _ h' H2 x' S' hs (Nat.le_refl _),q' ι' H2 D ys (g1.trans g') S' rv' hH2 (fun z=>(List.mem_append.mp z).elim nD' hp) fun n en1 a ha=>?_⟩
     obtain ⟨k,ek,hk⟩:=(g1.trans g').pre
     have:n=k:=List.append_cancel_left (en1.symm.trans ek)
     subst this;rcases List.mem_append.mp ha with z | z
     ·exact hk a z
     ·have z':a=D:=by simpa using z
      subst z'
      cases e9:H a with
      | none=>rfl
      | some o =>
       by_cases hr:a∈ι.refs
       ·have z1:a∈ι1.refs:=by
         obtain ⟨k1,ek1,_⟩:=g1.pre
         rw [ek1];exact List.mem_append_left _ hr
        exact absurd hD (S1.live a (List.mem_append_left _ z1))
       ·rw [g1.keep a o hr e9] at hD;cases hD
    ·rw [if_neg hs] at q';exact q'.elim
end
end Sm
namespace Sm
open PySem PySem.Spec L2
section
variable {T:Tb} {E:St->XK} {X:Cx} {pos px:Pos} {iter elt:Expr} {ifs:List Expr} {scope:Scope} {x₁:Str} {jf:List (Nat×Str)} {it:SI} {cc:SB} {ce:SE}
theorem zfJ {σ:St} {H:Hp} {Q:VK} (q:tE T E (ybb (jf.map (·.1)) it cc ce) σ H Q):yeq jf (tI T it) (tT T EN cc) (tE T EN ce) σ H Q:=by
 obtain ⟨ι,h,en,S,er,q⟩:=q
 refine zje S er ?_
 unfold ybb at q
 cases e:it en h with
 | bad=>rw [e] at q;exact q
 | ex c h1=>rw [e] at q;exact q.elim
 | ok p h1 =>
  obtain ⟨xs,w⟩:=p
  rw [e] at q;dsimp only at q ⊢
  cases e2:ya3 (jf.map (·.1)) en w xs cc ce xs [] h1 with
  | bad=>rw [e2] at q;exact q
  | ex c h1=>rw [e2] at q;exact q.elim
  | ok ys h2 =>
   rw [e2] at q;exact fun ι' H' D vs g S' r hD nD _=>q ι' H' _ g S'.show (.fl nD (.inl hD) (r.ext Ext.show))
theorem zba:PTs X [] (tT T E sYes):=fun pins s σ H Q I ⟨ι,h,en,S,er,q⟩=>zi1 pins s σ H Q I (q.now S rfl)
theorem zjf {c:Expr} (hc:PTA T E X c cc):PTs X [c] (tT T E cc):=zi2 hc
structure CompOk (X:Cx) (x₁:Str) (jf:List (Nat×Str)) (scope:Scope):Prop where
 hN:(x₁::jf.map (·.2)).Nodup
 hx:scope.names.lookup x₁=some .local
 hjf:∀ p∈jf,X.N[p.1]? = some p.2
 hjl:∀ p∈jf,scope.names.lookup p.2=some .free
 hkind:scope.kind = .function
 hcell:∀ y∈scope.names,y.2 ≠ .cell
 hfr:∀ y∈scope.names,y.2 = .free->X.env.kindOf y.1=some .cell\/X.env.kindOf y.1=some .free
 hnames:∀ y∈scope.names,y.2 = .local->scope.names.lookup y.1=some .local
theorem yew (C:CompOk X x₁ jf scope) (hcalm:X.calm=true) (hi:PIA T X (.Name x₁ px) iter it) (hc:∀ pins cl s H fp,PTs (ybc X pins x₁ jf scope cl s H fp) ifs (tT T EN cc)) (he:∀ pins cl s H fp,PEA T EN (ybc X pins x₁ jf scope cl s H fp) elt ce)
  (hs:∀ x,foldedSetIterable iter X.env x=pure x:=by intro _;rfl):PEA T E X (.ListComp elt [⟨.Name x₁ px,iter,ifs,0⟩] scope pos) (ybb (jf.map (·.1)) it cc ce) :=
 yaY (zi3 hcalm hi hc he C.hN C.hx C.hjf C.hjl C.hkind C.hcell C.hfr C.hnames hs) fun _ _ _ q=>zfJ q
theorem zcF {y:Str} {py spos:Pos} {i:Nat} (C:CompOk X x₁ jf scope) (hcalm:X.calm=true) (hi:PIA T X (.Name x₁ px) iter it) (hc:∀ pins cl s H fp,PTs (ybc X pins x₁ jf scope cl s H fp) ifs (tT T EN cc)) (he:∀ pins cl s H fp,PEA T EN (ybc X pins x₁ jf scope cl s H fp) elt ce)
  (hNX:X.N.Nodup) (hi':X.N[i]? = some y:=by rfl) (hy:X.env.scope.names.lookup y=some .local:=by rfl) (hsw:swapsWith (.ListComp elt [⟨.Name x₁ px,iter,ifs,0⟩] scope pos) (some (.Name y py)) spos.line X.env=pure true:=by rfl) (hs:∀ x,foldedSetIterable iter X.env x=pure x:=by intro _;rfl) :
  PSA T E X (.Assign [.Name y py] (.ListComp elt [⟨.Name x₁ px,iter,ifs,0⟩] scope pos) spos) (sSet i (ybb (jf.map (·.1)) it cc ce)) :=
 ycy (zi4 hcalm hi hc he C.hN C.hx C.hjf C.hjl C.hkind C.hcell C.hfr C.hnames hNX hi' hy hsw hs) fun D σ H q=>zfJ (yfH q)
end
def spA (T:Tb) (F:Fn):Sp:=fun vs H Q E=>∃ ι h args,Sim T ι h H/\RVs T ι H args vs/\Post T ι H E (RV T) (F args h) Q
def yiT (F:Fn) (n:Nat):Prop:=∀ args h,args.length≠n->F args h = .bad
theorem zdv (n m:Nat) (b:SS):yiT (mkFn n m b) n:=fun args h hl=>by
 unfold mkFn
 rw [if_neg hl]
theorem okA {P:Program} {w:World} {K:PySem.W.Frag} {mg:Str->Option Value} {base:Heap} {T:Tb} {x qual:Str} {st:Stmt} {f:Addr} {fd:FuncData} {N ps:List Str} {k:Nat} {b:SS} (F:Fun K x qual st f fd) (hK:K=T.K) (S:FnScope N ps (yad st))
  (hbody:∀ (cdv:Value) (A:Around) (outer:List Env) (s:Shared) (H:Hp) (E:XK),Room k (A.deeper (PyProof.Rows.envOfC qual (yad st) s.heap.objs.size f cdv))->CA T (fun _=>E) (cxOf (CXE P w) P w K mg base N qual (yad st) f cdv A outer s H E) ->
   PSsA T (fun _=>E) (cxOf (CXE P w) P w K mg base N qual (yad st) f cdv A outer s H E) (yal st) b):FnOk P w K mg base (CXE P w) (k+1) f fd ps (spA T (mkFn ps.length N.length b)):=by
 refine F.okE S (fun vs H Q E h=>?_) (fun cdv A outer s H vs Q E hr h=>?_)
 ·obtain ⟨ι,h,args,_,r,q⟩:=h
  by_cases hl:args.length=ps.length
  ·rw [<- hl,r.length]
  ·rw [zdv _ _ _ args h hl] at q;exact q.elim
 ·obtain ⟨ι,h,args,Si,r,q⟩:=h
  refine ⟨_,hbody cdv A outer s H E hr ⟨hK,zi5⟩,ι,h,args.map some++List.replicate (N.length-ps.length) none,Si,?_,?_⟩
  ·by_cases hl:args.length=ps.length
   ·refine ⟨by simp [L2.start,r.length,<- hl],fun i v e=>?_⟩
    unfold L2.start
    by_cases hi:i<args.length
    ·rw [List.getElem?_append_left (by simpa using hi),List.getElem?_map] at e
     rw [List.getElem?_append_left (by simpa [<- r.length] using hi),List.getElem?_map]
     obtain ⟨x,e1,e2⟩:=Option.map_eq_some_iff.mp e
     cases e2
     obtain ⟨u,e3,r3⟩:=r.get e1
     exact ⟨u,by rw [e3];rfl,r3⟩
    ·rw [List.getElem?_append_right (by simpa using hi),List.getElem?_replicate] at e
     split at e
     ·cases e
     ·cases e
   ·rw [zdv _ _ _ args h hl] at q;exact q.elim
  ·unfold mkFn at q
   split at q
   ·split at q
    ·rename_i e1 h1 he
     rw [he];exact fun ι' H' σ' g S' er=>q ι' H' _ g S' .non
    ·rename_i v h1 he
     rw [he];exact q
    ·rename_i c e1 h1 he
     rw [he];exact fun ι' H' σ' C g S' er ec=>q ι' H' C g S' ec
    ·exact q.elim
   ·exact q.elim
structure GF (P:Program) (w:World) (T:Tb) (mg:Str->Option Value) (base:Heap) (k:Nat) (x:Str) (F:Fn):Prop where
 ex:∃ f fd ps,mg x=some (.ref f)/\PySem.W.keepIn T.K (.ref f)=true/\Binds T.K fd ps []/\FnOk P w T.K mg base (CXE P w) k f fd ps (spA T F)
structure GM (P:Program) (w:World) (T:Tb) (mg:Str->Option Value) (base:Heap) (k:Nat) (c:Nat) (m:Str) (F:Fn):Prop where
 ex:∃ C f fd ps,T.cls c=some C/\Cls T.K C/\Meth T.K C m f/\Binds T.K fd ps []/\FnOk P w T.K mg base (CXE P w) k f fd ps (spA T F)
 no:m∉T.fields c
section
variable {T:Tb} {E:St->XK} {X:Cx} {pos p apos:Pos} {e o a:Expr} {es:List Expr} {x m:Str} {F:Fn} {k c:Nat} {as:SL} {so sa:SE}
theorem yaj (hK:X.K=T.K) (C:CA T E X) (G:GF X.prog X.w T X.mg X.base k x F) (hr:Room k X.A) (hg:Gl X x) (ha:PAA T E X (e::es) as) (hdb:(x == ("__debug__" : Str))=false:=by decide)
  (he:starEach (e::es) X.env=(false,eval e X.env)::starEach es X.env:=by rfl) (hpl:(backTo pos (starEach es X.env)).any (·.1)=false:=by rfl):PEA T E X (.Call (.Name x p) (e::es) [] pos) (yae F as):=by
 obtain ⟨f,fd,ps,h1,h2,h3,h4⟩:=G.ex
 refine yaY (zh9 (Ex:=E) (dvs:=[]) (hK▸h4) hr hg h1 (hK▸h2) (hK▸h3) .nil C.pass ha hdb he hpl) fun σ H Q ⟨ι,h,en,S,er,q⟩=>⟨ι,h,en,S,er,q.bind fun xs h1 ι1 H1 us g1 S1 r1 q1=>?_⟩
 rw [List.append_nil];exact ⟨ι1,h1,xs,S1,r1,q1⟩
theorem zfK {C:Addr} {σ:St} {H:Hp} {Q:VK} (hc:T.cls c=some C) (no:m∉T.fields c) (q:tE T E (yap c F so as) σ H Q):yfz C m (spA T F) [] E (tE T E so) (tA T E as) σ H Q:=by
 obtain ⟨ι,h,en,S,er,q⟩:=q
 refine ⟨ι,h,en,S,er,q.bind fun x h1 ι1 H1 u g1 S1 r1 q1=>?_⟩
 split at q1
 ·rename_i n
  split at q1
  ·rename_i c' fs hn
   split at q1
   ·rename_i ec
    subst ec
    cases r1 with
    | @ref _ a hr =>
     obtain ⟨o,e1,C',dx,fus,hC,rfl,nd,hw,hl,_⟩:=S1.obj n _ a hn hr
     rw [hc] at hC;cases hC
     refine ⟨a,dx,fus,rfl,e1,?_,ι1,h1,en,S1,er.mono g1,q1.bind fun xs h2 ι2 H2 us g2 S2 r2 q2=>?_⟩
     ·cases e:fus.lookup m with
      | none=>rfl
      | some v =>
       have:=PySem.mem_of_lookup e
       exact absurd (hw _ this) no
     ·rw [List.append_nil]
      exact ⟨ι2,h2,.ref n::xs,S2,.cons (.ref (g2.at hr)) r2,q2⟩
   ·exact q1.elim
  ·exact q1.elim
 ·exact q1.elim
theorem yao {pl:Sem Bool} (hK:X.K=T.K) (CC:CA T E X) (G:GM X.prog X.w T X.mg X.base k c m F) (hr:Room k X.A) (ho:PEA T E X o so) (ha:PAA T E X (e::es) as)
  (hst:starEach (e::es) X.env=(false,eval e X.env)::starEach es X.env:=by rfl) (hpl:(backTo pos (starEach es X.env)).any (·.1)=false:=by rfl)
  (ht:eval (.Call (.Attribute o m apos) (e::es) [] pos) X.env=(do
   let ov <- eval o X.env
   standAt apos.atName
   let (f,first) <- holding [ov] (getMethod ov m pl)
   callWith pos f first (backTo pos (starEach (e::es) X.env)) (backToKw pos (keywordEach [] X.env))):=by rfl):PEA T E X (.Call (.Attribute o m apos) (e::es) [] pos) (yap c F so as):=by
 obtain ⟨C,f,fd,ps,h1,h2,h3,h4,h5⟩:=G.ex
 exact yaY (zia (Ex:=E) (dvs:=[]) (pl:=pl) ho (hK▸h2) (hK▸h3) (hK▸h5) hr (hK▸h4) .nil CC.pass ha hst hpl ht) fun σ H Q q=>zfK h1 G.no q
theorem zdG {pl:Sem Bool} (hK:X.K=T.K) (CC:CA T E X) (G:GM X.prog X.w T X.mg X.base k c m F) (hr:Room k X.A) (ho:PEA T E X o so)
  (ht:eval (.Call (.Attribute o m apos) [] [] pos) X.env=(do
   let ov <- eval o X.env
   standAt apos.atName
   let (f,first) <- holding [ov] (getMethod ov m pl)
   callWith pos f first (backTo pos (starEach [] X.env)) (backToKw pos (keywordEach [] X.env))):=by rfl):PEA T E X (.Call (.Attribute o m apos) [] [] pos) (yap c F so sNil):=by
 obtain ⟨C,f,fd,ps,h1,h2,h3,h4,h5⟩:=G.ex
 intro pins s σ H Q I q
 have q' := zfK (C:=C) h1 G.no q
 refine PySem.W.methodCall_KW (pl:=pl) (thn (ho pins s σ H _ I q') fun u s1 ⟨x,H1,I1,rx,a,dx,fs,ex,ea,l,q⟩=>?_) ht
 subst ex;obtain rfl:u=Value.ref a:=rx
 refine zdr I1 ea (hK▸h2) (hK▸h3) l ?_
 obtain ⟨ι,h,en,S,er,q⟩:=q
 refine PySem.W.callWith_K0 (first:=[.ref a]) I1.kIn (hK▸h3.kp) (zdE (dvs:=[]) (us:=[.ref a]) (vs:=[.ref a]) (hK▸h5) hr (hK▸h4) .nil CC.pass I1 (.cons rfl .nil) (q.now S .nil))
structure CF (T:Tb) (c:Nat):Prop where
 ex:∃ C,T.cls c=some C/\Cls T.K C/\∀ f∈T.fields c,NoAttr T.K C f
structure GK (P:Program) (w:World) (T:Tb) (mg:Str->Option Value) (base:Heap) (k:Nat) (c:Nat) (x:Str) (F:Fn):Prop where
 ex:∃ C f fd ps,T.cls c=some C/\mg x=some (.ref C)/\Mk T.K C f/\Binds T.K fd ps []/\FnOk P w T.K mg base (CXE P w) k f fd ps (spA T F)
theorem zhs {CX:CXT} {C f:Addr} {fd:FuncData} {ps:List Str} {sp:Sp} {dvs:List V} {ds:List Value} {pins:List (Addr×Obj)} {σ:St} {H:Hp} {s:Shared} {Q:VK} {us:List Value} {vs:List V} (M:Mk X.K C f) (F:FnOk X.prog X.w X.K X.mg X.base CX k f fd ps sp) (hr:Room (k+1) X.A) (hb:Binds X.K fd ps ds) (hd:Vals dvs ds)
  (hx:yd0 CX X E) (I:L2.Inv X pins σ H s) (r:Vals vs us)
  (h:∀ x dx,H x=none->H dx=none->dx≠x->sp (.ref x::(vs++dvs)) (upd (upd H dx (.own x)) x (.ins C dx [])) (fun v H2=>v = .non/\Q (.ref x) H2) (E σ)) :
  wpAny (model X.prog X.w) X.A (call (.ref C) us) (EP X pins σ Q) X.xe s:=by
 have hq:=h (s.heap.objs.size+1) s.heap.objs.size (I.hok.fresh (Nat.le_succ _)) (I.hok.fresh (Nat.le_refl _)) (Nat.ne_of_lt (Nat.lt_succ_self _))
 have I2:=Inv.made (C:=C) I
 have r2:Vals (V.ref (s.heap.objs.size+1)::(vs++dvs)) (Value.ref (s.heap.objs.size+1)::(us++ds)):=.cons rfl (r.append hd)
 have hl:(Value.ref (s.heap.objs.size+1)::us++ds).length=ps.length:=by
  have e:=r2.length
  rw [F.len _ _ _ _ hq] at e;exact e.symm
 refine wpAny_call (zhU (f:=f) I.kIn M.makes M.init (beq_iff_eq.mp M.fn) (codeAny_mono (F.run _ X.stack _ _ ⟨Value.ref (s.heap.objs.size+1)::us,[]⟩ (Value.ref (s.heap.objs.size+1)::(us++ds)) _ _ (E σ) (hr.make C us [])
  (I2.env0.make C us []) (hb _ (Value.ref (s.heap.objs.size+1)::us) I2.kIn hl) r2 hq) fun r s' hq' => ?_))
 cases r with
 | error e=>exact hx pins σ _ _ e s' I2 hq'
 | ok fl =>
  cases fl with
  | ret u =>
   obtain ⟨v,H',I3,rv,ev,q3⟩:=I2.after hq'
   subst ev;exact ⟨rv,⟨V.ref (s.heap.objs.size+1),H',I3,rfl,q3⟩⟩
  | next=>exact False.elim hq'
  | brk=>exact False.elim hq'
  | cont=>exact False.elim hq'
theorem zjg {C:Addr} {xs:List AV} {us:List V} {H:Hp} {Q:VK} {ι:Ix} {h:AH} {E:XK} {n:Nat} (hc:T.cls c=some C) (hn:(T.fields c).length=n) (S:Sim T ι h H) (r:RVs T ι H xs us)
  (q:Post T ι H E (RV T) (match F (.ref h.length::xs) (h++[.ins c (List.replicate n none)]) with | .ok .non h2=>Out.ok (AV.ref h.length) h2 | .ex c h2=>.ex c h2 | _=>.bad) Q) :
  ∀ x dx,H x=none->H dx=none->dx≠x->spA T F (.ref x::us) (upd (upd H dx (.own x)) x (.ins C dx [])) (fun v H2=>v = .non/\Q (.ref x) H2) E:=by
 intro x dx nx ndx ne
 have nx':(upd H dx (.own x)) x=none:=by rw [yaC (Ne.symm ne)];exact nx
 have S1:=S.new (o:=.own x) ndx
 have g1:=S.growNew (o:=.own x) ndx
 have g2:=S1.growAdd (u:=.ins C dx []) nx'
 have S2:Sim T (ι.add x) (h++[.ins c (List.replicate n none)]) (upd (upd H dx (.own x)) x (.ins C dx [])):=S1.add nx' ⟨C,dx,[],hc,rfl,by simp,by simp,by simp [hn],fun i v e=>by
  rw [List.getElem?_replicate] at e;split at e
  ·cases e
  ·cases e⟩
 refine ⟨ι.add x,_,.ref h.length::xs,S2,.cons (.ref S.addAt) (r.mono (g1.trans g2)),?_⟩
 have q2:=q.shift (g1.trans g2)
 cases e:F (.ref h.length::xs) (h++[.ins c (List.replicate n none)]) with
 | bad=>rw [e] at q2;exact q2
 | ex c' h2=>rw [e] at q2;exact q2
 | ok v h2 =>
  rw [e] at q2
  cases v with
  | non=>exact fun ι' H' u g S' r' => ⟨yee r',q2 ι' H' _ g S' (.ref (g.at S.addAt))⟩
  | _=>exact (show False from q2).elim
theorem zjh {n:Nat} (hK:X.K=T.K) (CC:CA T E X) (G:GK X.prog X.w T X.mg X.base k c x F) (hr:Room (k+1) X.A) (hg:Gl X x) (hn:(T.fields c).length=n:=by rfl) (hdb:(x == ("__debug__" : Str))=false:=by decide):PEA T E X (.Call (.Name x p) [] [] pos) (yeO c n F sNil):=by
 obtain ⟨C,f,fd,ps,h1,h2,h3,h4,h5⟩:=G.ex
 intro pins s σ H Q I ⟨ι,h,en,S,er,q⟩
 refine wpAny_Call_Name_kw (zcB I hg h2 ?_ hdb)
 have M:Mk X.K C f:=hK▸h3
 exact PySem.W.callWith_K0 I.kIn M.kp (zhs (us:=[]) (vs:=[]) (dvs:=[]) M (hK▸h5) hr (hK▸h4) .nil CC.pass I .nil (zjg h1 hn S .nil q))
theorem yaM {i:Nat} {f:Str} (hK:X.K=T.K) (CFc:CF T c) (ho:PEA T E X o so) (hf:(T.fields c)[i]? = some f:=by rfl) (hb:attributeBase o f X.env (eval o X.env)=eval o X.env:=by rfl):PEA T E X (.Attribute o f pos) (Sm.sFld c i so):=by
 obtain ⟨C,hC,hcl,hna⟩:=CFc.ex
 refine yaY (yhk ho hb) fun σ H Q ⟨ι,h,en,S,er,q⟩=>⟨ι,h,en,S,er,q.bind fun x h1 ι1 H1 u g1 S1 r1 q1=>?_⟩
 split at q1
 ·rename_i n
  split at q1
  ·rename_i c' fs hn
   split at q1
   ·rename_i ec
    subst ec;split at q1
    ·rename_i v hv
     cases r1 with
     | @ref _ a hr =>
      obtain ⟨o,e1,C',dx,fus,hC',rfl,nd,hw,hl,hr2⟩:=S1.obj n _ a hn hr
      rw [hC] at hC';cases hC'
      obtain ⟨f',u,e2,e3,r3⟩:=hr2 i v hv
      rw [hf] at e2;cases e2
      exact ⟨a,_,dx,fus,u,rfl,e1,hK▸hcl,hK▸hna f (List.mem_of_getElem? hf),e3,q1.now S1 r3⟩
    ·exact q1.elim
   ·exact q1.elim
  ·exact q1.elim
 ·exact q1.elim
theorem zee (f:Str) (v:V):∀ {fs:List (Str×V)},(fs.map (·.1)).Nodup->((putF f v fs).map (·.1)).Nodup/\∀ g,g∈(putF f v fs).map (·.1)->g=f\/g∈fs.map (·.1)
 | [],_=>by simp [putF]
 | (g,x)::r,n=>by
  obtain ⟨n1,n2⟩:=List.nodup_cons.mp (show (g::r.map (·.1)).Nodup from n)
  unfold putF
  split
  ·rename_i e
   subst e;exact ⟨n,fun k hk=>.inr hk⟩
  ·rename_i e
   obtain ⟨h1,h2⟩:=zee f v (fs:=r) n2
   refine ⟨List.nodup_cons.mpr ⟨fun z=>?_,h1⟩,fun k hk=>?_⟩
   ·rcases h2 g z with z | z
    ·exact e z
    ·exact n1 z
   ·rcases List.mem_cons.mp hk with z | z
    ·exact .inr (by rw [z];simp)
    ·rcases h2 k z with z | z
     ·exact .inl z
     ·exact .inr (List.mem_cons_of_mem _ z)
theorem zeD:∀ {l m:List Str},l.Nodup->(∀ x∈l,x∈m)->l.length<=m.length
 | [],m,_,_=>Nat.zero_le _
 | x::l,m,n,h=>by
  obtain ⟨n1,n2⟩:=List.nodup_cons.mp n
  have hx:=h x (by simp)
  have:=zeD (l:=l) (m:=m.erase x) n2 fun y hy=>by
   have ne:y≠x:=fun z=>n1 (z▸hy)
   exact (List.mem_erase_of_ne ne).mpr (h y (by simp [hy]))
  rw [List.length_erase_of_mem hx] at this;have:0<m.length:=List.length_pos_of_mem hx
  simp only [List.length_cons]
  omega
theorem zaW {i:Nat} {f:Str} {p':Pos} (hK:X.K=T.K) (CFc:CF T c) (ho:PEA T E X o so) (ha:PEA T E X a sa) (hf:(T.fields c)[i]? = some f:=by rfl) (hs:swapsWith a (some (.Attribute o f p')) pos.line X.env=pure false:=by rfl) :
  PSA T E X (.Assign [.Attribute o f p'] a pos) (ycX c i so sa):=by
 obtain ⟨C,hC,hcl,hna⟩:=CFc.ex
 refine ycy (yhl ho ha hs) fun D σ H ⟨ι,h,en,S,er,q⟩=>⟨ι,h,en,S,er,q.go er fun y h1 ι1 H1 v g1 S1 r1 q1=>⟨ι1,h1,en,S1,er.mono g1,q1.go (er.mono g1) fun x h2 ι2 H2 u g2 S2 r2 q2=>?_⟩⟩
 split at q2
 ·rename_i n
  split at q2
  ·rename_i c' fs hn
   split at q2
   ·rename_i ec
    subst ec
    cases r2 with
    | @ref _ a hr =>
     obtain ⟨o,e1,C',dx,fus,hC',rfl,nd,hw,hl,hr2⟩:=S2.obj n _ a hn hr
     rw [hC] at hC';cases hC'
     have hmem:f∈T.fields c' := List.mem_of_getElem? hf
     have hlen:fus.length<1000:=by
      have:=zeD nd (m:=T.fields c') (fun x hx=>by
       obtain ⟨p,hp,rfl⟩:=List.mem_map.mp hx
       exact hw p hp)
      have:=T.few c'
      rw [List.length_map] at *
      omega
     obtain ⟨k1,k2⟩:=zee f v nd
     have g3:=S2.growSet (u:=.ins C dx (putF f v fus)) hr
     refine ⟨a,C,dx,fus,rfl,e1,hK▸hcl,hK▸hna f hmem,hlen,q2 ι2 _ σ g3 (S2.set hr ⟨C,dx,putF f v fus,hC,rfl,k1,fun p hp=>?_,by simp [hl],fun j w hj=>?_⟩) (er.mono (g1.trans (g2.trans g3)))⟩
     ·rcases k2 p.1 (List.mem_map.mpr ⟨p,hp,rfl⟩) with z | z
      ·rw [z];exact hmem
      ·obtain ⟨p',hp',e⟩:=List.mem_map.mp z
       rw [<- e];exact hw p' hp'
     ·by_cases hji:j=i
      ·subst hji
       have hjl:j<fs.length:=by
        have:=(List.getElem?_eq_some_iff.mp hj).1
        simpa using this
       rw [List.getElem?_set_self hjl] at hj
       cases hj
       exact ⟨f,v,hf,by rw [zbf,if_pos rfl],r1.mono (g2.trans g3)⟩
      ·rw [List.getElem?_set_ne (Ne.symm hji)] at hj
       obtain ⟨f',u,e2,e3,r3⟩:=hr2 j w hj
       have ne:f'≠f:=fun z=>hji (zc4 (T.nd c') e2 (z▸hf))
       exact ⟨f',u,e2,by rw [zbf,if_neg ne];exact e3,r3.mono g3⟩
   ·exact (show False from q2).elim
  ·exact (show False from q2).elim
 ·exact (show False from q2).elim
end
end Sm
namespace Sm
open PySem PySem.Spec L2
theorem yfk {T:Tb} {ι:Ix} {H:Hp} {k:Key} {u:V} (r:RV T ι H (kA k) u):u=kV k:=by
 cases k with
 | inl i=>exact yaD r
 | inr x=>exact (ybh r).1
theorem yeY {k j:Key} (e:kA k=kA j):k=j:=by
 cases k<;>cases j<;>simp [kA] at e<;>simp [e]
theorem zdH:∀ {ks js:List Key},ks.map kA=js.map kA->ks=js
 | [],[],_=>rfl
 | [],_::_,e=>by simp at e
 | _::_,[],e=>by simp at e
 | k::ks,j::js,e=>by
  simp only [List.map_cons,List.cons.injEq] at e
  rw [yeY e.1,zdH e.2]
theorem yfL {T:Tb} {ι:Ix} {H:Hp}:∀ {ks:List Key} {us:List V},RVs T ι H (ks.map kA) us->us=ks.map kV
 | [],_,.nil=>rfl
 | k::ks,_,.cons r rs=>by rw [yfk r,yfL rs];rfl
theorem zb0 {v:AV} {k:Key} (e:keyOf? v=some k):v=kA k:=by
 unfold keyOf? at e
 split at e<;>cases e<;>rfl
theorem zbg:∀ {vs:List AV} {ks:List Key},keysOf? vs=some ks->vs=ks.map kA
 | [],_,e=>by cases e;rfl
 | v::vs,ks,e=>by
  unfold keysOf? at e
  split at e
  ·rename_i k ks' e1 e2
   cases e
   rw [zb0 e1,zbg e2];rfl
  ·cases e
theorem yex {κ:Type} [DecidableEq κ] {T:Tb} {ι:Ix} {H:Hp} {f:κ->AV} (hf:∀ {a b},f a=f b->a=b) {k:κ}:∀ {kvs:List (AV×AV)} {kus:List (κ×V)},Paired (fun (p:AV×AV) (q:κ×V)=>p.1=f q.1/\RV T ι H p.2 q.2) kvs kus ->
  (valA kvs (f k)=none/\valV kus k=none)\/∃ v u,valA kvs (f k)=some v/\valV kus k=some u/\RV T ι H v u
 | _,_,.nil=>.inl ⟨rfl,rfl⟩
 | (a,v)::kvs,(j,u)::kus,.cons ⟨e,r⟩ rs=>by
  by_cases h:j=k
  ·subst h
   replace e:a=f j:=e
   subst e;exact .inr ⟨v,u,by simp [valA],zbX rfl,r⟩
  ·have h' : ¬ a=f k:=fun z=>h (hf (e.symm.trans z))
   rcases yex hf rs (k:=k) with ⟨h1,h2⟩ | ⟨v',u',h1,h2,h3⟩
   ·refine .inl ⟨?_,by rw [zbv h];exact h2⟩
    unfold valA at h1 ⊢
    rw [List.find?_cons,decide_eq_false h'];exact h1
   ·refine .inr ⟨v',u',?_,by rw [zbv h];exact h2,h3⟩
    unfold valA at h1 ⊢
    rw [List.find?_cons,decide_eq_false h'];exact h1
theorem zfL {kvs:List (AV×AV)} {k:AV}:(kvs.any fun p=>decide (p.1=k))=(valA kvs k).isSome:=by
 induction kvs with
 | nil=>rfl
 | cons p r ih =>
  unfold valA at ih ⊢
  rw [List.any_cons,List.find?_cons,ih]
  cases h:decide (p.1=k)<;>simp
theorem yfM {κ:Type} [DecidableEq κ] {T:Tb} {ι:Ix} {H:Hp} {f:κ->AV} (hf:∀ {a b},f a=f b->a=b) {k:κ} {v:AV} {u:V} (rv:RV T ι H v u) {kvs:List (AV×AV)} {kus:List (κ×V)} (r:Paired (fun (p:AV×AV) (q:κ×V)=>p.1=f q.1/\RV T ι H p.2 q.2) kvs kus) :
  Paired (fun (p:AV×AV) (q:κ×V)=>p.1=f q.1/\RV T ι H p.2 q.2) (putA kvs (f k) v) (putK kus k u):=by
 have e:(kvs.any fun p=>decide (p.1=f k))=kus.any fun kv=>decide (kv.1=k):=by
  rw [zfL,zc7];rcases yex hf r (k:=k) with ⟨h1,h2⟩ | ⟨v',u',h1,h2,h3⟩
  ·rw [h1,h2];rfl
  ·rw [h1,h2];rfl
 unfold putA putK
 rw [e];by_cases h:(kus.any fun kv=>decide (kv.1=k))=true
 ·rw [if_pos h,if_pos h]
  clear e h;induction r with
  | nil=>exact .nil
  | cons p rs ih =>
   rename_i a b l1 l2
   refine .cons ?_ ih
   obtain ⟨e1,r1⟩:=p
   dsimp only;by_cases hk:b.1=k
   ·rw [if_pos hk,if_pos (by rw [e1,hk])]
    exact ⟨e1,rv⟩
   ·rw [if_neg hk,if_neg (fun z=>hk (hf (e1.symm.trans z)))]
    exact ⟨e1,r1⟩
 ·rw [if_neg h,if_neg h]
  have app:∀ {l1:List (AV×AV)} {l2:List (κ×V)},Paired (fun (p:AV×AV) (q:κ×V)=>p.1=f q.1/\RV T ι H p.2 q.2) l1 l2->Paired (fun (p:AV×AV) (q:κ×V)=>p.1=f q.1/\RV T ι H p.2 q.2) (l1++[(f k,v)]) (l2++[(k,u)]):=fun z=>by
   induction z with
   | nil=>exact .cons ⟨rfl,rv⟩ .nil
   | cons p _ ih=>exact .cons p ih
  exact app r
section
variable {T:Tb} {ι:Ix} {h:AH} {H:Hp}
theorem keyT {xs:List AV} {u:V} {ks:List Key} (r:RV T ι H (.tup xs) u) (e:keysOf? xs=some ks):∃ b,u = .ref b/\KTup H b ks:=by
 have:=zbg e
 subst this
 cases r with
 | tup n q r=>exact ⟨_,rfl,.of (by rw [<- yfL r];exact q)⟩
theorem zfM {n:Nat} {t:Bool} {kvs:List (AV×AV)} {y:AV} {a:Addr} {w:V} (S:Sim T ι h H) (hn:h[n]? = some (.dct t kvs)) (hr:ι.refs[n]? = some a) (ry:RV T ι H y w) (hk:ydI t y=true) :
  ∃ o,DGet H a w o/\((valA kvs y=none/\o=none)\/∃ v u,valA kvs y=some v/\o=some u/\RV T ι H v u):=by
 obtain ⟨ob,e1,r⟩:=S.obj n _ a hn hr
 cases t with
 | false =>
  obtain ⟨kus,rfl,r⟩:=r
  have hk':(keyOf? y).isSome=true:=hk
  obtain ⟨k,ek⟩:=Option.isSome_iff_exists.mp hk'
  have:=zb0 ek
  subst this;rw [yfk ry];refine ⟨valV kus k,.k e1,?_⟩
  rcases yex yeY r (k:=k) with ⟨h1,h2⟩ | ⟨v',u',h1,h2,h3⟩
  ·exact .inl ⟨h1,h2⟩
  ·exact .inr ⟨v',u',h1,h2,h3⟩
 | true =>
  obtain ⟨kus,rfl,r⟩:=r
  unfold ydI at hk
  split at hk
  ·rename_i hh;cases hh
  ·rename_i xs hh
   obtain ⟨ks,ek⟩:=Option.isSome_iff_exists.mp hk
   obtain ⟨b,rfl,hb⟩:=keyT ry ek
   have:=zbg ek
   subst this;refine ⟨valV kus ks,.t e1 hb,?_⟩
   rcases yex (f:=fun ks:List Key=>AV.tup (ks.map kA)) (fun e=>zdH (by injection e)) r (k:=ks) with ⟨h1,h2⟩ | ⟨v',u',h1,h2,h3⟩
   ·exact .inl ⟨h1,h2⟩
   ·exact .inr ⟨v',u',h1,h2,h3⟩
  ·cases hk
theorem zji {n:Nat} {t:Bool} {kvs:List (AV×AV)} {y z:AV} {a:Addr} {w u:V} (S:Sim T ι h H) (hn:h[n]? = some (.dct t kvs)) (hr:ι.refs[n]? = some a) (ry:RV T ι H y w) (rz:RV T ι H z u) (hk:ydI t y=true) (hl:kvs.length<sizeLine) :
  ∃ H',DPut H a w u H'/\Grow ι H ι H'/\Sim T ι (h.set n (.dct t (putA kvs y z))) H' := by
 obtain ⟨ob,e1,r⟩:=S.obj n _ a hn hr
 cases t with
 | false =>
  obtain ⟨kus,rfl,r⟩:=r
  have hk':(keyOf? y).isSome=true:=hk
  obtain ⟨k,ek⟩:=Option.isSome_iff_exists.mp hk'
  have:=zb0 ek
  subst this;rw [yfk ry];have g:=S.growSet (u:=.dK (putK kus k u)) hr
  exact ⟨_,.k e1 (by rw [<- Paired.length r];exact hl),g,S.set hr ⟨_,rfl,yfM yeY (rz.mono g) (Paired.mapP r fun _ _ ⟨p,q⟩=>⟨p,q.mono g⟩)⟩⟩
 | true =>
  obtain ⟨kus,rfl,r⟩:=r
  unfold ydI at hk
  split at hk
  ·rename_i hh;cases hh
  ·rename_i xs hh
   obtain ⟨ks,ek⟩:=Option.isSome_iff_exists.mp hk
   obtain ⟨b,rfl,hb⟩:=keyT ry ek
   have:=zbg ek
   subst this;have g:=S.growSet (u:=.dT (putK kus ks u)) hr
   exact ⟨_,.t e1 hb (by rw [<- Paired.length r];exact hl),g,S.set hr ⟨_,rfl,yfM (f:=fun ks:List Key=>AV.tup (ks.map kA)) (fun e=>zdH (by injection e)) (rz.mono g) (Paired.mapP r fun _ _ ⟨p,q⟩=>⟨p,q.mono g⟩)⟩⟩
  ·cases hk
theorem RVs.atI {xs:List AV} {us:List V} {i:Int} {v:AV} (r:RVs T ι H xs us) (e:atI xs i=some v):∃ u,L2.atI us i=some u/\RV T ι H v u:=by
 unfold L2.atI at e ⊢
 rw [<- r.length];obtain ⟨j,e1,e2⟩:=Option.bind_eq_some_iff.mp e
 obtain ⟨u,e3,r3⟩:=r.get e2
 exact ⟨u,by rw [e1];exact e3,r3⟩
end
section
variable {T:Tb} {E:St->XK} {X:Cx} {pos:Pos} {a b c:Expr} {sa sb sc:SE}
theorem yiU {e:Expr} {t t':TE} (h:PE X e t) (h':PE X e t'):PE X e (fun σ H Q=>t σ H Q\/t' σ H Q):=fun pins s σ H Q I q=>q.elim (h pins s σ H Q I) (h' pins s σ H Q I)
theorem yiV {e:Stmt} {t t':TS} (h:PS X e t) (h':PS X e t'):PS X e (fun D σ H=>t D σ H\/t' D σ H):=fun pins s σ H Q I q=>q.elim (h pins s σ H Q I) (h' pins s σ H Q I)
theorem r_ix (hK:X.K=T.K) (hu:X.A.units+64<cLine) (ha:PEA T E X a sa) (hb:PEA T E X b sb) (hs:yff b:=by exact fun _ _=>rfl):PEA T E X (.Subscript a b pos) (sOp2 fIx sa sb):=by
 refine yaY (yiU (yiE yhp ha hb hs) (ziZ (Nat.lt_of_le_of_lt (Nat.add_le_add_left (by decide:1<=64) _) hu) ha hb hs)) fun σ H Q q=>?_
 obtain ⟨ι,h,en,S,er,q⟩:=q
 have left:(∀ x h1 y h2,sa en h = .ok x h1->sb en h1 = .ok y h2->∀ n t kvs,x = .ref n->h2[n]? = some (.dct t kvs)->False)->tOp (rIx X.K) (tE T E sa) (tE T E sb) σ H Q:=fun no=>by
  refine ⟨ι,h,en,S,er,?_⟩
  unfold sOp2 at q
  cases e1:sa en h with
  | bad=>rw [e1] at q;exact q
  | ex c h1=>rw [e1] at q;exact q
  | ok x h1 =>
   rw [e1] at q;intro ι1 H1 u g1 S1 r1
   refine ⟨ι1,h1,en,S1,er.mono g1,?_⟩
   dsimp only [Out.bind] at q
   cases e2:sb en h1 with
   | bad=>rw [e2] at q;exact q
   | ex c h2=>rw [e2] at q;exact Post.shift (R:=RV T) (o:=.ex c h2) q g1
   | ok y h2 =>
    rw [e2] at q;intro ι2 H2 w g2 S2 r2
    have q2:=Post.shift q (g1.trans g2)
    have r1' := r1.mono g2
    dsimp only at q2
    unfold fIx at q2
    split at q2
    ·rename_i z i
     split at q2
     ·rename_i cc hc
      obtain ⟨rfl,zl,zo⟩:=ybh r1'
      rw [yaD r2];refine .inr (.inr ⟨z,i,cc,rfl,rfl,zl,hc,q2.now S2 (.str (show 1<=sizeLine by decide) ?_)⟩)
      obtain ⟨j,_,e3,_⟩:=zcD hc
      have m:cc∈z.cps:=by
       have:=List.mem_of_getElem? e3
       simpa using this
      have:=Array.all_eq_true_iff_forall_mem.mp zo _ m
      simpa using this
     ·exact q2.elim
    ·rename_i xs i
     split at q2
     ·rename_i v hv
      obtain ⟨b,us,rfl,sq,rs⟩:=ydf r1'
      obtain ⟨u2,e3,r3⟩:=rs.atI hv
      rw [yaD r2];exact .inr (.inl ⟨b,us,i,u2,rfl,rfl,hK▸sq,e3,q2.now S2 r3⟩)
     ·exact q2.elim
    ·rename_i xs i
     split at q2
     ·rename_i v hv
      obtain ⟨b,us,rfl,sq,rs⟩:=ybq S2 r1' rfl
      obtain ⟨u2,e3,r3⟩:=rs.atI hv
      rw [yaD r2];exact .inl ⟨b,us,i,u2,rfl,rfl,hK▸sq,e3,q2.now S2 r3⟩
     ·exact q2.elim
    ·rename_i n
     split at q2
     ·rename_i xs hn
      split at q2
      ·rename_i i
       split at q2
       ·rename_i v hv
        obtain ⟨b,us,rfl,sq,rs⟩:=ybq (xs:=xs) S2 r1' (by simp [yb8,hn])
        obtain ⟨u2,e3,r3⟩:=rs.atI hv
        rw [yaD r2];exact .inl ⟨b,us,i,u2,rfl,rfl,hK▸sq,e3,q2.now S2 r3⟩
       ·exact q2.elim
      ·exact q2.elim
     ·rename_i t kvs hn
      exact (no _ h1 _ h2 e1 e2 n t kvs rfl hn).elim
     ·exact q2.elim
    ·exact q2.elim
 by_cases dd:∃ x h1 y h2,sa en h = .ok x h1/\sb en h1 = .ok y h2/\∃ n t kvs,x = .ref n/\h2[n]? = some (.dct t kvs)
 ·obtain ⟨x,h1,y,h2,e1,e2,n,t,kvs,rfl,hn⟩:=dd
  refine .inr ⟨ι,h,en,S,er,?_⟩
  unfold sOp2 at q
  rw [e1] at q ⊢;intro ι1 H1 u g1 S1 r1
  refine ⟨ι1,h1,en,S1,er.mono g1,?_⟩
  dsimp only [Out.bind] at q
  rw [e2] at q ⊢;intro ι2 H2 w g2 S2 r2
  have q2:=Post.shift q (g1.trans g2)
  have r1' := r1.mono g2
  dsimp only at q2
  unfold fIx at q2
  simp only [hn] at q2
  split at q2
  ·rename_i hk
   cases r1' with
   | @ref _ ad hr =>
    obtain ⟨o,dg,alt⟩:=zfM S2 hn hr r2 hk
    rcases alt with ⟨v1,rfl⟩ | ⟨v,u,v1,rfl,r3⟩
    ·rw [v1] at q2;exact q2.elim
    ·rw [v1] at q2
     exact ⟨ad,u,rfl,dg,q2.now S2 r3⟩
  ·exact q2.elim
 ·exact .inl (left fun x h1 y h2 e1 e2 n t kvs e3 e4=>dd ⟨x,h1,y,h2,e1,e2,n,t,kvs,e3,e4⟩)
theorem zfN {p':Pos} (hu:X.A.units+64<cLine) (ho:PEA T E X a sa) (hi:PEA T E X b sb) (hv:PEA T E X c sc) (hs:swapsWith c (some (.Subscript a b p')) pos.line X.env=pure false:=by rfl) (hs':swapsWithSole [.Subscript a b p'] c pos.line X.env=pure false:=by rfl) (hw:swappedStores [.Subscript a b p'] c X.env=pure none:=by rfl)
  (h1:(assignEach [.Subscript a b p'] X.env).map (·.2)=[assign (.Subscript a b p') X.env]:=by rfl)
  (has:∀ v,assign (.Subscript a b p') X.env v=(do
   let ov <- holding [v] (eval a X.env)
   let iv <- holding [v,ov] (eval b X.env)
   standAt p'
   holding [v,ov,iv] (setItem ov iv v)
   release [v,ov,iv] []):=by intro _;rfl):PSA T E X (.Assign [.Subscript a b p'] c pos) (yes sa sb sc):=by
 refine ycy (yiV (yft hv (yg9 ho hi zhX has) hs' hw h1) (zi0 (Nat.lt_of_le_of_lt (Nat.add_le_add_left (by decide:1<=64) _) hu) ho hi hv hs)) fun D σ H q=>?_
 obtain ⟨ι,h,en,S,er,q⟩:=q
 unfold yes at q
 by_cases dd:∃ z h1 x h2 y h3,sc en h = .ok z h1/\sa en h1 = .ok x h2/\sb en h2 = .ok y h3/\∃ n t kvs,x = .ref n/\h3[n]? = some (.dct t kvs)
 ·obtain ⟨z,h1,x,h2,y,h3,e1,e2,e3,n,t,kvs,rfl,hn⟩:=dd
  refine .inr ⟨ι,h,en,S,er,?_⟩
  rw [e1] at q ⊢;intro ι1 H1 u g1 S1 r1
  refine ⟨ι1,h1,en,S1,er.mono g1,?_⟩
  dsimp only [Out.go] at q
  rw [e2] at q ⊢;intro ι2 H2 w g2 S2 r2
  refine ⟨ι2,h2,en,S2,er.mono (g1.trans g2),?_⟩
  dsimp only at q
  rw [e3] at q ⊢;intro ι3 H3 j g3 S3 r3
  have q2:=PostS.shift q (g1.trans (g2.trans g3))
  simp only [hn] at q2
  split at q2
  ·rename_i hk
   cases (r2.mono g3) with
   | @ref _ ad hr =>
    obtain ⟨H4,dp,g4,S4⟩:=zji S3 hn hr r3 (r1.mono (g2.trans g3)) hk.1 hk.2
    exact ⟨ad,H4,rfl,dp,q2 ι3 H4 σ g4 S4 (er.mono (g1.trans (g2.trans (g3.trans g4))))⟩
  ·exact q2.elim
 ·refine .inl ⟨ι,h,en,S,er,?_⟩
  cases e1:sc en h with
  | bad=>rw [e1] at q;exact q
  | ex cc h1=>rw [e1] at q;exact fun i2 H2 C g S e=>q i2 H2 σ C g S (er.mono g) e
  | ok z h1 =>
   rw [e1] at q;intro ι1 H1 u g1 S1 r1
   refine ⟨ι1,h1,en,S1,er.mono g1,?_⟩
   dsimp only [Out.go] at q
   cases e2:sa en h1 with
   | bad=>rw [e2] at q;exact q
   | ex cc h2=>rw [e2] at q;exact fun i2 H2 C g S e=>q i2 H2 σ C (g1.trans g) S (er.mono (g1.trans g)) e
   | ok x h2 =>
    rw [e2] at q;intro ι2 H2 w g2 S2 r2
    refine ⟨ι2,h2,en,S2,er.mono (g1.trans g2),?_⟩
    dsimp only at q
    cases e3:sb en h2 with
    | bad=>rw [e3] at q;exact q
    | ex cc h3=>rw [e3] at q;exact fun i2 H2 C g S e=>q i2 H2 σ C (g1.trans (g2.trans g)) S (er.mono (g1.trans (g2.trans g))) e
    | ok y h3 =>
     rw [e3] at q;intro ι3 H3 j g3 S3 r3
     have q2:=PostS.shift q (g1.trans (g2.trans g3))
     dsimp only at q2
     split at q2
     ·rename_i n
      split at q2
      ·rename_i xs hn
       split at q2
       ·rename_i k
        split at q2
        ·rename_i jj hj
         cases (r2.mono g3) with
         | @ref _ ad hr =>
          obtain ⟨o,e4,us,rfl,rs⟩:=S3.obj n _ ad hn hr
          have g4:=S3.growSet (u:=.lst (us.set jj u)) hr
          rw [yaD r3];exact ⟨ad,us,k,jj,rfl,rfl,e4,by rw [<- rs.length];exact hj,q2 ι3 _ σ g4 (S3.set hr ⟨_,rfl,RVs.set (r1.mono (g2.trans (g3.trans g4))) jj (rs.mono g4)⟩) (er.mono (g1.trans (g2.trans (g3.trans g4))))⟩
        ·exact q2.elim
       ·exact q2.elim
      ·rename_i t kvs hn
       exact (dd ⟨_,h1,_,h2,_,h3,e1,e2,e3,n,t,kvs,rfl,hn⟩).elim
      ·exact q2.elim
     ·exact q2.elim
theorem zjj {g:Value->Value->Sem Value} {r:R2} {neg:Bool} (hK:X.K=T.K)
  (h1:∀ (i j:Str) H Q,Q (V.bl (if neg then !(!(Builtin.Str.occurrences j i 0 j.length 1).isEmpty) else !(Builtin.Str.occurrences j i 0 j.length 1).isEmpty)) H->r (.str i) (.str j) H Q)
  (h2:∀ x y H Q p xs d ds,y=V.ref p->SqL T.K H p xs->DaV T.K H x d->DaVs T.K H xs ds->d.canLay0=true->(∀ e∈ds,e.canLay0=true/\e.depth<=30)->Q (V.bl (if neg then !(ds.any fun e=>PyData.eqv e d) else ds.any fun e=>PyData.eqv e d)) H->r x y H Q)
  (h2t:∀ x y H Q p xs d ds,y=V.ref p->SqT T.K H p xs->DaV T.K H x d->DaVs T.K H xs ds->d.canLay0=true->(∀ e∈ds,e.canLay0=true/\e.depth<=30)->Q (V.bl (if neg then !(ds.any fun e=>PyData.eqv e d) else ds.any fun e=>PyData.eqv e d)) H->r x y H Q)
  (h3:∀ (y:V) (a:Addr) o H Q,DGet H a y o->Q (V.bl (if neg then !o.isSome else o.isSome)) H->r y (.ref a) H Q) :
  OpS T (fun x y h=>match inA x y h with | some b=>.ok (.bl (if neg then !b else b)) h | none=>.bad) r:=by
 intro ι h H x y u w E Q S rx ry p
 dsimp only at p
 cases hb:inA x y h with
 | none=>rw [hb] at p;exact p.elim
 | some b =>
  rw [hb] at p;dsimp only at p
  unfold inA at hb
  split at hb
  ·cases hb
   obtain ⟨rfl,_⟩:=ybh rx
   obtain ⟨rfl,_⟩:=ybh ry
   exact h1 _ _ _ _ (p.now S (.bl _))
  ·rename_i n
   split at hb
   ·rename_i t kvs hn
    split at hb
    ·rename_i hk
     cases hb
     cases ry with
     | @ref _ ad hr =>
      obtain ⟨o,dg,alt⟩:=zfM S hn hr rx hk
      refine h3 u ad o H Q dg ?_
      rcases alt with ⟨v1,rfl⟩ | ⟨v,u',v1,rfl,r3⟩
      ·rw [v1] at p;exact p.now S (.bl _)
      ·rw [v1] at p;exact p.now S (.bl _)
    ·cases hb
   ·rename_i xs hn
    split at hb
    ·rename_i d ds e1 e2
     cases hb
     obtain ⟨a,us,rfl,sq,rs⟩:=ybq (xs:=xs) S ry (by simp [yb8,hn])
     obtain ⟨q1,q2,q3⟩:=ydh S 8 rx e1
     obtain ⟨q4,q5⟩:=zbT (n:=8) (fun r e=>ydh S 8 r e) rs e2
     exact h2 _ _ _ _ a us d ds rfl sq q1 q4 q2 (fun e he=>⟨(q5 e he).1,by have:=(q5 e he).2;omega⟩) (p.now S (.bl _))
    ·cases hb
   ·cases hb
  ·rename_i xs
   split at hb
   ·rename_i d ds e1 e2
    cases hb
    obtain ⟨a,us,rfl,sq,rs⟩:=ybq S ry rfl
    obtain ⟨q1,q2,q3⟩:=ydh S 8 rx e1
    obtain ⟨q4,q5⟩:=zbT (n:=8) (fun r e=>ydh S 8 r e) rs e2
    exact h2 _ _ _ _ a us d ds rfl sq q1 q4 q2 (fun e he=>⟨(q5 e he).1,by have:=(q5 e he).2;omega⟩) (p.now S (.bl _))
   ·cases hb
  ·rename_i xs
   split at hb
   ·rename_i d ds e1 e2
    cases hb
    obtain ⟨a,us,rfl,sq,rs⟩:=ydf ry
    obtain ⟨q1,q2,q3⟩:=ydh S 8 rx e1
    obtain ⟨q4,q5⟩:=zbT (n:=8) (fun r e=>ydh S 8 r e) rs e2
    exact h2t _ _ _ _ a us d ds rfl sq q1 q4 q2 (fun e he=>⟨(q5 e he).1,by have:=(q5 e he).2;omega⟩) (p.now S (.bl _))
   ·cases hb
  ·cases hb
end
end Sm
namespace L2
open PySem PySem.Spec PyProof.Rows
section
variable {X:Cx} {pins:List (Addr×Obj)} {σ:St} {H:Hp} {s:Shared}
theorem zef (I:Inv X pins σ H s) (hu:X.A.units+64<cLine) {xs:List V} {ds:List PyData} {its:List Value} {d:PyData} {v:Value} {as:List Addr} (ra:Reads s.heap v d as) (hds:DaVs X.K H xs ds) (r:Vals xs its) (cd:d.canLay0=true) (cds:∀ e∈ds,e.canLay0=true/\e.depth<=30) :
  (∀ y,y∈its.toArray->SeqAt.EqAt X.A.in1 s y v (isD s.heap d y))/\its.toArray.any (isD s.heap d)=ds.any fun e=>PyData.eqv e d:=by
 obtain ⟨hl,hat⟩:=zfz I hds r
 constructor
 ·intro y hy
  have hy':y∈its:=by simpa using hy
  obtain ⟨j,hj⟩:=List.getElem?_of_mem hy'
  have hlt:=(List.getElem?_eq_some_iff.mp hj).1
  have hdj:ds[j]? = some (ds[j]'(by omega)):=List.getElem?_eq_getElem (by omega)
  obtain ⟨bs,rb⟩:=hat j _ _ hj hdj
  have cj:=cds _ (List.mem_of_getElem? hdj)
  rw [yfC cj.1 rb];exact SeqAt.eqAt_reads _ _ _ _ _ _ _ _ rb ra cj.1 cd (by
   have:=Nat.min_le_left (ds[j]'(by omega)).depth d.depth
   show X.A.units+1+_<cLine
   omega)
 ·rw [<- Array.any_toList]
  refine zfA hl fun j u e h1 h2=>?_
  obtain ⟨bs,rb⟩:=hat j _ _ h1 h2
  exact yfC (cds _ (List.mem_of_getElem? h2)).1 rb
def ygS (K:PySem.W.Frag):R2:=fun x y H Q=>∃ p xs d ds,y = .ref p/\SqL K H p xs/\DaV K H x d/\DaVs K H xs ds/\d.canLay0=true/\(∀ e∈ds,e.canLay0=true/\e.depth<=30)/\Q (.bl (!(ds.any fun e=>PyData.eqv e d))) H
def ygf (K:PySem.W.Frag):R2:=fun x y H Q=>∃ p xs d ds,y = .ref p/\SqT K H p xs/\DaV K H x d/\DaVs K H xs ds/\d.canLay0=true/\(∀ e∈ds,e.canLay0=true/\e.depth<=30)/\Q (.bl (!(ds.any fun e=>PyData.eqv e d))) H
theorem zht (hu:X.A.units+64<cLine):OpR X (compareOp .NotIn) (ygS X.K):=by
 intro pins s σ H x y v u Q I rx ry h
 obtain ⟨p,xs,d,ds,rfl,hq,hd,hds,cd,cds,q⟩:=h
 cases ry
 obtain ⟨its,r,pl,hz⟩:=I.list hq
 obtain ⟨as,ra⟩:=hd.reads I rx
 obtain ⟨h1,h2⟩:=zef I hu ra hds r cd cds
 exact SeqAt.notIn_listAt (isD s.heap d) pl.isList h1 ⟨.bl _,H,I,rfl,by rw [h2];exact q⟩
theorem zgO (hu:X.A.units+64<cLine):OpR X (compareOp .NotIn) (ygf X.K):=by
 intro pins s σ H x y v u Q I rx ry h
 obtain ⟨p,xs,d,ds,rfl,hq,hd,hds,cd,cds,q⟩:=h
 cases ry
 obtain ⟨its,r,pl,hz⟩:=I.tuple hq
 obtain ⟨as,ra⟩:=hd.reads I rx
 obtain ⟨h1,h2⟩:=zef I hu ra hds r cd cds
 exact SeqAt.notIn_tupleAt (isD s.heap d) pl h1 ⟨.bl _,H,I,rfl,by rw [h2];exact q⟩
theorem zeE (hu:X.A.units+64<cLine):OpR X (compareOp .NotIn) (fun x y H Q=>∃ a o,y = .ref a/\DGet H a x o/\Q (.bl (!o.isSome)) H):=by
 intro pins s σ H x y v u Q I rx ry h
 obtain ⟨a,o,rfl,g,q⟩:=h
 cases ry
 exact ziX (Nat.lt_of_le_of_lt (Nat.add_le_add_left (by decide:1<=64) _) hu) I g rx fun s' I' => ⟨.bl _,H,I',rfl,q⟩
end
end L2
namespace Sm
open PySem PySem.Spec L2
section
variable {T:Tb} {E:St->XK} {X:Cx}
theorem zfO (hK:X.K=T.K) (hu:X.A.units+64<cLine):Op T X (compareOp .NotIn) yeX:=by
 refine ⟨_,zev.or ((zht hu).or ((zgO hu).or (zeE hu))),zjj (neg:=true) (g:=compareOp .NotIn) hK ?_ ?_ ?_ ?_⟩
 ·exact fun i j H Q q=>.inl ⟨i,j,rfl,rfl,q⟩
 ·exact fun x y H Q p xs d ds e1 e2 e3 e4 e5 e6 q=>.inr (.inl ⟨p,xs,d,ds,e1,hK▸e2,hK▸e3,hK▸e4,e5,e6,q⟩)
 ·exact fun x y H Q p xs d ds e1 e2 e3 e4 e5 e6 q=>.inr (.inr (.inl ⟨p,xs,d,ds,e1,hK▸e2,hK▸e3,hK▸e4,e5,e6,q⟩))
 ·exact fun y a o H Q g q=>.inr (.inr (.inr ⟨a,o,rfl,g,q⟩))
end
end Sm
namespace Sm
open PySem PySem.Spec L2
abbrev ErrC (x:Str) (C:Addr) (mg:Str->Option Value) (base:Heap):Prop:=PyProof.Rows.OwnCls x C [.type "ValueError",.type "Exception",.type "BaseException",.type "object"] "ValueError.__new__" mg base
structure GX (T:Tb) (mg:Str->Option Value) (base:Heap) (c:Nat) (x:Str):Prop where
 ex:∃ C,T.exc c=some C/\ErrC x C mg base
section
variable {T:Tb} {E:St->XK} {X:Cx} {pos np cpos:Pos} {e:Expr} {es:List Expr} {x:Str} {c:Nat} {as:SL}
theorem za1 (G:GX T X.mg X.base c x) (hr:yeI X E) (hg:Gl X x) (ha:PAA T E X (e::es) as) (hc:X.calm=true:=by rfl) (hex:X.ex=[]:=by rfl)
  (hdb:(x == ("__debug__" : Str))=false:=by decide) (he:starEach (e::es) X.env=(false,eval e X.env)::starEach es X.env:=by rfl) (hpl:(backTo cpos (starEach es X.env)).any (·.1)=false:=by rfl) :
  PSA T E X (.Raise (some (.Call (.Name x np) (e::es) [] cpos)) none pos) (yc5 c as):=by
 obtain ⟨C,h1,O⟩:=G.ex
 refine ycy (zh8 O PySem.F.excBase_ValueError hc hex hr hg ha hdb he hpl) fun D σ H ⟨ι,h,en,S,er,q⟩=>⟨ι,h,en,S,er,q.go er fun xs h1' ι1 H1 us g1 S1 r1 q1=>?_⟩
 split at q1
 ·rename_i hl
  exact ⟨by rw [<- r1.length];exact hl,q1 ι1 H1 σ C S1.refl S1 (er.mono g1) h1⟩
 ·exact q1.elim
end
def ydx (T:Tb) (f:Fn) (r:List V->Hp->VK->Prop):Prop:=∀ (ι:Ix) (h:AH) (H:Hp) (xs:List AV) (us:List V) (E:XK) (Q:VK),Sim T ι h H->RVs T ι H xs us->Post T ι H E (RV T) (f xs h) Q->r us H Q
section
variable {T:Tb} {E:St->XK} {X:Cx} {pos p:Pos} {e a:Expr} {es:List Expr} {x:Str} {as:SL} {sa:SE}
theorem ygu {f:Fn} {r:List V->Hp->VK->Prop} (hs:ydx T f r) {σ:St} {H:Hp} {Q:VK} (q:tE T E (yae f as) σ H Q):tCB r (tA T E as) σ H Q:=by
 obtain ⟨ι,h,en,S,er,q⟩:=q
 exact ⟨ι,h,en,S,er,q.bind fun xs h1 ι1 H1 us g1 S1 r1 q1=>hs ι1 h1 H1 xs us _ Q S1 r1 q1⟩
theorem r_bi {id:String} {f:Fn} (hc:∃ r,CallR X (.builtin id) r/\ydx T f r) (hg:Gl X x) (hm:X.mg x=none) (hv:bootBuiltins x=some (.builtin id)) (ha:PAA T E X (e::es) as) (hn:x ≠ "__name__" := by decide) (hdb:(x == ("__debug__" : Str))=false:=by decide)
  (he:starEach (e::es) X.env=(false,eval e X.env)::starEach es X.env:=by rfl) (hpl:(backTo pos (starEach es X.env)).any (·.1)=false:=by rfl):PEA T E X (.Call (.Name x p) (e::es) [] pos) (yae f as):=by
 obtain ⟨r,h1,h2⟩:=hc
 exact yaY (zet h1 hg hm hv ha hn hdb he hpl) fun σ H Q q=>ygu h2 q
theorem r_ty {id:String} {f:Fn} (hc:∃ r,CallR X (.type id) r/\ydx T f r) (hg:Gl X x) (hm:X.mg x=none) (hv:bootBuiltins x=some (.type id)) (ha:PAA T E X (e::es) as) (hn:x ≠ "__name__" := by decide) (hdb:(x == ("__debug__" : Str))=false:=by decide)
  (he:starEach (e::es) X.env=(false,eval e X.env)::starEach es X.env:=by rfl) (hpl:(backTo pos (starEach es X.env)).any (·.1)=false:=by rfl):PEA T E X (.Call (.Name x p) (e::es) [] pos) (yae f as):=by
 obtain ⟨r,h1,h2⟩:=hc
 exact yaY (zhe h1 hg hm hv ha hn hdb he hpl) fun σ H Q q=>ygu h2 q
theorem b_len (hK:X.K=T.K):∃ r,CallR X (.builtin "len") r/\ydx T fLen r:=by
 refine ⟨_,zex.or (zew.or zhj),fun ι h H xs us E Q S r q=>?_⟩
 unfold fLen at q
 split at q
 ·cases r with
  | cons r r' =>
   cases r'
   obtain ⟨rfl,n,_⟩:=ybh r
   exact .inl ⟨_,rfl,n,q.now S (.int _)⟩
 ·cases r with
  | cons r r' =>
   cases r'
   obtain ⟨a,us,rfl,sq,rs⟩:=ydf r
   exact .inr (.inl ⟨a,us,rfl,.inr (hK▸sq),by rw [<- rs.length];exact q.now S (.int _)⟩)
 ·cases r with
  | cons r r' =>
   cases r'
   obtain ⟨a,us,rfl,sq,rs⟩:=ybq S r rfl
   exact .inr (.inl ⟨a,us,rfl,.inl (hK▸sq),by rw [<- rs.length];exact q.now S (.int _)⟩)
 ·rename_i n
  cases r with
  | cons r r' =>
   cases r'
   split at q
   ·rename_i xs hn
    obtain ⟨a,us,rfl,sq,rs⟩:=ybq (xs:=xs) S r (by simp [yb8,hn])
    exact .inr (.inl ⟨a,us,rfl,.inl (hK▸sq),by rw [<- rs.length];exact q.now S (.int _)⟩)
   ·rename_i kvs hn
    cases r with
    | @ref _ ad hr =>
     obtain ⟨o,e1,kus,rfl,rs⟩:=S.obj n _ ad hn hr
     exact .inr (.inr ⟨ad,kus,rfl,e1,by rw [<- Paired.length rs];exact q.now S (.int _)⟩)
   ·exact q.elim
 ·exact q.elim
theorem b_abs:∃ r,CallR X (.builtin "abs") r/\ydx T fAbs r:=by
 refine ⟨_,zhS,fun ι h H xs us E Q S r q=>?_⟩
 unfold fAbs at q
 split at q
 ·cases r with
  | cons r r' => cases r';rw [yaD r];exact ⟨_,rfl,q.now S (.int _)⟩
 ·exact q.elim
theorem yfN (hc:X.calm=true:=by rfl):∃ r,CallR X (.builtin "max") r/\ydx T yde r:=by
 refine ⟨_,zg8 hc,fun ι h H xs us E Q S r q=>?_⟩
 unfold yde at q
 split at q
 ·cases r with
  | cons r r' => cases r' with
   | cons r1 r2=>cases r2;rw [yaD r,yaD r1];exact ⟨_,_,rfl,q.now S (.int _)⟩
 ·exact q.elim
theorem yfO (hc:X.calm=true:=by rfl):∃ r,CallR X (.builtin "min") r/\ydx T yc8 r:=by
 refine ⟨_,zg9 hc,fun ι h H xs us E Q S r q=>?_⟩
 unfold yc8 at q
 split at q
 ·cases r with
  | cons r r' => cases r' with
   | cons r1 r2=>cases r2;rw [yaD r,yaD r1];exact ⟨_,_,rfl,q.now S (.int _)⟩
 ·exact q.elim
theorem zeF {ι:Ix} {H:Hp}:∀ {xs:List AV} {us:List V} {bs:List Bool},RVs T ι H xs us->yd1 xs=some bs->us=bs.map V.bl
 | _,_,_,.nil,e=>by cases e;rfl
 | _,_,bs,.cons (x:=x) r rs,e=>by
  unfold yd1 at e
  split at e
  ·rename_i hh;cases hh
  ·rename_i b r' hh
   cases hh
   obtain ⟨bs',e1,rfl⟩:=Option.map_eq_some_iff.mp e
   rw [ydv r,zeF rs e1];rfl
  ·cases e
theorem b_all (hK:X.K=T.K) (hc:X.calm=true:=by rfl):∃ r,CallR X (.builtin "all") r/\ydx T fAll r:=by
 refine ⟨_,zh3 hc,fun ι h H xs us E Q S r q=>?_⟩
 unfold fAll at q
 split at q
 ·split at q
  ·rename_i bs hb
   cases r with
   | cons r r' =>
    cases r'
    obtain ⟨a,us,rfl,sq,rs⟩:=ybq S r rfl
    rw [zeF rs hb] at sq;exact ⟨a,bs,rfl,hK▸sq,q.now S (.bl _)⟩
  ·exact q.elim
 ·exact q.elim
abbrev tys:List String:=["NoneType", "bool", "int", "str", "list", "tuple", "dict"]
theorem yfP (K:PySem.W.Frag):∀ n∈tys,∀ t∈tys,PySem.W.kitOne K (.type n) (.type t)=some (n == t || (t == "int" && n == "bool")):=by
 intro n hn t ht
 simp only [tys,List.mem_cons,List.not_mem_nil,or_false] at hn ht
 rcases hn with rfl | rfl | rfl | rfl | rfl | rfl | rfl<;>rcases ht with rfl | rfl | rfl | rfl | rfl | rfl | rfl<;>rfl
theorem zhu {c:V} {cv:Value} (rc:∀ u,RelV c u->u=cv) :
  CallR X (.builtin "isinstance") (fun xs H Q=>∃ a us r,xs=[.ref a,c]/\SqL X.K H a us/\PySem.W.kitOne X.K (.type "list") cv=some r/\Q (.bl r) H):=by
 intro pins s σ H xs us Q I r h
 obtain ⟨a,ws,k,rfl,sq,hk,q⟩:=h
 obtain ⟨u,w',rfl,rx,ry⟩:=yeM r
 obtain rfl:=rc _ ry
 obtain rfl:u=Value.ref a:=rx
 obtain ⟨its,_,⟨o,n,e1,e2,_⟩,_⟩:=I.list sq
 exact PySem.W.kia_one PySem.W.kitx_list I.kIn ⟨_,e1,e2⟩ hk (fun z=>nomatch z) fun tk=>⟨.bl k,H,I.tok _,rfl,q⟩
theorem yiW {ι:Ix} {h:AH} {H:Hp} {v:AV} {u:V} {n:String} (S:Sim T ι h H) (r:RV T ι H v u) (e:tyN v h=some n):(TyOf T.K H u (.type n)\/(n = "list" /\ ∃ a us,u = .ref a/\SqL T.K H a us))/\n∈tys:=by
 unfold tyN at e
 cases r with
 | non=>cases e;exact ⟨.inl .non,by decide⟩
 | bl b=>cases e;exact ⟨.inl (.bl b),by decide⟩
 | int b=>cases e;exact ⟨.inl (.int b),by decide⟩
 | str n o=>cases e;exact ⟨.inl (.str _),by decide⟩
 | tup n q r=>cases e;exact ⟨.inl (.tup q),by decide⟩
 | fl n q r=>cases e;exact ⟨.inr ⟨rfl,_,_,rfl,.inl q⟩,by decide⟩
 | kfl q r=>cases e;exact ⟨.inr ⟨rfl,_,_,rfl,.inr q⟩,by decide⟩
 | @ref k a q =>
  dsimp only at e
  split at e
  ·rename_i xs hn
   cases e
   obtain ⟨o,e1,us,rfl,rs⟩:=S.obj k _ a hn q
   exact ⟨.inl (.lst e1),by decide⟩
  ·rename_i t kvs hn
   cases e
   obtain ⟨o,e1,r⟩:=S.obj k _ a hn q
   cases t with
   | false=>obtain ⟨kus,rfl,rs⟩:=r;exact ⟨.inl (.dK e1),by decide⟩
   | true=>obtain ⟨kus,rfl,rs⟩:=r;exact ⟨.inl (.dT e1),by decide⟩
  ·cases e
 | exc _ _ _=>cases e
theorem yc9 {t:Str} {id:String} {p2:Pos} (hK:X.K=T.K) (hg:Gl X "isinstance") (hm:X.mg "isinstance" = none) (ha:PEA T E X a sa) (hgt:Gl X t) (hmt:X.mg t=none) (hvt:bootBuiltins t=some (.type id)) (hid:id∈tys) (hnt:t ≠ "__name__" := by decide) (hdt:(t == ("__debug__" : Str))=false:=by decide)
  (he:starEach [a,.Name t p2] X.env=(false,eval a X.env)::starEach [.Name t p2] X.env:=by rfl):PEA T E X (.Call (.Name "isinstance" p) [a,.Name t p2] [] pos) (sIsB id sa):=by
 refine yaY (zet ((zh2 (X:=X) (ygl id)).or (zhu (X:=X) (ygl id))) hg hm PyProof.Rows.boot_isinstance (zdD ha (zdD (ziF (v:=.ty id) hgt hmt hvt rfl hnt hdt) yfv) he) (he:=he)) fun σ H Q ⟨ι,h,en,S,er,q⟩=>⟨ι,h,en,S,er,q.bind fun v h1 ι1 H1 u g1 S1 r1 q1=>?_⟩
 split at q1
 ·rename_i n hn
  obtain ⟨ty,hmem⟩:=yiW S1 r1 hn
  rcases ty with ty | ⟨rfl,ad,us,rfl,sq⟩
  ·exact .inl ⟨u,.type n,_,rfl,hK▸ty,yfP _ n hmem id hid,q1.now S1 (.bl _)⟩
  ·exact .inr ⟨ad,us,_,rfl,hK▸sq,yfP _ _ hmem id hid,q1.now S1 (.bl _)⟩
 ·exact q1.elim
def MtS (T:Tb) (f:FM) (r:V->List V->Hp->VK->Prop):Prop:=∀ (ι:Ix) (h:AH) (H:Hp) (x:AV) (xs:List AV) (u:V) (us:List V) (E:XK) (Q:VK),Sim T ι h H->RV T ι H x u->RVs T ι H xs us->Post T ι H E (RV T) (f x xs h) Q->r u us H Q
def ChkS (T:Tb) (chk:AV->AH->Bool) (n:String):Prop:=∀ (ι:Ix) (h:AH) (H:Hp) (x:AV) (u:V),Sim T ι h H->RV T ι H x u->chk x h=true->tyV T.K n u H
theorem zak:ChkS T yaB "list" := fun ι h H x u S r e=>by
 obtain ⟨xs,e1⟩:=Option.isSome_iff_exists.mp e
 obtain ⟨a,us,rfl,sq,rs⟩:=ybq S r e1
 exact .inl ⟨rfl,us,sq⟩
theorem zdI:ChkS T yet "str" := fun ι h H x u S r e=>by
 unfold yet at e
 split at e
 ·obtain ⟨rfl,_⟩:=ybh r;rfl
 ·cases e
variable {o:Expr} {so:SE} {name:Str} {apos:Pos} {chk:AV->AH->Bool} {f:FM} {tn id:String}
theorem r_bm (hK:X.K=T.K) (pa:PlainAttrs tn) (slot:Slot tn name id) (hty:typeOf (.builtin id)=pure (.type "method_descriptor")) (hm:∃ r,MtR X id r/\MtS T f r) (hc:ChkS T chk tn) (ho:PEA T E X o so) (ha:PAA T E X (e::es) as)
  (hbase:attributeBase o name X.env (eval o X.env)=eval o X.env:=by rfl)
  (hfew:((backTo pos (starEach (e::es) X.env)).all (fun x=>!x.1) && (backToKw pos (keywordEach [] X.env)).all (fun x=>x.1.isSome)
   && decide ((e::es).length+([]:List Keyword).length+(if ([]:List Keyword).isEmpty then 0 else 1)<30))=true:=by rfl)
  (hline:(apos.endLine == pos.line)=true:=by rfl) (hs:starEach (e::es) X.env=(false,eval e X.env)::starEach es X.env:=by rfl) (hplain:(backTo pos (starEach es X.env)).any (·.1)=false:=by rfl) :
  PEA T E X (.Call (.Attribute o name apos) (e::es) [] pos) (sBM chk f so as):=by
 obtain ⟨r,h1,h2⟩:=hm
 refine yaY (yiG pa slot hty h1 ho ha hbase hfew hline hs hplain) fun σ H Q ⟨ι,h,en,S,er,q⟩=>⟨ι,h,en,S,er,q.bind fun x h1 ι1 H1 u g1 S1 r1 q1=>?_⟩
 by_cases hx:chk x h1=true
 ·rw [if_pos hx] at q1
  exact ⟨hK▸hc ι1 h1 H1 x u S1 r1 hx,ι1,h1,en,S1,er.mono g1,q1.bind fun xs h2' ι2 H2 us g2 S2 r2 q2=>h2 ι2 h2' H2 x xs u us _ Q S2 (r1.mono g2) r2 q2⟩
 ·rw [if_neg hx] at q1;exact q1.elim
theorem yey (hK:X.K=T.K) (pa:PlainAttrs tn) (slot:Slot tn name id) (hty:typeOf (.builtin id)=pure (.type "method_descriptor")) (hm:∃ r,MtR X id r/\MtS T f r) (hc:ChkS T chk tn) (ho:PEA T E X o so)
  (hbase:attributeBase o name X.env (eval o X.env)=eval o X.env:=by rfl) (hline:(apos.endLine == pos.line)=true:=by rfl):PEA T E X (.Call (.Attribute o name apos) [] [] pos) (sBM0 chk f so):=by
 obtain ⟨r,h1,h2⟩:=hm
 refine yaY (yhq pa slot hty h1 ho hbase hline) fun σ H Q ⟨ι,h,en,S,er,q⟩=>⟨ι,h,en,S,er,q.bind fun x h1 ι1 H1 u g1 S1 r1 q1=>?_⟩
 by_cases hx:chk x h1=true
 ·rw [if_pos hx] at q1
  exact ⟨hK▸hc ι1 h1 H1 x u S1 r1 hx,h2 ι1 h1 H1 x [] u [] _ Q S1 r1 .nil q1⟩
 ·rw [if_neg hx] at q1;exact q1.elim
theorem zam:∃ r,MtR X "list.append" r/\MtS T yax r:=by
 refine ⟨_,zd8,fun ι h H x xs u us E Q S rx rs q=>?_⟩
 unfold yax at q
 split at q
 ·rename_i n y
  split at q
  ·rename_i ys hn
   split at q
   ·rename_i hl
    cases rx with
    | @ref _ ad hr =>
     cases rs with
     | @cons _ uu _ _ r r' =>
      cases r'
      obtain ⟨o,e1,ws,rfl,rw_⟩:=S.obj n _ ad hn hr
      have g:=S.growSet (u:=.lst (ws++[uu])) hr
      exact ⟨ad,ws,_,rfl,rfl,e1,by rw [<- rw_.length];exact hl,q ι _ _ g (S.set hr ⟨_,rfl,(rw_.mono g).append (.cons (r.mono g) .nil)⟩) .non⟩
   ·exact q.elim
  ·exact q.elim
 ·exact q.elim
theorem yeP:∃ r,MtR X "list.pop" r/\MtS T mPop r:=by
 refine ⟨_,yhr,fun ι h H x xs u us E Q S rx rs q=>?_⟩
 unfold mPop at q
 split at q
 ·rename_i n
  split at q
  ·rename_i ys hn
   split at q
   ·rename_i y hy
    cases rx with
    | @ref _ ad hr =>
     cases rs
     obtain ⟨o,e1,ws,rfl,rw_⟩:=S.obj n _ ad hn hr
     have g:=S.growSet (u:=.lst ws.dropLast) hr
     obtain ⟨v,e2,r2⟩:=rw_.get hy
     refine ⟨ad,ws,v,rfl,rfl,e1,by rw [<- rw_.length];exact e2,q ι _ _ g (S.set hr ⟨_,rfl,?_⟩) (r2.mono g)⟩
     have z:=(rw_.mono g).take (ys.length-1)
     have e3:ys.take (ys.length-1)=ys.dropLast:=List.dropLast_eq_take.symm
     have e4:ws.take (ys.length-1)=ws.dropLast:=by rw [rw_.length];exact List.dropLast_eq_take.symm
     rw [e3,e4] at z;exact z
   ·exact q.elim
  ·exact q.elim
 ·exact q.elim
theorem zig:∃ r,MtR X "str.count" r/\MtS T yeJ r:=by
 refine ⟨_,zeB,fun ι h H x xs u us E Q S rx rs q=>?_⟩
 unfold yeJ at q
 split at q
 ·cases rs with
  | cons r r' =>
   cases r'
   obtain ⟨rfl,_⟩:=ybh rx
   obtain ⟨rfl,_⟩:=ybh r
   exact ⟨_,_,rfl,rfl,q.now S (.int _)⟩
 ·exact q.elim
theorem zfP {ι:Ix} {H:Hp}:∀ {xs:List AV} {us:List V} {zs:List Str},RVs T ι H xs us->yed xs=some zs->us=zs.map V.str/\∀ z∈zs,z.cps.all (· < 0x110000)=true
 | _,_,_,.nil,e=>by cases e;exact ⟨rfl,by simp⟩
 | _,_,zs,.cons (x:=x) r rs,e=>by
  unfold yed at e
  split at e
  ·rename_i hh;cases hh
  ·rename_i b r' hh
   cases hh
   obtain ⟨zs',e1,rfl⟩:=Option.map_eq_some_iff.mp e
   obtain ⟨rfl,_,o⟩:=ybh r
   obtain ⟨h1,h2⟩:=zfP rs e1
   refine ⟨by rw [h1];rfl,fun z hz=>?_⟩
   rcases List.mem_cons.mp hz with rfl | hz
   ·exact o
   ·exact h2 z hz
  ·cases e
theorem yhG (hK:X.K=T.K):∃ r,MtR X "str.join" r/\MtS T yei r:=by
 refine ⟨_,zi6,fun ι h H x xs u us E Q S rx rs q=>?_⟩
 unfold yei at q
 split at q
 ·rename_i z y
  split at q
  ·rename_i hz
   subst hz;split at q
   ·rename_i ys hy
    split at q
    ·rename_i zs hzs
     split at q
     ·rename_i hl
      cases rs with
      | cons r r' =>
       cases r'
       obtain ⟨rfl,_⟩:=ybh rx
       obtain ⟨a,ws,rfl,sq,rw_⟩:=ybq S r hy
       obtain ⟨h1,h2⟩:=zfP rw_ hzs
       subst h1;refine ⟨a,zs,rfl,rfl,hK▸sq,hl,fun rr hrr=>?_⟩
       have e:rr=⟨((zs.map fun x:Str=>x.cps.toList).flatten).toArray⟩:=by
        cases rr
        simp only [Str.mk.injEq]
        rw [<- hrr]
       rw [e];refine q.now S (.str ?_ ?_)
       ·show ((zs.map fun x:Str=>x.cps.toList).flatten).toArray.size<=sizeLine
        rw [List.size_toArray];exact Nat.le_trans hl (by decide)
       ·rw [Array.all_eq_true_iff_forall_mem]
        intro c hc
        simp only [List.mem_toArray,List.mem_flatten,List.mem_map] at hc
        obtain ⟨l,⟨zz,hz1,rfl⟩,hc2⟩:=hc
        exact Array.all_eq_true_iff_forall_mem.mp (h2 zz hz1) c (by simpa using hc2)
     ·exact q.elim
    ·exact q.elim
   ·exact q.elim
  ·exact q.elim
 ·exact q.elim
end
end Sm
namespace Sm
open PySem PySem.Spec L2
theorem Out.bind_assoc {α β γ:Type} (o:Out α) (f:α->AH->Out β) (g:β->AH->Out γ):(o.bind f).bind g=o.bind fun a h=>(f a h).bind g:=by cases o<;>rfl
section
variable {T:Tb} {E:St->XK} {X:Cx} {pos p2:Pos} {a b:Expr} {sa sb:SE}
def tO (T:Tb) (E:St->XK):Option SE->TO
 | none=>yfe
 | some s=>ygj (tE T E s)
abbrev POA (T:Tb) (E:St->XK) (X:Cx) (e:Option Expr) (s:Option SE):Prop:=PO X e (tO T E s)
theorem zaB:POA T E X none none:=ziS
theorem zas (h:PEA T E X a sa):POA T E X (some a) (some sa):=ziT h
@[simp] def yeQ (s:Option SE):En->AH->Out (Option Int):=fun en h=>match s with
 | none=>.ok none h
 | some l=>(l en h).bind fun v h2=>match v with | .int i=>.ok (some i) h2 | _=>.bad
theorem zfQ {s:Option SE} {σ:St} {H:Hp} {ι:Ix} {h:AH} {en:En} {γ δ:Type} {R':Ix->Hp->γ->δ->Prop} {Q0:δ->Hp->Prop} {f:Option Int->AH->Out γ} {Q:Option Int->Hp->Prop} (S:Sim T ι h H) (er:ER T ι H en σ) (q:Post T ι H (E σ) R' ((yeQ s en h).bind f) Q0)
  (k:∀ l h' ι' H',Grow ι H ι' H'->Sim T ι' h' H'->Post T ι' H' (E σ) R' (f l h') Q0->Q l H'):tO T E s σ H Q:=by
 cases s with
 | none=>exact k none h ι H S.refl S q
 | some l =>
  refine ⟨ι,h,en,S,er,?_⟩
  unfold yeQ at q
  dsimp only at q
  rw [Out.bind_assoc] at q;refine q.bind fun v h1 ι1 H1 u g1 S1 r1 q1=>?_
  split at q1
  ·rw [yaD r1]
   exact ⟨_,rfl,k _ _ ι1 H1 g1 S1 q1⟩
  ·exact q1.elim
@[simp] def ya0 (x:AV) (l u:Option Int) (h:AH):Out AV:=match x with
 | .fl xs=>.ok (.fl (cutA xs l u)) h
 | .str z=>.ok (.str (cutS z l u)) h
 | .tup xs=>if ¬ (HT.sIx xs.length 0 l=0/\HT.sIx xs.length xs.length u=xs.length) then .ok (.tup (cutA xs l u)) h else .bad
 | .ref n=>match h[n]? with
  | some (.lst xs)=>.ok (.fl (cutA xs l u)) h
  | _=>.bad
 | _=>.bad
@[simp] def sCut (a:SE) (lo hi:Option SE):SE:=fun en h=>(a en h).bind fun x h1=>(yeQ lo en h1).bind fun l h2=>(yeQ hi en h2).bind fun u h3=>ya0 x l u h3
theorem RVs.cut {ι:Ix} {H:Hp} {xs:List AV} {us:List V} {lo hi:Option Int} (r:RVs T ι H xs us):RVs T ι H (cutA xs lo hi) (cutV us lo hi):=by
 unfold cutA cutV
 rw [<- r.length];exact (r.drop _).take _
theorem yhH {ι:Ix} {H:Hp} {z:Str} {l u:Option Int} (hz:z.length<=sizeLine) (hc:z.cps.all (· < 0x110000)=true):RV T ι H (.str (cutS z l u)) (.str (cutS z l u)):=by
 refine .str ?_ ?_
 ·refine Nat.le_trans ?_ hz
  simp [cutS,Str.length];omega
 ·simp only [cutS,List.all_toArray,List.all_eq_true]
  intro c h
  have hm:c∈z.cps.toList:=List.mem_of_mem_drop (List.mem_of_mem_take h)
  exact (Array.all_eq_true_iff_forall_mem.mp hc) c (by simpa using hm)
theorem zaw {lo hi:Option Expr} {sl sh:Option SE} (hK:X.K=T.K) (ha:PEA T E X a sa) (hl:POA T E X lo sl) (hh:POA T E X hi sh):PEA T E X (.Subscript a (.Slice lo hi none p2) pos) (sCut sa sl sh):=by
 refine yaY (zhW (ziW.or (sl_tup.or yhy)) ha hl hh) fun σ H Q ⟨ι,h,en,S,er,q⟩=>⟨ι,h,en,S,er,q.bind fun x h1 ι1 H1 u g1 S1 r1 q1=>?_⟩
 refine zfQ (E:=E) S1 (er.mono g1) q1 fun l h2 ι2 H2 g2 S2 q2=>zfQ (E:=E) S2 (er.mono (g1.trans g2)) q2 fun w h3 ι3 H3 g3 S3 q3=>?_
 have r3:=r1.mono (g2.trans g3)
 unfold ya0 at q3
 split at q3
 ·obtain ⟨ad,us,rfl,sq,rs⟩:=ybq S3 r3 rfl
  exact .inl ⟨ad,us,rfl,hK▸sq,fun p n=>ydg S3 rs.cut n q3⟩
 ·obtain ⟨rfl,hz,hc⟩:=ybh r3
  exact .inr (.inr ⟨_,rfl,hz,q3.now S3 (yhH hz hc)⟩)
 ·rename_i xs
  split at q3
  ·rename_i hz
   obtain ⟨ad,us,rfl,sq,rs⟩:=ydf r3
   exact .inr (.inl ⟨ad,us,rfl,hK▸sq,by rw [<- rs.length];exact hz,fun p n=>zcE S3 rs.cut n q3⟩)
  ·exact q3.elim
 ·split at q3
  ·rename_i xs hn
   obtain ⟨ad,us,rfl,sq,rs⟩:=ybq (xs:=xs) S3 r3 (by simp [yb8,hn])
   exact .inl ⟨ad,us,rfl,hK▸sq,fun p n=>ydg S3 rs.cut n q3⟩
  ·exact q3.elim
 ·exact q3.elim
theorem r_gI {x:Str} {i:Int} {p:Pos} (hg:Gl X x) (hm:∃ t,X.mg x=some (.int i t)) (hd:(x == ("__debug__" : Str))=false:=by decide):PEA T E X (.Name x p) (sLit (.int i)):=by
 obtain ⟨t,hm⟩:=hm
 exact zi8 hg hm hd
end
def DG (K:PySem.W.Frag) (mg:Str->Option Value) (x:Str) (st:Stmt) (ps:List Str):Prop:=∃ f fd,mg x=some (.ref f)/\PySem.W.keepIn K (.ref f)=true/\Binds K fd ps []/\Fun K x x st f fd
end Sm
namespace Sm
open PySem PySem.Spec L2
def yfg (N:List Str) (sc:Scope) (x₁:Str) (jf:List (Nat×Str)) (scope:Scope):Bool :=
 decide (x₁::jf.map (·.2)).Nodup && (scope.names.lookup x₁ == some .local) && jf.all (fun p=>N[p.1]? == some p.2) && jf.all (fun p=>scope.names.lookup p.2 == some .free) && (scope.kind == .function) &&
 scope.names.all (fun y=>y.2 != .cell) && scope.names.all (fun y=>y.2 != .free || sc.names.lookup y.1 == some .cell || sc.names.lookup y.1 == some .free) && scope.names.all (fun y=>y.2 != .local || scope.names.lookup y.1 == some .local)
theorem zaT {X:Cx} {N:List Str} {sc scope:Scope} {x₁:Str} {jf:List (Nat×Str)} (hN:X.N=N) (hk:∀ x,X.env.kindOf x=sc.names.lookup x) (h:yfg N sc x₁ jf scope=true):CompOk X x₁ jf scope:=by
 unfold yfg at h
 simp only [Bool.and_eq_true,decide_eq_true_eq,List.all_eq_true,beq_iff_eq,bne_iff_ne,Bool.or_eq_true] at h
 obtain ⟨⟨⟨⟨⟨⟨⟨h1,h2⟩,h3⟩,h4⟩,h5⟩,h6⟩,h7⟩,h8⟩:=h
 refine ⟨h1,h2,fun p hp=>by rw [hN];exact h3 p hp,h4,h5,fun y hy=>h6 y hy,fun y hy e=>?_,fun y hy e=>?_⟩
 ·rw [hk]
  rcases h7 y hy with (z | z) | z
  ·exact absurd e z
  ·exact .inl z
  ·exact .inr z
 ·rcases h8 y hy with z | z
  ·exact absurd e z
  ·exact z
end Sm
namespace Sm
open PySem PySem.Spec L2
theorem zdJ {T:Tb} {ι:Ix} {H:Hp}:∀ ns:List Int,RVs T ι H (ns.map AV.int) (ns.map V.int)
 | []=>.nil
 | n::ns=>.cons (.int n) (zdJ ns)
theorem sim0 {T:Tb} {H:Hp}:Sim T ⟨[],[]⟩ [] H:=⟨rfl,List.nodup_nil,(fun _ z=>nomatch z),(fun i o a e=>by simp at e)⟩
def spL (K:PySem.W.Frag):Sp:=fun vs H Q _=>∃ (a:Addr) (ns:List Int),vs=[.ref a]/\SqL K H a (ns.map V.int)/\ns.length<=63/\∀ H',Q (.bl true) H'
theorem zjk {T:Tb} {F:Fn} (ht:∀ ns:List Int,ns.length<=63->∃ h',F [.fl (ns.map AV.int)] [] = .ok (.bl true) h'):∀ vs H Q E,spL T.K vs H Q E->spA T F vs H Q E:=by
 rintro vs H Q E ⟨a,ns,rfl,hs,hl,q⟩
 obtain ⟨h',e⟩:=ht ns hl
 refine ⟨⟨[],[]⟩,[],[.fl (ns.map AV.int)],sim0,.cons ?_ .nil,?_⟩
 ·rcases hs with hs | hs
  ·exact .fl (by simp [Ix.all]) hs (zdJ ns)
  ·exact .kfl hs (zdJ ns)
 ·rw [e]
  intro ι' H' u g S r
  rw [ydv r];exact q H'
theorem zhv {P:Program} {w:World} {outer:List Env} {H:Hp} {s s':Shared} {e:Value} (h:CXE P w outer H s (fun _ _ _=>False) e s'):False:=by
 obtain ⟨_,_,_,_,_,_,_,_,_,_,_,_,_,_,q⟩:=h
 exact q
end Sm
namespace Sm
open PySem PySem.Spec L2
@[simp] def yef:List AV->Option (List Int)
 | []=>some []
 | .int i::r=>(yef r).map (i :: ·)
 | _=>none
@[simp] def fSum:Fn:=fun args h=>match args with
 | [.fl xs]=>match yef xs with
  | some ns=>.ok (.int ns.sum) h
  | none=>.bad
 | _=>.bad
@[simp] def ycY (a b c:SE):SI:=fun en h=>(a en h).bind fun v h1=>(b en h1).bind fun w h2=>(c en h2).bind fun z h3=>match v,w,z with
 | .int i,.int j,.int k=>if i.natAbs<2 ^ 40/\j.natAbs<2 ^ 40/\0<k/\k<2 ^ 20 then .ok ((List.range (if i<j then (j-i-1) / k+1 else 0:Int).toNat).map (fun m:Nat=>.int (i+m*k)),none) h3 else .bad
 | _,_,_=>.bad
section
variable {T:Tb} {E:St->XK} {X:Cx} {pos p:Pos} {e a b c:Expr} {sa sb sc:SE}
theorem zfR {ι:Ix} {H:Hp}:∀ {xs:List AV} {us:List V} {bs:List Int},RVs T ι H xs us->yef xs=some bs->us=bs.map V.int
 | _,_,_,.nil,e=>by cases e;rfl
 | _,_,bs,.cons (x:=x) r rs,e=>by
  unfold yef at e
  split at e
  ·rename_i hh;cases hh
  ·rename_i b r' hh
   cases hh
   obtain ⟨bs',e1,rfl⟩:=Option.map_eq_some_iff.mp e
   rw [yaD r,zfR rs e1];rfl
  ·cases e
theorem b_sum (hK:X.K=T.K) (hc:X.calm=true:=by rfl):∃ r,CallR X (.builtin "sum") r/\ydx T fSum r:=by
 refine ⟨_,zib hc,fun ι h H xs us E Q S r q=>?_⟩
 unfold fSum at q
 split at q
 ·split at q
  ·rename_i bs hb
   cases r with
   | cons r r' =>
    cases r'
    obtain ⟨a,us,rfl,sq,rs⟩:=ybq S r rfl
    rw [zfR rs hb] at sq;exact ⟨a,bs,rfl,hK▸sq,q.now S (.int _)⟩
  ·exact q.elim
 ·exact q.elim
theorem zgP {ι:Ix} {H:Hp} {lo c:Int} {n:Nat}:ItR T (Itr3 lo c n) ι H ((List.range n).map (fun m:Nat=>AV.int (lo+m*c))) none:=by
 constructor
 ·intro i ι' h' H' y g S _ e
  rw [List.getElem?_map] at e;obtain ⟨m,e1,rfl⟩:=Option.map_eq_some_iff.mp e
  have hi:i<n:=by
   have:=(List.getElem?_eq_some_iff.mp e1).1
   simpa using this
  rw [List.getElem?_range hi] at e1
  cases e1
  refine ⟨hi,?_⟩
  rintro u H2 ⟨rfl,rfl⟩
  exact ⟨S.refl,S,.int _⟩
 ·intro i ι' h' H' g S _ hl
  have hl':n<=i:=by simpa using hl
  exact hl'
theorem zeg {tg:Expr} {p:Pos} (hg:Gl X "range") (hm:X.mg "range" = none) (ha:PEA T E X a sa) (hb:PEA T E X b sb) (hc:PEA T E X c sc) (hs:starEach [a,b,c] X.env=[(false,eval a X.env),(false,eval b X.env),(false,eval c X.env)]:=by rfl) (hs2:starEach [b,c] X.env=[(false,eval b X.env),(false,eval c X.env)]:=by rfl) (hs3:starEach [c] X.env=[(false,eval c X.env)]:=by rfl) :
  PIA T X tg (.Call (.Name "range" p) [a,b,c] [] pos) (ycY sa sb sc) :=
 yev (zhp hg hm (zaa ha (zaa hb (zaa hc yac hs3) (by rw [hs2,hs3])) (by rw [hs,hs2])) hs hs2) fun σ H R ⟨ι,h,en,S,er,q⟩=>by
  unfold ycY at q
  refine ⟨ι,h,en,S,er,?_⟩
  unfold yab
  cases e:sa en h with
  | bad=>rw [e] at q;exact q
  | ex c h1=>rw [e] at q;exact q.elim
  | ok v h1 =>
   rw [e] at q;dsimp only [Out.bind] at q ⊢
   cases e':sb en h1 with
   | bad=>rw [e'] at q;exact q
   | ex c h1=>rw [e'] at q;exact q.elim
   | ok v' h2 =>
    rw [e'] at q;dsimp only at q ⊢
    cases e'':sc en h2 with
    | bad=>rw [e''] at q;exact q
    | ex c h1=>rw [e''] at q;exact q.elim
    | ok v'' h3 =>
     rw [e''] at q;dsimp only at q
     intro ι1 H1 u g1 S1 r1
     split at q
     ·rename_i hx
      split at hx
      ·split at hx
       ·rename_i hb
        cases hx
        cases r1 with
        | cons r r' =>
         cases r' with
         | cons r2 r3 =>
          cases r3 with
          | cons r4 r5 =>
           cases r5
           rw [yaD r,yaD r2,yaD r4];exact ⟨_,_,_,rfl,hb,q ι1 H1 _ g1 S1 zgP⟩
       ·cases hx
      ·cases hx
     ·exact q.elim
theorem yd3 {sts:List Stmt} {E:St->XK}:PSsA T E X sts (fun _ _=>.bad):=fun pins s σ H D I ⟨ι,h,en,S,er,q⟩=>q.elim
end
theorem el1:∀ {us:List Value},us.length=1->∃ a:Value,us=[a]
 | [a],_=>⟨a,rfl⟩
theorem el2:∀ {us:List Value},us.length=2->∃ a b:Value,us=[a,b]
 | [a,b],_=>⟨a,b,rfl⟩
theorem el3:∀ {us:List Value},us.length=3->∃ a b c:Value,us=[a,b,c]
 | [a,b,c],_=>⟨a,b,c,rfl⟩
theorem el4:∀ {us:List Value},us.length=4->∃ a b c d:Value,us=[a,b,c,d]
 | [a,b,c,d],_=>⟨a,b,c,d,rfl⟩
def yaH:Nat:=100000000
theorem zih:bootBuiltins "tuple" = some (.type "tuple"):=by decide +kernel
end Sm
namespace Sm
open PySem PySem.Spec L2
@[simp] def yel:F2:=fun x y h=>match yb8 x h,yb8 y h with
 | some xs,some ys=>if xs.length+ys.length<=sizeLine then .ok (.ref h.length) (h++[.lst (xs++ys)]) else .bad
 | _,_=>.bad
section
variable {T:Tb} {E:St->XK} {X:Cx} {pos:Pos}
theorem yhI (hK:X.K=T.K):Op T X (binaryOp .Add) yel:=by
 refine ⟨_,zfy,fun ι h H x y u w E Q S rx ry p=>?_⟩
 unfold yel at p
 split at p
 ·split at p
  ·rename_i e1 e2 hz
   obtain ⟨a,us,rfl,q1,r1⟩:=ybq S rx e1
   obtain ⟨b,ws,rfl,q2,r2⟩:=ybq S ry e2
   exact ⟨a,b,us,ws,rfl,rfl,hK▸q1,hK▸q2,by rw [<- r1.length,<- r2.length];exact hz,fun l n=>zfE S (r1.append r2) n p⟩
  ·exact p.elim
 ·exact p.elim
end
end Sm
namespace Sm
open PySem PySem.Spec L2
def un2 {α:Type} (c:En->AH->Out α):En->AH->Out α:=fun en h=>match en with
 | some (.tup [y,z])::r=>c (some y::some z::r) h
 | _=>.bad
@[simp] theorem yi9 {α:Type} (c:En->AH->Out α) (y z:AV) (r:En) (h:AH):un2 c (some (.tup [y,z])::r) h=c (some y::some z::r) h:=rfl
section
variable {T:Tb} {E:St->XK} {X:Cx} {pos px p1 p2:Pos} {kk:Nat} {iter elt:Expr} {ifs:List Expr} {scope:Scope} {x₁ x₂:Str} {jf:List (Nat×Str)} {it:SI} {cc:SB} {ce:SE}
end
@[simp] def yja:Fn:=fun args h=>match args with
 | [.int n]=>if 0<=n/\n<=2 ^ 24 then .ok (.fl (ya5 0 n.toNat)) h else .bad
 | _=>.bad
@[simp] def ygv (a st:SE):SE:=fun en h=>(a en h).bind fun x h1=>(st en h1).bind fun y h2=>match yb8 x h2,y with
 | some xs,.int i=>if i=1\/i = -1 then .ok (.fl (if i=1 then xs else xs.reverse)) h2 else .bad
 | _,_=>.bad
section
variable {T:Tb} {E:St->XK} {X:Cx} {pos p pos' p':Pos} {a:Expr} {sa:SE}
theorem yhJ {st:Expr} {ss:SE} {p2:Pos} (hK:X.K=T.K) (ha:PEA T E X a sa) (hs:PEA T E X st ss):PEA T E X (.Subscript a (.Slice none none (some st) p2) pos) (ygv sa ss):=by
 refine yaY (zi7 ha hs) fun σ H Q ⟨ι,h,en,S,er,q⟩=>⟨ι,h,en,S,er,q.bind fun x h1 ι1 H1 u g1 S1 r1 q1=>⟨ι1,h1,en,S1,er.mono g1,q1.bind fun y h2 ι2 H2 w g2 S2 r2 q2=>?_⟩⟩
 split at q2
 ·rename_i xs i hx
  split at q2
  ·rename_i hi
   obtain ⟨aa,us,rfl,sq,rs⟩:=ybq S2 (r1.mono g2) hx
   rw [yaD r2];refine ⟨aa,us,i,rfl,hK▸sq,rfl,hi,fun l hl=>ydg S2 ?_ hl q2⟩
   split
   ·exact rs
   ·exact rs.reverse
  ·exact q2.elim
 ·exact q2.elim
end
end Sm
namespace Sm
open PySem PySem.Spec L2
def yez:FM:=fun x vs h=>match x,vs with
 | .str z,[]=>if (Txt.upper z).length<=sizeLine/\(Txt.upper z).cps.all (· < 0x110000)=true then .ok (.str (Txt.upper z)) h else .bad
 | _,_=>.bad
theorem zjl {T:Tb} {X:Cx}:∃ r,MtR X "str.upper" r/\MtS T yez r:=by
 refine ⟨_,zif,fun ι h H x xs u us E Q S rx rs q=>?_⟩
 unfold yez at q
 split at q
 ·split at q
  ·rename_i hz
   cases rs
   obtain ⟨rfl,_⟩:=ybh rx
   exact ⟨_,rfl,rfl,hz.1,q.now S (.str hz.1 hz.2)⟩
  ·exact q.elim
 ·exact q.elim
section
variable {T:Tb} {E:St->XK} {X:Cx} {pos:Pos} {a:Expr} {sa:SE} {sts:List Stmt} {s1:SS}
end
end Sm
namespace L2
open PySem PySem.Spec PyProof.Rows
section
variable {X:Cx}
theorem zdw (z:Str):∀ (cs:List Nat) (its:List Value),its.length=cs.length->(∀ (j:Nat) (v:Value),its[j]? = some v->∃ (c:Nat) (u:Tok),cs[j]? = some c/\v=Value.str ⟨#[c]⟩ u)->Vals (cs.map fun c=>V.str ⟨#[c]⟩) its
 | [],[],_,_=>.nil
 | c::cs,v::its,hl,h=>by
  obtain ⟨c',u,e,rfl⟩:=h 0 v rfl
  have e':c=c' := by simpa using e
  subst e'
  exact .cons ⟨u,rfl⟩ (zdw z cs its (by simpa using hl) fun j v hv=>h (j+1) v (by simpa using hv))
theorem zeG (hc:X.calm=true):CallR X (.type "list") (fun xs H Q=>∃ z:Str,xs=[.str z]/\z.length<=sizeLine/\∀ l,H l=none->Q (.ref l) (upd H l (.lst (z.cps.toList.map fun c=>V.str ⟨#[c]⟩)))):=by
 intro pins s σ H xs us Q I r h
 obtain ⟨z,rfl,hz,q⟩:=h
 obtain ⟨u,rfl,t,rfl⟩:=ydu r
 refine call_list_str (I.ok.hd hc) z t (fun h' tk acc' c' kp e it=>?_) hz
 have rv:Vals (z.cps.toList.map fun c=>V.str ⟨#[c]⟩) acc'.toList:=zdw z _ _ (by
  rw [Array.length_toList,Array.length_toList];exact it.1) fun j v hv=>by
   obtain ⟨c,u,a,b⟩:=it.2 j v (by simpa using hv)
   exact ⟨c,u,by simpa using a,b⟩
 have lz:(z.cps.toList.map fun c=>V.str ⟨#[c]⟩).length<=sizeLine:=by
  rw [List.length_map,Array.length_toList];exact hz
 exact ⟨.ref s.heap.objs.size,_,I.laid (t' := tk) kp (Nat.le_refl _) (show ObjOk X.prog X.w _ h' _ (.lst (z.cps.toList.map fun c=>V.str ⟨#[c]⟩)) from ⟨lz,acc'.toList,c',rv,by simpa using e⟩),rfl,q _ (I.hok.fresh (Nat.le_refl _))⟩
end
end L2
namespace Sm
open PySem PySem.Spec L2
@[simp] def ydE:Fn:=fun args h=>match args with
 | [.str z]=>.ok (.fl (z.cps.toList.map fun c=>.str ⟨#[c]⟩)) h
 | [.tup xs]=>.ok (.fl xs) h
 | [.fl xs]=>.ok (.fl xs) h
 | [.ref n]=>match h[n]? with
  | some (.lst xs)=>.ok (.fl xs) h
  | _=>.bad
 | _=>.bad
section
variable {T:Tb} {X:Cx}
theorem zeH {ι:Ix} {H:Hp}:∀ (cs:List Nat),(∀ c∈cs,c<0x110000)->RVs T ι H (cs.map fun c=>AV.str ⟨#[c]⟩) (cs.map fun c=>V.str ⟨#[c]⟩)
 | [],_=>.nil
 | c::cs,h=>.cons (.str (show (1:Nat)<=sizeLine by decide) (by
   have:=h c (List.mem_cons_self ..)
   simp [this])) (zeH cs fun d hd=>h d (List.mem_cons_of_mem _ hd))
theorem zfS (hK:X.K=T.K) (hc:X.calm=true:=by rfl):∃ r,CallR X (.type "list") r/\ydx T ydE r:=by
 refine ⟨_,(zeG hc).or zey,fun ι h H xs us E Q S r q=>?_⟩
 unfold ydE at q
 split at q
 ·cases r with
  | cons r r' =>
   cases r'
   cases r with
   | str n o =>
    refine .inl ⟨_,rfl,n,fun l nn=>ydg S (zeH _ fun c hcc=>?_) nn q⟩
    have:=Array.all_eq_true_iff_forall_mem.mp o c (by simpa using hcc)
    simpa using this
 ·cases r with
  | cons r r' =>
   cases r'
   obtain ⟨a,us,rfl,sq,rs⟩:=ydf r
   exact .inr ⟨a,us,rfl,.inr (hK▸sq),fun l n=>ydg S rs n q⟩
 ·cases r with
  | cons r r' =>
   cases r'
   obtain ⟨a,us,rfl,sq,rs⟩:=ybq S r rfl
   exact .inr ⟨a,us,rfl,.inl (hK▸sq),fun l n=>ydg S rs n q⟩
 ·cases r with
  | cons r r' =>
   cases r'
   split at q
   ·rename_i xs hn
    obtain ⟨a,us,rfl,sq,rs⟩:=ybq (xs:=xs) S r (by simp [yb8,hn])
    exact .inr ⟨a,us,rfl,.inl (hK▸sq),fun l n=>ydg S rs n q⟩
   ·exact q.elim
 ·exact q.elim
end
end Sm
namespace L2
open PySem PySem.Spec PyProof.Rows
namespace HT
section
variable {prog:Program} {w:World} {A:Around} {E:Value->Shared->Prop} {s:Shared}
theorem zdc {sl:Addr} {t:Tok} {Q:Int×Int×Nat->Shared->Prop} (hs:s.heap.IsSliceOf sl .none .none (.int (-1) t))
  (h:Q (1,-1,2) s):wpAny (model prog w) A (Builtin.Slice.sliceApplied (.ref sl) (pure (2:Int))) Q E s:=by
 obtain ⟨os,hos,hcs,hds⟩:=id hs
 unfold Builtin.Slice.sliceApplied Builtin.Slice.sliceFields
 refine wpAny_bind (wpAny_bind (wpAny_field hos hds (x:=.none) rfl (wpAny_bind (wpAny_field hos hds (x:=.none) rfl (wpAny_bind (wpAny_field hos hds (x:=.int (-1) t) rfl (wpAny_pure ?_)))))))
 refine wpAny_bind (slicePart_int ?_)
 show wpAny _ _ (if ((-1:Int) == 0)=true then _ else _) _ _ s
 rw [if_neg (by decide)]
 refine wpAny_bind (slicePart_none (wpAny_bind (slicePart_none (wpAny_bind (wpAny_pure ?_)))))
 exact wpAny_pure h
theorem getItem_tuple_rev {t sl:Addr} {x y:Value} {tk:Tok} {Q:Value->Shared->Prop} (ht:IsTup s.heap t #[x,y]) (hs:s.heap.IsSliceOf sl .none .none (.int (-1) tk))
  (h:Q (.ref s.heap.objs.size) { s with heap:=s.heap.push { cls:=.type "tuple",data:=.seq #[y,x] } }):wpAny (model prog w) A (getItem (.ref t) (.ref sl)) Q E s:=by
 have htake:sizeOk (.seq #[y,x]):=by
  show (2:Nat)<=sizeLine
  decide
 obtain ⟨os,hos,hcs,hds⟩:=id hs
 have hTs:s.TypeIs (.ref sl) "slice" := ⟨os,hos,hcs⟩
 unfold getItem
 try with_reducible refine wpAny_holding ?_
 first | refine wpAny_bind (wpAny_pure ?_) | skip
 refine wpAny_bind (wpAny_sequenceKey ht.typeIs (by decide) ?_)
 refine wpAny_bind (wpAny_callSpecial?_slot (name:=Str.ofString "__getitem__") ht.typeIs PyProof.Rows.slot_tuple_getitem
  (wpAny_call_entry PyProof.Rows.slot_tuple_getitem ht.typeIs entry_tuple_getitem ?_ (args_tuple_getitem _ _)))
 show wpAny _ _ (Builtin.Tuple.tupleItemsOf (.ref t) >>= _) _ _ s
 refine wpAny_bind (tupleItemsOf_ ht ?_)
 refine wpAny_bind (wpAny_typeOf hTs ?_)
 rw [if_pos (by decide)]
 refine wpAny_bind (zdc hs ?_)
 show wpAny _ _ (if ((1:Int) == 0 && (-1:Int) == 1 && 2 == 2)=true then _ else _) _ _ s
 rw [if_neg (by decide)]
 first
  | exact wpAny_bind (m:=Builtin.Tuple.tupleExact _) (wpAny_newObj_type (wpAny_pure ⟨_,rfl,wpAny_pure h⟩) htake)
  | exact wpAny_bind (m:=Builtin.Tuple.tupleExact _) (wpAny_newObj_type (wpAny_bind (wpAny_pure (wpAny_pure ⟨_,rfl,wpAny_pure h⟩))) htake)
  | exact wpAny_bind (wpAny_bind (m:=Builtin.Tuple.tupleExact _) (wpAny_newObj_type (wpAny_pure (wpAny_pure ⟨_,rfl,wpAny_pure h⟩)) htake))
  | exact wpAny_bind (wpAny_bind (m:=Builtin.Tuple.tupleExact _) (wpAny_newObj_type (wpAny_pure ⟨_,rfl,wpAny_pure h⟩) htake))
end
end HT
section
variable {X:Cx}
theorem zjm {e st:Expr} {te ts:TE} {p2 pos:Pos} (he:PE X e te) (hs:PE X st ts):PE X (.Subscript e (.Slice none none (some st) p2) pos) (fun σ H Q=>te σ H fun x H1=>ts σ H1 fun y H2=>∃ a b c,x = .ref a/\SqT X.K H2 a [b,c]/\y = .int (-1)/\∀ p,H2 p=none->Q (.ref p) (upd H2 p (.tup [c,b]))):=by
 intro pins s σ H Q I h
 refine Subscript_ (thn (he pins s σ H _ I h) fun v s1 ⟨x,H1,I1,r1,q1⟩=>?_)
 refine wpAny_Slice ?_
 rw [evalPart_none];refine wpAny_pure ?_
 refine wpAny_pure ?_
 rw [evalPart_some];refine thn (hs pins s1 σ H1 _ I1 q1) fun u s2 ⟨y,H2,I2,r2,q2⟩=>?_
 obtain ⟨a,b,c,rfl,hx,rfl,q⟩:=q2
 cases r1
 obtain ⟨t2,rfl⟩:=r2
 have I4:Inv X pins σ H2 { s2 with heap:=s2.heap.push { cls:=.type "slice",data:=.fields #[.none,.none,.int (-1) t2] } }:=I2.kept (t' := s2.toks) fun b ob q=>Heap.get?_push_of_some _ q
 show wpAny (model X.prog X.w) X.A (subscriptTail e (.Slice none none (some st) p2) (.ref a) (.ref s2.heap.objs.size)) (EP X pins σ Q) X.xe { s2 with heap:=s2.heap.push { cls:=.type "slice",data:=.fields #[.none,.none,.int (-1) t2] } }
 obtain ⟨its,r,ht,hz⟩:=I4.tuple hx
 cases r with
 | cons r0 r' =>
  cases r' with
  | cons r1 r'' =>
   cases r''
   refine tail_any (T := "tuple") (ops:=[.ref a,.ref s2.heap.objs.size]) ht.typeIs PyProof.Rows.slot_tuple_getitem.lookup ?_ (by with_unfolding_all rfl)
   refine HT.getItem_tuple_rev ht (Heap.IsSliceOf.new ..) ?_
   exact ⟨.ref _,_,I4.laid (t' := s2.toks) (o:=.tup [c,b]) (fun b ob q=>Heap.get?_push_of_some _ q) (Nat.le_refl _) ⟨by show (2:Nat)<=sizeLine;decide,_,.cons r1 (.cons r0 .nil),IsTup.new _ _⟩,rfl,q _ (I4.hok.fresh (Nat.le_refl _))⟩
end
end L2
namespace Sm
open PySem PySem.Spec L2
@[simp] def ygw (a st:SE):SE:=fun en h=>(a en h).bind fun x h1=>(st en h1).bind fun y h2=>match x,y with
 | .tup [u,v],.int i=>if i = -1 then .ok (.tup [v,u]) h2 else .bad
 | _,_=>.bad
section
variable {T:Tb} {E:St->XK} {X:Cx} {pos:Pos} {a:Expr} {sa:SE}
theorem yhK {st:Expr} {ss:SE} {p2:Pos} (hK:X.K=T.K) (ha:PEA T E X a sa) (hs:PEA T E X st ss):PEA T E X (.Subscript a (.Slice none none (some st) p2) pos) (ygw sa ss):=by
 refine yaY (zjm ha hs) fun σ H Q ⟨ι,h,en,S,er,q⟩=>⟨ι,h,en,S,er,q.bind fun x h1 ι1 H1 u g1 S1 r1 q1=>⟨ι1,h1,en,S1,er.mono g1,q1.bind fun y h2 ι2 H2 w g2 S2 r2 q2=>?_⟩⟩
 split at q2
 ·rename_i u v i
  split at q2
  ·rename_i hi
   obtain ⟨aa,us,rfl,sq,rs⟩:=ydf (r1.mono g2)
   rw [yaD r2,hi]
   cases rs with
   | cons ra rs =>
    cases rs with
    | cons rb rs =>
     cases rs
     exact ⟨aa,_,_,rfl,hK▸sq,rfl,fun l hl=>zcE S2 (.cons rb (.cons ra .nil)) hl q2⟩
  ·exact q2.elim
 ·exact q2.elim
end
end Sm
namespace L2
open PySem PySem.Spec PyProof.Rows
def ItzT (x:Str):It :=
 ⟨fun i _=>i<x.cps.size,fun i H v H' => ∃ (T:Addr) (c:Nat),v = .ref T/\H T=none/\H'=upd H T (.tup [.int i,.str ⟨#[c]⟩])/\x.cps[i]? = some c,fun i _=>x.cps.size<=i⟩
theorem zeh {P:Program} {w:World} {A:Around} (hh:A.handled=none) (it:Addr) (x:Str) (t:Tok) :
  Draws P w A it [it] x.cps.size (SignAt x) (fun i h=>h.IsStrIter it (strIterType x) x t i):=by
 cases ha:x.cps.all (· < 128) with
 | false =>
  have e:strIterType x = "str_iterator" := by simp [strIterType,ha]
  rw [e];exact Draws.strWide hh it x t
 | true =>
  have e:strIterType x = "str_ascii_iterator" := by simp [strIterType,ha]
  rw [e];exact Draws.strAscii hh it x t
theorem zgQ {P:Program} {w:World} {K:PySem.W.Frag} {es:List Expr} {k:Nat} {tp:Pos} (it e:Addr) (x:Str) (t:Tok) (hei:e≠it) :
  Turn P w K (.Tuple es k tp) (ItzT x) [e,it] e (fun i h=>i<=x.cps.size/\(∃ old,IsEnum h e it i old)/\h.IsStrIter it (strIterType x) x t i) where
 mem:=by simp
 obj:=fun i h st b hb=>by
  obtain ⟨_,⟨old,he⟩,o,ho,hc,hd⟩:=st
  have hb':b=e\/b=it:=by simpa using hb
  rcases hb' with rfl | rfl
  ·exact ⟨_,he,fun v z=>by
    have z':Data.fields _=Data.cell v:=z
    cases z'⟩
  ·exact ⟨o,ho,fun v z=>by rw [hd] at z;cases z⟩
 keep:=fun i h h' st k=>by
  obtain ⟨hle,⟨old,he⟩,o,ho,r⟩:=st
  exact ⟨hle,⟨old,k e (by simp) _ he⟩,o,k it (by simp) o ho,r⟩
 item:=by
  intro X hP hw hK hc i pins s σ H E I hf st hg
  subst hP hw hK
  obtain ⟨hle,⟨old,he⟩,hit⟩:=st
  have D:Draws X.prog X.w X.A.in1 it [it] x.cps.size (SignAt x) (fun i h=>h.IsStrIter it (strIterType x) x t i):=zeh (A:=X.A.in1) (show X.A.in1.handled=none from I.ok.hd hc) it x t
  refine wpAny_pyNext_enum_itemD D he hit hg hei (by simpa using hei) fun v h1 tk hv ho hit1 hT hsz hk=>?_
  obtain ⟨c,u,hcp,rfl⟩:=hv
  refine ⟨.ref s.heap.objs.size,rfl,wpAny_letOwnedTupleGo_enum ho fun h2 he2 hs2=>?_⟩
  replace hs2:Heap.SameBut e h1 h2:=hs2
  have helt:e<s.heap.objs.size:=Heap.lt_size he
  have I1:Inv X pins σ H { s with heap:=h2,toks:=tk+1 }:=I.turnedL (fp:=[e,it]) (fun b o hb q=>by
   have n1:b≠e:=fun z=>hb (by simp [z])
   have n2:b≠it:=fun z=>hb (by simp [z])
   exact (hs2.2 b n1).trans (hk b o n1 n2 q)) hf
  have hT2:h2.get? s.heap.objs.size=some { cls:=.type "tuple",data:=.seq #[.int i tk,.str ⟨#[c]⟩ u] }:=(hs2.2 _ (Nat.ne_of_gt helt)).trans hT
  have fp:=I.fpOk (H' := H) (Nat.le_refl s.heap.objs.size) (I.hok.fresh (Nat.le_refl _))
  obtain ⟨f0,f1,f2,f3,f4,f5⟩:=fp
  have I2:Inv X pins σ (upd H s.heap.objs.size (.tup [.int i,.str ⟨#[c]⟩])) { s with heap:=h2,toks:=tk+1 } :=
   I1.adopt (T:=s.heap.objs.size) f0 (I.sz) f1 f4 f5 ⟨by show 2<=sizeLine;decide,[.int i tk,.str ⟨#[c]⟩ u],.cons ⟨_,rfl⟩ (.cons ⟨u,rfl⟩ .nil),⟨_,hT2,rfl,_,rfl⟩⟩
  refine ⟨.ref s.heap.objs.size,_,I2,rfl,⟨s.heap.objs.size,c,rfl,f0,rfl,hcp⟩,⟨hg,⟨_,by simpa using he2⟩,?_⟩,fun b hb=>?_⟩
  ·obtain ⟨o,q,r⟩:=hit1
   exact ⟨o,(hs2.2 it (Ne.symm hei)).trans q,r⟩
  ·obtain ⟨g0,_⟩:=hf b hb
   obtain ⟨o,hob,_⟩:∃ o,s.heap.get? b=some o/\True:=by
    have hb':b=e\/b=it:=by simpa using hb
    rcases hb' with rfl | rfl
    ·exact ⟨_,he,trivial⟩
    ·obtain ⟨o,q,_⟩:=hit
     exact ⟨o,q,trivial⟩
   rw [yaC (Nat.ne_of_lt (Heap.lt_size hob))];exact g0
 done:=by
  intro X hP hw hK hc i pins s σ H E I hf st hg
  subst hP hw hK
  obtain ⟨hle,⟨old,he⟩,hit⟩:=st
  have D:Draws X.prog X.w X.A.in1 it [it] x.cps.size (SignAt x) (fun i h=>h.IsStrIter it (strIterType x) x t i):=zeh (A:=X.A.in1) (show X.A.in1.handled=none from I.ok.hd hc) it x t
  have ei:i=x.cps.size:=Nat.le_antisymm hle hg
  subst ei;exact wpAny_pyNext_enum_endD D he hit fun h' eb=>⟨rfl,I.turnedL (fp:=[e,it]) (t' := s.toks) (fun b o hb q=>eb b o (fun z=>hb (by simp [z])) q) hf⟩
 self:=fun _ _ _ _ _ st h=>by
  obtain ⟨_,⟨old,he⟩,_⟩:=st
  exact wpAny_pyIter_enum he h
section
variable {X:Cx}
def yhL (ta:TA):TI:=fun σ H R=>ta σ H fun vs H1=>∃ x,vs=[.str x]/\R (ItzT x) H1
theorem zii {l:Expr} {ta:TA} {p pos tp:Pos} {es:List Expr} {k:Nat} (hg:Gl X "enumerate") (hm:X.mg "enumerate" = none) (ha:PA X [l] ta) (hs:starEach [l] X.env=[(false,eval l X.env)]:=by rfl) :
  PI X (.Tuple es k tp) (.Call (.Name "enumerate" p) [l] [] pos) (yhL ta):=by
 intro pins s σ H R I h
 refine Call_ (ydY I hg hm boot_enumerate (PyProof.Rows.callWith_type1 (thn (ha pos pins s σ H _ I h) fun us s1 ⟨vs,H1,I1,r1,q1⟩=>?_) hs rfl))
 obtain ⟨x,e,q⟩:=q1
 subst e
 cases r1 with
 | cons r rr =>
  cases rr
  obtain ⟨tk,rfl⟩:=r
  refine call_enumerate_str fun h' he hit hsz hk=>wpAny_pyIter_enum he ?_
  refine ⟨s1.heap.objs.size+1,[s1.heap.objs.size+1,s1.heap.objs.size],_,_,H1,rfl,I1.kept (t' := s1.toks) fun b o e=>hk b o e,zgQ _ _ x tk (Nat.succ_ne_self _),⟨Nat.zero_le _,⟨_,he⟩,hit⟩,fun b hb=>?_,q⟩
  have hb':b=s1.heap.objs.size+1\/b=s1.heap.objs.size:=by simpa using hb
  rcases hb' with rfl | rfl
  ·exact I1.fpOk (Nat.le_succ _) (I1.hok.fresh (Nat.le_succ _))
  ·exact I1.fpOk (Nat.le_refl _) (I1.hok.fresh (Nat.le_refl _))
end
end L2
namespace Sm
open PySem PySem.Spec L2
def yeg (z:Str):List AV:=z.cps.toList.map fun c=>.str ⟨#[c]⟩
@[simp] def ydR (a:SE):SI:=fun en h=>(a en h).bind fun v h1=>match v with
 | .str z=>.ok (numbered 0 (yeg z),none) h1
 | _=>.bad
section
variable {T:Tb} {E:L2.St->XK} {X:Cx} {pos:Pos} {a:Expr} {sa:SE}
theorem zhw {ι:Ix} {H:Hp} {z:Str} (hc:z.cps.all (· < 0x110000)=true):ItR T (ItzT z) ι H (numbered 0 (yeg z)) none:=by
 constructor
 ·intro i ι' h' H' x g S _ e
  rw [zcn] at e;obtain ⟨y,e0,rfl⟩:=Option.map_eq_some_iff.mp e
  unfold yeg at e0
  rw [List.getElem?_map] at e0;obtain ⟨c,ec,rfl⟩:=Option.map_eq_some_iff.mp e0
  have hi:i<z.cps.size:=by simpa using (List.getElem?_eq_some_iff.mp ec).1
  refine ⟨hi,?_⟩
  rintro u2 H2 ⟨t,c2,rfl,hn,rfl,hy⟩
  have hy':z.cps.toList[i]? = some c2:=by simpa using hy
  rw [ec] at hy'
  cases hy'
  have g2:=S.growNew (o:=.tup [.int i,.str ⟨#[c]⟩]) hn
  refine ⟨g2,S.new hn,.tup (S.fresh hn) zav (.cons ?_ (.cons ?_ .nil))⟩
  ·rw [Nat.zero_add]
   exact .int _
  ·have hm:c∈z.cps:=by simpa using List.mem_of_getElem? ec
   exact .str (by show 1<=sizeLine;decide) (by simpa using (Array.all_eq_true_iff_forall_mem.mp hc) c hm)
 ·intro i ι' h' H' g S _ hl
  rw [zbH] at hl;unfold yeg at hl
  show z.cps.size<=i
  simpa using hl
theorem zij {p tp:Pos} {es:List Expr} {k:Nat} (hK:X.K=T.K) (hg:Gl X "enumerate") (hm:X.mg "enumerate" = none) (ha:PEA T E X a sa) (hs:starEach [a] X.env=[(false,eval a X.env)]:=by rfl):PIA T X (.Tuple es k tp) (.Call (.Name "enumerate" p) [a] [] pos) (ydR sa) :=
 yev (zii hg hm (zaa ha yac hs) hs) fun σ H R ⟨ι,h,en,S,er,q⟩=>by
  unfold ydR at q
  refine ⟨ι,h,en,S,er,?_⟩
  unfold yab
  cases e:sa en h with
  | bad=>rw [e] at q;exact q
  | ex c h1=>rw [e] at q;exact q.elim
  | ok v h1 =>
   rw [e] at q;intro ι1 H1 u g1 S1 r1
   dsimp only [Out.bind] at q
   cases v with
   | str z =>
    cases r1 with
    | cons r r' =>
     cases r'
     obtain ⟨rfl,hz,hc⟩:=ybh r
     exact ⟨_,rfl,q ι1 H1 _ g1 S1 (zhw hc)⟩
   | _=>exact q.elim
end
end Sm
namespace Sk
open PySem PySem.Spec L2 Sm
abbrev ygT:Nat:=0
abbrev yi7:Nat:=1
abbrev yiX:Nat:=2
abbrev ygg:Nat:=3
abbrev yfl:Nat:=4
abbrev yfm:Nat:=5
def ycS:Fn:=mkFn 1 1
  (sSeq (ycX 0 0 (sVar 0) (ycW sNil))
  (sSeq (ycX 0 1 (sVar 0) (ygm true))
  (sSeq (ycX 0 2 (sVar 0) (ycW (yab (sLit (.int 0)) sNil)))
  (sSeq (ycX 0 3 (sVar 0) (ycW (yab (sLit (.int 0)) sNil)))
  (sSeq (ycX 0 4 (sVar 0) (ycW (yab (sLit (.int 0)) sNil)))
  (sSeq (ycX 0 5 (sVar 0) (ycW (yab (sOp1 fNeg (sLit (.int 1))) sNil)))
  (sSeq (ycX 0 6 (sVar 0) (ycW (yab (sLit (.int 0)) sNil)))
  (ycX 0 7 (sVar 0) (ycW (yab (sLit (.int 0)) sNil))))))))))
def ydy:Fn:=mkFn 2 3
  (sSeq (sSet 2 (sOp2 fMod (sOp2 fMul (sOp2 fAdd (sOp2 fAdd (sOp2 fMod (sVar 0) (sLit (.int 1000000007))) (sOp2 fMul (sLit (.int 7919)) (sVar 1))) (sLit (.int 101))) (sLit (.int 48271))) (sLit (.int 2147483647))))
  (sRet (sOp2 fMod (sOp2 fMul (sOp2 fMod (sOp2 fMul (sVar 2) (sVar 2)) (sLit (.int 2147483629))) (sLit (.int 69621))) (sLit (.int 2147483647)))))
def ybP:SS :=
  (sSet 2 (sOp2 fAdd (sOp2 fMul (sVar 2) (sOp2 fMul (sOp2 fPow (sLit (.int 10)) (sLit (.int 60))) (sOp2 fPow (sLit (.int 10)) (sLit (.int 60))))) (sOp2 fMod (sOp2 fIx (sVar 0) (sVar 3)) (sOp2 fMul (sOp2 fPow (sLit (.int 10)) (sLit (.int 60))) (sOp2 fPow (sLit (.int 10)) (sLit (.int 60)))))))
def ybQ:SS :=
  (sSet 4 (sOp2 fAdd (sOp2 fMul (sVar 4) (sLit (.int 2147483647))) (yae ydy (yab (sOp2 fAdd (sOp2 fAdd (sVar 2) (sOp2 fMul (sLit (.int 1009)) (sVar 1))) (yae fLen (yab (sVar 0) sNil))) (yab (sVar 3) sNil)))))
def ycT:Fn:=mkFn 2 5
  (sSeq (sSet 2 (sLit (.int 0)))
  (sSeq (sFor (ycY (sVar 1) (yae fLen (yab (sVar 0) sNil)) (sLit (.int 8))) (.nm 3) ybP)
  (sSeq (sIf (yam (sOp2 fGe (sVar 2) (sOp2 fPow (sLit (.int 10)) (sLit (.int 18))))) (sRet (ycW (yab (sVar 2) sNil))) yaw)
  (sSeq (sSet 2 (sOp2 fAdd (sVar 2) (yae fSum (yab (ybb [] (iVal (sVar 0)) sYes (sOp2 fMod (sVar 0) (sOp2 fPow (sLit (.int 10)) (sLit (.int 18))))) sNil))))
  (sSeq (sSet 4 (sLit (.int 0)))
  (sSeq (sFor (yb3 (sLit (.int 16))) (.nm 3) ybQ)
  (sRet (ycW (yab (sVar 4) sNil)))))))))
def yaL:Fn:=mkFn 2 3
  (sSeq (sSet 2 (sOp2 fMod (sOp2 fIx (sVar 0) (sLit (.int 0))) (sVar 1)))
  (sSeq (yes (sVar 0) (sLit (.int 0)) (sOp2 fDiv (sOp2 fIx (sVar 0) (sLit (.int 0))) (sVar 1)))
  (sRet (sVar 2))))
def ybJ:SS :=
  (sSet 5 (sOp2 fAdd (sVar 5) (sOp2 fIx (sVar 4) (yae yaL (yab (sVar 0) (yab (yae fLen (yab (sVar 4) sNil)) sNil))))))
def ybN:Fn:=mkFn 2 7
  (sSeq (sSet 2 (sLit (.str "abcdefghijklmnopqrstuvwxyz")))
  (sSeq (sSet 3 (sOp2 fAdd (sOp2 fAdd (sVar 2) (sBM0 yet yez (sVar 2))) (sLit (.str " !\"#$&'()*+,-./0123456789:;<=>?\x40[\\]^_`{|}~\n"))))
  (sSeq (sSet 4 (sOp2 fIx (sLst (yab (sLit (.str "ab")) (yab (sLit (.str "aaab")) (yab (sLit (.str "a\n")) (yab (sLit (.str "ab \n")) (yab (sVar 3) sNil)))))) (yae yaL (yab (sVar 0) (yab (sLit (.int 5)) sNil)))))
  (sSeq (sSet 5 (sLit (.str "")))
  (sSeq (sFor (yb3 (yae yaL (yab (sVar 0) (yab (sOp2 fAdd (sVar 1) (sLit (.int 1))) sNil)))) (.nm 6) ybJ)
  (sRet (sVar 5)))))))
def ycv:Fn:=mkFn 2 5
  (sSeq (sSet 2 (yae ybN (yab (sVar 0) (yab (sVar 1) sNil))))
  (sSeq (sSet 3 (yae yaL (yab (sVar 0) (yab (sLit (.int 5)) sNil))))
  (sSeq (sSet 4 (yae yaL (yab (sVar 0) (yab (sOp2 fAdd (yae fLen (yab (sVar 2) sNil)) (sLit (.int 1))) sNil))))
  (sSeq (sIf (yam (sOp2 fLt (sVar 3) (sLit (.int 2)))) (sRet (sTup (yab (sVar 2) (yab (sVar 2) sNil)))) yaw)
  (sSeq (sIf (yam (sOp2 fEq (sVar 3) (sLit (.int 2)))) (sRet (sTup (yab (sVar 2) (yab (sOp2 fAdd (sOp2 fAdd (sCut (sVar 2) none (some (sVar 4))) (sOp2 fIx (sLit (.str "ab\n")) (yae yaL (yab (sVar 0) (yab (sLit (.int 3)) sNil))))) (sCut (sVar 2) (some (sOp2 fAdd (sVar 4) (sLit (.int 1)))) none)) sNil)))) yaw)
  (sSeq (sIf (yam (sOp2 fEq (sVar 3) (sLit (.int 3)))) (sRet (sTup (yab (sCut (sVar 2) none (some (sVar 4))) (yab (sVar 2) sNil)))) yaw)
  (sRet (sTup (yab (sVar 2) (yab (yae ybN (yab (sVar 0) (yab (sVar 1) sNil))) sNil))))))))))
def yci:Fn:=mkFn 1 1
  (sRet (yae fLen (yab (Sm.sFld 0 0 (sVar 0)) sNil)))
def ydK:Fn:=mkFn 1 1
  (sRet (ydH (sIsB "int" (sVar 0)) (yfi (sIsB "bool" (sVar 0)))))
def yce:Fn:=mkFn 2 2
  (sRet (ydH (yae ydK (yab (sVar 1) sNil)) (ycg fLe fLe (sLit (.int 1)) (sVar 1) (yae fLen (yab (Sm.sFld 0 0 (sVar 0)) sNil)))))
def yba:Fn:=mkFn 2 2
  (sIf (sNot (ybi (yap 0 yce (sVar 0) (yab (sVar 1) sNil)))) (yc5 2 (yab (sLit (.str "no piece of the shelf has this number")) sNil)) yaw)
def yaP:Fn:=mkFn 2 2
  (sIf (yam (sOp2 fNe (sVar 1) (sLit (.int 0)))) (yaU (yap 0 yba (sVar 0) (yab (sVar 1) sNil))) yaw)
def ybW:Fn:=mkFn 2 2
  (sSeq (yaU (yap 0 yaP (sVar 0) (yab (sVar 1) sNil)))
  (sRet (sIfE (yam (sOp2 fEq (sVar 1) (sLit (.int 0)))) (sLst sNil) (ycW (yab (sVar 1) sNil)))))
def ya2:Fn:=mkFn 2 2
  (sSeq (yaU (yap 0 yaP (sVar 0) (yab (sVar 1) sNil)))
  (sRet (sOp2 fIx (Sm.sFld 0 2 (sVar 0)) (sVar 1))))
def ya9:Fn:=mkFn 2 2
  (sSeq (sIf (ybi (sIsB "str" (sVar 1))) (sRet (yae fLen (yab (sVar 1) sNil))) yaw)
  (sRet (yap 0 ya2 (sVar 0) (yab (sVar 1) sNil))))
def yaA:Fn:=mkFn 2 2
  (sSeq (yaU (yap 0 yba (sVar 0) (yab (sVar 1) sNil)))
  (sRet (sOp2 fIx (Sm.sFld 0 0 (sVar 0)) (sOp2 fSub (sVar 1) (sLit (.int 1))))))
def ybd:Fn:=mkFn 3 4
  (sSeq (sIf (ybi (sIsB "str" (sVar 2))) (sRet (sLit (.bl false))) yaw)
  (sSeq (sSet 3 (yap 0 yaA (sVar 0) (yab (sVar 2) sNil)))
  (sSeq (sIf (yam (sOp2 fEq (sOp2 fIx (sVar 3) (sLit (.int 0))) (sLit (.str "leaf")))) (sRet (sLit (.bl false))) yaw)
  (sSeq (yaU (sBM yaB yax (sVar 1) (yab (sOp2 fIx (sVar 3) (sLit (.int 2))) sNil)))
  (sSeq (yaU (sBM yaB yax (sVar 1) (yab (sOp2 fIx (sVar 3) (sLit (.int 1))) sNil)))
  (sRet (sLit (.bl true))))))))
def yaO:SS :=
  (sSeq (sSet 2 (sBM0 yaB mPop (sVar 1)))
  (sSeq (sIf (ybi (sIsB "str" (sVar 2))) (sRet (sVar 2)) yaw)
  (sIf (sNot (ybi (yae ybd (yab (sVar 0) (yab (sVar 1) (yab (sVar 2) sNil)))))) (sRet (sOp2 fIx (yap 0 yaA (sVar 0) (yab (sVar 2) sNil)) (sLit (.int 1)))) yaw)))
def ybr:Fn:=mkFn 2 3
  (sSeq (yaG (yam (sOp2 fNe (sVar 1) (sLst sNil))) yaO yaH)
  (sRet (sLit (.str ""))))
def ycA:Fn:=mkFn 2 2
  (sIf (yam (sOp2 fNe (sVar 1) (sLit (.str "")))) (yaU (sBM yaB yax (sVar 0) (yab (sVar 1) sNil))) yaw)
def ybX:SS :=
  (sSet 5 (sOp2 fAdd (sVar 5) (sLit (.int 1))))
def ycj:Fn:=mkFn 3 6
  (sSeq (sSet 3 (yae ybr (yab (sVar 0) (yab (sVar 1) sNil))))
  (sSeq (sSet 4 (yae ybr (yab (sVar 0) (yab (sVar 2) sNil))))
  (sSeq (sSet 5 (sLit (.int 0)))
  (sSeq (yaG (sAnd (yam (sOp2 fLt (sVar 5) (yae yc8 (yab (yae fLen (yab (sVar 3) sNil)) (yab (yae fLen (yab (sVar 4) sNil)) sNil))))) (yam (sOp2 fEq (sOp2 fIx (sVar 3) (sVar 5)) (sOp2 fIx (sVar 4) (sVar 5))))) ybX yaH)
  (sSeq (yaU (yae ycA (yab (sVar 1) (yab (sCut (sVar 3) (some (sVar 5)) none) sNil))))
  (sSeq (yaU (yae ycA (yab (sVar 2) (yab (sCut (sVar 4) (some (sVar 5)) none) sNil))))
  (sRet (sCut (sVar 3) none (some (sVar 5))))))))))
def ybj:SS :=
  (sSeq (sSet 3 (sOp2 fLt (yae ya9 (yab (sVar 0) (yab (sOp2 fIx (sVar 1) (sOp1 fNeg (sLit (.int 1)))) sNil))) (yae ya9 (yab (sVar 0) (yab (sOp2 fIx (sVar 2) (sOp1 fNeg (sLit (.int 1)))) sNil)))))
  (sSeq (sSet 4 (sIfE (ybi (sVar 3)) (sVar 2) (sVar 1)))
  (sSeq (sSet 5 (sBM0 yaB mPop (sVar 4)))
  (sIf (sNot (ybi (yae ybd (yab (sVar 0) (yab (sVar 4) (yab (sVar 5) sNil)))))) (sSeq (yaU (sBM yaB yax (sVar 4) (yab (sVar 5) sNil)))
  (sRet (yae ycj (yab (sVar 0) (yab (sVar 1) (yab (sVar 2) sNil)))))) yaw))))
def ybv:Fn:=mkFn 3 6
  (sSeq (yaG (yam (sOp2 fNe (sOp2 fIx (sVar 1) (sOp1 fNeg (sLit (.int 1)))) (sOp2 fIx (sVar 2) (sOp1 fNeg (sLit (.int 1)))))) ybj yaH)
  (sSeq (yaU (sBM0 yaB mPop (sVar 2)))
  (sRet (sBM0 yaB mPop (sVar 1)))))
def ya1:SS :=
  (sSeq (sSet 4 (yae ybv (yab (sVar 0) (yab (sVar 1) (yab (sVar 2) sNil)))))
  (sSeq (sIf (yam (sOp2 fEq (sVar 4) (sLit (.str "")))) yfG yaw)
  (yaU (sBM yaB yax (sVar 3) (yab (sVar 4) sNil)))))
def ycZ:Fn:=mkFn 3 5
  (sSeq (sSet 3 (ycW sNil))
  (sSeq (yaG (sAnd (yam (sOp2 fNe (sVar 1) (sLst sNil))) (yam (sOp2 fNe (sVar 2) (sLst sNil)))) ya1 yaH)
  (sRet (sVar 3))))
def yca:Fn:=mkFn 2 2
  (sRet (sCut (yae ybr (yab (sVar 0) (yab (sVar 1) sNil))) none (some (sLit (.int 1)))))
def yaz:Fn:=mkFn 3 7
  (sSeq (sSet 3 (yae yde (yab (yap 0 ya2 (sVar 0) (yab (sVar 1) sNil)) (yab (yap 0 ya2 (sVar 0) (yab (sVar 2) sNil)) sNil))))
  (sSeq (sIf (sAnd (yam (sOp2 fNe (sVar 1) (sVar 2))) (yam (sOp2 fGt (sVar 3) (sLit (.int 10000))))) (yc5 5 (yab (sLit (.str "unlike texts of more than ten thousand signs are not held together")) sNil)) yaw)
  (sSeq (sSet 4 (yae ybW (yab (sVar 0) (yab (sVar 1) sNil))))
  (sSeq (sSet 5 (yae ybW (yab (sVar 0) (yab (sVar 2) sNil))))
  (sSeq (sSet 6 (yae ycZ (yab (sVar 0) (yab (sVar 4) (yab (sVar 5) sNil)))))
  (sSeq (sIf (sAnd (yam (sOp2 fEq (sVar 4) (sLst sNil))) (yam (sOp2 fEq (sVar 5) (sLst sNil)))) (sRet (sTup (yab (sLit (.str "alike")) (yab (sVar 6) sNil)))) yaw)
  (sRet (sTup (yab (sLit (.str "apart")) (yab (sVar 6) (yab (yae yca (yab (sVar 0) (yab (sVar 4) sNil))) (yab (yae yca (yab (sVar 0) (yab (sVar 5) sNil))) sNil))))))))))))
def yb9:Fn:=mkFn 1 1
  (sRet (sOrV (sOp2 fEq (sVar 0) (sLit (.str "\n"))) (ycg fLe fLe (sLit (.str " ")) (sVar 0) (sLit (.str "~")))))
def ydj:Fn:=mkFn 1 1
  (sSeq (sIf (sNot (ybi (sIsB "str" (sVar 0)))) (sRet (sLit (.bl false))) yaw)
  (sRet (yae fAll (yab (ybb [] (iVal (sVar 0)) sYes (yae yb9 (yab (sVar 0) sNil))) sNil))))
def ydL:Fn:=mkFn 1 1
  (sRet (ydH (yae ydj (yab (sVar 0) sNil)) (ycg fLe fLe (sLit (.int 1)) (yae fLen (yab (sVar 0) sNil)) (sLit (.int 8)))))
def yc6:Fn:=mkFn 2 3
  (sSeq (yaU (sBM yaB yax (Sm.sFld 0 0 (sVar 0)) (yab (sVar 1) sNil)))
  (sSeq (sSet 2 (yae fLen (yab (Sm.sFld 0 0 (sVar 0)) sNil)))
  (sSeq (yes (Sm.sFld 0 1 (sVar 0)) (sVar 1) (sVar 2))
  (sRet (sVar 2)))))
def ydW:Fn:=mkFn 1 1
  (sRet (sBM yet yeJ (sVar 0) (yab (sLit (.str "\n")) sNil)))
def ybY:Fn:=mkFn 2 4
  (sSeq (sSet 2 (yap 0 yc6 (sVar 0) (yab (sVar 1) sNil)))
  (sSeq (sSet 3 (sOp2 fIx (sVar 1) (sLit (.int 1))))
  (sSeq (yaU (sBM yaB yax (Sm.sFld 0 2 (sVar 0)) (yab (yae fLen (yab (sVar 3) sNil)) sNil)))
  (sSeq (yaU (sBM yaB yax (Sm.sFld 0 3 (sVar 0)) (yab (yae ydW (yab (sVar 3) sNil)) sNil)))
  (sSeq (yaU (sBM yaB yax (Sm.sFld 0 4 (sVar 0)) (yab (sLit (.int 1)) sNil)))
  (sSeq (yaU (sBM yaB yax (Sm.sFld 0 5 (sVar 0)) (yab (sLit (.int 0)) sNil)))
  (sSeq (yaU (sBM yaB yax (Sm.sFld 0 6 (sVar 0)) (yab (sVar 2) sNil)))
  (yaU (sBM yaB yax (Sm.sFld 0 7 (sVar 0)) (yab (sVar 2) sNil))))))))))
def yaT:Fn:=mkFn 2 3
  (sSeq (sIf (sNot (ybi (yae ydL (yab (sVar 1) sNil)))) (yc5 1 (yab (sLit (.str "a leaf is a plain text of one to eight signs")) sNil)) yaw)
  (sSeq (sSet 2 (sTup (yab (sLit (.str "leaf")) (yab (sVar 1) sNil))))
  (sSeq (sIf (yam (sOp2 yeX (sVar 2) (Sm.sFld 0 1 (sVar 0)))) (yaU (yap 0 ybY (sVar 0) (yab (sVar 2) sNil))) yaw)
  (sRet (sOp2 fIx (Sm.sFld 0 1 (sVar 0)) (sVar 2))))))
def yc0:Fn:=mkFn 1 1
  (sIf (yam (sOp2 fGt (sVar 0) (sLit (.int 1000000000000000000)))) (yc5 5 (yab (sLit (.str "the text would have more than 10 ** 18 signs")) sNil)) yaw)
def ybM:Fn:=mkFn 2 2
  (sSeq (yaU (yap 0 yaP (sVar 0) (yab (sVar 1) sNil)))
  (sRet (sOp2 fIx (Sm.sFld 0 7 (sVar 0)) (sVar 1))))
def ybE:Fn:=mkFn 2 2
  (sSeq (yaU (yap 0 yaP (sVar 0) (yab (sVar 1) sNil)))
  (sRet (sOp2 fIx (Sm.sFld 0 6 (sVar 0)) (sVar 1))))
def ydz:Fn:=mkFn 3 3
  (sRet (sOp2 fGt (sOp2 fAdd (yap 0 ya2 (sVar 0) (yab (yap 0 ybM (sVar 0) (yab (sVar 1) sNil)) sNil)) (yap 0 ya2 (sVar 0) (yab (yap 0 ybE (sVar 0) (yab (sVar 2) sNil)) sNil))) (sLit (.int 8))))
def ya6:Fn:=mkFn 3 4
  (sSeq (yaU (yap 0 yba (sVar 0) (yab (sVar 1) sNil)))
  (sSeq (yaU (yap 0 yba (sVar 0) (yab (sVar 2) sNil)))
  (sSeq (sSet 3 (sOp2 fAdd (sOp2 fIx (Sm.sFld 0 2 (sVar 0)) (sOp2 fIx (Sm.sFld 0 7 (sVar 0)) (sVar 1))) (sOp2 fIx (Sm.sFld 0 2 (sVar 0)) (sOp2 fIx (Sm.sFld 0 6 (sVar 0)) (sVar 2)))))
  (sSeq (sIf (yam (sOp2 fLe (sVar 3) (sLit (.int 8)))) (yc5 3 (yab (sLit (.str "the leaves where the parts meet have no more than eight signs together")) sNil)) yaw)
  (sSeq (sIf (yam (sOp2 fGt (yae fAbs (yab (sOp2 fSub (sOp2 fIx (Sm.sFld 0 5 (sVar 0)) (sVar 1)) (sOp2 fIx (Sm.sFld 0 5 (sVar 0)) (sVar 2))) sNil)) (sLit (.int 1)))) (yc5 4 (yab (sLit (.str "the heights of the parts differ by more than one")) sNil)) yaw)
  (sIf (yam (sOp2 fGt (sOp2 fAdd (sOp2 fIx (Sm.sFld 0 2 (sVar 0)) (sVar 1)) (sOp2 fIx (Sm.sFld 0 2 (sVar 0)) (sVar 2))) (sLit (.int 1000000000000000000)))) (yc5 5 (yab (sLit (.str "the fork would have more than 10 ** 18 signs")) sNil)) yaw))))))
def ybZ:Fn:=mkFn 2 4
  (sSeq (yaU (yap 0 yc6 (sVar 0) (yab (sVar 1) sNil)))
  (sSeq (sSet 2 (sOp2 fIx (sVar 1) (sLit (.int 1))))
  (sSeq (sSet 3 (sOp2 fIx (sVar 1) (sLit (.int 2))))
  (sSeq (yaU (sBM yaB yax (Sm.sFld 0 2 (sVar 0)) (yab (sOp2 fAdd (sOp2 fIx (Sm.sFld 0 2 (sVar 0)) (sVar 2)) (sOp2 fIx (Sm.sFld 0 2 (sVar 0)) (sVar 3))) sNil)))
  (sSeq (yaU (sBM yaB yax (Sm.sFld 0 3 (sVar 0)) (yab (sOp2 fAdd (sOp2 fIx (Sm.sFld 0 3 (sVar 0)) (sVar 2)) (sOp2 fIx (Sm.sFld 0 3 (sVar 0)) (sVar 3))) sNil)))
  (sSeq (yaU (sBM yaB yax (Sm.sFld 0 4 (sVar 0)) (yab (sOp2 fAdd (sOp2 fIx (Sm.sFld 0 4 (sVar 0)) (sVar 2)) (sOp2 fIx (Sm.sFld 0 4 (sVar 0)) (sVar 3))) sNil)))
  (sSeq (yaU (sBM yaB yax (Sm.sFld 0 5 (sVar 0)) (yab (sOp2 fAdd (yae yde (yab (sOp2 fIx (Sm.sFld 0 5 (sVar 0)) (sVar 2)) (yab (sOp2 fIx (Sm.sFld 0 5 (sVar 0)) (sVar 3)) sNil))) (sLit (.int 1))) sNil)))
  (sSeq (yaU (sBM yaB yax (Sm.sFld 0 6 (sVar 0)) (yab (sOp2 fIx (Sm.sFld 0 6 (sVar 0)) (sVar 2)) sNil)))
  (yaU (sBM yaB yax (Sm.sFld 0 7 (sVar 0)) (yab (sOp2 fIx (Sm.sFld 0 7 (sVar 0)) (sVar 3)) sNil)))))))))))
def yah:Fn:=mkFn 3 4
  (sSeq (yaU (yap 0 ya6 (sVar 0) (yab (sVar 1) (yab (sVar 2) sNil))))
  (sSeq (sSet 3 (sTup (yab (sLit (.str "fork")) (yab (sVar 1) (yab (sVar 2) sNil)))))
  (sSeq (sIf (yam (sOp2 yeX (sVar 3) (Sm.sFld 0 1 (sVar 0)))) (yaU (yap 0 ybZ (sVar 0) (yab (sVar 3) sNil))) yaw)
  (sRet (sOp2 fIx (Sm.sFld 0 1 (sVar 0)) (sVar 3))))))
def ydX (G:Fn):Fn:=mkFn 3 4
  (sSeq (sSet 3 (yap 0 yaA (sVar 0) (yab (sVar 1) sNil)))
  (sSeq (sIf (yam (sOp2 fEq (sOp2 fIx (sVar 3) (sLit (.int 0))) (sLit (.str "leaf")))) (sRet (sVar 2)) yaw)
  (sRet (yap 0 yah (sVar 0) (yab (sOp2 fIx (sVar 3) (sLit (.int 1))) (yab (yae G (yab (sVar 0) (yab (sOp2 fIx (sVar 3) (sLit (.int 2))) (yab (sVar 2) sNil)))) sNil))))))
def ybf:Nat->Fn
 | 0=>mkFn 3 4 (fun _ _=>.bad)
 | d+1=>ydX (ybf d)
def yaW:Fn:=mkFn 2 2
  (sSeq (yaU (yap 0 yaP (sVar 0) (yab (sVar 1) sNil)))
  (sRet (sOp2 fIx (Sm.sFld 0 5 (sVar 0)) (sVar 1))))
def yaX:Fn:=mkFn 3 7
  (sSeq (sIf (yam (sOp2 fLt (sOp2 fSub (yap 0 yaW (sVar 0) (yab (sVar 2) sNil)) (yap 0 yaW (sVar 0) (yab (sVar 1) sNil))) (sLit (.int 2)))) (sRet (yap 0 yah (sVar 0) (yab (sVar 1) (yab (sVar 2) sNil)))) yaw)
  (sSeq (sSet 3 (yap 0 yaA (sVar 0) (yab (sVar 2) sNil)))
  (sSeq (sSet 4 (sOp2 fIx (sVar 3) (sLit (.int 1))))
  (sSeq (sSet 5 (sOp2 fIx (sVar 3) (sLit (.int 2))))
  (sSeq (sIf (yam (sOp2 fLe (yap 0 yaW (sVar 0) (yab (sVar 4) sNil)) (yap 0 yaW (sVar 0) (yab (sVar 5) sNil)))) (sRet (yap 0 yah (sVar 0) (yab (yap 0 yah (sVar 0) (yab (sVar 1) (yab (sVar 4) sNil))) (yab (sVar 5) sNil)))) yaw)
  (sSeq (sSet 6 (yap 0 yaA (sVar 0) (yab (sVar 4) sNil)))
  (sRet (yap 0 yah (sVar 0) (yab (yap 0 yah (sVar 0) (yab (sVar 1) (yab (sOp2 fIx (sVar 6) (sLit (.int 1))) sNil))) (yab (yap 0 yah (sVar 0) (yab (sOp2 fIx (sVar 6) (sLit (.int 2))) (yab (sVar 5) sNil))) sNil))))))))))
def ycP (G:Fn):Fn:=mkFn 2 4
  (sSeq (sSet 2 (yap 0 yaA (sVar 0) (yab (sVar 1) sNil)))
  (sSeq (sIf (yam (sOp2 fEq (sOp2 fIx (sVar 2) (sLit (.int 0))) (sLit (.str "leaf")))) (sRet (sLit (.int 0))) yaw)
  (sSeq (sSet 3 (yae G (yab (sVar 0) (yab (sOp2 fIx (sVar 2) (sLit (.int 1))) sNil))))
  (sSeq (sIf (yam (sOp2 fEq (sVar 3) (sLit (.int 0)))) (sRet (sOp2 fIx (sVar 2) (sLit (.int 2)))) yaw)
  (sRet (yae yaX (yab (sVar 0) (yab (sVar 3) (yab (sOp2 fIx (sVar 2) (sLit (.int 2))) sNil)))))))))
def yaE:Nat->Fn
 | 0=>mkFn 2 4 (fun _ _=>.bad)
 | d+1=>ycP (yaE d)
def ya4:Fn:=mkFn 3 7
  (sSeq (sIf (yam (sOp2 fLt (sOp2 fSub (yap 0 yaW (sVar 0) (yab (sVar 1) sNil)) (yap 0 yaW (sVar 0) (yab (sVar 2) sNil))) (sLit (.int 2)))) (sRet (yap 0 yah (sVar 0) (yab (sVar 1) (yab (sVar 2) sNil)))) yaw)
  (sSeq (sSet 3 (yap 0 yaA (sVar 0) (yab (sVar 1) sNil)))
  (sSeq (sSet 4 (sOp2 fIx (sVar 3) (sLit (.int 1))))
  (sSeq (sSet 5 (sOp2 fIx (sVar 3) (sLit (.int 2))))
  (sSeq (sIf (yam (sOp2 fLe (yap 0 yaW (sVar 0) (yab (sVar 5) sNil)) (yap 0 yaW (sVar 0) (yab (sVar 4) sNil)))) (sRet (yap 0 yah (sVar 0) (yab (sVar 4) (yab (yap 0 yah (sVar 0) (yab (sVar 5) (yab (sVar 2) sNil))) sNil)))) yaw)
  (sSeq (sSet 6 (yap 0 yaA (sVar 0) (yab (sVar 5) sNil)))
  (sRet (yap 0 yah (sVar 0) (yab (yap 0 yah (sVar 0) (yab (sVar 4) (yab (sOp2 fIx (sVar 6) (sLit (.int 1))) sNil))) (yab (yap 0 yah (sVar 0) (yab (sOp2 fIx (sVar 6) (sLit (.int 2))) (yab (sVar 2) sNil))) sNil))))))))))
def yd8 (G:Fn):Fn:=mkFn 3 5
  (sSeq (sSet 3 (sOp2 fSub (yap 0 yaW (sVar 0) (yab (sVar 1) sNil)) (yap 0 yaW (sVar 0) (yab (sVar 2) sNil))))
  (sSeq (sIf (yam (sOp2 fGt (sVar 3) (sLit (.int 1)))) (sSeq (sSet 4 (yap 0 yaA (sVar 0) (yab (sVar 1) sNil)))
  (sRet (yae yaX (yab (sVar 0) (yab (sOp2 fIx (sVar 4) (sLit (.int 1))) (yab (yae G (yab (sVar 0) (yab (sOp2 fIx (sVar 4) (sLit (.int 2))) (yab (sVar 2) sNil)))) sNil)))))) yaw)
  (sSeq (sIf (yam (sOp2 fLt (sVar 3) (sOp1 fNeg (sLit (.int 1))))) (sSeq (sSet 4 (yap 0 yaA (sVar 0) (yab (sVar 2) sNil)))
  (sRet (yae ya4 (yab (sVar 0) (yab (yae G (yab (sVar 0) (yab (sVar 1) (yab (sOp2 fIx (sVar 4) (sLit (.int 1))) sNil)))) (yab (sOp2 fIx (sVar 4) (sLit (.int 2))) sNil)))))) yaw)
  (sRet (yap 0 yah (sVar 0) (yab (sVar 1) (yab (sVar 2) sNil)))))))
def ybe:Nat->Fn
 | 0=>mkFn 3 5 (fun _ _=>.bad)
 | d+1=>yd8 (ybe d)
def yda:Fn:=mkFn 3 6
  (sSeq (sSet 3 (sOp2 fAdd (sOp2 fIx (yap 0 yaA (sVar 0) (yab (yap 0 ybM (sVar 0) (yab (sVar 1) sNil)) sNil)) (sLit (.int 1))) (sOp2 fIx (yap 0 yaA (sVar 0) (yab (yap 0 ybE (sVar 0) (yab (sVar 2) sNil)) sNil)) (sLit (.int 1)))))
  (sSeq (sSet 4 (yae (ybf 90) (yab (sVar 0) (yab (sVar 1) (yab (yap 0 yaT (sVar 0) (yab (sVar 3) sNil)) sNil)))))
  (sSeq (sSet 5 (yae (yaE 90) (yab (sVar 0) (yab (sVar 2) sNil))))
  (sSeq (sIf (yam (sOp2 fEq (sVar 5) (sLit (.int 0)))) (sRet (sVar 4)) yaw)
  (sRet (yae (ybe 90) (yab (sVar 0) (yab (sVar 4) (yab (sVar 5) sNil)))))))))
def yby:Fn:=mkFn 3 3
  (sSeq (yaU (yae yc0 (yab (sOp2 fAdd (yap 0 ya2 (sVar 0) (yab (sVar 1) sNil)) (yap 0 ya2 (sVar 0) (yab (sVar 2) sNil))) sNil)))
  (sSeq (sIf (yam (sOp2 fEq (sVar 1) (sLit (.int 0)))) (sRet (sVar 2)) yaw)
  (sSeq (sIf (yam (sOp2 fEq (sVar 2) (sLit (.int 0)))) (sRet (sVar 1)) yaw)
  (sSeq (sIf (ybi (yae ydz (yab (sVar 0) (yab (sVar 1) (yab (sVar 2) sNil))))) (sRet (yae (ybe 90) (yab (sVar 0) (yab (sVar 1) (yab (sVar 2) sNil))))) yaw)
  (sRet (yae yda (yab (sVar 0) (yab (sVar 1) (yab (sVar 2) sNil)))))))))
def yen (G:Fn):Fn:=mkFn 2 3
  (sSeq (sIf (yam (sOp2 fEq (yae fLen (yab (sVar 1) sNil)) (sLit (.int 1)))) (sRet (sOp2 fIx (sVar 1) (sLit (.int 0)))) yaw)
  (sSeq (sSet 2 (sOp2 fDiv (yae fLen (yab (sVar 1) sNil)) (sLit (.int 2))))
  (sRet (yap 0 yah (sVar 0) (yab (yae G (yab (sVar 0) (yab (sCut (sVar 1) none (some (sVar 2))) sNil))) (yab (yae G (yab (sVar 0) (yab (sCut (sVar 1) (some (sVar 2)) none) sNil))) sNil))))))
def yb0:Nat->Fn
 | 0=>mkFn 2 3 (fun _ _=>.bad)
 | d+1=>yen (yb0 d)
def ydn:Fn:=mkFn 2 3
  (sSeq (sIf (sNot (ybi (yae ydj (yab (sVar 1) sNil)))) (yc5 1 (yab (sLit (.str "a text is built of a plain text")) sNil)) yaw)
  (sSeq (sIf (yam (sOp2 fGt (yae fLen (yab (sVar 1) sNil)) (sLit (.int 10000)))) (yc5 5 (yab (sLit (.str "a text is built of ten thousand signs at most")) sNil)) yaw)
  (sSeq (sIf (yam (sOp2 fEq (sVar 1) (sLit (.str "")))) (sRet (sLit (.int 0))) yaw)
  (sSeq (sSet 2 (ybb [0,1] (ycY (sLit (.int 0)) (yae fLen (yab (sVar 1) sNil)) (sLit (.int 8))) sYes (yap 0 yaT (sVar 1) (yab (sCut (sVar 2) (some (sVar 0)) (some (sOp2 fAdd (sVar 0) (sLit (.int 8))))) sNil))))
  (sRet (yae (yb0 20) (yab (sVar 0) (yab (sVar 2) sNil))))))))
def ybK:SS :=
  (sSeq (sSet 6 (yae yaL (yab (sVar 2) (yab (sOp2 fAdd (yae fLen (yab (sVar 4) sNil)) (sLit (.int 1))) sNil))))
  (sSeq (sSet 3 (yae yby (yab (sVar 0) (yab (sVar 3) (yab (yae ydn (yab (sVar 0) (yab (sCut (sVar 4) none (some (sVar 6))) sNil))) sNil)))))
  (sSet 4 (sCut (sVar 4) (some (sVar 6)) none))))
def ycB:Fn:=mkFn 3 7
  (sSeq (sSet 3 (sLit (.int 0)))
  (sSeq (sSet 4 (sVar 1))
  (sSeq (sFor (yb3 (yae yaL (yab (sVar 2) (yab (sLit (.int 5)) sNil)))) (.nm 5) ybK)
  (sRet (yae yby (yab (sVar 0) (yab (sVar 3) (yab (yae ydn (yab (sVar 0) (yab (sVar 4) sNil))) sNil))))))))
def yck:SS :=
  (sSet 2 (sOp2 fAdd (sVar 2) (sLit (.int 1))))
def ydk:Fn:=mkFn 2 3
  (sSeq (sSet 2 (sLit (.int 0)))
  (sSeq (yaG (sAnd (yam (sOp2 fLt (sVar 2) (yae yc8 (yab (yae fLen (yab (sVar 0) sNil)) (yab (yae fLen (yab (sVar 1) sNil)) sNil))))) (yam (sOp2 fEq (sOp2 fIx (sVar 0) (sVar 2)) (sOp2 fIx (sVar 1) (sVar 2))))) yck yaH)
  (sRet (sVar 2))))
def ydA:Fn:=mkFn 1 1
  (sRet (ydH (sIsB "int" (sVar 0)) (yfi (sIsB "bool" (sVar 0)))))
def ybl:SS :=
  (sIf (ybi (sIsB "str" (sVar 3))) (sSeq (sSet 4 (ybb [] (iVal (sVar 3)) (sOr (yam (ycg fLe fLe (sLit (.str " ")) (sVar 0) (sLit (.str "~")))) (yam (sOp2 fEq (sVar 0) (sLit (.str "\n"))))) (sVar 0)))
  (sSeq (sIf (sOr (sNot (yam (ycg fLt fLt (sLit (.int 0)) (yae fLen (yab (sVar 3) sNil)) (sLit (.int 9))))) (yam (sOp2 fLt (yae fLen (yab (sVar 4) sNil)) (yae fLen (yab (sVar 3) sNil))))) (sRet (sLit .non)) yaw)
  (sSet 2 (sOp2 yel (sVar 2) (sVar 4))))) (sIf (sAnd (ybi (yae ydA (yab (sVar 3) sNil))) (yam (ycg fLt fLe (sLit (.int 0)) (sVar 3) (yap 0 yci (sVar 0) sNil)))) (yaU (sBM yaB yax (sVar 2) (yab (sVar 3) sNil))) (sRet (sLit .non))))
def ydM:Fn:=mkFn 2 5
  (sSeq (sSet 2 (ycW sNil))
  (sSeq (sFor (iVal (sVar 1)) (.nm 3) ybl)
  (sRet (sVar 2))))
def yaI:SS :=
  (sSeq (sIf (yam (sOp2 fGe (sOp2 fAdd (sVar 3) (sVar 5)) (yae fLen (yab (sVar 2) sNil)))) (sRet (sOp2 fAdd (yae fLen (yab (sVar 2) sNil)) (sLit (.int 1)))) yaw)
  (sIf (yam (sOp2 fNe (sOp2 fIx (sVar 2) (sOp2 fAdd (sVar 3) (sVar 5))) (sVar 6))) (sRet (sLit .non)) yaw))
def yaR (G:Fn):Fn:=mkFn 4 8
  (sSeq (sIf (yam (sOp2 fGe (sVar 3) (yae fLen (yab (sVar 2) sNil)))) (sRet (sOp2 fAdd (yae fLen (yab (sVar 2) sNil)) (sLit (.int 1)))) yaw)
  (sSeq (sIf (yam (sOp2 fEq (sOp2 fIx (sVar 2) (sVar 3)) (sVar 1))) (sRet (sOp2 fAdd (sVar 3) (sLit (.int 1)))) yaw)
  (sSeq (sSet 4 (yap 0 yaA (sVar 0) (yab (sVar 1) sNil)))
  (sSeq (sIf (yam (sOp2 fEq (sOp2 fIx (sVar 4) (sLit (.int 0))) (sLit (.str "leaf")))) (sSeq (sFor (ydR (sOp2 fIx (sVar 4) (sLit (.int 1)))) (.tup [5,6]) yaI)
  (sRet (sOp2 fAdd (sVar 3) (yae fLen (yab (sOp2 fIx (sVar 4) (sLit (.int 1))) sNil))))) yaw)
  (sSeq (sSet 7 (yae G (yab (sVar 0) (yab (sOp2 fIx (sVar 4) (sLit (.int 1))) (yab (sVar 2) (yab (sVar 3) sNil))))))
  (sSeq (sIf (sOr (yam (sOp2 fIsN (sVar 7) (sLit .non))) (yam (sOp2 fGt (sVar 7) (yae fLen (yab (sVar 2) sNil))))) (sRet (sVar 7)) yaw)
  (sRet (yae G (yab (sVar 0) (yab (sOp2 fIx (sVar 4) (sLit (.int 2))) (yab (sVar 2) (yab (sVar 7) sNil))))))))))))
def yay:Nat->Fn
 | 0=>mkFn 4 8 (fun _ _=>.bad)
 | d+1=>yaR (yay d)
def ybC:Fn:=mkFn 3 5
  (sSeq (sSet 3 (yae ydM (yab (sVar 0) (yab (sVar 2) sNil))))
  (sSeq (sIf (sOr (yam (sOp2 fIsN (sVar 3) (sLit .non))) (yam (sOp2 fEq (sVar 1) (sLit (.int 0))))) (sRet (sTup (yab (sOp2 fEq (sVar 3) (sLst sNil)) (yab (sOp2 fEq (sVar 3) (sLst sNil)) sNil)))) yaw)
  (sSeq (sSet 4 (yae (yay 90) (yab (sVar 0) (yab (sVar 1) (yab (sVar 3) (yab (sLit (.int 0)) sNil))))))
  (sRet (sTup (yab (ydH (sOp2 yd5 (sVar 4) (sLit .non)) (sOp2 fGe (sVar 4) (yae fLen (yab (sVar 3) sNil)))) (yab (sOp2 fEq (sVar 4) (yae fLen (yab (sVar 3) sNil))) sNil)))))))
def ycb (G:Fn):Fn:=mkFn 2 3
  (sSeq (sIf (yam (sOp2 fEq (sVar 1) (sLit (.int 0)))) (sRet (sLit (.str ""))) yaw)
  (sSeq (sSet 2 (yap 0 yaA (sVar 0) (yab (sVar 1) sNil)))
  (sSeq (sIf (yam (sOp2 fEq (sOp2 fIx (sVar 2) (sLit (.int 0))) (sLit (.str "leaf")))) (sRet (sOp2 fIx (sVar 2) (sLit (.int 1)))) yaw)
  (sRet (sOp2 fAdd (yae G (yab (sVar 0) (yab (sOp2 fIx (sVar 2) (sLit (.int 1))) sNil))) (yae G (yab (sVar 0) (yab (sOp2 fIx (sVar 2) (sLit (.int 2))) sNil))))))))
def yaF:Nat->Fn
 | 0=>mkFn 2 3 (fun _ _=>.bad)
 | d+1=>ycb (yaF d)
def ydB:Fn:=mkFn 2 2
  (sRet (sBM yet yei (sLit (.str "")) (yab (ybb [0] (iVal (sVar 1)) sYes (sIfE (ybi (sIsB "str" (sVar 0))) (sVar 0) (yae (yaF 90) (yab (sVar 1) (yab (sVar 0) sNil))))) sNil)))
def ybO:Fn:=mkFn 4 8
  (sSeq (ygn (.tup [4,5]) (sVar 2))
  (sSeq (sIf (sOr (sNot (ybi (sIsB "tuple" (sVar 3)))) (sOr (yam (sOp2 fLt (yae fLen (yab (sVar 3) sNil)) (sLit (.int 2)))) (sNot (ybi (sIsB "list" (sOp2 fIx (sVar 3) (sLit (.int 1)))))))) (sRet (sLit (.bl false))) yaw)
  (sSeq (sSet 6 (ybb [0,3] (iVal (sVar 1)) sYes (yae ybC (yab (sVar 1) (yab (sVar 0) (yab (sOp2 fIx (sVar 2) (sLit (.int 1))) sNil))))))
  (sSeq (sIf (yam (sOp2 fEq (sVar 4) (sVar 5))) (sRet (ydH (sOp2 fEq (sOp2 fIx (sVar 3) (sLit (.int 0))) (sLit (.str "alike"))) (ydH (sOp2 fEq (yae fLen (yab (sVar 3) sNil)) (sLit (.int 2))) (sOp2 fEq (sVar 6) (sLst (yab (sTup (yab (sLit (.bl true)) (yab (sLit (.bl true)) sNil))) (yab (sTup (yab (sLit (.bl true)) (yab (sLit (.bl true)) sNil))) sNil))))))) yaw)
  (sSeq (sSet 7 (yae ydk (yab (sVar 4) (yab (sVar 5) sNil))))
  (sSeq (sIf (sOr (yam (sOp2 fNe (sOp2 fIx (sVar 3) (sLit (.int 0))) (sLit (.str "apart")))) (sOr (yam (sOp2 fNe (yae fLen (yab (sVar 3) sNil)) (sLit (.int 4)))) (sOr (sNot (ybi (sOp2 fIx (sOp2 fIx (sVar 6) (sLit (.int 0))) (sLit (.int 0))))) (sNot (ybi (sOp2 fIx (sOp2 fIx (sVar 6) (sLit (.int 1))) (sLit (.int 0)))))))) (sRet (sLit (.bl false))) yaw)
  (sRet (ydH (sOp2 fEq (yae ydB (yab (sVar 0) (yab (sOp2 fIx (sVar 3) (sLit (.int 1))) sNil))) (sCut (sVar 4) none (some (sVar 7)))) (sOp2 fEq (sCut (sVar 3) (some (sLit (.int 2))) none) (sTup (yab (sCut (sVar 4) (some (sVar 7)) (some (sOp2 fAdd (sVar 7) (sLit (.int 1))))) (yab (sCut (sVar 5) (some (sVar 7)) (some (sOp2 fAdd (sVar 7) (sLit (.int 1))))) sNil))))))))))))
def ydo:SS :=
  (sSeq (sSet 3 (yae ycT (yab (sVar 0) (yab (sVar 2) sNil))))
  (sSeq (sSet 4 (yae ycv (yab (sVar 3) (yab (sLit (.int 60)) sNil))))
  (sSeq (sSet 5 (ybb [1,3] (iVal (sVar 4)) sYes (yae ycB (yab (sVar 1) (yab (sVar 0) (yab (sVar 2) sNil))))))
  (sSeq (sIf (yam (sOp2 fNe (ybb [1] (iVal (sVar 5)) sYes (yae (yaF 90) (yab (sVar 1) (yab (sVar 0) sNil)))) (yae ydE (yab (sVar 4) sNil)))) (sRet (sLit (.bl false))) yaw)
  (sSeq (sSet 6 (yap 0 yci (sVar 1) sNil))
  (sSeq (sSet 7 (yae yaz (yab (sVar 1) (yab (sOp2 fIx (sVar 5) (sLit (.int 0))) (yab (sOp2 fIx (sVar 5) (sLit (.int 1))) sNil)))))
  (sSeq (sIf (sNot (ybi (yae ybO (yab (sVar 1) (yab (sVar 5) (yab (sVar 4) (yab (sVar 7) sNil))))))) (sRet (sLit (.bl false))) yaw)
  (sSeq (sSet 8 (sOp2 fAdd (sTup (yab (sOp2 fIx (sVar 7) (sLit (.int 0))) (yab (yae ydE (yab (sOp2 fIx (sVar 7) (sLit (.int 1))) sNil)) sNil))) (sCut (sVar 7) (some (sLit (.int 2))) none)))
  (sSeq (sIf (yam (sOp2 fNe (yae yaz (yab (sVar 1) (yab (sOp2 fIx (sVar 5) (sLit (.int 0))) (yab (sOp2 fIx (sVar 5) (sLit (.int 1))) sNil)))) (sVar 8))) (sRet (sLit (.bl false))) yaw)
  (sSeq (yaU (sBM yaB yax (sOp2 fIx (sVar 7) (sLit (.int 1))) (yab (sLit (.str "zz")) sNil)))
  (sSeq (sIf (sOr (yam (sOp2 fNe (yae yaz (yab (sVar 1) (yab (sOp2 fIx (sVar 5) (sLit (.int 0))) (yab (sOp2 fIx (sVar 5) (sLit (.int 1))) sNil)))) (sVar 8))) (yam (sOp2 fNe (yap 0 yci (sVar 1) sNil) (sVar 6)))) (sRet (sLit (.bl false))) yaw)
  (sSeq (yaU (yap 0 yaT (sVar 1) (yab (sOp2 fAdd (sLit (.str "Q")) (sOp2 fIx (sLit (.str "0123")) (sVar 2))) sNil)))
  (sSeq (sIf (yam (sOp2 fNe (yae yaz (yab (sVar 1) (yab (sOp2 fIx (sVar 5) (sLit (.int 0))) (yab (sOp2 fIx (sVar 5) (sLit (.int 1))) sNil)))) (sVar 8))) (sRet (sLit (.bl false))) yaw)
  (sSeq (sSet 9 (yae yaz (yab (sVar 1) (yab (sOp2 fIx (sVar 5) (sLit (.int 1))) (yab (sOp2 fIx (sVar 5) (sLit (.int 0))) sNil)))))
  (sIf (sNot (ybi (yae ybO (yab (sVar 1) (yab (ygv (sVar 5) (sOp1 fNeg (sLit (.int 1)))) (yab (ygw (sVar 4) (sOp1 fNeg (sLit (.int 1)))) (yab (sVar 9) sNil))))))) (sRet (sLit (.bl false))) yaw)))))))))))))))
def yfn:Fn:=mkFn 1 10
  (sSeq (sSet 1 (yeO 0 8 ycS sNil))
  (sSeq (sFor (yb3 (sLit (.int 4))) (.nm 2) ydo)
  (sRet (sOp2 fEq (yae yaz (yab (sVar 1) (yab (sLit (.int 0)) (yab (sLit (.int 0)) sNil)))) (sTup (yab (sLit (.str "alike")) (yab (sLst sNil) sNil)))))))
end Sk
set_option exponentiation.threshold 2000
namespace Sk
open PySem PySem.Spec L2 Sm
theorem zfT {w:Option Nat} {all:List AV} {t:Tg} {b:SS} (P:Nat->En->AH->Prop):∀ (xs:List AV) (i:Nat) (en:En) (h:AH),P i en h ->
  (∀ i en h,P i en h->yct w all h=true) ->
  (∀ (j:Nat) (x:AV) (en:En) (h:AH),xs[j]? = some x->P (i+j) en h->∃ e1 e2 h2,setT t x en=some e1/\(b e1 h = .nx e2 h2\/b e1 h = .ct e2 h2)/\P (i+j+1) e2 h2) ->
  ∃ e' h',ybp w all t b xs en h = .nx e' h'/\P (i+xs.length) e' h'
 | [],i,en,h,p,lv,_=>⟨en,h,by unfold ybp;rw [if_pos (lv _ _ _ p)],p⟩
 | x::xs,i,en,h,p,lv,s=>by
  obtain ⟨e1,e2,h2,q1,q2,q3⟩:=s 0 x en h rfl p
  obtain ⟨e',h',r1,r2⟩:=zfT P xs (i+1) e2 h2 q3 lv fun j y en h e q=>by
   have:=s (j+1) y en h (by simpa using e) (by rw [show i+(j+1)=i+1+j by lia];exact q)
   rw [show i+(j+1)+1=i+1+j+1 by lia] at this
   exact this
  refine ⟨e',h',?_,by rw [List.length_cons,show i+(xs.length+1)=i+1+xs.length by lia];exact r2⟩
  unfold ybp
  rw [if_pos (lv _ _ _ p)];simp only [q1]
  rcases q2 with q2 | q2
  ·rw [q2];exact r1
  ·rw [q2];exact r1
theorem zbJ {α:Type} {js:List Nat} {en:En} {w:Option Nat} {all:List AV} {c:SB} {e:SE} {g f:α->AV} {p:α->Bool} {h:AH} (lv:yct w all h=true):∀ (cs:List α) (ys:List AV),(∀ x∈cs,c (some (g x)::js.map fun j=>(en[j]?).join) h = .ok (p x) h)->(∀ x∈cs,p x=true->e (some (g x)::js.map fun j=>(en[j]?).join) h = .ok (f x) h)->ys.length+cs.length<=sizeLine ->
  ya3 js en w all c e (cs.map g) ys h = .ok (ys++(cs.filter p).map f) h
 | [],ys,_,_,_=>by rw [List.map_nil];unfold ya3;rw [if_pos lv];simp
 | x::xs,ys,hc,he,hl=>by
  have hl':ys.length<sizeLine:=by simp at hl;lia
  rw [List.map_cons];unfold ya3
  rw [if_pos ⟨lv,hl'⟩,hc x (by simp)]
  cases hp:p x with
  | false =>
   dsimp only;rw [zbJ lv xs ys (fun y hy=>hc y (by simp [hy])) (fun y hy=>he y (by simp [hy])) (by simp at hl ⊢;lia)]
   simp [List.filter_cons,hp]
  | true =>
   dsimp only;rw [he x (by simp) hp]
   dsimp only;rw [zbJ lv xs (ys++[f x]) (fun y hy=>hc y (by simp [hy])) (fun y hy=>he y (by simp [hy])) (by simp at hl ⊢;lia)]
   simp [List.filter_cons,hp]
theorem zeI {α:Type} {js:List Nat} {en:En} {w:Option Nat} {all:List AV} {e:SE} {g f:α->AV} {h:AH} (lv:yct w all h=true) (cs:List α) (ys:List AV) (he:∀ x∈cs,e (some (g x)::js.map fun j=>(en[j]?).join) h = .ok (f x) h) (hl:ys.length+cs.length<=sizeLine) :
  ya3 js en w all sYes e (cs.map g) ys h = .ok (ys++cs.map f) h:=by
 rw [zbJ (p:=fun _=>true) lv cs ys (fun _ _=>rfl) (fun x hx _=>he x hx) hl,List.filter_eq_self.mpr (fun _ _=>rfl)]
@[simp] def thn (o:OutS) (Q:En->AH->Prop):Prop:=match o with
 | .nx e h=>Q e h
 | .ct e h=>Q e h
 | _=>False
theorem yhM {o:OutS} {Q:En->AH->Prop} (t:thn o Q):∃ e h,(o = .nx e h\/o = .ct e h)/\Q e h:=by
 cases o with
 | nx e h=>exact ⟨e,h,.inl rfl,t⟩
 | ct e h=>exact ⟨e,h,.inr rfl,t⟩
 | _=>exact t.elim
@[simp] def yhN (o:Option En) (Q:En->Prop):Prop:=match o with
 | some e=>Q e
 | none=>False
theorem yem {w:Option Nat} {all:List AV} {t:Tg} {b:SS} {xs:List AV} {en:En} {h:AH} (P:Nat->En->AH->Prop) (p0:P 0 en h) (lv:∀ i en h,P i en h->yct w all h=true)
  (st:∀ (j:Nat) (x:AV) (en:En) (h:AH),xs[j]? = some x->P j en h->yhN (setT t x en) fun e1=>thn (b e1 h) (P (j+1))) :
  ∃ e' h',ybp w all t b xs en h = .nx e' h'/\P xs.length e' h' := by
 have:=zfT (w:=w) (all:=all) (t:=t) (b:=b) P xs 0 en h p0 lv fun j x en h hx hp=>by
  have q:=st j x en h hx (by simpa using hp)
  cases z:setT t x en with
  | none=>rw [z] at q;exact q.elim
  | some e1 =>
   rw [z] at q;obtain ⟨e,h2,a,c⟩:=yhM q
   exact ⟨e1,e,h2,rfl,a,by simpa using c⟩
 simpa using this
@[simp] def yiY (o:Out AV) (Q:AV->AH->Prop):Prop:=match o with
 | .ok v h=>Q v h
 | _=>False
theorem zfU {js:List Nat} {en:En} {all:List AV} {e:SE} (P:Nat->List AV->AH->Prop):∀ (xs ys:List AV) (i:Nat) (h:AH),P i ys h ->
  (∀ j x ys h,xs[j]? = some x->P (i+j) ys h->∃ v h2,e (some x::js.map fun j=>(en[j]?).join) h = .ok v h2/\P (i+j+1) (ys++[v]) h2)->ys.length+xs.length<=sizeLine ->
  ∃ zs h',ya3 js en none all sYes e xs ys h = .ok zs h'/\P (i+xs.length) zs h'
 | [],ys,i,h,p,_,_=>⟨ys,h,by simp [ya3],p⟩
 | x::xs,ys,i,h,p,s,hl=>by
  obtain ⟨v,h2,q1,q2⟩:=s 0 x ys h rfl p
  obtain ⟨zs,h',r1,r2⟩:=zfU P xs (ys++[v]) (i+1) h2 q2 (fun j y ys h hy hp=>by
   have:=s (j+1) y ys h (by simpa using hy) (by rw [show i+(j+1)=i+1+j by lia];exact hp)
   rw [show i+(j+1)+1=i+1+j+1 by lia] at this
   exact this) (by simp at hl ⊢;lia)
  refine ⟨zs,h',?_,by rw [List.length_cons,show i+(xs.length+1)=i+1+xs.length by lia];exact r2⟩
  unfold ya3
  rw [if_pos ⟨rfl,by simp at hl;lia⟩]
  simp only [sYes]
  rw [q1];exact r1
theorem yhO {js:List Nat} {en:En} {all:List AV} {e:SE} {xs:List AV} {h:AH} (P:Nat->List AV->AH->Prop) (p0:P 0 [] h)
  (st:∀ j x ys h,xs[j]? = some x->P j ys h->yiY (e (some x::js.map fun j=>(en[j]?).join) h) fun v h2=>P (j+1) (ys++[v]) h2) (hl:xs.length<=sizeLine) :
  ∃ zs h',ya3 js en none all sYes e xs [] h = .ok zs h'/\P xs.length zs h' := by
 have:=zfU (js:=js) (en:=en) (all:=all) (e:=e) P xs [] 0 h p0 (fun j x ys h hx p=>by
  have q:=st j x ys h hx (by simpa using p)
  cases z:e (some x::js.map fun j=>(en[j]?).join) h with
  | ok v h2=>rw [z] at q;exact ⟨v,h2,rfl,by simpa using q⟩
  | ex _ _=>rw [z] at q;exact q.elim
  | bad=>rw [z] at q;exact q.elim) (by simpa using hl)
 simpa using this
theorem zco:∀ (n:Nat) (lo:Int) (i:Nat),(ya5 lo n)[i]? = if i<n then some (.int (lo+i)) else none
 | 0,lo,i=>by simp [ya5]
 | n+1,lo,0=>by simp [ya5]
 | n+1,lo,i+1=>by
  unfold ya5
  rw [List.getElem?_cons_succ,zco n (lo+1) i];by_cases q:i<n
  ·rw [if_pos q,if_pos (by lia)];congr 2;lia
  ·rw [if_neg q,if_neg (by lia)]
theorem zaU:∀ (n:Nat) (lo:Int),(ya5 lo n).length=n
 | 0,_=>rfl
 | n+1,lo=>by unfold ya5;rw [List.length_cons,zaU n]
theorem zbK {a:SE} {en:En} {h h1:AH} {n:Nat} (e:a en h = .ok (.int n) h1) (hn:n<=10000000):yb3 a en h = .ok (ya5 0 n,none) h1:=by
 have h1':(n:Int).natAbs<2 ^ 62:=by lia
 simp only [yb3,e,Out.bind]
 rw [if_pos h1'];rfl
theorem ydS {it:SI} {t:Tg} {b:SS} {en:En} {h h1:AH} {xs:List AV} {w:Option Nat} (e:it en h = .ok (xs,w) h1):sFor it t b en h=ybp w xs t b xs en h1:=by simp only [sFor,e]
theorem yhP {i j:Int} {h:AH} (hi:i.natAbs<2 ^ 64):fMul (.int i) (.int j) h = .ok (.int (i*j)) h:=if_pos (.inl (.inl hi))
theorem yhQ {i j:Int} {h:AH} (hj:j.natAbs<2 ^ 64):fMul (.int i) (.int j) h = .ok (.int (i*j)) h:=if_pos (.inl (.inr hj))
theorem zeJ {α:Type} {f:α->AV} {l:List α} {j:Nat} {q:α} (e:l[j]? = some q):atI (l.map f) (j:Int)=some (f q):=zbr (by simp [e])
end Sk
set_option exponentiation.threshold 5000
namespace Sk
open PySem PySem.Spec L2 Sm
def yc7 (c:Nat):Bool:=decide (c=10) || (decide (32<=c) && decide (c<=126))
theorem lt1 (a b:Nat):([a]<[b]) ↔ a<b:=by
 simp [List.cons_lt_cons_iff]
theorem yeZ:(Str.ofString "\n")=⟨#[10]⟩:=by decide +kernel
theorem yfQ:(Str.ofString " ")=⟨#[32]⟩:=by decide +kernel
theorem yfR:(Str.ofString "~")=⟨#[126]⟩:=by decide +kernel
theorem yhR (c:Nat) (h:AH):yb9 [.str ⟨#[c]⟩] h = .ok (.bl (yc7 c)) h:=by
 simp [yb9,yeZ,yfQ,yfR,lt1,yc7]
 by_cases h1:c=10
 ·simp [h1]
 ·by_cases h2:c<32
  ·have : ¬ 32<=c:=by lia
   simp [h1,h2,this]
  ·have h3:32<=c:=by lia
   by_cases h4:c<=126
   ·have : ¬ 126<c:=by lia
    simp [h1,h2,h3,h4,this]
   ·have:126<c:=by lia
    simp [h1,h2,h3,h4,this]
theorem zeK {α:Type} {js:List Nat} {en:En} {all:List AV} {e:SE} {g f:α->AV} {h:AH}:∀ (cs:List α) (ys:List AV),(∀ c∈cs,e (some (g c)::js.map fun j=>(en[j]?).join) h = .ok (f c) h)->ys.length+cs.length<=sizeLine->ya3 js en none all sYes e (cs.map g) ys h = .ok (ys++cs.map f) h
 | [],ys,_,_=>by simp [ya3]
 | x::xs,ys,he,hl=>by
  have hl':ys.length<sizeLine:=by simp at hl;lia
  rw [List.map_cons];unfold ya3
  rw [if_pos ⟨rfl,hl'⟩];simp only [sYes]
  rw [he x (by simp)]
  dsimp only;rw [zeK xs (ys++[f x]) (fun y hy=>he y (by simp [hy])) (by simp at hl ⊢;lia)]
  simp
theorem zei (f:Nat->Bool):∀ cs:List Nat,yd1 (cs.map fun c=>.bl (f c))=some (cs.map f)
 | []=>rfl
 | c::cs=>by simp [zei f cs]
def yav (x:Str):Bool:=x.cps.toList.all yc7
theorem zfV (x:Str) (h:AH) (hl:x.length<=sizeLine):ydj [.str x] h = .ok (.bl (yav x)) h:=by
 have e:=zeK (js:=[]) (en:=[some (.str x)]) (all:=x.cps.toList.map fun c=>AV.str ⟨#[c]⟩) (e:=yae yb9 (yab (sVar 0) sNil)) (g:=fun c=>AV.str ⟨#[c]⟩) (f:=fun c=>AV.bl (yc7 c)) (h:=h) x.cps.toList [] (by
  intro c hc
  simp [yhR]) (by simp;exact hl)
 simp only [List.nil_append] at e
 simp [ydj]
 rw [e];simp [zei,yav]
def ya7 (x:Str):Bool:=yav x && (decide (1<=x.length) && decide (x.length<=8))
theorem zfW (x:Str) (h:AH) (hl:x.length<=sizeLine):ydL [.str x] h = .ok (.bl (ya7 x)) h:=by
 simp [ydL,zfV x h hl,ya7]
 by_cases h1:yav x=true
 ·by_cases h2:1<=x.length
  ·have:(1:Int)<=x.length:=by lia
   by_cases h3:x.length<=8
   ·have:(x.length:Int)<=8:=by lia
    simp [*]
   ·have : ¬ (x.length:Int)<=8:=by lia
    simp [*]
  ·have : ¬ (1:Int)<=x.length:=by lia
   simp [*]
 ·simp [h1]
def ydN (x:Str):Nat:=(Builtin.Str.occurrences x ⟨#[10]⟩ 0 x.length (x.length+1)).length
theorem yhS (x:Str) (h:AH):ydW [.str x] h = .ok (.int (ydN x)) h:=by
 simp [ydW,yeZ,ydN]
theorem zjn (i:Int) (h:AH):ydK [.int i] h = .ok (.bl true) h:=by
 simp [ydK]
inductive Pc where
 | leaf (x:Str)
 | fork (a b:Nat)
 deriving DecidableEq
def Pc.av:Pc->AV
 | .leaf x=>.tup [.str "leaf",.str x]
 | .fork a b=>.tup [.str "fork",.int a,.int b]
theorem Pc.av_inj:∀ {p q:Pc},p.av=q.av->p=q
 | .leaf x,.leaf y,e=>by simp [Pc.av] at e;rw [e]
 | .leaf x,.fork a b,e=>by simp [Pc.av] at e
 | .fork a b,.leaf x,e=>by simp [Pc.av] at e
 | .fork a b,.fork c d,e=>by simp [Pc.av] at e;rw [Int.ofNat.inj e.1,Int.ofNat.inj e.2]
structure Ms where
 sg:Nat
 en:Nat
 lv:Nat
 ht:Int
 fl:Nat
 ll:Nat
def ms0:Ms:=⟨0,0,0,-1,0,0⟩
def ydl (ms:List Ms):Pc->Ms
 | .leaf x=>⟨x.length,ydN x,1,0,ms.length,ms.length⟩
 | .fork a b=>⟨(ms.getD a ms0).sg+(ms.getD b ms0).sg,(ms.getD a ms0).en+(ms.getD b ms0).en,(ms.getD a ms0).lv+(ms.getD b ms0).lv,max (ms.getD a ms0).ht (ms.getD b ms0).ht+1,(ms.getD a ms0).fl,(ms.getD b ms0).ll⟩
def meas (ps:List Pc):List Ms:=ps.foldl (fun ms q=>ms++[ydl ms q]) [ms0]
theorem zcp (ps:List Pc) (q:Pc):meas (ps++[q])=meas ps++[ydl (meas ps) q]:=by simp [meas]
theorem zar:∀ ps:List Pc,(meas ps).length=ps.length+1:=by
 have all:∀ (ps:List Pc) (ms:List Ms),(ps.foldl (fun ms q=>ms++[ydl ms q]) ms).length=ms.length+ps.length:=by
  intro ps
  induction ps with
  | nil=>intro ms;rfl
  | cons q r ih=>intro ms;rw [List.foldl_cons,ih];simp;lia
 intro ps
 rw [meas,all];simp;lia
def ybz (k:Nat):List Pc->List (AV×AV)
 | []=>[]
 | q::r=>(q.av,.int k)::ybz (k+1) r
def tab (ps:List Pc):List (AV×AV):=ybz 1 ps
theorem za7 (q:Pc):∀ (ps:List Pc) (k:Nat),ybz k (ps++[q])=ybz k ps++[(q.av,.int ((k+ps.length:Nat):Int))]
 | [],k=>by simp [ybz]
 | p::r,k=>by
  simp only [List.cons_append,ybz,za7 q r (k+1)]
  rw [show k+1+r.length=k+(p::r).length by simp;lia]
theorem zfX:∀ (ps:List Pc) (k:Nat),(ybz k ps).length=ps.length
 | [],_=>rfl
 | p::r,k=>by simp [ybz,zfX r]
theorem zb1 {q:Pc}:∀ {ps:List Pc} {k:Nat},q∉ps->valA (ybz k ps) q.av=none
 | [],k,_=>rfl
 | p::r,k,h=>by
  have h1 : ¬ p.av=q.av:=fun e=>h (by rw [Pc.av_inj e];simp)
  have h2:=zb1 (q:=q) (ps:=r) (k:=k+1) fun z=>h (by simp [z])
  unfold valA at h2 ⊢
  simp only [ybz,List.find?_cons,decide_eq_false h1]
  exact h2
theorem zdd {q:Pc}:∀ {ps:List Pc} {k i:Nat},ps.Nodup->ps[i]? = some q->valA (ybz k ps) q.av=some (.int ((k+i:Nat):Int))
 | [],k,i,_,e=>by simp at e
 | p::r,k,0,n,e=>by simp at e;subst e;simp [valA,ybz]
 | p::r,k,i+1,n,e=>by
  simp at e
  have h1 : ¬ p.av=q.av:=fun z=>(List.nodup_cons.mp n).1 (by rw [Pc.av_inj z];exact List.mem_of_getElem? e)
  have h2:=zdd (q:=q) (k:=k+1) (List.nodup_cons.mp n).2 e
  unfold valA at h2 ⊢
  simp only [ybz,List.find?_cons,decide_eq_false h1]
  rw [h2];congr 3
  lia
theorem zjo {q:Pc} {ps:List Pc} (h:q∉ps):putA (tab ps) q.av (.int ((ps.length+1:Nat):Int))=tab (ps++[q]):=by
 unfold putA
 rw [zfL,tab,zb1 h,tab,za7];simp [Nat.add_comm]
structure ShelfAt (h:AH) (p:Nat) (ps:List Pc):Prop where
 ob:h[p]? = some (.ins 0 [some (.ref (p+1)),some (.ref (p+2)),some (.ref (p+3)),some (.ref (p+4)),some (.ref (p+5)),some (.ref (p+6)),some (.ref (p+7)),some (.ref (p+8))])
 h1:h[p+1]? = some (.lst (ps.map Pc.av))
 h2:h[p+2]? = some (.dct true (tab ps))
 h3:h[p+3]? = some (.lst ((meas ps).map fun m=>.int m.sg))
 h4:h[p+4]? = some (.lst ((meas ps).map fun m=>.int m.en))
 h5:h[p+5]? = some (.lst ((meas ps).map fun m=>.int m.lv))
 h6:h[p+6]? = some (.lst ((meas ps).map fun m=>.int m.ht))
 h7:h[p+7]? = some (.lst ((meas ps).map fun m=>.int m.fl))
 h8:h[p+8]? = some (.lst ((meas ps).map fun m=>.int m.ll))
def ycQ (h:AH) (p:Nat) (ps:List Pc):AH :=
 (((((((h.set (p+1) (.lst (ps.map Pc.av))).set (p+2) (.dct true (tab ps))).set (p+3) (.lst ((meas ps).map fun m=>.int m.sg))).set (p+4) (.lst ((meas ps).map fun m=>.int m.en))).set (p+5) (.lst ((meas ps).map fun m=>.int m.lv))).set
  (p+6) (.lst ((meas ps).map fun m=>.int m.ht))).set (p+7) (.lst ((meas ps).map fun m=>.int m.fl))).set (p+8) (.lst ((meas ps).map fun m=>.int m.ll))
theorem yaS {h:AH} {i:Nat} {o:AO} (e:h[i]? = some o):i<h.length:=(List.getElem?_eq_some_iff.mp e).1
theorem zcq (h:AH) (p:Nat) (ps:List Pc):(ycQ h p ps).length=h.length:=by simp [ycQ]
theorem zde {h:AH} {p q:Nat} {ps:List Pc} (hq:q<=p\/p+8<q):(ycQ h p ps)[q]? = h[q]? := by
 unfold ycQ
 repeat rw [List.getElem?_set_ne (by lia)]
theorem zbx {h:AH} {p:Nat} {ps ps':List Pc} (S:ShelfAt h p ps):ShelfAt (ycQ h p ps') p ps' := by
 have b:=yaS S.h8
 have l1:p+1<h.length:=Nat.lt_of_le_of_lt (Nat.add_le_add_left (by decide) p) b
 have l2:p+2<h.length:=Nat.lt_of_le_of_lt (Nat.add_le_add_left (by decide) p) b
 have l3:p+3<h.length:=Nat.lt_of_le_of_lt (Nat.add_le_add_left (by decide) p) b
 have l4:p+4<h.length:=Nat.lt_of_le_of_lt (Nat.add_le_add_left (by decide) p) b
 have l5:p+5<h.length:=Nat.lt_of_le_of_lt (Nat.add_le_add_left (by decide) p) b
 have l6:p+6<h.length:=Nat.lt_of_le_of_lt (Nat.add_le_add_left (by decide) p) b
 have l7:p+7<h.length:=Nat.lt_of_le_of_lt (Nat.add_le_add_left (by decide) p) b
 have ob:=S.ob
 constructor<;>simp [ycQ,List.getElem?_set,l1,l2,l3,l4,l5,l6,l7,b,ob,-List.getElem?_eq_getElem]
theorem lenA {α:Type} (l:List α) (f:α->AV):(l.map f).length=l.length:=by simp
theorem ye0 {h:AH} {p:Nat} {ps:List Pc} (S:ShelfAt h p ps):yci [.ref p] h = .ok (.int ps.length) h:=by
 simp [yci,S.ob,S.h1]
theorem yiZ {h:AH} {p:Nat} {ps:List Pc} {i:Int} (S:ShelfAt h p ps):yce [.ref p,.int i] h = .ok (.bl (decide (1<=i/\i<=ps.length))) h:=by
 simp [yce,zjn,S.ob,S.h1]
 by_cases h1:1<=i<;>simp [h1]
theorem zb2 {h:AH} {p:Nat} {ps:List Pc} {i:Int} (S:ShelfAt h p ps) (hi:1<=i/\i<=ps.length):yba [.ref p,.int i] h = .ok .non h:=by
 simp [yba,yiZ S,S.ob,hi.1,hi.2]
theorem zai {α:Type} {f:α->AV} {l:List α} {j:Nat} {q:α} (e:l[j]? = some q):atI (l.map f) (j:Int)=some (f q):=zbr (by simp [e])
theorem zjp {h:AH} {p:Nat} {ps:List Pc} {j:Nat} {q:Pc} (S:ShelfAt h p ps) (e:ps[j]? = some q):yaA [.ref p,.int ((j:Int)+1)] h = .ok q.av h:=by
 have hj:=(List.getElem?_eq_some_iff.mp e).1
 have h1:=zb2 S (i:=(j:Int)+1) ⟨by lia,by lia⟩
 simp [yaA,h1,S.ob,S.h1,zai e]
theorem ygx {h:AH} {p:Nat} {ps:List Pc} {q:Pc} (S:ShelfAt h p ps) (hq:q∉ps) (hl:ps.length<16000000) :
  yc6 [.ref p,q.av] h = .ok (.int ((ps.length+1:Nat):Int)) ((h.set (p+1) (.lst ((ps++[q]).map Pc.av))).set (p+2) (.dct true (tab (ps++[q])))):=by
 have b:=yaS S.h8
 have hs:ps.length<sizeLine:=Nat.lt_trans hl (by decide)
 have ht:(tab ps).length<sizeLine:=by rw [tab,zfX];exact hs
 have hk:ydI true q.av=true:=by cases q<;>simp [Pc.av]
 have e1:(h.set (p+1) (.lst (ps.map Pc.av++[q.av])))[p]? = h[p]? := List.getElem?_set_ne (by lia)
 have e2:(h.set (p+1) (.lst (ps.map Pc.av++[q.av])))[p+1]? = some (.lst (ps.map Pc.av++[q.av])):=List.getElem?_set_self (by lia)
 have e3:(h.set (p+1) (.lst (ps.map Pc.av++[q.av])))[p+2]? = h[p+2]? := List.getElem?_set_ne (by lia)
 have tp:=zjo hq
 simp [yc6,S.ob,S.h1,hs,e1,e2,e3,S.h2,hk,ht,-ydI]
 rw [show ((ps.length:Int)+1)=((ps.length+1:Nat):Int) by simp,tp]
theorem zhx {h:AH} {p:Nat} {ps:List Pc} {x:Str} (S:ShelfAt h p ps) (hq:Pc.leaf x∉ps) (hl:ps.length<16000000) :
  ybY [.ref p,(Pc.leaf x).av] h = .ok .non (ycQ h p (ps++[.leaf x])):=by
 have b:=yaS S.h8
 have hs:ps.length+1<sizeLine:=Nat.lt_of_lt_of_le (Nat.succ_lt_succ hl) (by decide)
 have hm:(meas ps).length<sizeLine:=by rw [zar];exact hs
 have e:=ygx S hq hl
 have b2:((meas ps).length:Int)=(ps.length:Int)+1:=by rw [zar];simp
 have e2:fIx (Pc.leaf x).av (.int 1)=fun h=>Out.ok (.str x) h:=by funext h;rfl
 have l1:p+1<h.length:=by lia
 have l2:p+2<h.length:=by lia
 have l3:p+3<h.length:=by lia
 have l4:p+4<h.length:=by lia
 have l5:p+5<h.length:=by lia
 have l6:p+6<h.length:=by lia
 have l7:p+7<h.length:=by lia
 simp [ybY,e,S.ob,S.h3,S.h4,S.h5,S.h6,S.h7,S.h8,hm,yhS,List.getElem?_set,zcp,ydl,ycQ,e2,zar,hs,-fIx,-List.getElem?_eq_getElem]
theorem zfY {α:Type} {l:List α} {i:Nat} {d x:α} (e:l[i]? = some x):l.getD i d=x:=by simp [List.getD,e]
theorem zhy {h:AH} {p:Nat} {ps:List Pc} {a b:Nat} {ma mb:Ms} (S:ShelfAt h p ps) (hq:Pc.fork a b∉ps) (hl:ps.length<16000000) (ha:(meas ps)[a]? = some ma) (hb:(meas ps)[b]? = some mb) :
  ybZ [.ref p,(Pc.fork a b).av] h = .ok .non (ycQ h p (ps++[.fork a b])):=by
 have bb:=yaS S.h8
 have hs:ps.length+1<sizeLine:=Nat.lt_of_lt_of_le (Nat.succ_lt_succ hl) (by decide)
 have hm:(meas ps).length<sizeLine:=by rw [zar];exact hs
 have e:=ygx S hq hl
 have e2:fIx (Pc.fork a b).av (.int 1)=fun h=>Out.ok (.int a) h:=by funext h;rfl
 have e3:fIx (Pc.fork a b).av (.int 2)=fun h=>Out.ok (.int b) h:=by funext h;rfl
 have l1:p+1<h.length:=by lia
 have l2:p+2<h.length:=by lia
 have l3:p+3<h.length:=by lia
 have l4:p+4<h.length:=by lia
 have l5:p+5<h.length:=by lia
 have l6:p+6<h.length:=by lia
 have l7:p+7<h.length:=by lia
 have fx:∀ (n:Nat) (g:Ms->AV) (h':AH),h'[n]? = some (.lst ((meas ps).map g))->fIx (.ref n) (.int a) h' = .ok (g ma) h'/\fIx (.ref n) (.int b) h' = .ok (g mb) h' := fun n g h' e=>by
  simp [fIx,e,zai ha,zai hb]
 have f3:=fun (h':AH) (e:h'[p+3]? = some (.lst ((meas ps).map fun m=>.int m.sg)))=>fx _ _ h' e
 have f4:=fun (h':AH) (e:h'[p+4]? = some (.lst ((meas ps).map fun m=>.int m.en)))=>fx _ _ h' e
 have f5:=fun (h':AH) (e:h'[p+5]? = some (.lst ((meas ps).map fun m=>.int m.lv)))=>fx _ _ h' e
 have f6:=fun (h':AH) (e:h'[p+6]? = some (.lst ((meas ps).map fun m=>.int m.ht)))=>fx _ _ h' e
 have f7:=fun (h':AH) (e:h'[p+7]? = some (.lst ((meas ps).map fun m=>.int m.fl)))=>fx _ _ h' e
 have f8:=fun (h':AH) (e:h'[p+8]? = some (.lst ((meas ps).map fun m=>.int m.ll)))=>fx _ _ h' e
 have hmax:∀ i j:Int,(if j > i then j else i)=max i j:=fun i j=>by split<;>lia
 simp [ybZ,e,S.ob,S.h3,S.h4,S.h5,S.h6,S.h7,S.h8,hm,List.getElem?_set,zcp,ydl,ycQ,e2,e3,zar,hs,zai ha,zai hb,zfY ha,zfY hb,-fIx,-List.getElem?_eq_getElem,-List.getD_eq_getElem?_getD,f3,f4,f5,f6,f7,f8,hmax]
theorem zbp {h:AH} {p:Nat} {ps:List Pc} {x:Str} {i:Nat} (S:ShelfAt h p ps) (nd:ps.Nodup) (hx:ya7 x=true) (hl:x.length<=sizeLine) (e:ps[i]? = some (.leaf x)):yaT [.ref p,.str x] h = .ok (.int ((i+1:Nat):Int)) h:=by
 have t:=zdd (k:=1) nd e
 have t':valA (tab ps) (.tup [.str "leaf",.str x])=some (.int ((i+1:Nat):Int)):=by rw [Nat.add_comm];exact t
 simp [yaT,zfW x h hl,hx,S.ob,S.h2,t']
theorem zdx {h:AH} {p:Nat} {ps:List Pc} {x:Str} (S:ShelfAt h p ps) (hx:ya7 x=true) (hl:x.length<=sizeLine) (hq:Pc.leaf x∉ps) (hz:ps.length<16000000):yaT [.ref p,.str x] h = .ok (.int ((ps.length+1:Nat):Int)) (ycQ h p (ps++[.leaf x])):=by
 have t:valA (tab ps) (.tup [.str "leaf",.str x])=none:=zb1 (q:=.leaf x) (k:=1) hq
 have S2:=zbx (ps' := ps++[.leaf x]) S
 have e:=zhx S hq hz
 have t2:valA (tab (ps++[.leaf x])) (.tup [.str "leaf",.str x])=some (.int ((ps.length+1:Nat):Int)):=by
  unfold tab
  rw [za7];unfold valA at t ⊢
  rw [List.find?_append];have t3:(ybz 1 ps).find? (fun p=>decide (p.1 = .tup [.str "leaf",.str x]))=none:=by simpa [tab] using t
  rw [t3];simp [Pc.av,Nat.add_comm]
 have e':ybY [.ref p,.tup [.str "leaf",.str x]] h = .ok .non (ycQ h p (ps++[.leaf x])):=e
 simp [yaT,zfW x h hl,hx,S.ob,S.h2,t,e',S2.ob,S2.h2,t2]
theorem zik {h:AH} {p:Nat} {ps:List Pc} {a b:Nat} {ma mb la fb:Ms} (S:ShelfAt h p ps) (ha:(meas ps)[a]? = some ma) (hb:(meas ps)[b]? = some mb) (pa:1<=a) (pb:1<=b) (hla:(meas ps)[ma.ll]? = some la) (hfb:(meas ps)[mb.fl]? = some fb) :
  ya6 [.ref p,.int a,.int b] h=if la.sg+fb.sg<=8 then .ex ygg h else if 1<(ma.ht-mb.ht).natAbs then .ex yfl h else if 1000000000000000000<ma.sg+mb.sg then .ex yfm h else .ok .non h:=by
 have la_:=(List.getElem?_eq_some_iff.mp ha).1
 have lb_:=(List.getElem?_eq_some_iff.mp hb).1
 rw [zar] at la_ lb_;have c1:=zb2 S (i:=(a:Int)) ⟨by lia,by lia⟩
 have c2:=zb2 S (i:=(b:Int)) ⟨by lia,by lia⟩
 by_cases d1:la.sg+fb.sg<=8
 ·have d1':((la.sg:Int)+fb.sg)<=8:=by lia
  simp [ya6,c1,c2,S.ob,S.h3,S.h5,S.h6,S.h7,S.h8,zai ha,zai hb,zai hla,zai hfb,d1,d1']
 ·have d1' : ¬ ((la.sg:Int)+fb.sg)<=8:=by lia
  by_cases d2:1<(ma.ht-mb.ht).natAbs
  ·have d2':(1:Int)<(if ma.ht-mb.ht<0 then -(ma.ht-mb.ht) else ma.ht-mb.ht):=by split<;>lia
   simp [ya6,c1,c2,S.ob,S.h3,S.h5,S.h6,S.h7,S.h8,zai ha,zai hb,zai hla,zai hfb,d1,d1',d2,d2',-Int.neg_sub]
  ·have d2' : ¬ (1:Int)<(if ma.ht-mb.ht<0 then -(ma.ht-mb.ht) else ma.ht-mb.ht):=by split<;>lia
   by_cases d3:1000000000000000000<ma.sg+mb.sg
   ·have d3':(1000000000000000000:Int)<(ma.sg:Int)+mb.sg:=by lia
    simp [ya6,c1,c2,S.ob,S.h3,S.h5,S.h6,S.h7,S.h8,zai ha,zai hb,zai hla,zai hfb,d1,d1',d2,d2',d3,d3',-Int.neg_sub]
   ·have d3' : ¬ (1000000000000000000:Int)<(ma.sg:Int)+mb.sg:=by lia
    simp [ya6,c1,c2,S.ob,S.h3,S.h5,S.h6,S.h7,S.h8,zai ha,zai hb,zai hla,zai hfb,d1,d1',d2,d2',d3,d3',-Int.neg_sub]
structure ForkOk (ps:List Pc) (a b:Nat):Prop where
 pa:1<=a
 pb:1<=b
 ex:∃ ma mb la fb,(meas ps)[a]? = some ma/\(meas ps)[b]? = some mb/\(meas ps)[ma.ll]? = some la/\(meas ps)[mb.fl]? = some fb/\8<la.sg+fb.sg/\(ma.ht-mb.ht).natAbs<=1/\ma.sg+mb.sg<=1000000000000000000
theorem zcW {h:AH} {p:Nat} {ps:List Pc} {a b:Nat} (S:ShelfAt h p ps) (F:ForkOk ps a b):ya6 [.ref p,.int a,.int b] h = .ok .non h:=by
 obtain ⟨ma,mb,la,fb,h1,h2,h3,h4,h5,h6,h7⟩:=F.ex
 rw [zik S h1 h2 F.pa F.pb h3 h4,if_neg (by lia),if_neg (by lia),if_neg (by lia)]
theorem zb3 {h:AH} {p:Nat} {ps:List Pc} {a b i:Nat} (S:ShelfAt h p ps) (nd:ps.Nodup) (F:ForkOk ps a b) (e:ps[i]? = some (.fork a b)):yah [.ref p,.int a,.int b] h = .ok (.int ((i+1:Nat):Int)) h:=by
 have t:=zdd (k:=1) nd e
 have t':valA (tab ps) (.tup [.str "fork",.int a,.int b])=some (.int ((i+1:Nat):Int)):=by rw [Nat.add_comm];exact t
 simp [yah,zcW S F,S.ob,S.h2,t']
theorem zgR {h:AH} {p:Nat} {ps:List Pc} {a b:Nat} (S:ShelfAt h p ps) (F:ForkOk ps a b) (hq:Pc.fork a b∉ps) (hz:ps.length<16000000):yah [.ref p,.int a,.int b] h = .ok (.int ((ps.length+1:Nat):Int)) (ycQ h p (ps++[.fork a b])):=by
 have t:valA (tab ps) (.tup [.str "fork",.int a,.int b])=none:=zb1 (q:=.fork a b) (k:=1) hq
 have S2:=zbx (ps' := ps++[.fork a b]) S
 obtain ⟨ma,mb,la,fb,h1,h2,_⟩:=F.ex
 have e:=zhy S hq hz h1 h2
 have t2:valA (tab (ps++[.fork a b])) (.tup [.str "fork",.int a,.int b])=some (.int ((ps.length+1:Nat):Int)):=by
  unfold tab
  rw [za7];unfold valA at t ⊢
  rw [List.find?_append];have t3:(ybz 1 ps).find? (fun p=>decide (p.1 = .tup [.str "fork",.int a,.int b]))=none:=by simpa [tab] using t
  rw [t3];simp [Pc.av,Nat.add_comm]
 have e':ybZ [.ref p,.tup [.str "fork",.int a,.int b]] h = .ok .non (ycQ h p (ps++[.fork a b])):=e
 simp [yah,zcW S F,S.ob,S.h2,t,e',S2.ob,S2.h2,t2]
def yd9 (n:Nat):List AO:=[.ins 0 [some (.ref (n+1)),some (.ref (n+2)),some (.ref (n+3)),some (.ref (n+4)),some (.ref (n+5)),some (.ref (n+6)),some (.ref (n+7)),some (.ref (n+8))],.lst [],.dct true [],.lst [.int 0],.lst [.int 0],.lst [.int 0],.lst [.int (-1)],.lst [.int 0],.lst [.int 0]]
theorem zjq {h:AH} {o o':AO} {r:AH}:(h++o::r).set h.length o'=h++o'::r:=by
 induction h with
 | nil=>rfl
 | cons x t ih=>simp [ih]
theorem yhT (en:En) (h:AH):yeO 0 8 ycS sNil en h = .ok (.ref h.length) (h++yd9 h.length):=by
 simp [ycS,yd9,List.getElem?_append,zjq]
theorem yfS {h r:AH} {k:Nat}:(h++r)[h.length+k]? = r[k]? := by
 rw [List.getElem?_append_right (by lia)];simp
theorem yhU (h r:AH):ShelfAt (h++(yd9 h.length++r)) h.length []:=by
 refine ⟨?_,?_,?_,?_,?_,?_,?_,?_,?_⟩
 ·rw [show h.length=h.length+0 from rfl,yfS];rfl
 all_goals (rw [yfS];rfl)
theorem zfZ (x:Str) (c i:Nat) (hi:i<x.length):Builtin.Str.subAt x ⟨#[c]⟩ i=decide (x.cps.toList[i]? = some c):=by
 have hi':i<x.cps.size:=hi
 unfold Builtin.Str.subAt
 have e:x.cps.extract i (i+1) = #[x.cps[i]]:=by
  apply Array.ext
  ·simp;lia
  ·intro j h1 h2
   have:j=0:=by simp at h2;lia
   subst this;simp
 show (x.cps.extract i (i+1) == #[c])=_
 rw [e];have:x.cps.toList[i]? = some x.cps[i]:=by simp [hi']
 rw [this];by_cases q:x.cps[i]=c
 ·simp [q]
 ·simp [q]
theorem yeA (x:Str) (c:Nat):∀ (n i:Nat) (st:Array Nat×Nat),i+n=x.length+1->st.2<=i->st.1.size<=i->(forIn (List.range' i n) st (StrLaws.occBody x ⟨#[c]⟩ x.length (x.length+1))).run.fst.size=st.1.size+(x.cps.toList.drop i).count c
 | 0,i,st,hn,_,_=>by
  rw [List.drop_of_length_le (by simp;simp only [Str.length] at hn;lia)]
  simp
 | n+1,i,st,hn,h2,h3=>by
  rw [List.range'_succ,List.forIn_cons];unfold StrLaws.occBody
  by_cases hi:i<x.length
  ·have hi':i<x.cps.size:=hi
   have hd:x.cps.toList.drop i=x.cps[i]'hi'::x.cps.toList.drop (i+1):=by
    rw [List.drop_eq_getElem_cons (show i<x.cps.toList.length by simpa using hi')];simp
   have hg:x.cps.toList[i]? = some (x.cps[i]'hi'):=by
    simp [hi']
   by_cases q:x.cps[i]'hi'=c
   ·have hs:Builtin.Str.subAt x ⟨#[c]⟩ i=true:=by rw [zfZ x c i hi,hg,q];simp
    rw [if_pos ⟨⟨⟨by lia,h2⟩,hi⟩,hs⟩]
    show (forIn (List.range' (i+1) n) (st.1.push i,i+1) (StrLaws.occBody x ⟨#[c]⟩ x.length (x.length+1))).run.fst.size=_
    rw [yeA x c n (i+1) _ (by lia) (Nat.le_refl _) (by simp;lia),hd,q]
    simp;lia
   ·have hs:Builtin.Str.subAt x ⟨#[c]⟩ i=false:=by rw [zfZ x c i hi,hg];simp [q]
    rw [if_neg (by simp [hs])]
    show (forIn (List.range' (i+1) n) (st.1,st.2) (StrLaws.occBody x ⟨#[c]⟩ x.length (x.length+1))).run.fst.size=_
    rw [yeA x c n (i+1) _ (by lia) (by show st.2<=i+1;lia) (by show st.1.size<=i+1;lia),hd]
    simp [q]
  ·rw [if_neg (by rintro ⟨⟨_,z⟩,_⟩;exact hi z)]
   show (forIn (List.range' (i+1) n) (st.1,st.2) (StrLaws.occBody x ⟨#[c]⟩ x.length (x.length+1))).run.fst.size=_
   rw [yeA x c n (i+1) _ (by lia) (by show st.2<=i+1;lia) (by show st.1.size<=i+1;lia)]
   rw [List.drop_of_length_le (by simp;simp only [Str.length] at hi;lia),List.drop_of_length_le (by simp;simp only [Str.length] at hi;lia)]
theorem zhz (x:Str) (c:Nat):(Builtin.Str.occurrences x ⟨#[c]⟩ 0 x.length (x.length+1)).length=x.cps.toList.count c:=by
 rw [StrLaws.occ_eq,Array.length_toList];rw [show x.length+1-0=x.length+1 from rfl,yeA x c (x.length+1) 0 _ (by lia) (Nat.le_refl _) (by simp)]
 simp
theorem zb4 (x:Str):ydN x=x.cps.toList.count 10:=zhz x 10
theorem zan (x y:Str):(x++y).cps.toList=x.cps.toList++y.cps.toList:=by
 show (x.cps++y.cps).toList=_
 simp
theorem zil (x y:Str):ydN (x++y)=ydN x+ydN y:=by
 rw [zb4,zb4,zb4,zan,List.count_append]
theorem zac (x:Str):x.length=x.cps.toList.length:=by simp [Str.length]
theorem zap (x y:Str):(x++y).length=x.length+y.length:=by
 rw [zac,zac,zac,zan,List.length_append]
def yea (rs:List Str):Pc->Str
 | .leaf x=>x
 | .fork a b=>rs.getD a "" ++ rs.getD b ""
def reads (ps:List Pc):List Str:=ps.foldl (fun rs q=>rs++[yea rs q]) [""]
theorem zgS (ps:List Pc) (q:Pc):reads (ps++[q])=reads ps++[yea (reads ps) q]:=by simp [reads]
theorem zby {α β:Type} (g:List β->α->β):∀ (qs:List α) (ms:List β),∃ r,qs.foldl (fun ms q=>ms++[g ms q]) ms=ms++r/\r.length=qs.length
 | [],ms=>⟨[],by simp,rfl⟩
 | q::qs,ms=>by
  obtain ⟨r,e,l⟩:=zby g qs (ms++[g ms q])
  exact ⟨g ms q::r,by rw [List.foldl_cons,e];simp,by simp [l]⟩
theorem zbL (ps:List Pc):(reads ps).length=ps.length+1:=by
 obtain ⟨r,e,l⟩:=zby yea ps [""]
 rw [reads,e];simp [l,Nat.add_comm]
theorem zim (ps qs:List Pc):∃ r,meas (ps++qs)=meas ps++r:=by
 unfold meas
 rw [List.foldl_append];obtain ⟨r,e,_⟩:=zby ydl qs (ps.foldl (fun ms q=>ms++[ydl ms q]) [ms0])
 exact ⟨r,e⟩
theorem zhA (ps qs:List Pc):∃ r,reads (ps++qs)=reads ps++r:=by
 unfold reads
 rw [List.foldl_append];obtain ⟨r,e,_⟩:=zby yea qs (ps.foldl (fun ms q=>ms++[yea ms q]) [""])
 exact ⟨r,e⟩
theorem zad {ps ps':List Pc} (h:ps <+: ps') {n:Nat} {m:Ms} (e:(meas ps)[n]? = some m):(meas ps')[n]? = some m:=by
 obtain ⟨qs,rfl⟩:=h
 obtain ⟨r,q⟩:=zim ps qs
 rw [q,List.getElem?_append_left (List.getElem?_eq_some_iff.mp e).1];exact e
theorem zbM {ps ps':List Pc} (h:ps <+: ps') {n:Nat} {m:Str} (e:(reads ps)[n]? = some m):(reads ps')[n]? = some m:=by
 obtain ⟨qs,rfl⟩:=h
 obtain ⟨r,q⟩:=zhA ps qs
 rw [q,List.getElem?_append_left (List.getElem?_eq_some_iff.mp e).1];exact e
theorem zb5 (ps:List Pc) (i:Nat):ps.take i <+: ps:=List.take_prefix i ps
theorem zdf {ps:List Pc} {i:Nat} {q:Pc} (e:ps[i]? = some q):(ps.take i++[q]) <+: ps/\(ps.take i).length=i:=by
 have hi:=(List.getElem?_eq_some_iff.mp e).1
 have:ps.take (i+1)=ps.take i++[q]:=by
  rw [List.take_succ,e];rfl
 exact ⟨this▸List.take_prefix _ _,by simp;lia⟩
theorem zf0 {ps:List Pc} {i:Nat} {q:Pc} (e:ps[i]? = some q):(meas ps)[i+1]? = some (ydl (meas (ps.take i)) q):=by
 obtain ⟨h,l⟩:=zdf e
 refine zad h ?_
 rw [zcp,List.getElem?_append_right (by rw [zar,l];lia),zar,l]
 simp
theorem zeL {ps:List Pc} {i:Nat} {q:Pc} (e:ps[i]? = some q):(reads ps)[i+1]? = some (yea (reads (ps.take i)) q):=by
 obtain ⟨h,l⟩:=zdf e
 refine zbM h ?_
 rw [zgS,List.getElem?_append_right (by rw [zbL,l];lia),zbL,l]
 simp
def PcOk (ps:List Pc):Pc->Prop
 | .leaf x=>ya7 x=true
 | .fork a b=>ForkOk ps a b
inductive Good:List Pc->Prop
 | nil:Good []
 | snoc {ps:List Pc} {q:Pc}:Good ps->q∉ps->PcOk ps q->Good (ps++[q])
theorem Good.nodup {ps:List Pc} (g:Good ps):ps.Nodup:=by
 induction g with
 | nil=>exact List.nodup_nil
 | snoc g n ok ih=>exact List.nodup_append.mpr ⟨ih,by simp,fun a ha b hb=>by simp at hb;subst hb;exact fun e=>n (e▸ha)⟩
theorem Good.get {ps:List Pc} (g:Good ps):∀ {i:Nat} {q:Pc},ps[i]? = some q->PcOk (ps.take i) q:=by
 induction g with
 | nil=>intro i q e;simp at e
 | @snoc ps q' g n ok ih =>
  intro i q e
  by_cases hi:i<ps.length
  ·rw [List.getElem?_append_left hi] at e
   rw [List.take_append_of_le_length (by lia)]
   exact ih e
  ·have hi2:i=ps.length:=by
    have:=(List.getElem?_eq_some_iff.mp e).1
    simp at this;lia
   subst hi2;simp at e
   subst e;simpa using ok
theorem ForkOk.pre {ps ps':List Pc} {a b:Nat} (F:ForkOk ps a b) (h:ps <+: ps'):ForkOk ps' a b:=by
 obtain ⟨ma,mb,la,fb,h1,h2,h3,h4,h5⟩:=F.ex
 exact ⟨F.pa,F.pb,ma,mb,la,fb,zad h h1,zad h h2,zad h h3,zad h h4,h5⟩
structure Ky (ps:List Pc) (m:Ms) (x:Str) (f l:Ms):Prop where
 fl:(meas ps)[m.fl]? = some f
 ll:(meas ps)[m.ll]? = some l
 sg:m.sg=x.length
 en:m.en=ydN x
 f1:1<=f.sg
 f8:f.sg<=8
 l1:1<=l.sg
 l8:l.sg<=8
 lv:1<=m.lv
 ht:0<=m.ht
 most:m.sg<=1000000000000000000
 cnt:∃ k,(m.lv=2*k+1/\9*k+f.sg<=m.sg/\9*k+l.sg<=m.sg)\/(m.lv=2*k+2/\9*k+9<=m.sg/\9*k+f.sg+l.sg<=m.sg)
 pl:yav x=true
structure Tx (ps:List Pc) (n:Nat) (m:Ms) (x:Str) (f l:Ms):Prop where
 n1:1<=n
 ms:(meas ps)[n]? = some m
 rd:(reads ps)[n]? = some x
 ky:Ky ps m x f l
theorem Ky.pre {ps ps':List Pc} {m:Ms} {x:Str} {f l:Ms} (k:Ky ps m x f l) (h:ps <+: ps'):Ky ps' m x f l :=
 { k with fl:=zad h k.fl,ll:=zad h k.ll }
theorem Tx.pre {ps ps':List Pc} {n:Nat} {m:Ms} {x:Str} {f l:Ms} (k:Tx ps n m x f l) (h:ps <+: ps'):Tx ps' n m x f l :=
 ⟨k.n1,zad h k.ms,zbM h k.rd,k.ky.pre h⟩
theorem Tx.le {ps:List Pc} {n:Nat} {m:Ms} {x:Str} {f l:Ms} (k:Tx ps n m x f l):n<=ps.length:=by
 have:=(List.getElem?_eq_some_iff.mp k.ms).1
 rw [zar] at this;lia
def ycU (ma mb:Ms):Ms:=⟨ma.sg+mb.sg,ma.en+mb.en,ma.lv+mb.lv,max ma.ht mb.ht+1,ma.fl,mb.ll⟩
theorem zaX (x y:Str):yav (x++y)=(yav x && yav y):=by unfold yav;rw [zan,List.all_append]
theorem kf1 {n n' s s' f l f' l':Nat} (a:∃ k,(n=2*k+1/\9*k+f<=s/\9*k+l<=s)\/(n=2*k+2/\9*k+9<=s/\9*k+f+l<=s)) (b:∃ k,(n'=2*k+1/\9*k+f'<=s'/\9*k+l'<=s')\/(n'=2*k+2/\9*k+9<=s'/\9*k+f'+l'<=s')) (hs:8<l+f') :
  ∃ k,(n+n'=2*k+1/\9*k+f<=s+s'/\9*k+l'<=s+s')\/(n+n'=2*k+2/\9*k+9<=s+s'/\9*k+f+l'<=s+s'):=by
 obtain ⟨k,⟨rfl,a1,a2⟩ | ⟨rfl,a1,a2⟩⟩:=a<;>obtain ⟨k',⟨rfl,b1,b2⟩ | ⟨rfl,b1,b2⟩⟩:=b
 ·exact ⟨k+k',.inr ⟨by lia,by lia,by lia⟩⟩
 ·exact ⟨k+k'+1,.inl ⟨by lia,by lia,by lia⟩⟩
 ·exact ⟨k+k'+1,.inl ⟨by lia,by lia,by lia⟩⟩
 ·exact ⟨k+k'+1,.inr ⟨by lia,by lia,by lia⟩⟩
theorem Ky.sg1 {ps:List Pc} {m:Ms} {x:Str} {f l:Ms} (k:Ky ps m x f l):1<=m.sg:=by
 have f1:=k.f1
 obtain ⟨k,⟨_,a,_⟩ | ⟨_,a,_⟩⟩:=k.cnt
 ·exact Nat.le_trans f1 (Nat.le_trans (Nat.le_add_left _ _) a)
 ·exact Nat.le_trans (Nat.le_add_left 1 (9*k+8)) a
theorem Ky.fork {ps:List Pc} {ma mb fa la fb lb:Ms} {x y:Str} (A:Ky ps ma x fa la) (B:Ky ps mb y fb lb) (hs:8<la.sg+fb.sg) (hm:ma.sg+mb.sg<=1000000000000000000):Ky ps (ycU ma mb) (x++y) fa lb:=by
 have k:=kf1 A.cnt B.cnt hs
 refine ⟨A.fl,B.ll,?_,?_,A.f1,A.f8,B.l1,B.l8,Nat.le_trans A.lv (Nat.le_add_right _ _),?_,hm,k,?_⟩
 ·show ma.sg+mb.sg=_;rw [zap,A.sg,B.sg]
 ·show ma.en+mb.en=_;rw [zil,A.en,B.en]
 ·have a4:=A.ht
  show 0<=max ma.ht mb.ht+1
  clear k hs hm;lia
 ·rw [zaX,A.pl,B.pl];rfl
theorem zao {x:Str} (h:ya7 x=true):1<=x.length/\x.length<=8/\yav x=true:=by
 simp [ya7] at h;exact ⟨h.2.1,h.2.2,h.1⟩
theorem zaL {α:Type} {l:List α} {i:Nat} {d x:α} (e:l[i]? = some x):l.getD i d=x:=by simp [List.getD,e]
def lfMs (x:Str) (n:Nat):Ms:=⟨x.length,ydN x,1,0,n,n⟩
theorem zbb {ps:List Pc} (g:Good ps) {i:Nat} {x:Str} (e:ps[i]? = some (.leaf x)):Tx ps (i+1) (lfMs x (i+1)) x (lfMs x (i+1)) (lfMs x (i+1)):=by
 have hi:=(List.getElem?_eq_some_iff.mp e).1
 have ok:ya7 x=true:=g.get e
 obtain ⟨s1,s2,s3⟩:=zao ok
 have li:(ps.take i).length=i:=by simp;lia
 have ml:(meas (ps.take i)).length=i+1:=by rw [zar,li]
 have e1':(meas ps)[i+1]? = some (lfMs x (i+1)):=by rw [zf0 e];simp only [ydl,lfMs];rw [ml]
 exact ⟨by lia,e1',zeL e,⟨e1',e1',rfl,rfl,s1,s2,s1,s2,Nat.le_refl 1,Int.le_refl 0,by show x.length<=_;lia,⟨0,.inl ⟨rfl,Nat.le_of_eq (Nat.zero_add _),Nat.le_of_eq (Nat.zero_add _)⟩⟩,s3⟩⟩
theorem zbV {ps:List Pc} (g:Good ps) {i a b:Nat} {ma mb fa la fb lb:Ms} {x y:Str} (e:ps[i]? = some (.fork a b)) (A:Tx ps a ma x fa la) (B:Tx ps b mb y fb lb):Tx ps (i+1) (ycU ma mb) (x++y) fa lb:=by
 have hi:=(List.getElem?_eq_some_iff.mp e).1
 have ok':ForkOk (ps.take i) a b:=g.get e
 have li:(ps.take i).length=i:=by simp;lia
 have tp:=zb5 ps i
 obtain ⟨ma',mb',la',fb',q1,q2,q3,q4,q5,q6,q7⟩:=ok'.ex
 have ba:=(List.getElem?_eq_some_iff.mp q1).1
 have bb:=(List.getElem?_eq_some_iff.mp q2).1
 rw [zar,li] at ba bb;have z1:=A.ms.symm.trans (zad tp q1);cases z1
 have z2:=B.ms.symm.trans (zad tp q2);cases z2
 have z3:=A.ky.ll.symm.trans (zad tp q3);cases z3
 have z4:=B.ky.fl.symm.trans (zad tp q4);cases z4
 have r1:(reads (ps.take i))[a]? = some x:=by
  obtain ⟨w,ew⟩:∃ w,(reads (ps.take i))[a]? = some w:=⟨(reads (ps.take i))[a]'(by rw [zbL,li];lia),by simp⟩
  have:=(zbM tp ew).symm.trans A.rd;cases this;exact ew
 have r2:(reads (ps.take i))[b]? = some y:=by
  obtain ⟨w,ew⟩:∃ w,(reads (ps.take i))[b]? = some w:=⟨(reads (ps.take i))[b]'(by rw [zbL,li];lia),by simp⟩
  have:=(zbM tp ew).symm.trans B.rd;cases this;exact ew
 refine ⟨by lia,?_,?_,A.ky.fork B.ky q5 q7⟩
 ·rw [zf0 e];simp only [ydl,zaL q1,zaL q2];rfl
 ·rw [zeL e];simp only [yea,zaL r1,zaL r2]
theorem Good.tx {ps:List Pc} (g:Good ps):∀ n,1<=n->n<=ps.length->∃ m x f l,Tx ps n m x f l:=by
 intro n
 induction n using Nat.strongRecOn with
 | ind n ih =>
  intro h1 h2
  obtain ⟨i,rfl⟩:∃ i,n=i+1:=⟨n-1,(Nat.sub_add_cancel h1).symm⟩
  obtain ⟨q,eq⟩:∃ q,ps[i]? = some q:=⟨ps[i],by simp⟩
  have ok:=g.get eq
  have li:(ps.take i).length=i:=(zdf eq).2
  cases q with
  | leaf x=>exact ⟨_,_,_,_,zbb g eq⟩
  | fork a b =>
   have ok':ForkOk (ps.take i) a b:=ok
   obtain ⟨ma,mb,la,fb,q1,q2,_⟩:=ok'.ex
   have ba:=(List.getElem?_eq_some_iff.mp q1).1
   have bb:=(List.getElem?_eq_some_iff.mp q2).1
   rw [zar,li] at ba bb;obtain ⟨_,_,_,_,A⟩:=ih a ba ok'.pa (Nat.le_trans (Nat.le_of_lt ba) h2)
   obtain ⟨_,_,_,_,B⟩:=ih b bb ok'.pb (Nat.le_trans (Nat.le_of_lt bb) h2)
   exact ⟨_,_,_,_,zbV g eq A B⟩
structure Dd (p:Nat) (h h':AH) (ps ps':List Pc) (k:Nat):Prop where
 sh:ShelfAt h' p ps'
 gd:Good ps'
 pre:ps <+: ps'
 len:ps'.length<=ps.length+k
 fr:∀ i,i<=p\/p+8<i->h'[i]? = h[i]?
 hl:h'.length=h.length
theorem zhB {h:AH} {p:Nat} {ps:List Pc} {x:Str} (S:ShelfAt h p ps) (g:Good ps) (hx:ya7 x=true) (hz:ps.length<16000000) :
  ∃ (n:Nat) (ps':List Pc) (h':AH),yaT [.ref p,.str x] h = .ok (.int n) h'/\Dd p h h' ps ps' 1/\Tx ps' n (lfMs x n) x (lfMs x n) (lfMs x n):=by
 obtain ⟨s1,s2,s3⟩:=zao hx
 have hs:x.length<=sizeLine:=Nat.le_trans s2 (by decide)
 by_cases hq:Pc.leaf x∈ps
 ·obtain ⟨i,hi,e⟩:=List.getElem_of_mem hq
  have e':ps[i]? = some (.leaf x):=by rw [List.getElem?_eq_getElem hi,e]
  exact ⟨i+1,ps,h,zbp S g.nodup hx hs e',⟨S,g,List.prefix_refl _,by lia,fun _ _=>rfl,rfl⟩,zbb g e'⟩
 ·have g':Good (ps++[.leaf x]):=.snoc g hq hx
  have e':(ps++[Pc.leaf x])[ps.length]? = some (.leaf x):=by simp
  exact ⟨ps.length+1,_,_,zdx S hx hs hq hz,⟨zbx S,g',List.prefix_append _ _,by simp,fun i hi=>zde hi,zcq _ _ _⟩,zbb g' e'⟩
theorem ShelfAt.keep {h h':AH} {p:Nat} {ps:List Pc} (S:ShelfAt h p ps) (e:∀ i,p<=i->i<=p+8->h'[i]? = h[i]?):ShelfAt h' p ps:=by
 have k:∀ j,j<=8->h'[p+j]? = h[p+j]? := fun j hj=>e _ (Nat.le_add_right p j) (Nat.add_le_add_left hj p)
 exact ⟨(k 0 (by decide)).trans S.ob,(k 1 (by decide)).trans S.h1,(k 2 (by decide)).trans S.h2,(k 3 (by decide)).trans S.h3,(k 4 (by decide)).trans S.h4,(k 5 (by decide)).trans S.h5,(k 6 (by decide)).trans S.h6,(k 7 (by decide)).trans S.h7,(k 8 (by decide)).trans S.h8⟩
theorem ShelfAt.app {h:AH} {p:Nat} {ps:List Pc} (S:ShelfAt h p ps) (r:AH):ShelfAt (h++r) p ps:=by
 have:=yaS S.h8
 exact S.keep fun i _ b=>List.getElem?_append_left (Nat.lt_of_le_of_lt b this)
structure Wk (p r:Nat) (h h':AH) (ps ps':List Pc) (k:Nat):Prop where
 sh:ShelfAt h' p ps'
 gd:Good ps'
 pre:ps <+: ps'
 len:ps'.length<=ps.length+k
 row:∃ N:Int,h'[r]? = some (.lst [.int N])
 fr:∀ i,i<=p\/p+8<i->i≠r->h'[i]? = h[i]?
 hl:h'.length=h.length
theorem Wk.refl {p r:Nat} {h:AH} {ps:List Pc} (S:ShelfAt h p ps) (g:Good ps) (e:∃ N:Int,h[r]? = some (.lst [.int N])):Wk p r h h ps ps 0 :=
 ⟨S,g,List.prefix_refl _,by lia,e,fun _ _ _=>rfl,rfl⟩
theorem zbc {h:AH} {p:Nat} {ps:List Pc} {i:Nat} (S:ShelfAt h p ps) (hi:i<=ps.length):yaP [.ref p,.int i] h = .ok .non h:=by
 by_cases z:i=0
 ·subst z;simp [yaP]
 ·have c:=zb2 S (i:=(i:Int)) ⟨by lia,by lia⟩
  simp [yaP,z,S.ob,c]
theorem zaP {h:AH} {p:Nat} {ps:List Pc} {i:Nat} {m:Ms} (S:ShelfAt h p ps) (e:(meas ps)[i]? = some m):ya2 [.ref p,.int i] h = .ok (.int m.sg) h:=by
 have hi:=(List.getElem?_eq_some_iff.mp e).1
 rw [zar] at hi;simp [ya2,zbc S (show i<=ps.length by lia),S.ob,S.h3,zai e]
theorem zaf {h:AH} {p:Nat} {ps:List Pc} {i:Nat} {m:Ms} (S:ShelfAt h p ps) (e:(meas ps)[i]? = some m):yaW [.ref p,.int i] h = .ok (.int m.ht) h:=by
 have hi:=(List.getElem?_eq_some_iff.mp e).1
 rw [zar] at hi;simp [yaW,zbc S (show i<=ps.length by lia),S.ob,S.h6,zai e]
theorem zf1 {h:AH} {p:Nat} {ps:List Pc} {i:Nat} {m:Ms} (S:ShelfAt h p ps) (e:(meas ps)[i]? = some m):ybE [.ref p,.int i] h = .ok (.int m.fl) h:=by
 have hi:=(List.getElem?_eq_some_iff.mp e).1
 rw [zar] at hi;simp [ybE,zbc S (show i<=ps.length by lia),S.ob,S.h7,zai e]
theorem yfT {h:AH} {p:Nat} {ps:List Pc} {i:Nat} {m:Ms} (S:ShelfAt h p ps) (e:(meas ps)[i]? = some m):ybM [.ref p,.int i] h = .ok (.int m.ll) h:=by
 have hi:=(List.getElem?_eq_some_iff.mp e).1
 rw [zar] at hi;simp [ybM,zbc S (show i<=ps.length by lia),S.ob,S.h8,zai e]
def lp:Nat->Nat×Nat
 | 0=>(1,2)
 | n+1=>((lp n).2,(lp n).1+(lp n).2)
def ll (n:Nat):Nat:=(lp n).1
def ls (n:Nat):Nat:=9*(ll n / 2)+ll n % 2
theorem ll_2 (n:Nat):ll (n+2)=ll n+ll (n+1):=rfl
theorem zeM:∀ n,ll n<=ll (n+1)
 | 0=>by decide
 | n+1=>by rw [show n+1+1=n+2 from rfl,ll_2];lia
theorem zjr {a b:Nat} (h:a<=b):ll a<=ll b:=by
 induction h with
 | refl=>exact Nat.le_refl _
 | step h ih=>exact Nat.le_trans ih (zeM _)
theorem zjs {a b:Nat} (h:a<=b):ls a<=ls b:=by
 have:=zjr h
 unfold ls;lia
theorem yhV {i j a b:Nat} (h1:i<=j+1) (h2:j<=i+1) (u1:ll i<=a) (u2:ll j<=b):ll (max i j+1)<=a+b:=by
 rcases Nat.lt_trichotomy i j with c | c | c
 ·have e':j=i+1:=Nat.le_antisymm h2 c
  subst e'
  rw [Nat.max_eq_right (Nat.le_succ i),ll_2];exact Nat.add_le_add u1 u2
 ·subst c
  rw [Nat.max_self];refine Nat.le_trans ?_ (Nat.add_le_add u1 u2)
  cases i with
  | zero=>exact Nat.le_refl 2
  | succ k=>rw [show k+1+1=k+2 from rfl,ll_2];exact Nat.add_le_add_right (zeM k) _
 ·have e':i=j+1:=Nat.le_antisymm h1 c
  subst e'
  rw [Nat.max_eq_left (Nat.le_succ j),ll_2,Nat.add_comm];exact Nat.add_le_add u1 u2
theorem yhW {x y:Int} {a b:Nat} (hx:0<=x) (hy:0<=y) (q:(x-y).natAbs<=1) (u1:ll x.toNat<=a) (u2:ll y.toNat<=b):ll (max x y+1).toNat<=a+b:=by
 obtain ⟨i,rfl⟩:=Int.eq_ofNat_of_zero_le hx
 obtain ⟨j,rfl⟩:=Int.eq_ofNat_of_zero_le hy
 have e:(max (i:Int) j+1).toNat=max i j+1:=by clear u1 u2 q;lia
 rw [e];exact yhV (by clear u1 u2 e;lia) (by clear u1 u2 e;lia) u1 u2
theorem Good.lv {ps:List Pc} (g:Good ps):∀ n m x f l,Tx ps n m x f l->ll m.ht.toNat<=m.lv:=by
 intro n
 induction n using Nat.strongRecOn with
 | ind n ih =>
  intro m x f l T
  have hn:=T.n1
  have hle:=T.le
  obtain ⟨i,rfl⟩:∃ i,n=i+1:=⟨n-1,by lia⟩
  obtain ⟨q,eq⟩:∃ q,ps[i]? = some q:=⟨ps[i],by simp⟩
  cases q with
  | leaf y =>
   have z:=(zbb g eq).ms.symm.trans T.ms;cases z
   exact Nat.le_refl 1
  | fork a b =>
   have ok':ForkOk (ps.take i) a b:=g.get eq
   have li:(ps.take i).length=i:=by simp;lia
   obtain ⟨ma,mb,la,fb,q1,q2,q3,q4,q5,q6,q7⟩:=ok'.ex
   have ba:=(List.getElem?_eq_some_iff.mp q1).1
   have bb:=(List.getElem?_eq_some_iff.mp q2).1
   rw [zar,li] at ba bb;obtain ⟨ma',x1,fa,la',A⟩:=g.tx a ok'.pa (by lia)
   obtain ⟨mb',y1,fb',lb,B⟩:=g.tx b ok'.pb (by lia)
   have tp:=zb5 ps i
   have z1:=A.ms.symm.trans (zad tp q1);cases z1
   have z2:=B.ms.symm.trans (zad tp q2);cases z2
   have u1:=ih a (by lia) _ _ _ _ A
   have u2:=ih b (by lia) _ _ _ _ B
   have z:=(zbV g eq A B).ms.symm.trans T.ms;cases z
   exact yhW A.ky.ht B.ky.ht q6 u1 u2
theorem Tx.ls {ps:List Pc} (g:Good ps) {n:Nat} {m:Ms} {x:Str} {f l:Ms} (T:Tx ps n m x f l):Sk.ls m.ht.toNat<=m.sg:=by
 have u:=g.lv _ _ _ _ _ T
 have f1:=T.ky.f1
 unfold Sk.ls
 obtain ⟨k,⟨e,a,_⟩ | ⟨e,a,_⟩⟩:=T.ky.cnt
 ·rw [e] at u;generalize ll m.ht.toNat=q at *;clear e;lia
 ·rw [e] at u;generalize ll m.ht.toNat=q at *;clear e;lia
theorem Good.kind {ps:List Pc} (g:Good ps) {n:Nat} {m:Ms} {x:Str} {f l:Ms} (T:Tx ps n m x f l) :
  (ps[n-1]? = some (.leaf x)/\m.ht=0/\m=lfMs x n/\1<=x.length/\x.length<=8)\/∃ a b ma mb y z fa la fb lb,ps[n-1]? = some (.fork a b)/\a<n/\b<n/\Tx ps a ma y fa la/\Tx ps b mb z fb lb/\x=y++z/\m=ycU ma mb/\(ma.ht-mb.ht).natAbs<=1:=by
 have hn:=T.n1
 have hle:=T.le
 obtain ⟨i,rfl⟩:∃ i,n=i+1:=⟨n-1,by lia⟩
 obtain ⟨q,eq⟩:∃ q,ps[i]? = some q:=⟨ps[i],by simp⟩
 cases q with
 | leaf y =>
  have L:=zbb g eq
  have z:=L.ms.symm.trans T.ms;cases z
  have z2:=L.rd.symm.trans T.rd;cases z2
  have ok:ya7 x=true:=g.get eq
  obtain ⟨s1,s2,s3⟩:=zao ok
  exact .inl ⟨eq,rfl,rfl,s1,s2⟩
 | fork a b =>
  have ok':ForkOk (ps.take i) a b:=g.get eq
  have li:(ps.take i).length=i:=by simp;lia
  obtain ⟨ma,mb,la,fb,q1,q2,q3,q4,q5,q6,q7⟩:=ok'.ex
  have ba:=(List.getElem?_eq_some_iff.mp q1).1
  have bb:=(List.getElem?_eq_some_iff.mp q2).1
  rw [zar,li] at ba bb;obtain ⟨ma',y,fa,la',A⟩:=g.tx a ok'.pa (by lia)
  obtain ⟨mb',z,fb',lb,B⟩:=g.tx b ok'.pb (by lia)
  have tp:=zb5 ps i
  have z1:=A.ms.symm.trans (zad tp q1);cases z1
  have z2:=B.ms.symm.trans (zad tp q2);cases z2
  have F:=zbV g eq A B
  have z3:=F.ms.symm.trans T.ms;cases z3
  have z4:=F.rd.symm.trans T.rd;cases z4
  exact .inr ⟨a,b,ma,mb,y,z,fa,la',fb',lb,eq,by lia,by lia,A,B,rfl,rfl,q6⟩
theorem zbd {h:AH} {p:Nat} {ps:List Pc} {n:Nat} {q:Pc} (S:ShelfAt h p ps) (n1:1<=n) (e:ps[n-1]? = some q):yaA [.ref p,.int n] h = .ok q.av h:=by
 have:=zjp S e
 rw [show ((n-1:Nat):Int)+1=(n:Int) by lia] at this
 exact this
end Sk
namespace Sk
open PySem PySem.Spec L2 Sm
theorem zae {x y:Str} (e:x.cps.toList=y.cps.toList):x=y:=by
 cases x;cases y
 simpa using e
theorem zaj (x y z:Str):(x++y)++z=x++(y++z):=zae (by simp only [zan,List.append_assoc])
theorem ls83:1000000000000000000<ls 83:=by decide +kernel
theorem ht82 {ps:List Pc} (g:Good ps) {n:Nat} {m:Ms} {x:Str} {f l:Ms} (T:Tx ps n m x f l):m.ht<=82:=by
 have h1:=T.ls g
 have h2:=T.ky.most
 have h3:=T.ky.ht
 apply Classical.byContradiction
 intro h4
 have:=zjs (show 83<=m.ht.toNat by lia)
 have:=ls83
 lia
theorem Good.cut {ps:List Pc} (g:Good ps) {n:Nat} {m:Ms} {x:Str} {f l:Ms} (T:Tx ps n m x f l) (hh:0<m.ht) :
  ∃ a b ma mb y z la fb,ps[n-1]? = some (.fork a b)/\Tx ps a ma y f la/\Tx ps b mb z fb l/\x=y++z/\m=ycU ma mb /\ -1<=ma.ht-mb.ht/\ma.ht-mb.ht<=1/\8<la.sg+fb.sg:=by
 rcases g.kind T with ⟨_,e,_⟩ | ⟨a,b,ma,mb,y,z,fa,la,fb,lb,e1,e2,e3,A,B,e4,e5,e6⟩
 ·lia
 ·have ok:ForkOk (ps.take (n-1)) a b:=g.get e1
  obtain ⟨ma',mb',la',fb',q1,q2,q3,q4,q5,_⟩:=(ok.pre (zb5 ps _)).ex
  have z1:=A.ms.symm.trans q1;cases z1
  have z2:=B.ms.symm.trans q2;cases z2
  have z3:=A.ky.ll.symm.trans q3;cases z3
  have z4:=B.ky.fl.symm.trans q4;cases z4
  have f1:=T.ky.fl
  have l1:=T.ky.ll
  rw [e5] at f1 l1;have z5:=f1.symm.trans A.ky.fl;cases z5
  have z6:=l1.symm.trans B.ky.ll;cases z6
  exact ⟨a,b,ma,mb,y,z,la,fb,e1,A,B,e4,e5,by lia,by lia,q5⟩
structure Dn (F:AH->Out AV) (p:Nat) (h h':AH) (ps ps':List Pc) (k n:Nat):Prop where
 ev:F h = .ok (.int n) h'
 dd:Dd p h h' ps ps' k
 re:∀ h2 ps2,ShelfAt h2 p ps2->Good ps2->ps' <+: ps2->F h2 = .ok (.int n) h2
theorem Dd.trans {p:Nat} {h h' h'':AH} {ps ps' ps'':List Pc} {k k' k2:Nat} (a:Dd p h h' ps ps' k) (b:Dd p h' h'' ps' ps'' k') (hk:k+k'<=k2):Dd p h h'' ps ps'' k2 :=
 ⟨b.sh,b.gd,a.pre.trans b.pre,by have:=a.len;have:=b.len;lia,fun i hi=>(b.fr i hi).trans (a.fr i hi),b.hl.trans a.hl⟩
theorem Dd.refl {p:Nat} {h:AH} {ps:List Pc} (S:ShelfAt h p ps) (g:Good ps):Dd p h h ps ps 0:=⟨S,g,List.prefix_refl _,by lia,fun _ _=>rfl,rfl⟩
theorem Dn.seq {F F1:AH->Out AV} {F2:AV->AH->Out AV} {p:Nat} {h h1 h2:AH} {ps ps1 ps2:List Pc} {k1 k2 k n1 n2:Nat} (S:ShelfAt h p ps) (g:Good ps) (d1:Dn F1 p h h1 ps ps1 k1 n1) (d2:Dn (F2 (.int n1)) p h1 h2 ps1 ps2 k2 n2)
  (eq:∀ hh pp,ShelfAt hh p pp->Good pp->ps <+: pp->F hh=(F1 hh).bind F2) (hk:k1+k2<=k):Dn F p h h2 ps ps2 k n2:=by
 refine ⟨?_,d1.dd.trans d2.dd hk,fun h3 ps3 S3 g3 p3=>?_⟩
 ·rw [eq h ps S g (List.prefix_refl _),d1.ev];exact d2.ev
 ·rw [eq h3 ps3 S3 g3 (d1.dd.pre.trans (d2.dd.pre.trans p3)),d1.re h3 ps3 S3 g3 (d2.dd.pre.trans p3)]
  exact d2.re h3 ps3 S3 g3 p3
theorem Dn.as {F F1:AH->Out AV} {p:Nat} {h h1:AH} {ps ps1:List Pc} {k1 k n1:Nat} (S:ShelfAt h p ps) (g:Good ps) (d1:Dn F1 p h h1 ps ps1 k1 n1) (eq:∀ hh pp,ShelfAt hh p pp->Good pp->ps <+: pp->F hh=F1 hh) (hk:k1<=k):Dn F p h h1 ps ps1 k n1:=by
 refine ⟨?_,{ d1.dd with len:=Nat.le_trans d1.dd.len (Nat.add_le_add_left hk _) },fun h3 ps3 S3 g3 p3=>?_⟩
 ·rw [eq h ps S g (List.prefix_refl _)];exact d1.ev
 ·rw [eq h3 ps3 S3 g3 (d1.dd.pre.trans p3)];exact d1.re h3 ps3 S3 g3 p3
theorem Dn.val {F:AH->Out AV} {p n:Nat} {h:AH} {ps:List Pc} (S:ShelfAt h p ps) (g:Good ps) (eq:∀ hh pp,ShelfAt hh p pp->Good pp->ps <+: pp->F hh = .ok (.int n) hh):Dn F p h h ps ps 0 n :=
 ⟨eq h ps S g (List.prefix_refl _),Dd.refl S g,fun h3 ps3 S3 g3 p3=>eq h3 ps3 S3 g3 p3⟩
theorem ya8 {ps ps':List Pc} (h:ps <+: ps') {i:Nat} {q:Pc} (e:ps[i]? = some q):ps'[i]? = some q:=by
 obtain ⟨r,rfl⟩:=h
 rw [List.getElem?_append_left (List.getElem?_eq_some_iff.mp e).1];exact e
theorem zf2 {h:AH} {p:Nat} {ps:List Pc} {x:Str} (S:ShelfAt h p ps) (g:Good ps) (hx:ya7 x=true) (hz:ps.length<16000000) :
  ∃ (n:Nat) (ps':List Pc) (h':AH),Dn (yaT [.ref p,.str x]) p h h' ps ps' 1 n/\Tx ps' n (lfMs x n) x (lfMs x n) (lfMs x n):=by
 obtain ⟨s1,s2,s3⟩:=zao hx
 have hs:x.length<=sizeLine:=Nat.le_trans s2 (by decide)
 by_cases hq:Pc.leaf x∈ps
 ·obtain ⟨i,hi,e⟩:=List.getElem_of_mem hq
  have e':ps[i]? = some (.leaf x):=by rw [List.getElem?_eq_getElem hi,e]
  exact ⟨i+1,ps,h,⟨zbp S g.nodup hx hs e',⟨S,g,List.prefix_refl _,by lia,fun _ _=>rfl,rfl⟩,fun h2 ps2 S2 g2 p2=>zbp S2 g2.nodup hx hs (ya8 p2 e')⟩,zbb g e'⟩
 ·have g':Good (ps++[.leaf x]):=.snoc g hq hx
  have e':(ps++[Pc.leaf x])[ps.length]? = some (.leaf x):=by simp
  exact ⟨ps.length+1,_,_,⟨zdx S hx hs hq hz,⟨zbx S,g',List.prefix_append _ _,by simp,fun i hi=>zde hi,zcq _ _ _⟩,fun h2 ps2 S2 g2 p2=>zbp S2 g2.nodup hx hs (ya8 p2 e')⟩,zbb g' e'⟩
theorem zaz {h:AH} {p:Nat} {ps:List Pc} {a b:Nat} {ma mb fa la fb lb:Ms} {x y:Str} (S:ShelfAt h p ps) (g:Good ps) (A:Tx ps a ma x fa la) (B:Tx ps b mb y fb lb) (hc:8<la.sg+fb.sg) (v1 : -1<=ma.ht-mb.ht) (v2:ma.ht-mb.ht<=1) (hm:ma.sg+mb.sg<=1000000000000000000) (hz:ps.length<16000000) :
  ∃ (n:Nat) (ps':List Pc) (h':AH),Dn (yah [.ref p,.int a,.int b]) p h h' ps ps' 1 n/\Tx ps' n (ycU ma mb) (x++y) fa lb:=by
 have F:ForkOk ps a b:=⟨A.n1,B.n1,ma,mb,la,fb,A.ms,B.ms,A.ky.ll,B.ky.fl,hc,by lia,hm⟩
 by_cases hq:Pc.fork a b∈ps
 ·obtain ⟨i,hi,e⟩:=List.getElem_of_mem hq
  have e':ps[i]? = some (.fork a b):=by rw [List.getElem?_eq_getElem hi,e]
  exact ⟨i+1,ps,h,⟨zb3 S g.nodup F e',⟨S,g,List.prefix_refl _,by lia,fun _ _=>rfl,rfl⟩,fun h2 ps2 S2 g2 p2=>zb3 S2 g2.nodup (F.pre p2) (ya8 p2 e')⟩,zbV g e' A B⟩
 ·have g':Good (ps++[.fork a b]):=.snoc g hq F
  have e':(ps++[Pc.fork a b])[ps.length]? = some (.fork a b):=by simp
  have pr:ps <+: ps++[Pc.fork a b]:=List.prefix_append _ _
  exact ⟨ps.length+1,_,_,⟨zgR S F hq hz,⟨zbx S,g',pr,by simp,fun i hi=>zde hi,zcq _ _ _⟩,fun h2 ps2 S2 g2 p2=>zb3 S2 g2.nodup (F.pre (pr.trans p2)) (ya8 p2 e')⟩,zbV g' e' (A.pre pr) (B.pre pr)⟩
theorem fmS (ma mb:Ms):(ycU ma mb).sg=ma.sg+mb.sg:=rfl
theorem fmH (ma mb:Ms):(ycU ma mb).ht=max ma.ht mb.ht+1:=rfl
theorem i1 (s:Str) (a b:Int) (h:AH):fIx (.tup [.str s,.int a,.int b]) (.int 1) h = .ok (.int a) h:=rfl
theorem i2 (s:Str) (a b:Int) (h:AH):fIx (.tup [.str s,.int a,.int b]) (.int 2) h = .ok (.int b) h:=rfl
theorem zaJ {h:AH} {p:Nat} {ps:List Pc} {n a b:Nat} (S:ShelfAt h p ps) (n1:1<=n) (e:ps[n-1]? = some (.fork a b)):yaA [.ref p,.int n] h = .ok (.tup [.str "fork",.int a,.int b]) h:=zbd S n1 e
theorem tl_1 {h:AH} {p:Nat} {ps:List Pc} {a b:Nat} {ma mb:Ms} (S:ShelfAt h p ps) (ea:(meas ps)[a]? = some ma) (eb:(meas ps)[b]? = some mb) (hd:mb.ht-ma.ht<2) :
  yaX [.ref p,.int a,.int b] h=yah [.ref p,.int a,.int b] h:=by
 have f1:=zaf S ea
 have f2:=zaf S eb
 generalize hF:yah [.ref p,.int a,.int b] h=R
 simp [yaX,S.ob,f1,f2,hd,hF]
 cases R<;>rfl
theorem tl_2 {h:AH} {p:Nat} {ps:List Pc} {a b c d:Nat} {ma mb mc md:Ms} (S:ShelfAt h p ps) (b1:1<=b) (ea:(meas ps)[a]? = some ma) (eb:(meas ps)[b]? = some mb) (e:ps[b-1]? = some (.fork c d)) (ec:(meas ps)[c]? = some mc) (ed:(meas ps)[d]? = some md) (hd : ¬ mb.ht-ma.ht<2) (hh:mc.ht<=md.ht) :
  yaX [.ref p,.int a,.int b] h=(yah [.ref p,.int a,.int c] h).bind fun v h1=>yah [.ref p,v,.int d] h1:=by
 have f1:=zaf S ea
 have f2:=zaf S eb
 have f3:=zaJ S b1 e
 have f4:=zaf S ec
 have f5:=zaf S ed
 generalize hF:yah [.ref p,.int a,.int c] h=R
 simp [yaX,S.ob,f1,f2,hd,f3,i1,i2,f4,f5,hh,hF,-fIx]
 cases R with
 | ok v h1=>dsimp only;cases yah [.ref p,v,.int d] h1<;>rfl
 | ex c h1=>rfl
 | bad=>rfl
def onSh (p:Nat) (F:AH->Out AV) (h:AH):Out AV:=match h[p]? with
 | some (.ins c' _)=>if c'=0 then F h else .bad
 | _=>.bad
theorem zf3 {h:AH} {p:Nat} {ps:List Pc} (S:ShelfAt h p ps) (F:AH->Out AV):onSh p F h=F h:=by simp [onSh,S.ob]
theorem tl_3 {h:AH} {p:Nat} {ps:List Pc} {a b c d i j:Nat} {ma mb mc md:Ms} (S:ShelfAt h p ps) (b1:1<=b) (c1:1<=c) (ea:(meas ps)[a]? = some ma) (eb:(meas ps)[b]? = some mb) (e:ps[b-1]? = some (.fork c d)) (ec:(meas ps)[c]? = some mc) (ed:(meas ps)[d]? = some md) (e2:ps[c-1]? = some (.fork i j)) (hd : ¬ mb.ht-ma.ht<2) (hh : ¬ mc.ht<=md.ht) :
  yaX [.ref p,.int a,.int b] h=(yah [.ref p,.int a,.int i] h).bind fun v h1=>(onSh p (yah [.ref p,.int j,.int d]) h1).bind fun w h2=>yah [.ref p,v,w] h2:=by
 have f1:=zaf S ea
 have f2:=zaf S eb
 have f3:=zaJ S b1 e
 have f4:=zaf S ec
 have f5:=zaf S ed
 have f6:=zaJ S c1 e2
 generalize hF:yah [.ref p,.int a,.int i] h=R
 simp [yaX,S.ob,f1,f2,hd,f3,i1,i2,f4,f5,hh,f6,hF,-fIx]
 cases R with
 | ok v h1 =>
  unfold onSh
  dsimp only
  cases hx:h1[p]? with
  | none=>rfl
  | some o =>
   cases o with
   | lst l=>rfl
   | dct q l=>rfl
   | ins c' l =>
    dsimp only;by_cases z:c'=0
    ·rw [if_pos z]
     cases yah [.ref p,.int j,.int d] h1 with
     | ok w h2=>dsimp only;cases yah [.ref p,v,w] h2<;>rfl
     | ex c h2=>rfl
     | bad=>rfl
    ·rw [if_neg z]
 | ex c h1=>rfl
 | bad=>rfl
theorem tlh1 {a b m:Int} (h1 : -1<=b-a) (h2:b-a<2) (e:m=max a b+1):max a b<=m/\m<=max a b+1/\(b-a<=1->m=max a b+1):=by lia
theorem zf4 {h:AH} {p:Nat} {ps:List Pc} {a b:Nat} {ma mb fa la fb lb:Ms} {x y:Str} (S:ShelfAt h p ps) (g:Good ps) (A:Tx ps a ma x fa la) (B:Tx ps b mb y fb lb) (hc:8<la.sg+fb.sg) (v1 : -1<=mb.ht-ma.ht) (v2:mb.ht-ma.ht<=2) (hm:ma.sg+mb.sg<=1000000000000000000) (hz:ps.length+3<16000000) :
  ∃ (n:Nat) (ps':List Pc) (h':AH) (m:Ms),Dn (yaX [.ref p,.int a,.int b]) p h h' ps ps' 3 n/\Tx ps' n m (x++y) fa lb/\max ma.ht mb.ht<=m.ht/\m.ht<=max ma.ht mb.ht+1/\(mb.ht-ma.ht<=1->m.ht=max ma.ht mb.ht+1):=by
 by_cases q:mb.ht-ma.ht<2
 ·obtain ⟨n,ps',h',d,T⟩:=zaz S g A B hc (by lia) (by lia) hm (by lia)
  exact ⟨n,ps',h',_,d.as S g (fun hh pp S' _ pr=>tl_1 S' (zad pr A.ms) (zad pr B.ms) q) (by lia),T,tlh1 v1 q (fmH ma mb)⟩
 ·obtain ⟨c,d,mc,md,y1,y2,lc,fd,e,C,D,rfl,em,w1,w2,w3⟩:=g.cut B (by have:=A.ky.ht;lia)
  have sg:=congrArg Ms.sg em
  have ht:=congrArg Ms.ht em
  rw [fmS] at sg;rw [fmH] at ht;by_cases r:mc.ht<=md.ht
  ·obtain ⟨n1,ps1,h1,d1,T1⟩:=zaz S g A C hc (by lia) (by lia) (by lia) (by lia)
   obtain ⟨n2,ps2,h2,d2,T2⟩:=zaz d1.dd.sh d1.dd.gd T1 (D.pre d1.dd.pre) w3 (by rw [fmH];lia) (by rw [fmH];lia) (by rw [fmS];lia) (by have:=d1.dd.len;lia)
   rw [zaj] at T2;refine ⟨n2,ps2,h2,_,Dn.seq S g d1 d2 (fun hh pp S' _ pr=>tl_2 S' B.n1 (zad pr A.ms) (zad pr B.ms) (ya8 pr e) (zad pr C.ms) (zad pr D.ms) q r) (by lia),T2,?_⟩
   rw [fmH,fmH];lia
  ·obtain ⟨i,j,mi,mj,z1,z2,li,fj,e2,I,J,rfl,em2,u1,u2,u3⟩:=g.cut C (by have:=D.ky.ht;lia)
   have sg2:=congrArg Ms.sg em2
   have ht2:=congrArg Ms.ht em2
   rw [fmS] at sg2;rw [fmH] at ht2;obtain ⟨n1,ps1,h1,d1,T1⟩:=zaz S g A I hc (by lia) (by lia) (by lia) (by lia)
   obtain ⟨n2,ps2,h2,d2,T2⟩:=zaz d1.dd.sh d1.dd.gd (J.pre d1.dd.pre) (D.pre d1.dd.pre) w3 (by lia) (by lia) (by lia) (by have:=d1.dd.len;lia)
   obtain ⟨n3,ps3,h3,d3,T3⟩:=zaz d2.dd.sh d2.dd.gd (T1.pre d2.dd.pre) T2 u3 (by rw [fmH,fmH];lia) (by rw [fmH,fmH];lia) (by rw [fmS,fmS];lia) (by have:=d1.dd.len;have:=d2.dd.len;lia)
   have d2':Dn (onSh p (yah [.ref p,.int j,.int d])) p h1 h2 ps1 ps2 1 n2:=d2.as d1.dd.sh d1.dd.gd (fun hh pp S' _ _=>zf3 S' _) (Nat.le_refl _)
   have d23:=Dn.seq (F:=fun h1=>(onSh p (yah [.ref p,.int j,.int d]) h1).bind fun w h2=>yah [.ref p,.int n1,w] h2) (F2:=fun w h2=>yah [.ref p,.int n1,w] h2) d1.dd.sh d1.dd.gd d2' d3 (fun _ _ _ _ _=>rfl) (k:=2) (by lia)
   have ea:(x++z1)++(z2++y2)=x++(z1++z2++y2):=by rw [zaj,zaj]
   rw [ea] at T3;refine ⟨n3,ps3,h3,_,Dn.seq (F2:=fun v h1=>(onSh p (yah [.ref p,.int j,.int d]) h1).bind fun w h2=>yah [.ref p,v,w] h2) S g d1 d23 (fun hh pp S' _ pr=>tl_3 S' B.n1 C.n1 (zad pr A.ms) (zad pr B.ms) (ya8 pr e) (zad pr C.ms) (zad pr D.ms) (ya8 pr e2) q r) (by lia),T3,?_⟩
   rw [fmH,fmH,fmH];lia
theorem tr_1 {h:AH} {p:Nat} {ps:List Pc} {a b:Nat} {ma mb:Ms} (S:ShelfAt h p ps) (ea:(meas ps)[a]? = some ma) (eb:(meas ps)[b]? = some mb) (hd:ma.ht-mb.ht<2) :
  ya4 [.ref p,.int a,.int b] h=yah [.ref p,.int a,.int b] h:=by
 have f1:=zaf S ea
 have f2:=zaf S eb
 generalize hF:yah [.ref p,.int a,.int b] h=R
 simp [ya4,S.ob,f1,f2,hd,hF]
 cases R<;>rfl
theorem tr_2 {h:AH} {p:Nat} {ps:List Pc} {a b c d:Nat} {ma mb mc md:Ms} (S:ShelfAt h p ps) (a1:1<=a) (ea:(meas ps)[a]? = some ma) (eb:(meas ps)[b]? = some mb) (e:ps[a-1]? = some (.fork c d)) (ec:(meas ps)[c]? = some mc) (ed:(meas ps)[d]? = some md) (hd : ¬ ma.ht-mb.ht<2) (hh:md.ht<=mc.ht) :
  ya4 [.ref p,.int a,.int b] h=(yah [.ref p,.int d,.int b] h).bind fun v h1=>yah [.ref p,.int c,v] h1:=by
 have f1:=zaf S ea
 have f2:=zaf S eb
 have f3:=zaJ S a1 e
 have f4:=zaf S ec
 have f5:=zaf S ed
 generalize hF:yah [.ref p,.int d,.int b] h=R
 simp [ya4,S.ob,f1,f2,hd,f3,i1,i2,f4,f5,hh,hF,-fIx]
 cases R with
 | ok v h1=>dsimp only;cases yah [.ref p,.int c,v] h1<;>rfl
 | ex c h1=>rfl
 | bad=>rfl
theorem tr_3 {h:AH} {p:Nat} {ps:List Pc} {a b c d i j:Nat} {ma mb mc md:Ms} (S:ShelfAt h p ps) (a1:1<=a) (d1:1<=d) (ea:(meas ps)[a]? = some ma) (eb:(meas ps)[b]? = some mb) (e:ps[a-1]? = some (.fork c d)) (ec:(meas ps)[c]? = some mc) (ed:(meas ps)[d]? = some md) (e2:ps[d-1]? = some (.fork i j)) (hd : ¬ ma.ht-mb.ht<2) (hh : ¬ md.ht<=mc.ht) :
  ya4 [.ref p,.int a,.int b] h=(yah [.ref p,.int c,.int i] h).bind fun v h1=>(onSh p (yah [.ref p,.int j,.int b]) h1).bind fun w h2=>yah [.ref p,v,w] h2:=by
 have f1:=zaf S ea
 have f2:=zaf S eb
 have f3:=zaJ S a1 e
 have f4:=zaf S ec
 have f5:=zaf S ed
 have f6:=zaJ S d1 e2
 generalize hF:yah [.ref p,.int c,.int i] h=R
 simp [ya4,S.ob,f1,f2,hd,f3,i1,i2,f4,f5,hh,f6,hF,-fIx]
 cases R with
 | ok v h1 =>
  unfold onSh
  dsimp only
  cases hx:h1[p]? with
  | none=>rfl
  | some o =>
   cases o with
   | lst l=>rfl
   | dct q l=>rfl
   | ins c' l =>
    dsimp only;by_cases z:c'=0
    ·rw [if_pos z]
     cases yah [.ref p,.int j,.int b] h1 with
     | ok w h2=>dsimp only;cases yah [.ref p,v,w] h2<;>rfl
     | ex c h2=>rfl
     | bad=>rfl
    ·rw [if_neg z]
 | ex c h1=>rfl
 | bad=>rfl
theorem zin {h:AH} {p:Nat} {ps:List Pc} {a b:Nat} {ma mb fa la fb lb:Ms} {x y:Str} (S:ShelfAt h p ps) (g:Good ps) (A:Tx ps a ma x fa la) (B:Tx ps b mb y fb lb) (hc:8<la.sg+fb.sg) (v1 : -1<=ma.ht-mb.ht) (v2:ma.ht-mb.ht<=2) (hm:ma.sg+mb.sg<=1000000000000000000) (hz:ps.length+3<16000000) :
  ∃ (n:Nat) (ps':List Pc) (h':AH) (m:Ms),Dn (ya4 [.ref p,.int a,.int b]) p h h' ps ps' 3 n/\Tx ps' n m (x++y) fa lb/\max ma.ht mb.ht<=m.ht/\m.ht<=max ma.ht mb.ht+1/\(ma.ht-mb.ht<=1->m.ht=max ma.ht mb.ht+1):=by
 by_cases q:ma.ht-mb.ht<2
 ·obtain ⟨n,ps',h',d,T⟩:=zaz S g A B hc (by lia) (by lia) hm (by lia)
  refine ⟨n,ps',h',_,d.as S g (fun hh pp S' _ pr=>tr_1 S' (zad pr A.ms) (zad pr B.ms) q) (by lia),T,?_⟩
  rw [fmH];lia
 ·obtain ⟨c,d,mc,md,y1,y2,lc,fd,e,C,D,rfl,em,w1,w2,w3⟩:=g.cut A (by have:=B.ky.ht;lia)
  have sg:=congrArg Ms.sg em
  have ht:=congrArg Ms.ht em
  rw [fmS] at sg;rw [fmH] at ht;by_cases r:md.ht<=mc.ht
  ·obtain ⟨n1,ps1,h1,d1,T1⟩:=zaz S g D B hc (by lia) (by lia) (by lia) (by lia)
   obtain ⟨n2,ps2,h2,d2,T2⟩:=zaz d1.dd.sh d1.dd.gd (C.pre d1.dd.pre) T1 w3 (by rw [fmH];lia) (by rw [fmH];lia) (by rw [fmS];lia) (by have:=d1.dd.len;lia)
   rw [<- zaj] at T2;refine ⟨n2,ps2,h2,_,Dn.seq (F2:=fun v h1=>yah [.ref p,.int c,v] h1) S g d1 d2 (fun hh pp S' _ pr=>tr_2 S' A.n1 (zad pr A.ms) (zad pr B.ms) (ya8 pr e) (zad pr C.ms) (zad pr D.ms) q r) (by lia),T2,?_⟩
   rw [fmH,fmH];lia
  ·obtain ⟨i,j,mi,mj,z1,z2,li,fj,e2,I,J,rfl,em2,u1,u2,u3⟩:=g.cut D (by have:=C.ky.ht;lia)
   have sg2:=congrArg Ms.sg em2
   have ht2:=congrArg Ms.ht em2
   rw [fmS] at sg2;rw [fmH] at ht2;obtain ⟨n1,ps1,h1,d1,T1⟩:=zaz S g C I w3 (by lia) (by lia) (by lia) (by lia)
   obtain ⟨n2,ps2,h2,d2,T2⟩:=zaz d1.dd.sh d1.dd.gd (J.pre d1.dd.pre) (B.pre d1.dd.pre) hc (by lia) (by lia) (by lia) (by have:=d1.dd.len;lia)
   obtain ⟨n3,ps3,h3,d3,T3⟩:=zaz d2.dd.sh d2.dd.gd (T1.pre d2.dd.pre) T2 u3 (by rw [fmH,fmH];lia) (by rw [fmH,fmH];lia) (by rw [fmS,fmS];lia) (by have:=d1.dd.len;have:=d2.dd.len;lia)
   have d2':Dn (onSh p (yah [.ref p,.int j,.int b])) p h1 h2 ps1 ps2 1 n2:=d2.as d1.dd.sh d1.dd.gd (fun hh pp S' _ _=>zf3 S' _) (Nat.le_refl _)
   have d23:=Dn.seq (F:=fun h1=>(onSh p (yah [.ref p,.int j,.int b]) h1).bind fun w h2=>yah [.ref p,.int n1,w] h2) (F2:=fun w h2=>yah [.ref p,.int n1,w] h2) d1.dd.sh d1.dd.gd d2' d3 (fun _ _ _ _ _=>rfl) (k:=2) (by lia)
   have ea:(y1++z1)++(z2++y)=y1++(z1++z2)++y:=by rw [zaj,zaj,zaj]
   rw [ea] at T3;refine ⟨n3,ps3,h3,_,Dn.seq (F2:=fun v h1=>(onSh p (yah [.ref p,.int j,.int b]) h1).bind fun w h2=>yah [.ref p,v,w] h2) S g d1 d23 (fun hh pp S' _ pr=>tr_3 S' A.n1 D.n1 (zad pr A.ms) (zad pr B.ms) (ya8 pr e) (zad pr C.ms) (zad pr D.ms) (ya8 pr e2) q r) (by lia),T3,?_⟩
   rw [fmH,fmH,fmH];lia
end Sk
namespace Sk
open PySem PySem.Spec L2 Sm
theorem Dn.seq' {F F1 F2:AH->Out AV} {p:Nat} {h h1 h2:AH} {ps ps1 ps2:List Pc} {k1 k2 k n1 n2:Nat} (S:ShelfAt h p ps) (g:Good ps) (d1:Dn F1 p h h1 ps ps1 k1 n1) (d2:Dn F2 p h1 h2 ps1 ps2 k2 n2)
  (eq:∀ hh hh1 pp,ShelfAt hh p pp->Good pp->ps <+: pp->F1 hh = .ok (.int n1) hh1->F hh=F2 hh1) (hk:k1+k2<=k):Dn F p h h2 ps ps2 k n2:=by
 refine ⟨?_,d1.dd.trans d2.dd hk,fun h3 ps3 S3 g3 p3=>?_⟩
 ·rw [eq h h1 ps S g (List.prefix_refl _) d1.ev];exact d2.ev
 ·rw [eq h3 h3 ps3 S3 g3 (d1.dd.pre.trans (d2.dd.pre.trans p3)) (d1.re h3 ps3 S3 g3 (d2.dd.pre.trans p3))]
  exact d2.re h3 ps3 S3 g3 p3
theorem lk_1 {h:AH} {p:Nat} {ps:List Pc} {a b d:Nat} {ma mb:Ms} (S:ShelfAt h p ps) (ea:(meas ps)[a]? = some ma) (eb:(meas ps)[b]? = some mb) (h1:ma.ht-mb.ht<=1) (h2 : -1<=ma.ht-mb.ht) :
  ybe (d+1) [.ref p,.int a,.int b] h=yah [.ref p,.int a,.int b] h:=by
 have f1:=zaf S ea
 have f2:=zaf S eb
 have c1 : ¬ 1<ma.ht-mb.ht:=by lia
 have c2 : ¬ ma.ht-mb.ht < -1:=by lia
 generalize hF:yah [.ref p,.int a,.int b] h=R
 simp [ybe,yd8,S.ob,f1,f2,c1,c2,hF]
 cases R<;>rfl
theorem lk_2 {h h1:AH} {p:Nat} {ps:List Pc} {a b c e d:Nat} {v:Int} {ma mb:Ms} (S:ShelfAt h p ps) (a1:1<=a) (ea:(meas ps)[a]? = some ma) (eb:(meas ps)[b]? = some mb) (ep:ps[a-1]? = some (.fork c e)) (hd:1<ma.ht-mb.ht) (ev:ybe d [.ref p,.int e,.int b] h = .ok (.int v) h1) :
  ybe (d+1) [.ref p,.int a,.int b] h=yaX [.ref p,.int c,.int v] h1:=by
 have f1:=zaf S ea
 have f2:=zaf S eb
 have f3:=zaJ S a1 ep
 generalize hF:yaX [.ref p,.int c,.int v] h1=R
 simp [ybe,yd8,S.ob,f1,f2,hd,f3,i1,i2,ev,hF,-fIx]
 cases R<;>rfl
theorem lk_3 {h h1:AH} {p:Nat} {ps:List Pc} {a b c e d:Nat} {v:Int} {ma mb:Ms} (S:ShelfAt h p ps) (b1:1<=b) (ea:(meas ps)[a]? = some ma) (eb:(meas ps)[b]? = some mb) (ep:ps[b-1]? = some (.fork c e)) (hd:ma.ht-mb.ht < -1) (ev:ybe d [.ref p,.int a,.int c] h = .ok (.int v) h1) :
  ybe (d+1) [.ref p,.int a,.int b] h=ya4 [.ref p,.int v,.int e] h1:=by
 have f1:=zaf S ea
 have f2:=zaf S eb
 have f3:=zaJ S b1 ep
 have c1 : ¬ 1<ma.ht-mb.ht:=by lia
 generalize hF:ya4 [.ref p,.int v,.int e] h1=R
 simp [ybe,yd8,S.ob,f1,f2,c1,hd,f3,i1,i2,ev,hF,-fIx]
 cases R<;>rfl
theorem zb6 {p:Nat}:∀ (d t:Nat) {h:AH} {ps:List Pc} {a b:Nat} {ma mb fa la fb lb:Ms} {x y:Str} (S:ShelfAt h p ps) (g:Good ps) (A:Tx ps a ma x fa la) (B:Tx ps b mb y fb lb) (hc:8<la.sg+fb.sg) (hm:ma.sg+mb.sg<=1000000000000000000)
  (ht:(ma.ht-mb.ht).natAbs<=t) (hd:t<d) (hz:ps.length+3*t+4<16000000),
  ∃ (n:Nat) (ps':List Pc) (h':AH) (m:Ms),Dn (ybe d [.ref p,.int a,.int b]) p h h' ps ps' (3*t+1) n/\Tx ps' n m (x++y) fa lb/\max ma.ht mb.ht<=m.ht/\m.ht<=max ma.ht mb.ht+1
 | 0,t,h,ps,a,b,ma,mb,fa,la,fb,lb,x,y,S,g,A,B,hc,hm,ht,hd,hz=>absurd hd (Nat.not_lt_zero t)
 | d+1,t,h,ps,a,b,ma,mb,fa,la,fb,lb,x,y,S,g,A,B,hc,hm,ht,hd,hz=>by
  by_cases q1:1<ma.ht-mb.ht
  ·obtain ⟨c,e,mc,me,y1,y2,lc,fe,ep,C,E,rfl,em,w1,w2,w3⟩:=g.cut A (by have:=B.ky.ht;lia)
   have sg:=congrArg Ms.sg em
   have hh:=congrArg Ms.ht em
   rw [fmS] at sg;rw [fmH] at hh;obtain ⟨n1,ps1,h1,m1,d1,T1,u1,u2⟩:=zb6 d (t-1) S g E B hc (by lia) (by lia) (by lia) (by lia)
   have s1:m1.sg=me.sg+mb.sg:=by rw [T1.ky.sg,zap,<- E.ky.sg,<- B.ky.sg]
   obtain ⟨n2,ps2,h2,m2,d2,T2,u3,u4,u5⟩:=zf4 d1.dd.sh d1.dd.gd (C.pre d1.dd.pre) T1 w3 (by lia) (by lia) (by lia) (by have:=d1.dd.len;lia)
   rw [<- zaj] at T2;exact ⟨n2,ps2,h2,m2,Dn.seq' S g d1 d2 (fun hh hh1 pp S' _ pr ev=>lk_2 S' A.n1 (zad pr A.ms) (zad pr B.ms) (ya8 pr ep) q1 ev) (by lia),T2,by lia,by lia⟩
  ·by_cases q2:ma.ht-mb.ht < -1
   ·obtain ⟨c,e,mc,me,y1,y2,lc,fe,ep,C,E,rfl,em,w1,w2,w3⟩:=g.cut B (by have:=A.ky.ht;lia)
    have sg:=congrArg Ms.sg em
    have hh:=congrArg Ms.ht em
    rw [fmS] at sg;rw [fmH] at hh;obtain ⟨n1,ps1,h1,m1,d1,T1,u1,u2⟩:=zb6 d (t-1) S g A C hc (by lia) (by lia) (by lia) (by lia)
    have s1:m1.sg=ma.sg+mc.sg:=by rw [T1.ky.sg,zap,<- A.ky.sg,<- C.ky.sg]
    obtain ⟨n2,ps2,h2,m2,d2,T2,u3,u4,u5⟩:=zin d1.dd.sh d1.dd.gd T1 (E.pre d1.dd.pre) w3 (by lia) (by lia) (by lia) (by have:=d1.dd.len;lia)
    rw [zaj] at T2;exact ⟨n2,ps2,h2,m2,Dn.seq' S g d1 d2 (fun hh hh1 pp S' _ pr ev=>lk_3 S' B.n1 (zad pr A.ms) (zad pr B.ms) (ya8 pr ep) q2 ev) (by lia),T2,by lia,by lia⟩
   ·obtain ⟨n,ps',h',dn,T⟩:=zaz S g A B hc (by lia) (by lia) hm (by lia)
    exact ⟨n,ps',h',_,dn.as S g (fun hh pp S' _ pr=>lk_1 S' (zad pr A.ms) (zad pr B.ms) (by lia) (by lia)) (by lia),T,by rw [fmH];lia,by rw [fmH];lia⟩
theorem zbu {h:AH} {p:Nat} {ps:List Pc} {n:Nat} {x:Str} (S:ShelfAt h p ps) (n1:1<=n) (e:ps[n-1]? = some (.leaf x)):yaA [.ref p,.int n] h = .ok (.tup [.str "leaf",.str x]) h:=zbd S n1 e
theorem i0L (x:Str) (h:AH):fIx (.tup [.str "leaf",.str x]) (.int 0) h = .ok (.str "leaf") h:=rfl
theorem i0F (a b:Int) (h:AH):fIx (.tup [.str "fork",.int a,.int b]) (.int 0) h = .ok (.str "fork") h:=rfl
theorem i1L (x:Str) (h:AH):fIx (.tup [.str "leaf",.str x]) (.int 1) h = .ok (.str x) h:=rfl
theorem eqL (h:AH):fEq (.str "leaf") (.str "leaf") h = .ok (.bl true) h:=by simp
theorem eqF (h:AH):fEq (.str "fork") (.str "leaf") h = .ok (.bl false) h:=by
 have : ¬ (Str.ofString "fork" = Str.ofString "leaf"):=by decide +kernel
 simp [this]
theorem wl_1 {h:AH} {p:Nat} {ps:List Pc} {a d:Nat} {L:Int} {x:Str} (S:ShelfAt h p ps) (a1:1<=a) (ep:ps[a-1]? = some (.leaf x)):ybf (d+1) [.ref p,.int a,.int L] h = .ok (.int L) h:=by
 simp [ybf,ydX,S.ob,zbu S a1 ep,i0L,eqL,-fIx,-fEq]
theorem wl_2 {h h1:AH} {p:Nat} {ps:List Pc} {a d c e:Nat} {L v:Int} (S:ShelfAt h p ps) (a1:1<=a) (ep:ps[a-1]? = some (.fork c e)) (ev:ybf d [.ref p,.int e,.int L] h = .ok (.int v) h1) :
  ybf (d+1) [.ref p,.int a,.int L] h=yah [.ref p,.int c,.int v] h1:=by
 generalize hF:yah [.ref p,.int c,.int v] h1=R
 simp [ybf,ydX,S.ob,zaJ S a1 ep,i0F,i1,i2,eqF,ev,hF,-fIx,-fEq]
 cases R<;>rfl
theorem zcG {ps:List Pc} {n:Nat} {m:Ms} {x:Str} {f l:Ms} (T:Tx ps n m x f l) (e:m=lfMs x n):f=m/\l=m:=by
 have h1:=T.ky.fl
 have h2:=T.ky.ll
 have h3:=T.ms
 rw [e] at h1 h2;exact ⟨Option.some.inj (h1.symm.trans h3),Option.some.inj (h2.symm.trans h3)⟩
theorem zf5 {p:Nat}:∀ (d:Nat) {h:AH} {ps:List Pc} {a L:Nat} {m f l:Ms} {x w:Str} (S:ShelfAt h p ps) (g:Good ps) (T:Tx ps a m x f l) (N:Tx ps L (lfMs w L) w (lfMs w L) (lfMs w L)) (hw:l.sg<=w.length) (hm:m.sg+w.length<=1000000000000000000+l.sg) (hd:m.ht.toNat<d) (hz:ps.length+m.ht.toNat<16000000),
  ∃ (n:Nat) (ps':List Pc) (h':AH) (m' f':Ms) (u v:Str),Dn (ybf d [.ref p,.int a,.int L]) p h h' ps ps' m.ht.toNat n/\x=u++v/\v.length=l.sg/\Tx ps' n m' (u++w) f' (lfMs w L)/\m'.ht=m.ht/\f.sg<=f'.sg
 | 0,h,ps,a,L,m,f,l,x,w,S,g,T,N,hw,hm,hd,hz=>absurd hd (Nat.not_lt_zero _)
 | d+1,h,ps,a,L,m,f,l,x,w,S,g,T,N,hw,hm,hd,hz=>by
  by_cases q:0<m.ht
  ·obtain ⟨c,e,mc,me,y1,y2,lc,fe,ep,C,E,rfl,em,w1,w2,w3⟩:=g.cut T q
   have sg:=congrArg Ms.sg em
   have hh:=congrArg Ms.ht em
   rw [fmS] at sg;rw [fmH] at hh;have c0:=C.ky.ht
   have e0:=E.ky.ht
   obtain ⟨n1,ps1,h1,m1,f1,u,v,d1,rfl,lv,T1,k1,k2⟩:=zf5 d S g E N hw (by lia) (by lia) (by lia)
   have s1:m1.sg+l.sg=me.sg+w.length:=by rw [T1.ky.sg,E.ky.sg,zap,zap];lia
   obtain ⟨n2,ps2,h2,d2,T2⟩:=zaz d1.dd.sh d1.dd.gd (C.pre d1.dd.pre) T1 (by lia) (by lia) (by lia) (by lia) (by have:=d1.dd.len;lia)
   rw [<- zaj] at T2;exact ⟨n2,ps2,h2,_,f,y1++u,v,Dn.seq' S g d1 d2 (fun hh hh1 pp S' _ pr ev=>wl_2 S' T.n1 (ya8 pr ep) ev) (by lia),by rw [zaj],lv,T2,by rw [fmH,k1,hh],Nat.le_refl _⟩
  ·rcases g.kind T with ⟨e1,e2,e3,e4,e5⟩ | ⟨c,e,mc,me,y1,y2,fc,lc,fe,le,e1,e2,e3,C,E,e4,e5,e6⟩
   ·obtain ⟨z1,z2⟩:=zcG T e3
    subst z1 z2
    have em:("" : Str)++x=x:=zae (by rw [zan];rfl)
    have em2:("" : Str)++w=w:=zae (by rw [zan];rfl)
    have dv:Dn (ybf (d+1) [.ref p,.int a,.int L]) p h h ps ps 0 L:=Dn.val S g fun hh pp S' _ pr=>wl_1 S' T.n1 (ya8 pr e1)
    refine ⟨L,ps,h,_,_, "",x,dv.as S g (fun _ _ _ _ _=>rfl) (Nat.zero_le _),em.symm,T.ky.sg.symm,by rw [em2];exact N,e2.symm,hw⟩
   ·have:=congrArg Ms.ht e5
    rw [fmH] at this;have c0:=C.ky.ht
    lia
theorem wf_1 {h:AH} {p:Nat} {ps:List Pc} {a d:Nat} {x:Str} (S:ShelfAt h p ps) (a1:1<=a) (ep:ps[a-1]? = some (.leaf x)):yaE (d+1) [.ref p,.int a] h = .ok (.int (0:Nat)) h:=by
 simp [yaE,ycP,S.ob,zbu S a1 ep,i0L,eqL,-fIx,-fEq]
theorem wf_2 {h h1:AH} {p:Nat} {ps:List Pc} {a d c e:Nat} (S:ShelfAt h p ps) (a1:1<=a) (ep:ps[a-1]? = some (.fork c e)) (ev:yaE d [.ref p,.int c] h = .ok (.int (0:Nat)) h1) :
  yaE (d+1) [.ref p,.int a] h = .ok (.int e) h1:=by
 have z:fEq (.int 0) (.int 0) h1 = .ok (.bl true) h1:=by simp
 simp [yaE,ycP,S.ob,zaJ S a1 ep,i0F,i1,i2,eqF,ev,z,-fIx,-fEq]
theorem wf_3 {h h1:AH} {p:Nat} {ps:List Pc} {a d c e v:Nat} (S:ShelfAt h p ps) (a1:1<=a) (ep:ps[a-1]? = some (.fork c e)) (v1:1<=v) (ev:yaE d [.ref p,.int c] h = .ok (.int v) h1) :
  yaE (d+1) [.ref p,.int a] h=yaX [.ref p,.int v,.int e] h1:=by
 have z:fEq (.int (v:Int)) (.int 0) h1 = .ok (.bl false) h1:=by
  have : ¬ (v=0):=by lia
  simp [this]
 generalize hF:yaX [.ref p,.int v,.int e] h1=R
 simp [yaE,ycP,S.ob,zaJ S a1 ep,i0F,i1,i2,eqF,ev,z,hF,-fIx,-fEq]
 cases R<;>rfl
end Sk
namespace Sk
open PySem PySem.Spec L2 Sm
theorem zeN {p:Nat}:∀ (d:Nat) {h:AH} {ps:List Pc} {a:Nat} {m f l:Ms} {x:Str} (S:ShelfAt h p ps) (g:Good ps) (T:Tx ps a m x f l) (hd:m.ht.toNat<d) (hz:ps.length+3*m.ht.toNat<16000000),
  (m.ht=0/\f.sg=x.length/\Dn (yaE d [.ref p,.int a]) p h h ps ps 0 0) \/
  (0<m.ht/\∃ (n:Nat) (ps':List Pc) (h':AH) (m' f2:Ms) (u v:Str),Dn (yaE d [.ref p,.int a]) p h h' ps ps' (3*m.ht.toNat) n/\x=u++v/\u.length=f.sg/\Tx ps' n m' v f2 l/\m.ht-1<=m'.ht/\m'.ht<=m.ht/\8<f.sg+f2.sg)
 | 0,h,ps,a,m,f,l,x,S,g,T,hd,hz=>absurd hd (Nat.not_lt_zero _)
 | d+1,h,ps,a,m,f,l,x,S,g,T,hd,hz=>by
  by_cases q:0<m.ht
  ·obtain ⟨c,e,mc,me,y1,y2,lc,fe,ep,C,E,rfl,em,w1,w2,w3⟩:=g.cut T q
   have sg:=congrArg Ms.sg em
   have hh:=congrArg Ms.ht em
   rw [fmS] at sg;rw [fmH] at hh;have c0:=C.ky.ht
   have e0:=E.ky.ht
   have most:=T.ky.most
   refine .inr ⟨q,?_⟩
   rcases zeN d S g C (by lia) (by lia) with ⟨k1,k2,d1⟩ | ⟨k1,n1,ps1,h1,m1,f2,u,v,d1,rfl,lu,T1,r1,r2,r3⟩
   ·rcases g.kind C with ⟨e1,e2,e3,e4,e5⟩ | ⟨_,_,mx,my,_,_,_,_,_,_,_,_,_,X,Y,_,e5,_⟩
    ·obtain ⟨z1,z2⟩:=zcG C e3
     have dv:Dn (yaE (d+1) [.ref p,.int a]) p h h ps ps 0 e:=by
      refine ⟨wf_2 S T.n1 ep d1.ev,Dd.refl S g,fun h3 ps3 S3 g3 p3=>wf_2 S3 T.n1 (ya8 p3 ep) (d1.re h3 ps3 S3 g3 p3)⟩
     exact ⟨e,ps,h,me,fe,y1,y2,dv.as S g (fun _ _ _ _ _=>rfl) (Nat.zero_le _),rfl,k2.symm,E,by lia,by lia,by rw [z1];rw [z2] at w3;exact w3⟩
    ·have:=congrArg Ms.ht e5
     rw [fmH] at this;have:=X.ky.ht
     lia
   ·have s1:m1.sg+f.sg=mc.sg:=by rw [T1.ky.sg,C.ky.sg,zap];lia
    obtain ⟨n2,ps2,h2,m2,d2,T2,u3,u4,u5⟩:=zf4 d1.dd.sh d1.dd.gd T1 (E.pre d1.dd.pre) w3 (by lia) (by lia) (by lia) (by have:=d1.dd.len;lia)
    refine ⟨n2,ps2,h2,m2,f2,u,v++y2,Dn.seq' S g d1 d2 (fun hh hh1 pp S' _ pr ev=>wf_3 S' T.n1 (ya8 pr ep) T1.n1 ev) (by lia),by rw [zaj],lu,T2,?_,?_,r3⟩
    ·lia
    ·lia
  ·rcases g.kind T with ⟨e1,e2,e3,e4,e5⟩ | ⟨_,_,mx,my,_,_,_,_,_,_,_,_,_,X,Y,_,e5,_⟩
   ·obtain ⟨z1,z2⟩:=zcG T e3
    exact .inl ⟨e2,by rw [z1];exact T.ky.sg,Dn.val S g fun hh pp S' _ pr=>wf_1 S' T.n1 (ya8 pr e1)⟩
   ·have:=congrArg Ms.ht e5
    rw [fmH] at this;have:=X.ky.ht
    lia
theorem Good.ends {ps:List Pc} (g:Good ps):∀ (k n:Nat) {m f l:Ms} {x:Str},n<=k->Tx ps n m x f l ->
  (∃ w u:Str,1<=m.fl/\ps[m.fl-1]? = some (.leaf w)/\x=w++u/\w.length=f.sg)/\(∃ w u:Str,1<=m.ll/\ps[m.ll-1]? = some (.leaf w)/\x=u++w/\w.length=l.sg)
 | 0,n,m,f,l,x,hn,T=>absurd T.n1 (by lia)
 | k+1,n,m,f,l,x,hn,T=>by
  rcases g.kind T with ⟨e1,e2,e3,e4,e5⟩ | ⟨a,b,ma,mb,y,z,fa,la,fb,lb,e1,e2,e3,A,B,rfl,e5,e6⟩
  ·obtain ⟨z1,z2⟩:=zcG T e3
   have em:("" : Str)++x=x:=zae (by rw [zan];rfl)
   have em2:x++("" : Str)=x:=zae (by rw [zan];simp;rfl)
   have hf:m.fl=n:=by rw [e3];rfl
   have hl:m.ll=n:=by rw [e3];rfl
   have hx:=T.ky.sg
   refine ⟨⟨x, "",by rw [hf];exact T.n1,by rw [hf];exact e1,em2.symm,by rw [z1];exact hx.symm⟩,⟨x, "",by rw [hl];exact T.n1,by rw [hl];exact e1,em.symm,by rw [z2];exact hx.symm⟩⟩
  ·have q1:=g.ends k a (by lia) A
   have q2:=g.ends k b (by lia) B
   obtain ⟨⟨w,u,a1,a2,rfl,a4⟩,_⟩:=q1
   obtain ⟨_,⟨w2,u2,b1,b2,rfl,b4⟩⟩:=q2
   have f1:=T.ky.fl
   have l1:=T.ky.ll
   have hf:m.fl=ma.fl:=by rw [e5];rfl
   have hl:m.ll=mb.ll:=by rw [e5];rfl
   rw [hf] at f1;rw [hl] at l1;have z5:=f1.symm.trans A.ky.fl;cases z5
   have z6:=l1.symm.trans B.ky.ll;cases z6
   rw [hf,hl];exact ⟨⟨w,u++(u2++w2),a1,a2,by rw [zaj],a4⟩,⟨w2,w++u++u2,b1,b2,by rw [zaj (w++u)],b4⟩⟩
theorem zf6 {a b c d:Str} (e:a++b=c++d) (h:a.length=c.length):a=c/\b=d:=by
 have:=congrArg (fun z:Str=>z.cps.toList) e
 simp only [zan] at this
 obtain ⟨h1,h2⟩:=List.append_inj this (by rw [<- zac,<- zac];exact h)
 exact ⟨zae h1,zae h2⟩
theorem zio {a b c d:Str} (e:a++b=c++d) (h:b.length=d.length):a=c/\b=d:=by
 refine zf6 e ?_
 have:=congrArg Str.length e
 rw [zap,zap] at this;lia
theorem zjt {h:AH} {p:Nat} {ps:List Pc} {a b:Nat} {ma mb la fb:Ms} (S:ShelfAt h p ps) (ea:(meas ps)[a]? = some ma) (eb:(meas ps)[b]? = some mb) (el:(meas ps)[ma.ll]? = some la) (ef:(meas ps)[mb.fl]? = some fb) :
  ydz [.ref p,.int a,.int b] h = .ok (.bl (decide (8<la.sg+fb.sg))) h:=by
 have e1:=yfT S ea
 have e2:=zf1 S eb
 have e3:=zaP S el
 have e4:=zaP S ef
 have:decide ((8:Int)<(la.sg:Int)+fb.sg)=decide (8<la.sg+fb.sg):=by apply decide_eq_decide.mpr;lia
 simp [ydz,S.ob,e1,e2,e3,e4,this]
theorem zdg {w v:Str} (hw:w.length+v.length<=100) (h:AH):fAdd (.str w) (.str v) h = .ok (.str (w++v)) h:=by
 have:w.length+v.length<=sizeLine:=Nat.le_trans hw (by decide)
 simp [fAdd,this]
theorem wd_1 {h h1 h2 h3:AH} {p:Nat} {ps:List Pc} {a b:Nat} {L n k:Int} {ma mb:Ms} {w v:Str} (S:ShelfAt h p ps) (ea:(meas ps)[a]? = some ma) (eb:(meas ps)[b]? = some mb) (l1:1<=ma.ll) (f1:1<=mb.fl) (el:ps[ma.ll-1]? = some (.leaf w)) (ef:ps[mb.fl-1]? = some (.leaf v)) (hw:w.length+v.length<=100)
  (e1:yaT [.ref p,.str (w++v)] h = .ok (.int L) h1) (e2:ybf 90 [.ref p,.int a,.int L] h1 = .ok (.int n) h2) (e3:yaE 90 [.ref p,.int b] h2 = .ok (.int k) h3) :
  yda [.ref p,.int a,.int b] h=if k=0 then .ok (.int n) h3 else ybe 90 [.ref p,.int n,.int k] h3:=by
 have q1:=yfT S ea
 have q2:=zf1 S eb
 have q3:=zbu S l1 el
 have q4:=zbu S f1 ef
 have ad:=zdg hw h
 unfold yda
 generalize ybf 90=WL at *;generalize yaE 90=WF at *;generalize hF:ybe 90=LK at *;by_cases z:k=0
 ·subst z
  have zz:fEq (.int 0) (.int 0) h3 = .ok (.bl true) h3:=by simp
  simp [S.ob,q1,q2,q3,q4,i1L,ad,e1,e2,e3,zz,-fIx,-fEq,-fAdd]
 ·have zz:fEq (.int k) (.int 0) h3 = .ok (.bl false) h3:=by simp [z]
  rw [if_neg z];generalize hR:LK [.ref p,.int n,.int k] h3=R
  simp [S.ob,q1,q2,q3,q4,i1L,ad,e1,e2,e3,zz,hR,-fIx,-fEq,-fAdd]
  cases R<;>rfl
end Sk
namespace Sk
open PySem PySem.Spec L2 Sm
theorem zhC {w v:Str} (h1:1<=w.length) (h2:w.length+v.length<=8) (pw:yav w=true) (pv:yav v=true):ya7 (w++v)=true:=by
 unfold ya7
 rw [zaX,zap,pw,pv];simp;lia
theorem ziq {h:AH} {p:Nat} {ps:List Pc} {a b:Nat} {ma mb fa la fb lb:Ms} {x y:Str} (S:ShelfAt h p ps) (g:Good ps) (A:Tx ps a ma x fa la) (B:Tx ps b mb y fb lb) (hc : ¬ 8<la.sg+fb.sg) (hm:ma.sg+mb.sg<=1000000000000000000) (hz:ps.length<15000000) :
  ∃ (n:Nat) (ps':List Pc) (h':AH) (m f l:Ms),Dn (yda [.ref p,.int a,.int b]) p h h' ps ps' (7*(max ma.ht mb.ht).toNat+2) n/\Tx ps' n m (x++y) f l/\m.ht<=max ma.ht mb.ht+1:=by
 obtain ⟨_,w,u,l1,el,ex,lw⟩:=g.ends a a (Nat.le_refl _) A
 obtain ⟨⟨v,t,f1,ef,ey,lv⟩,_⟩:=g.ends b b (Nat.le_refl _) B
 have a0:=A.ky.ht
 have b0:=B.ky.ht
 have ha:=ht82 g A
 have hb:=ht82 g B
 have px:yav x=true:=A.ky.pl
 have py:yav y=true:=B.ky.pl
 have pw:yav w=true:=by rw [ex,zaX,Bool.and_eq_true] at px;exact px.2
 have pv:yav v=true:=by rw [ey,zaX,Bool.and_eq_true] at py;exact py.1
 have la1:=A.ky.l1
 have fb1:=B.ky.f1
 have sx:=A.ky.sg
 have sy:=B.ky.sg
 have lx:x.length=u.length+w.length:=by rw [ex,zap]
 have ly:y.length=v.length+t.length:=by rw [ey,zap]
 have lwv:(w++v).length=w.length+v.length:=zap w v
 obtain ⟨L,ps1,h1,d1,N⟩:=zf2 S g (zhC (w:=w) (v:=v) (by lia) (by lia) pw pv) (by lia)
 have z1:=d1.dd.len
 obtain ⟨n2,ps2,h2,m2,f2,u2,v2,d2,ex2,lv2,T2,k1,k2⟩:=zf5 90 d1.dd.sh d1.dd.gd (A.pre d1.dd.pre) N (by lia) (by lia) (by lia) (by lia)
 have z2:=d2.dd.len
 obtain ⟨rfl,rfl⟩:u=u2/\w=v2:=zio (ex.symm.trans ex2) (by lia)
 have s2:m2.sg=u.length+(w.length+v.length):=by rw [T2.ky.sg,zap,zap]
 have p12:=d1.dd.pre.trans d2.dd.pre
 have lm:(lfMs (w++v) L).sg=w.length+v.length:=zap w v
 have tb:∀ q:Int,0<=q->q<=max ma.ht mb.ht->q.toNat<=(max ma.ht mb.ht).toNat:=fun q _ _=>by lia
 rcases zeN 90 d2.dd.sh d2.dd.gd (B.pre p12) (by lia) (by lia) with ⟨r1,r2,d3⟩ | ⟨r1,n3,ps3,h3,m3,f3,u3,v3,d3,ey3,lu3,T3,r2,r3,r4⟩
 ·have t0:t.length=0:=by lia
  have te:t = "" := zae (by rw [zac] at t0;rw [List.length_eq_zero_iff.mp t0];rfl)
  have rd:u++(w++v)=x++y:=by
   rw [ex,ey,te,zaj];congr 2
  rw [rd] at T2;refine ⟨n2,ps2,h2,m2,f2,_,⟨?_,d1.dd.trans d2.dd (by lia),fun h4 ps4 S4 g4 p4=>?_⟩,T2,by lia⟩
  ·rw [wd_1 S A.ms B.ms l1 f1 el ef (by lia) d1.ev d2.ev d3.ev];rfl
  ·have q1:=d1.re h4 ps4 S4 g4 (d2.dd.pre.trans p4)
   have q2:=d2.re h4 ps4 S4 g4 p4
   have q3:=d3.re h4 ps4 S4 g4 p4
   rw [wd_1 S4 (zad (p12.trans p4) A.ms) (zad (p12.trans p4) B.ms) l1 f1 (ya8 (p12.trans p4) el) (ya8 (p12.trans p4) ef) (by lia) q1 q2 q3];rfl
 ·obtain ⟨rfl,rfl⟩:v=u3/\t=v3:=zf6 (ey.symm.trans ey3) (by lia)
  have z3:=d3.dd.len
  have s3:m3.sg=t.length:=T3.ky.sg
  have m30:=T3.ky.ht
  obtain ⟨n4,ps4,h4,m4,d4,T4,r5,r6⟩:=zb6 90 (max ma.ht mb.ht).toNat d3.dd.sh d3.dd.gd (T2.pre d3.dd.pre) T3 (by lia) (by lia) (by lia) (by lia) (by lia)
  have rd:(u++(w++v))++t=x++y:=by rw [ex,ey,zaj,zaj,zaj]
  rw [rd] at T4;have n3z : ¬ (n3:Int)=0:=by have:=T3.n1;lia
  have p123:=p12.trans d3.dd.pre
  refine ⟨n4,ps4,h4,m4,f2,lb,⟨?_,((d1.dd.trans d2.dd (Nat.le_refl _)).trans d3.dd (Nat.le_refl _)).trans d4.dd (by lia),fun h5 ps5 S5 g5 p5=>?_⟩,T4,by lia⟩
  ·rw [wd_1 S A.ms B.ms l1 f1 el ef (by lia) d1.ev d2.ev d3.ev,if_neg n3z];exact d4.ev
  ·have p45:=d4.dd.pre.trans p5
   have q1:=d1.re h5 ps5 S5 g5 (d2.dd.pre.trans (d3.dd.pre.trans p45))
   have q2:=d2.re h5 ps5 S5 g5 (d3.dd.pre.trans p45)
   have q3:=d3.re h5 ps5 S5 g5 p45
   have q4:=d4.re h5 ps5 S5 g5 p5
   have pa:=p123.trans p45
   rw [wd_1 S5 (zad pa A.ms) (zad pa B.ms) l1 f1 (ya8 pa el) (ya8 pa ef) (by lia) q1 q2 q3,if_neg n3z];exact q4
def TxZ (ps:List Pc) (n:Nat) (y:Str):Prop:=(n=0/\y = "")\/∃ m f l,Tx ps n m y f l
theorem TxZ.pre {ps ps':List Pc} {n:Nat} {y:Str} (t:TxZ ps n y) (h:ps <+: ps'):TxZ ps' n y:=by
 rcases t with t | ⟨m,f,l,t⟩
 ·exact .inl t
 ·exact .inr ⟨m,f,l,t.pre h⟩
theorem zbN (ps:List Pc):(meas ps)[0]? = some ms0:=by
 obtain ⟨r,e,_⟩:=zby ydl ps [ms0]
 rw [meas,e];rfl
def htOf (ps:List Pc) (n:Nat):Int:=((meas ps).getD n ms0).ht
theorem ygy {ps:List Pc} {n:Nat} {m:Ms} (e:(meas ps)[n]? = some m):htOf ps n=m.ht:=by unfold htOf;rw [zaL e]
theorem zb7 {i:Int} (hi:i<=1000000000000000000) (h:AH):yc0 [.int i] h = .ok .non h:=by
 have : ¬ (1000000000000000000:Int)<i:=by lia
 simp [yc0,this]
theorem jn_0 {h:AH} {p:Nat} {ps:List Pc} {b:Nat} {mb:Ms} (S:ShelfAt h p ps) (eb:(meas ps)[b]? = some mb) (hm:mb.sg<=1000000000000000000):yby [.ref p,.int (0:Nat),.int b] h = .ok (.int b) h:=by
 have e1:=zaP S (zbN ps)
 have e2:=zaP S eb
 have z:ms0.sg=0:=rfl
 rw [z] at e1;have e1':ya2 [.ref p,.int 0] h = .ok (.int 0) h:=e1
 have ck:=zb7 (i:=(0:Int)+mb.sg) (by lia) h
 have zz:fEq (.int 0) (.int 0) h = .ok (.bl true) h:=by simp
 have ad:fAdd (.int 0) (.int mb.sg) h = .ok (.int (0+mb.sg)) h:=rfl
 simp [yby,S.ob,e1',e2,ad,ck,zz,-fEq,-fAdd,-Int.zero_add]
theorem jn_1 {h:AH} {p:Nat} {ps:List Pc} {a:Nat} {ma:Ms} (S:ShelfAt h p ps) (a1:1<=a) (ea:(meas ps)[a]? = some ma) (hm:ma.sg<=1000000000000000000):yby [.ref p,.int a,.int (0:Nat)] h = .ok (.int a) h:=by
 have e1:=zaP S (zbN ps)
 have e2:=zaP S ea
 have z:ms0.sg=0:=rfl
 rw [z] at e1;have e1':ya2 [.ref p,.int 0] h = .ok (.int 0) h:=e1
 have ck:=zb7 (i:=(ma.sg:Int)+0) (by lia) h
 have zz:fEq (.int 0) (.int 0) h = .ok (.bl true) h:=by simp
 have z2:fEq (.int a) (.int 0) h = .ok (.bl false) h:=by
  have : ¬ a=0:=by lia
  simp [this]
 have ad:fAdd (.int ma.sg) (.int 0) h = .ok (.int (ma.sg+0)) h:=rfl
 simp [yby,S.ob,e1',e2,ad,ck,zz,z2,-fEq,-fAdd,-Int.add_zero]
theorem jn_2 {h:AH} {p:Nat} {ps:List Pc} {a b:Nat} {ma mb la fb:Ms} (S:ShelfAt h p ps) (a1:1<=a) (b1:1<=b) (ea:(meas ps)[a]? = some ma) (eb:(meas ps)[b]? = some mb) (el:(meas ps)[ma.ll]? = some la) (ef:(meas ps)[mb.fl]? = some fb) (hm:ma.sg+mb.sg<=1000000000000000000) :
  yby [.ref p,.int a,.int b] h=if 8<la.sg+fb.sg then ybe 90 [.ref p,.int a,.int b] h else yda [.ref p,.int a,.int b] h:=by
 have e1:=zaP S ea
 have e2:=zaP S eb
 have cl:=zjt S ea eb el ef
 have ck:=zb7 (i:=(ma.sg:Int)+mb.sg) (by lia) h
 have z1:fEq (.int a) (.int 0) h = .ok (.bl false) h:=by
  have : ¬ a=0:=by lia
  simp [this]
 have z2:fEq (.int b) (.int 0) h = .ok (.bl false) h:=by
  have : ¬ b=0:=by lia
  simp [this]
 have ad:fAdd (.int ma.sg) (.int mb.sg) h = .ok (.int (ma.sg+mb.sg)) h:=rfl
 unfold yby
 generalize ybe 90=LK at *;by_cases q:8<la.sg+fb.sg
 ·rw [if_pos q]
  generalize hR:LK [.ref p,.int a,.int b] h=R
  simp [S.ob,e1,e2,ad,ck,z1,z2,cl,q,hR,-fEq,-fAdd]
  cases R<;>rfl
 ·rw [if_neg q]
  generalize hR:yda [.ref p,.int a,.int b] h=R
  simp [S.ob,e1,e2,ad,ck,z1,z2,cl,q,hR,-fEq,-fAdd]
  cases R<;>rfl
theorem TxZ.meas {ps:List Pc} {n:Nat} {y:Str} (t:TxZ ps n y):∃ m,(meas ps)[n]? = some m/\m.sg=y.length:=by
 rcases t with ⟨rfl,rfl⟩ | ⟨m,f,l,T⟩
 ·exact ⟨ms0,zbN ps,rfl⟩
 ·exact ⟨m,T.ms,T.ky.sg⟩
theorem zir {h:AH} {p:Nat} {ps:List Pc} {a b:Nat} {x y:Str} (S:ShelfAt h p ps) (g:Good ps) (A:TxZ ps a x) (B:TxZ ps b y) (hm:x.length+y.length<=1000000000000000000) (hz:ps.length<15000000) :
  ∃ (n:Nat) (ps':List Pc) (h':AH),Dn (yby [.ref p,.int a,.int b]) p h h' ps ps' (16*(max (htOf ps a) (htOf ps b)+1).toNat) n/\TxZ ps' n (x++y):=by
 rcases A with ⟨rfl,rfl⟩ | ⟨ma,fa,la,A⟩
 ·obtain ⟨mb,eb,sb⟩:=B.meas
  have em:("" : Str)++y=y:=zae (by rw [zan];rfl)
  have dv:Dn (yby [.ref p,.int (0:Nat),.int b]) p h h ps ps 0 b:=Dn.val S g fun hh pp S' _ pr=>jn_0 S' (zad pr eb) (by rw [sb];lia)
  exact ⟨b,ps,h,dv.as S g (fun _ _ _ _ _=>rfl) (Nat.zero_le _),by rw [em];exact B⟩
 ·rcases B with ⟨rfl,rfl⟩ | ⟨mb,fb,lb,B⟩
  ·have em:x++("" : Str)=x:=zae (by rw [zan];simp;rfl)
   have dv:Dn (yby [.ref p,.int a,.int (0:Nat)]) p h h ps ps 0 a:=Dn.val S g fun hh pp S' _ pr=>jn_1 S' A.n1 (zad pr A.ms) A.ky.most
   exact ⟨a,ps,h,dv.as S g (fun _ _ _ _ _=>rfl) (Nat.zero_le _),by rw [em];exact .inr ⟨_,_,_,A⟩⟩
  ·have sa:=A.ky.sg
   have sb:=B.ky.sg
   have a0:=A.ky.ht
   have b0:=B.ky.ht
   have ha:=ht82 g A
   have hb:=ht82 g B
   rw [ygy A.ms,ygy B.ms];by_cases q:8<la.sg+fb.sg
   ·obtain ⟨n,ps',h',m,d,T,_⟩:=zb6 90 (max ma.ht mb.ht).toNat S g A B q (by lia) (by lia) (by lia) (by lia)
    exact ⟨n,ps',h',d.as S g (fun hh pp S' _ pr=>by rw [jn_2 S' A.n1 B.n1 (zad pr A.ms) (zad pr B.ms) (zad pr A.ky.ll) (zad pr B.ky.fl) (by lia),if_pos q]) (by lia),.inr ⟨_,_,_,T⟩⟩
   ·obtain ⟨n,ps',h',m,f,l,d,T,_⟩:=ziq S g A B q (by lia) hz
    exact ⟨n,ps',h',d.as S g (fun hh pp S' _ pr=>by rw [jn_2 S' A.n1 B.n1 (zad pr A.ms) (zad pr B.ms) (zad pr A.ky.ll) (zad pr B.ky.fl) (by lia),if_neg q]) (by lia),.inr ⟨_,_,_,T⟩⟩
end Sk
namespace Sk
open PySem PySem.Spec L2 Sm
theorem zdK {b e:Nat} {y:Str} (be:b<=e):(cutS y (some (b:Int)) (some (e:Int))).cps.toList=(y.cps.toList.drop b).take (e-b):=by
 unfold cutS
 rw [HT.sIx_nat,HT.sIx_nat];generalize y.cps.toList=l
 show (l.drop (min b l.length)).take (min e l.length-min b l.length)=_
 apply List.ext_getElem?
 intro i
 rw [List.getElem?_take,List.getElem?_take,List.getElem?_drop,List.getElem?_drop];by_cases q:b<=l.length
 ·rw [Nat.min_eq_left q]
  by_cases c1:i<e-b
  ·rw [if_pos c1]
   by_cases c2:i<min e l.length-b
   ·rw [if_pos c2]
   ·rw [if_neg c2,List.getElem?_eq_none (by lia)]
  ·rw [if_neg c1,if_neg (by lia)]
 ·rw [if_neg (by lia),List.getElem?_eq_none (l:=l) (i:=b+i) (by lia)]
  split<;>rfl
def cat:List Str->Str
 | [] => ""
 | w::ws=>w++cat ws
theorem zdL:∀ as bs:List Str,cat (as++bs)=cat as++cat bs
 | [],bs=>(zae (by rw [zan];rfl):cat bs=("" : Str)++cat bs)
 | w::as,bs=>by
  show w++cat (as++bs)=(w++cat as)++cat bs
  rw [zdL as bs,zaj]
theorem zf7 (w:Str):cat [w]=w:=zae (by show (w++("" : Str)).cps.toList=_;rw [zan];simp;rfl)
def LS (ps:List Pc) (ns:List Nat) (ws:List Str):Prop:=ns.length=ws.length/\∀ (i n:Nat) (w:Str),ns[i]? = some n->ws[i]? = some w->Tx ps n (lfMs w n) w (lfMs w n) (lfMs w n)
theorem LS.pre {ps ps':List Pc} {ns:List Nat} {ws:List Str} (s:LS ps ns ws) (h:ps <+: ps'):LS ps' ns ws:=⟨s.1,fun i n w a b=>(s.2 i n w a b).pre h⟩
theorem LS.take {ps:List Pc} {ns:List Nat} {ws:List Str} (s:LS ps ns ws) (k:Nat):LS ps (ns.take k) (ws.take k):=by
 refine ⟨by simp [s.1],fun i n w a b=>?_⟩
 rw [List.getElem?_take] at a b;by_cases q:i<k
 ·rw [if_pos q] at a b;exact s.2 i n w a b
 ·rw [if_neg q] at a;cases a
theorem LS.drop {ps:List Pc} {ns:List Nat} {ws:List Str} (s:LS ps ns ws) (k:Nat):LS ps (ns.drop k) (ws.drop k):=by
 refine ⟨by simp [s.1],fun i n w a b=>?_⟩
 rw [List.getElem?_drop] at a b;exact s.2 _ n w a b
abbrev ivs (ns:List Nat):List AV:=ns.map fun n:Nat=>AV.int (n:Int)
theorem hv_1 {h:AH} {p d n:Nat}:yb0 (d+1) [.ref p,.fl (ivs [n])] h = .ok (.int n) h:=by
 have ix:fIx (.fl [.int (n:Int)]) (.int 0) h = .ok (.int n) h:=rfl
 simp [yb0,yen,ix,-fIx]
theorem zhD {α:Type} (l:List α) {k:Nat} (hk:k<=l.length):cutA l none (some (k:Int))=l.take k:=by
 unfold cutA
 rw [HT.sIx_nat,HT.sIx_none,Nat.min_eq_left hk];simp
theorem zhE {α:Type} (l:List α) {k:Nat} (hk:k<=l.length):cutA l (some (k:Int)) none=l.drop k:=by
 unfold cutA
 rw [HT.sIx_nat,HT.sIx_none,Nat.min_eq_left hk,List.take_of_length_le (by simp)]
theorem hv_2 {h h1 h2:AH} {p d:Nat} {ps:List Pc} {ns:List Nat} {v1 v2:Int} (S:ShelfAt h p ps) (hl:2<=ns.length) (e1:yb0 d [.ref p,.fl (ivs (ns.take (ns.length / 2)))] h = .ok (.int v1) h1) (e2:yb0 d [.ref p,.fl (ivs (ns.drop (ns.length / 2)))] h1 = .ok (.int v2) h2) :
  yb0 (d+1) [.ref p,.fl (ivs ns)] h=yah [.ref p,.int v1,.int v2] h2:=by
 have hh:ns.length / 2<=ns.length:=Nat.div_le_self _ _
 have ln:fLen [.fl (ivs ns)] h = .ok (.int ns.length) h:=by simp [fLen]
 have q:fEq (.int ns.length) (.int 1) h = .ok (.bl false) h:=by
  have : ¬ (ns.length:Int)=1:=by lia
  simp [this]
 have dv:fDiv (.int ns.length) (.int 2) h = .ok (.int (ns.length / 2:Nat)) h:=rfl
 have c1:ya0 (.fl (ivs ns)) none (some (ns.length / 2:Nat)) h = .ok (.fl (ivs (ns.take (ns.length / 2)))) h:=by
  have:=zhD (ivs ns) (k:=ns.length / 2) (by simpa using hh)
  simp only [ya0,this,ivs,List.map_take]
 have c2:∀ h,ya0 (.fl (ivs ns)) (some (ns.length / 2:Nat)) none h = .ok (.fl (ivs (ns.drop (ns.length / 2)))) h:=fun h=>by
  have:=zhE (ivs ns) (k:=ns.length / 2) (by simpa using hh)
  simp only [ya0,this,ivs,List.map_drop]
 generalize hF:yah [.ref p,.int v1,.int v2] h2=R
 unfold yb0 yen
 generalize ivs ns=Z at *;generalize ivs (ns.take (ns.length / 2))=Z1 at *;generalize ivs (ns.drop (ns.length / 2))=Z2 at *;generalize ((ns.length / 2:Nat):Int)=M at *;generalize (ns.length:Int)=K at *;simp [S.ob,ln,q,dv,c1,c2,e1,e2,hF,-fLen,-fEq,-fDiv,-ya0]
 cases R<;>rfl
theorem pw1 {a b ha hb:Nat} (ab:b<=a+1) (h1:a<=2 ^ ha) (h2:hb=0\/2 ^ (hb-1)<b):hb<=ha+1:=by
 rcases h2 with h2 | h2
 ·lia
 ·have:2 ^ (hb-1)<=2 ^ ha:=by lia
  have:=(Nat.pow_le_pow_iff_right (a:=2) (by decide)).mp this
  lia
theorem pw2 {a b ha hb:Nat} (ab:a<=b) (h1:b<=2 ^ hb) (h2:ha=0\/2 ^ (ha-1)<a):ha<=hb:=by
 rcases h2 with h2 | h2
 ·lia
 ·have:2 ^ (ha-1)<2 ^ hb:=by lia
  have:=(Nat.pow_lt_pow_iff_right (a:=2) (by decide)).mp this
  lia
theorem pw3 {k b hb:Nat} (h1:k<=2*b) (h2:2*b<=k+1) (h3:2<=k) (h4:b<=2 ^ hb) (h5:hb=0\/2 ^ (hb-1)<b):k<=2 ^ (hb+1)/\2 ^ (hb+1-1)<k:=by
 rw [Nat.pow_succ,Nat.add_sub_cancel];refine ⟨by lia,?_⟩
 rcases h5 with h5 | h5
 ·subst h5;simp;lia
 ·cases hb with
  | zero=>simp;lia
  | succ n =>
   rw [Nat.add_sub_cancel] at h5;rw [Nat.pow_succ];lia
theorem pw4 {k e:Nat} (h:k<=2 ^ (e+1)):k / 2<=2 ^ e/\k-k / 2<=2 ^ e:=by rw [Nat.pow_succ] at h;lia
theorem zdh {p:Nat}:∀ (d e:Nat) {h:AH} {ps:List Pc} {ns:List Nat} {ws:List Str},ShelfAt h p ps->Good ps->LS ps ns ws->1<=ns.length->ns.length<=2 ^ e->e<d->(∀ (i:Nat) (w:Str),ws[i]? = some w->i+1<ws.length->w.length=8)->ps.length+ns.length<16000000->ns.length<=10000 ->
  ∃ (n:Nat) (ps':List Pc) (h':AH) (m f l:Ms) (H:Nat),yb0 d [.ref p,.fl (ivs ns)] h = .ok (.int n) h'/\Dd p h h' ps ps' (ns.length-1)/\Tx ps' n m (cat ws) f l/\m.ht=H/\ns.length<=2 ^ H/\(H=0\/2 ^ (H-1)<ns.length)/\((∀ w∈ws,w.length=8)->l.sg=8)/\m.sg<=8*ns.length
 | 0,e,h,ps,ns,ws,S,g,LL,h1,h2,h3,h4,h5,h6=>absurd h3 (Nat.not_lt_zero _)
 | d+1,e,h,ps,ns,ws,S,g,LL,h1,h2,h3,h4,h5,h6=>by
  by_cases q:ns.length=1
  ·obtain ⟨n,rfl⟩:∃ n,ns=[n]:=List.length_eq_one_iff.mp q
   obtain ⟨w,rfl⟩:∃ w,ws=[w]:=List.length_eq_one_iff.mp (LL.1.symm.trans q)
   have T:=LL.2 0 n w rfl rfl
   refine ⟨n,ps,h,_,_,_,0,hv_1,{ Dd.refl S g with len:=by lia },by rw [zf7];exact T,rfl,by simp,.inl rfl,fun hw=>hw w (by simp),?_⟩
   have:=T.ky.f8
   simpa using this
  ·have hh:2<=ns.length:=by lia
   obtain ⟨e',rfl⟩:∃ e',e=e'+1:=by
    cases e with
    | zero=>simp at h2;lia
    | succ e' => exact ⟨e',rfl⟩
   obtain ⟨w1,w2⟩:=pw4 h2
   have lt:(ns.take (ns.length / 2)).length=ns.length / 2:=by rw [List.length_take];lia
   have ld:(ns.drop (ns.length / 2)).length=ns.length-ns.length / 2:=List.length_drop ..
   have lw:=LL.1
   obtain ⟨n1,ps1,hh1,m1,f1,l1,H1,a1,a2,a3,a4,a5,a6,a7,a8⟩:=zdh d e' S g (LL.take (ns.length / 2)) (by lia) (by lia) (by lia) (fun i w ew hi=>by
    rw [List.getElem?_take] at ew;split at ew
    ·rw [List.length_take] at hi;exact h4 i w ew (by lia)
    ·cases ew) (by lia) (by lia)
   have z1:=a2.len
   obtain ⟨n2,ps2,hh2,m2,f2,l2,H2,b1,b2,b3,b4,b5,b6,b7,b8⟩:=zdh d e' a2.sh a2.gd ((LL.drop (ns.length / 2)).pre a2.pre) (by lia) (by lia) (by lia) (fun i w ew hi=>by
    rw [List.getElem?_drop] at ew;rw [List.length_drop] at hi;exact h4 _ w ew (by lia)) (by lia) (by lia)
   have z2:=b2.len
   rw [lt] at a5 a6 a8;rw [ld] at b5 b6 b8;have g1:=pw1 (a:=ns.length / 2) (b:=ns.length-ns.length / 2) (by lia) a5 b6
   have g2:=pw2 (a:=ns.length / 2) (b:=ns.length-ns.length / 2) (by lia) b5 a6
   have l8:l1.sg=8:=a7 fun w hw=>by
    obtain ⟨i,hi,ei⟩:=List.getElem_of_mem hw
    have hi' := hi
    rw [List.length_take] at hi';have:(ws.take (ns.length / 2))[i]? = some w:=by rw [List.getElem?_eq_getElem hi,ei]
    rw [List.getElem?_take] at this;split at this
    ·exact h4 i w this (by lia)
    ·cases this
   have f1' := b3.ky.f1
   obtain ⟨n3,ps3,hh3,d3,T3⟩:=zaz b2.sh b2.gd (a3.pre b2.pre) b3 (by lia) (by lia) (by lia) (by lia) (by lia)
   have rd:cat (ws.take (ns.length / 2))++cat (ws.drop (ns.length / 2))=cat ws:=by rw [<- zdL,List.take_append_drop]
   rw [rd] at T3;have hv:=hv_2 S hh a1 b1
   obtain ⟨y1,y2⟩:=pw3 (k:=ns.length) (b:=ns.length-ns.length / 2) (by lia) (by lia) hh b5 b6
   refine ⟨n3,ps3,hh3,_,f1,l2,H2+1,hv.trans d3.ev,(a2.trans b2 (Nat.le_refl _)).trans d3.dd (by lia),T3,by rw [fmH,a4,b4];lia,y1,.inr y2,fun hw=>b7 fun w hm=>hw w (List.mem_of_mem_drop hm),by rw [fmS];lia⟩
end Sk
namespace Sk
open PySem PySem.Spec L2 Sm
def ydm (x:Str) (k:Nat):Str:=cutS x (some ((8*k:Nat):Int)) (some ((8*k+8:Nat):Int))
theorem zcr (x:Str) (k:Nat):(ydm x k).cps.toList=(x.cps.toList.drop (8*k)).take 8:=by
 unfold ydm
 rw [zdK (by lia),show 8*k+8-8*k=8 by lia]
theorem zej (x:Str) (k:Nat):(ydm x k).length=min 8 (x.length-8*k):=by
 rw [zac,zcr,List.length_take,List.length_drop,<- zac]
theorem zfc {x:Str} (px:yav x=true) (k:Nat):yav (ydm x k)=true:=by
 unfold yav at *
 rw [zcr,List.all_eq_true];rw [List.all_eq_true] at px;exact fun c hc=>px c (List.mem_of_mem_drop (List.mem_of_mem_take hc))
theorem zdy (x:Str):∀ j,(cat ((List.range j).map (ydm x))).cps.toList=x.cps.toList.take (8*j)
 | 0=>rfl
 | j+1=>by
  rw [List.range_succ,List.map_append,zdL,zan,zdy x j];show _++(cat [ydm x j]).cps.toList=_
  rw [zf7,zcr,show 8*(j+1)=8*j+8 by lia,List.take_add]
theorem zek {α:Type} {f:Nat->α} {N i:Nat} {w:α} (e:((List.range N).map f)[i]? = some w):i<N/\w=f i:=by
 rw [List.getElem?_map] at e;obtain ⟨j,ej,ew⟩:=Option.map_eq_some_iff.mp e
 have h1:=(List.getElem?_eq_some_iff.mp ej).1
 rw [List.length_range] at h1;rw [List.getElem?_range h1] at ej
 cases ej
 exact ⟨h1,ew.symm⟩
theorem LS.snoc {ps ps':List Pc} {ns:List Nat} {ws:List Str} {n:Nat} {w:Str} (s:LS ps ns ws) (h:ps <+: ps') (T:Tx ps' n (lfMs w n) w (lfMs w n) (lfMs w n)):LS ps' (ns++[n]) (ws++[w]):=by
 have l:=s.1
 refine ⟨by simp [s.1],fun i a b ea eb=>?_⟩
 by_cases q:i<ns.length
 ·rw [List.getElem?_append_left q] at ea
  rw [List.getElem?_append_left (by lia)] at eb
  exact (s.2 i a b ea eb).pre h
 ·have h1:=(List.getElem?_eq_some_iff.mp ea).1
  have hi:i=ns.length:=by simp at h1;lia
  subst hi;rw [List.getElem?_append_right (by lia)] at ea eb
  simp at ea
  rw [show ns.length-ws.length=0 by lia] at eb
  simp at eb
  subst ea eb
  exact T
theorem zfd {h:AH} {p:Nat} {ps:List Pc} {x:Str} (S:ShelfAt h p ps) (g:Good ps) (px:yav x=true) (N:Nat) (hN:8*N<x.length+8) (hx:x.length<=10000) (hz:ps.length+N<16000000) (all:List AV) (js:List Nat) (en:En) (hj:js.map (fun j=>(en[j]?).join)=[some (.ref p),some (.str x)]) :
  ∃ (ns:List Nat) (ps':List Pc) (h':AH),ya3 js en none all sYes (yap 0 yaT (sVar 1) (yab (sCut (sVar 2) (some (sVar 0)) (some (sOp2 fAdd (sVar 0) (sLit (.int 8))))) sNil)) ((List.range N).map fun m:Nat=>AV.int (0+(m:Int)*8)) [] h = .ok (ivs ns) h'/\Dd p h h' ps ps' N/\LS ps' ns ((List.range N).map (ydm x)):=by
 obtain ⟨zs,h',c1,ns,ps',e1,D,LL⟩:=yhO (js:=js) (en:=en) (all:=all) (e:=yap 0 yaT (sVar 1) (yab (sCut (sVar 2) (some (sVar 0)) (some (sOp2 fAdd (sVar 0) (sLit (.int 8))))) sNil)) (xs:=(List.range N).map fun m:Nat=>AV.int (0+(m:Int)*8)) (h:=h)
  (fun j ys h' => ∃ (ns:List Nat) (ps':List Pc),ys=ivs ns/\Dd p h h' ps ps' j/\LS ps' ns ((List.range j).map (ydm x))) ⟨[],ps,rfl,Dd.refl S g,rfl,fun i n w a _=>by simp at a⟩ (by
   rintro j v ys h' hv ⟨ns,ps',rfl,D,LL⟩
   obtain ⟨jN,rfl⟩:=zek hv
   have z:=D.len
   have lc:=zej x j
   have sc:ya7 (ydm x j)=true:=by
    unfold ya7
    rw [zfc px j,lc];simp;lia
   obtain ⟨n,ps2,h2,d2,T⟩:=zf2 D.sh D.gd sc (by lia)
   have i1:(0:Int)+(j:Int)*8=((8*j:Nat):Int):=by lia
   have i2:((8*j:Nat):Int)+8=((8*j+8:Nat):Int):=by lia
   have ct:ya0 (.str x) (some ((8*j:Nat):Int)) (some ((8*j+8:Nat):Int)) h' = .ok (.str (ydm x j)) h' := rfl
   have ev:=d2.ev
   rw [hj];have e:yap 0 yaT (sVar 1) (yab (sCut (sVar 2) (some (sVar 0)) (some (sOp2 fAdd (sVar 0) (sLit (.int 8))))) sNil) [some (.int (0+(j:Int)*8)),some (.ref p),some (.str x)] h' = .ok (.int n) h2:=by
    rw [i1];have ad:fAdd (.int ((8*j:Nat):Int)) (.int 8) h' = .ok (.int ((8*j+8:Nat):Int)) h' := by rw [<- i2];rfl
    generalize ((8*j:Nat):Int)=B1 at *;generalize ((8*j+8:Nat):Int)=B2 at *;simp [D.sh.ob,ad,ct,ev,-fAdd,-ya0]
   rw [e];refine ⟨ns++[n],ps2,by simp [ivs],D.trans d2.dd (by lia),?_⟩
   rw [List.range_succ,List.map_append];exact LL.snoc d2.dd.pre T) (by simp;exact Nat.le_trans (show N<=10000 by lia) (by decide))
 rw [List.length_map,List.length_range] at D LL;exact ⟨ns,ps',h',by rw [c1,e1],D,LL⟩
theorem zju {h:AH} {p:Nat} {ps:List Pc} {x:Str} (S:ShelfAt h p ps) (g:Good ps) (px:yav x=true) (hx:x.length<=10000) (hz:ps.length+2*x.length<16000000) :
  ∃ (n:Nat) (ps':List Pc) (h':AH),ydn [.ref p,.str x] h = .ok (.int n) h'/\Dd p h h' ps ps' (2*x.length)/\TxZ ps' n x:=by
 have sl:x.length<=sizeLine:=Nat.le_trans hx (by decide)
 have fp:=zfV x h sl
 rw [px] at fp;have c1 : ¬ (10000:Int)<x.length:=by lia
 by_cases q:x.length=0
 ·have xe:x = "" := zae (by rw [zac] at q;rw [List.length_eq_zero_iff.mp q];rfl)
  subst xe;refine ⟨0,ps,h,?_,{ Dd.refl S g with len:=by lia },.inl ⟨rfl,rfl⟩⟩
  simp [ydn,fp,c1]
 ·obtain ⟨N,eN⟩:∃ N,N=(x.length-1) / 8+1:=⟨_,rfl⟩
  obtain ⟨ns,ps1,h1,e1,D1,LL⟩:=zfd S g px N (by lia) hx (by lia) ((List.range N).map fun m:Nat=>AV.int (0+(m:Int)*8)) [0,1] [some (.ref p),some (.str x),none] rfl
  have z1:=D1.len
  have ln:ns.length=N:=by rw [LL.1];simp
  obtain ⟨n,ps2,h2,m,f,l,H,b1,b2,b3,_⟩:=zdh (p:=p) 20 11 D1.sh D1.gd LL (by lia) (by rw [ln];have:(2:Nat) ^ 11=2048:=rfl;lia) (by decide) (fun i w ew hi=>by
   obtain ⟨iN,rfl⟩:=zek ew
   rw [List.length_map,List.length_range] at hi;rw [zej];lia) (by lia) (by lia)
  have rd:cat ((List.range N).map (ydm x))=x:=zae (by rw [zdy,List.take_of_length_le (by rw [<- zac];lia)])
  rw [rd] at b3;have ir:ycY (sLit (.int 0)) (yae fLen (yab (sVar 1) sNil)) (sLit (.int 8)) [some (.ref p),some (.str x),none] h = .ok ((List.range N).map (fun m:Nat=>AV.int (0+(m:Int)*8)),none) h:=by
   have r1:((if (0:Int)<x.length then ((x.length:Int)-0-1) / 8+1 else 0:Int)).toNat=N:=by
    rw [if_pos (by lia)];lia
   have r2:(0:Int).natAbs<2 ^ 40/\(x.length:Int).natAbs<2 ^ 40/\(0:Int)<8/\(8:Int)<2 ^ 20:=⟨by decide,by lia,by decide,by decide⟩
   show (if _ then _ else _)=_
   rw [if_pos r2,r1]
  have cp:ybb [0,1] (ycY (sLit (.int 0)) (yae fLen (yab (sVar 1) sNil)) (sLit (.int 8))) sYes (yap 0 yaT (sVar 1) (yab (sCut (sVar 2) (some (sVar 0)) (some (sOp2 fAdd (sVar 0) (sLit (.int 8))))) sNil)) [some (.ref p),some (.str x),none] h = .ok (.fl (ivs ns)) h1:=by
   simp only [ybb,ir,e1]
  have ne:fEq (.str x) (.str "") h = .ok (.bl false) h:=by
   have : ¬ x=Str.ofString "" := fun z=>q (by rw [z];rfl)
   simp [this]
  refine ⟨n,ps2,h2,?_,D1.trans b2 (by lia),.inr ⟨_,_,_,b3⟩⟩
  unfold ydn
  generalize ybb [0,1] (ycY (sLit (.int 0)) (yae fLen (yab (sVar 1) sNil)) (sLit (.int 8))) sYes (yap 0 yaT (sVar 1) (yab (sCut (sVar 2) (some (sVar 0)) (some (sOp2 fAdd (sVar 0) (sLit (.int 8))))) sNil))=CP at *;generalize yb0 20=HV at *;simp [fp,c1,ne,cp,b1,-fEq]
end Sk
namespace Sk
open PySem PySem.Spec L2 Sm
def tkS (x:Str) (a:Nat):Str:=⟨(x.cps.toList.take a).toArray⟩
def dpS (x:Str) (a:Nat):Str:=⟨(x.cps.toList.drop a).toArray⟩
theorem ybw (x:Str) (a:Nat):(tkS x a).cps.toList=x.cps.toList.take a:=rfl
theorem ybF (x:Str) (a:Nat):(dpS x a).cps.toList=x.cps.toList.drop a:=rfl
theorem yfU {x:Str} {a:Nat} (h:a<=x.length):(tkS x a).length=a:=by
 rw [zac] at *
 rw [ybw,List.length_take];lia
theorem ydF (x:Str) (a:Nat):(dpS x a).length=x.length-a:=by
 rw [zac,zac x,ybF,List.length_drop]
theorem tk_0 (x:Str):tkS x 0 = "" := zae rfl
theorem dp_0 (x:Str):dpS x 0=x:=zae rfl
theorem zdi {x:Str} (h:yav x=true) (a:Nat):yav (tkS x a)=true:=by
 unfold yav at *
 rw [ybw,List.all_eq_true];rw [List.all_eq_true] at h;exact fun c hc=>h c (List.mem_of_mem_take hc)
theorem yeh {x:Str} {a:Nat} (h:AH):ya0 (.str x) none (some (a:Int)) h = .ok (.str (tkS x a)) h:=by
 have:cutS x none (some (a:Int))=tkS x a:=zae (by
  unfold cutS
  rw [HT.sIx_nat,HT.sIx_none,ybw];show (x.cps.toList.drop 0).take (min a x.cps.toList.length-0)=_
  rw [List.drop_zero,Nat.sub_zero];by_cases q:a<=x.cps.toList.length
  ·rw [Nat.min_eq_left q]
  ·rw [Nat.min_eq_right (by lia),List.take_length,List.take_of_length_le (by lia)])
 simp only [ya0,this]
theorem yeB {x:Str} {a:Nat} (ha:a<=x.length) (h:AH):ya0 (.str x) (some (a:Int)) none h = .ok (.str (dpS x a)) h:=by
 have:cutS x (some (a:Int)) none=dpS x a:=zae (by
  unfold cutS
  rw [HT.sIx_nat,HT.sIx_none,ybF];rw [zac] at ha;rw [Nat.min_eq_left ha];show (x.cps.toList.drop a).take (x.cps.toList.length-a)=_
  rw [List.take_of_length_le (by rw [List.length_drop];exact Nat.le_refl _)])
 simp only [ya0,this]
def cst (z:Int):Nat:=8*((z+1).toNat*(z+2).toNat)
end Sk
namespace Sk
open PySem PySem.Spec L2 Sm
inductive Un where
 | n (k:Nat)
 | s (z:Str)
@[simp] def uv:Un->AV
 | .n k=>.int k
 | .s z=>.str z
def ud:Un->PyData
 | .n k=>.int k
 | .s z=>.str z
def rdU (ps:List Pc):Un->List Nat
 | .n k=>((reads ps).getD k "").cps.toList
 | .s z=>z.cps.toList
def rdS (ps:List Pc):List Un->List Nat
 | []=>[]
 | u::r=>rdU ps u++rdS ps r
inductive OkU (ps:List Pc):Un->Prop
 | n {k:Nat} {m f l:Ms} {x:Str} (T:Tx ps k m x f l):OkU ps (.n k)
 | s {z:Str} (a:1<=z.length) (b:z.length<=8):OkU ps (.s z)
theorem ycR {ps:List Pc} {k:Nat} {m f l:Ms} {x:Str} (T:Tx ps k m x f l):rdU ps (.n k)=x.cps.toList:=by
 show ((reads ps).getD k "").cps.toList=_
 rw [zaL T.rd]
theorem OkU.pos {ps:List Pc} {u:Un} (o:OkU ps u):1<=(rdU ps u).length:=by
 cases o with
 | n T =>
  rw [ycR T,<- zac,<- T.ky.sg];obtain ⟨k,c⟩:=T.ky.cnt
  have:=T.ky.f1
  rcases c with c | c<;>lia
 | @s z a b =>
  show 1<=z.cps.toList.length
  rw [<- zac];exact a
def hU (ps:List Pc):List Un->Nat
 | .n k::_=>((meas ps).getD k ms0).ht.toNat+1
 | _=>0
theorem ybg {ps:List Pc} {k:Nat} {m f l:Ms} {x:Str} (T:Tx ps k m x f l) (st:List Un):hU ps (.n k::st)=m.ht.toNat+1:=by
 show ((meas ps).getD k ms0).ht.toNat+1=_
 rw [zaL T.ms]
theorem ybD {ps:List Pc} (g:Good ps) {st:List Un} (ok:∀ u∈st,OkU ps u):hU ps st<=83:=by
 match st,ok with
 | [],_=>exact Nat.zero_le _
 | .s _::_,_=>exact Nat.zero_le _
 | .n k::st,ok =>
  cases ok _ (List.mem_cons_self ..) with
  | @n _ m f l x T =>
   rw [ybg T];have:=ht82 g T
   have:=T.ky.ht
   lia
theorem zbe {ps:List Pc} {a b:Nat} {ma mb fa la fb lb:Ms} {y z:Str} {u:Un} {st:List Un} (A:Tx ps a ma y fa la) (B:Tx ps b mb z fb lb) (ok:∀ v∈u::st,OkU ps v):∀ v∈(.n a :: .n b::st:List Un),OkU ps v:=by
 intro v hv
 rcases List.mem_cons.mp hv with rfl | hv
 ·exact .n A
 ·rcases List.mem_cons.mp hv with rfl | hv
  ·exact .n B
  ·exact ok v (List.mem_cons_of_mem _ hv)
def nxF (ps:List Pc):Nat->List Un->Str×List Un
 | _,[]=>("",[])
 | _,.s z::st=>(z,st)
 | 0,.n _::st=>("",st)
 | c+1,.n k::st=>match ps[k-1]? with
  | some (.fork a b)=>nxF ps c (.n a :: .n b::st)
  | some (.leaf z)=>(z,st)
  | none=>("",st)
structure NxOk (ps:List Pc) (c:Nat) (st:List Un) (r:Str×List Un):Prop where
 rd:rdS ps st=r.1.cps.toList++rdS ps r.2
 ok:∀ u∈r.2,OkU ps u
 z1:st≠[]->1<=r.1.length/\r.1.length<=8
 z0:st=[]->r=(("" : Str),([]:List Un))
 ln:r.2.length<=st.length+c
theorem ydC {ps:List Pc} (g:Good ps):∀ (c:Nat) (st:List Un),(∀ u∈st,OkU ps u)->hU ps st<=c->NxOk ps c st (nxF ps c st)
 | c,[],ok,_=>by
  have e:nxF ps c []=(("" : Str),([]:List Un)):=by cases c<;>rfl
  rw [e];exact ⟨rfl,ok,fun z=>absurd rfl z,fun _=>rfl,Nat.zero_le _⟩
 | c,.s z::st,ok,_=>by
  have e:nxF ps c (.s z::st)=(z,st):=by cases c<;>rfl
  rw [e]
  cases ok _ (List.mem_cons_self ..) with
  | s a b=>exact ⟨rfl,fun u hu=>ok u (List.mem_cons_of_mem _ hu),fun _=>⟨a,b⟩,fun z=>(by cases z),by show st.length<=(st.length+1)+c;lia⟩
 | 0,.n k::st,ok,h=>by
  cases ok _ (List.mem_cons_self ..) with
  | n T=>rw [ybg T] at h;lia
 | c+1,.n k::st,ok,h=>by
  cases ok _ (List.mem_cons_self ..) with
  | @n _ m f l x T =>
   rw [ybg T] at h;rcases g.kind T with ⟨e1,e2,e3,e4,e5⟩ | ⟨a,b,ma,mb,y,z,fa,la,fb,lb,e1,e2,e3,A,B,e4,e5,e6⟩
   ·have e:nxF ps (c+1) (.n k::st)=(x,st):=by unfold nxF;rw [e1]
    rw [e];exact ⟨by rw [rdS,ycR T],fun u hu=>ok u (List.mem_cons_of_mem _ hu),fun _=>⟨e4,e5⟩,fun z=>(by cases z),by show st.length<=(st.length+1)+_;lia⟩
   ·have e:nxF ps (c+1) (.n k::st)=nxF ps c (.n a :: .n b::st):=by rw [nxF,e1]
    rw [e];have hh:=congrArg Ms.ht e5
    rw [fmH] at hh;have a0:=A.ky.ht
    have b0:=B.ky.ht
    have r:=ydC g c (.n a :: .n b::st) (zbe A B ok) (by rw [ybg A];lia)
    refine ⟨?_,r.ok,fun _=>r.z1 (fun z=>by cases z),fun z=>(by cases z),?_⟩
    ·rw [<- r.rd,rdS,rdS,rdS,ycR T,ycR A,ycR B,e4,zan,List.append_assoc]
    ·have:=r.ln
     rw [List.length_cons,List.length_cons] at this;rw [List.length_cons];lia
def topF (ps:List Pc) (k:Nat):Nat->List Un->Option (List Un)
 | _,[]=>none
 | _,.s _::_=>none
 | 0,.n _::_=>none
 | c+1,.n j::st=>if j=k then some st else match ps[j-1]? with
  | some (.fork a b)=>topF ps k c (.n a :: .n b::st)
  | _=>none
theorem yfV {ps:List Pc} (g:Good ps) {k:Nat}:∀ (c:Nat) {st st':List Un},(∀ u∈st,OkU ps u)->topF ps k c st=some st'->rdS ps st=rdU ps (.n k)++rdS ps st'/\(∀ u∈st',OkU ps u)/\st'.length<=st.length+c
 | 0,[],st',_,h=>by cases h
 | 0,.s _::_,st',_,h=>by cases h
 | 0,.n _::_,st',_,h=>by cases h
 | c+1,[],st',_,h=>by cases h
 | c+1,.s _::_,st',_,h=>by cases h
 | c+1,.n j::st,st',ok,h=>by
  rw [topF] at h;by_cases q:j=k
  ·rw [if_pos q] at h
   cases h
   subst q;exact ⟨rfl,fun u hu=>ok u (List.mem_cons_of_mem _ hu),by rw [List.length_cons];lia⟩
  ·rw [if_neg q] at h
   cases ok _ (List.mem_cons_self ..) with
   | @n _ m f l x T =>
    rcases g.kind T with ⟨e1,_⟩ | ⟨a,b,ma,mb,y,z,fa,la,fb,lb,e1,e2,e3,A,B,e4,e5,e6⟩
    ·rw [e1] at h;cases h
    ·rw [e1] at h
     obtain ⟨r1,r2,r3⟩:=yfV g c (zbe A B ok) h
     refine ⟨?_,r2,?_⟩
     ·rw [<- r1,rdS,rdS,rdS,ycR T,ycR A,ycR B,e4,zan,List.append_assoc]
     ·rw [List.length_cons,List.length_cons] at r3
      rw [List.length_cons];lia
end Sk
namespace Sk
open PySem PySem.Spec L2 Sm
theorem popU {h:AH} {W:Nat} {Z:List AV} {v:AV} (e:h[W]? = some (.lst (Z++[v]))):mPop (.ref W) [] h = .ok v (h.set W (.lst Z)):=by
 simp [mPop,e]
theorem ycV (u:Un) (st:List Un):(u::st).reverse.map uv=st.reverse.map uv++[uv u]:=by simp
theorem zf8 (h:AH):∀ l:List Un,toDs (toD 7 h) (l.map uv)=some (l.map ud)
 | []=>rfl
 | u::l=>by
  have e:toD 7 h (uv u)=some (ud u):=by cases u<;>rfl
  rw [List.map_cons,List.map_cons];unfold toDs
  rw [e,zf8 h l]
theorem yeR {c:SB} {b:SS} {n:Nat} {en:En} {h h2:AH} {v:AV} (e:c en h = .ok true h) (eb:b en h = .rt v h2):yaG c b (n+1) en h = .rt v h2:=by
 unfold yaG;rw [e];dsimp only;rw [eb]
theorem yeC {c:SB} {b:SS} {n:Nat} {en e2:En} {h h2:AH} (e:c en h = .ok true h) (eb:b en h = .nx e2 h2):yaG c b (n+1) en h=yaG c b n e2 h2:=by
 unfold yaG;rw [e];dsimp only;rw [eb];dsimp only
 cases n<;>rfl
theorem yeb {c:SB} {b:SS} {n:Nat} {en:En} {h:AH} (e:c en h = .ok false h):yaG c b (n+1) en h = .nx en h:=by
 unfold yaG;rw [e]
theorem ye1 {h:AH} {W:Nat} {l:List Un} (e:h[W]? = some (.lst (l.map uv))):eqA (.ref W) (.fl []) h=some l.isEmpty:=by
 have t:toD 8 h (.ref W)=some (.list (l.map ud)):=by
  show (match h[W]? with | some (.lst xs)=>(toDs (toD 7 h) xs).map PyData.list | _=>none)=_
  rw [e];show (toDs (toD 7 h) (l.map uv)).map PyData.list=_
  rw [zf8];rfl
 show (match toD 8 h (.ref W),toD 8 h (.fl []) with | some d,some e=>some (PyData.eqv d e) | _,_=>none)=_
 rw [t];show some (PyData.eqv (.list _) (.list []))=_
 cases l with
 | nil=>simp [PyData.eqv,PyData.eqvAll]
 | cons a b=>simp [PyData.eqv,PyData.eqvAll]
theorem yeD {h:AH} {W:Nat} {u:Un} {st:List Un} (e:h[W]? = some (.lst ((u::st).reverse.map uv))):fNe (.ref W) (.fl []) h = .ok (.bl true) h:=by
 show (match eqA (.ref W) (.fl []) h with | some b=>Out.ok (AV.bl (!b)) h | none=>Out.bad)=_
 rw [ye1 e];simp
theorem ye2 {h:AH} {W:Nat} (e:h[W]? = some (.lst [])):fNe (.ref W) (.fl []) h = .ok (.bl false) h:=by
 show (match eqA (.ref W) (.fl []) h with | some b=>Out.ok (AV.bl (!b)) h | none=>Out.bad)=_
 rw [ye1 (l:=[]) e];rfl
theorem of_s {h:AH} {p:Nat} {w:AV} (z:Str):ybd [.ref p,w,.str z] h = .ok (.bl false) h:=by
 simp [ybd]
theorem zf9 {h:AH} {p k:Nat} {ps:List Pc} {w:AV} {x:Str} (S:ShelfAt h p ps) (k1:1<=k) (e:ps[k-1]? = some (.leaf x)):ybd [.ref p,w,.int k] h = .ok (.bl false) h:=by
 have q:=zbu S k1 e
 have i0:=i0L x h
 have eq:=eqL h
 simp [ybd,S.ob,q,i0,eq,-fIx,-fEq]
theorem zga {h:AH} {p k a b W:Nat} {ps:List Pc} {Z:List AV} (S:ShelfAt h p ps) (k1:1<=k) (e:ps[k-1]? = some (.fork a b)) (hW:p+8<W) (eW:h[W]? = some (.lst Z)) (lz:Z.length<=1000000):ybd [.ref p,.ref W,.int k] h = .ok (.bl true) (h.set W (.lst (Z++[.int b]++[.int a]))):=by
 have q:=zaJ S k1 e
 have i0:=i0F a b h
 have eq:=eqF h
 have l1:Z.length<sizeLine:=Nat.lt_of_le_of_lt lz (by decide)
 have ap:yax (.ref W) [.int b] h = .ok .non (h.set W (.lst (Z++[.int b]))):=by simp only [yax,eW,l1,if_true]
 obtain ⟨h1,eh1⟩:∃ h1,h1=h.set W (.lst (Z++[.int b])):=⟨_,rfl⟩
 have eW1:h1[W]? = some (.lst (Z++[.int b])):=by rw [eh1];exact List.getElem?_set_self (yaS eW)
 have l2:(Z++[AV.int b]).length<sizeLine:=Nat.lt_of_le_of_lt (m:=1000001) (by simp;lia) (by decide)
 have ap2:yax (.ref W) [.int a] h1 = .ok .non (h1.set W (.lst (Z++[.int b]++[.int a]))):=by simp only [yax,eW1,l2,if_true]
 rw [<- eh1] at ap;have fin:h1.set W (.lst (Z++[.int b]++[.int a]))=h.set W (.lst (Z++[.int b]++[.int a])):=by rw [eh1,List.set_set]
 rw [fin] at ap2;have is1:yaB (.ref W) h=true:=by simp [eW]
 have is2:yaB (.ref W) h1=true:=by simp [eW1]
 have j1:∀ hh,fIx (.tup [.str "fork",.int a,.int b]) (.int 1) hh = .ok (.int a) hh:=i1 _ _ _
 have j2:∀ hh,fIx (.tup [.str "fork",.int a,.int b]) (.int 2) hh = .ok (.int b) hh:=i2 _ _ _
 generalize h.set W (.lst (Z++[.int b]++[.int a]))=HF at *;simp [ybd,S.ob,q,i0,eq,j1,j2,is1,is2,ap,ap2,-fIx,-fEq,-yaB,-yax]
theorem zax {h:AH} {p W:Nat} {ps:List Pc} (S:ShelfAt h p ps) (hW:p+8<W) (o:AO):ShelfAt (h.set W o) p ps:=S.keep fun i _ i8=>List.getElem?_set_ne (by lia)
abbrev CN:SB:=yam (sOp2 fNe (sVar 1) (sLst sNil))
theorem zgb {p W:Nat} {ps:List Pc} (g:Good ps) (hW:p+8<W):∀ (c fuel:Nat) (st:List Un) (h:AH) (o:Option AV),ShelfAt h p ps->(∀ u∈st,OkU ps u)->hU ps st<=c->c<fuel->st≠[]->st.length+c<=1000000->h[W]? = some (.lst (st.reverse.map uv)) ->
  yaG CN yaO fuel [some (.ref p),some (.ref W),o] h = .rt (.str (nxF ps c st).1) (h.set W (.lst ((nxF ps c st).2.reverse.map uv)))
 | c,0,st,h,o,S,ok,hc,hf,ne,ls,eW=>absurd hf (Nat.not_lt_zero _)
 | c,fu+1,[],h,o,S,ok,hc,hf,ne,ls,eW=>absurd rfl ne
 | c,fu+1,.s z::st,h,o,S,ok,hc,hf,ne,ls,eW=>by
  have nn:=yeD eW
  rw [ycV] at eW;have po:=popU eW
  have is1:yaB (.ref W) h=true:=by simp [eW]
  have e:nxF ps c (.s z::st)=(z,st):=by cases c<;>rfl
  rw [e];have cn:CN [some (.ref p),some (.ref W),o] h = .ok true h:=by simp [nn,-fNe]
  have eb:yaO [some (.ref p),some (.ref W),o] h = .rt (.str z) (h.set W (.lst (st.reverse.map uv))):=by
   have po':mPop (.ref W) [] h = .ok (.str z) (h.set W (.lst (st.reverse.map uv))):=po
   generalize h.set W (.lst (st.reverse.map uv))=h1 at *;simp [yaO,is1,po',-mPop,-yaB]
  exact yeR cn eb
 | 0,fu+1,.n k::st,h,o,S,ok,hc,hf,ne,ls,eW=>by
  cases ok _ (List.mem_cons_self ..) with
  | n T=>rw [ybg T] at hc;lia
 | c+1,fu+1,.n k::st,h,o,S,ok,hc,hf,ne,ls,eW=>by
  have nn:=yeD eW
  rw [ycV] at eW;have po:=popU eW
  have is1:yaB (.ref W) h=true:=by simp [eW]
  have po':mPop (.ref W) [] h = .ok (.int k) (h.set W (.lst (st.reverse.map uv))):=po
  have cn:CN [some (.ref p),some (.ref W),o] h = .ok true h:=by simp [nn,-fNe]
  have S1:ShelfAt (h.set W (.lst (st.reverse.map uv))) p ps:=zax S hW _
  have eW1:(h.set W (.lst (st.reverse.map uv)))[W]? = some (.lst (st.reverse.map uv)):=List.getElem?_set_self (yaS eW)
  obtain ⟨h1,eh1⟩:∃ h1,h1=h.set W (.lst (st.reverse.map uv)):=⟨_,rfl⟩
  rw [<- eh1] at po' S1 eW1
  cases ok _ (List.mem_cons_self ..) with
  | @n _ m f l x T =>
   rw [ybg T] at hc;rw [List.length_cons] at ls;rcases g.kind T with ⟨e1,e2,e3,e4,e5⟩ | ⟨a,b,ma,mb,y,z,fa,la,fb,lb,e1,e2,e3,A,B,e4,e5,e6⟩
   ·have e:nxF ps (c+1) (.n k::st)=(x,st):=by unfold nxF;rw [e1]
    rw [e];have op:=zf9 (w:=.ref W) S1 T.n1 e1
    have fp:=zbu S1 T.n1 e1
    have eb:yaO [some (.ref p),some (.ref W),o] h = .rt (.str x) h1:=by
     have i1:=i1L x h1
     have ob:=S1.ob
     simp [yaO,is1,po',op,ob,fp,i1,-mPop,-yaB,-fIx]
    rw [yeR cn eb,eh1]
   ·have e:nxF ps (c+1) (.n k::st)=nxF ps c (.n a :: .n b::st):=by rw [nxF,e1]
    rw [e];have op:=zga S1 T.n1 e1 hW eW1 (by simp;lia)
    have e3':st.reverse.map uv++[.int b]++[.int a]=(.n a :: .n b::st:List Un).reverse.map uv:=by rw [ycV,ycV];rfl
    rw [e3'] at op;have eb:yaO [some (.ref p),some (.ref W),o] h = .nx [some (.ref p),some (.ref W),some (.int k)] (h1.set W (.lst ((.n a :: .n b::st:List Un).reverse.map uv))):=by
     generalize h1.set W (.lst ((.n a :: .n b::st:List Un).reverse.map uv))=h2 at *;simp [yaO,is1,po',op,-mPop,-yaB]
    rw [yeC cn eb];have hh:=congrArg Ms.ht e5
    rw [fmH] at hh;have a0:=A.ky.ht
    have b0:=B.ky.ht
    have r:=zgb g hW c fu (.n a :: .n b::st) (h1.set W (.lst ((.n a :: .n b::st:List Un).reverse.map uv))) (some (.int k)) (zax S1 hW _) (zbe A B ok) (by rw [ybg A];lia) (by lia) (fun z=>by cases z) (by rw [List.length_cons,List.length_cons];lia) (List.getElem?_set_self (yaS eW1))
    rw [r,eh1,List.set_set,List.set_set]
theorem ye3 {h:AH} {p W:Nat} {ps:List Pc} {st:List Un} (S:ShelfAt h p ps) (g:Good ps) (hW:p+8<W) (ok:∀ u∈st,OkU ps u) (ls:st.length<=900000) (eW:h[W]? = some (.lst (st.reverse.map uv))) :
  ybr [.ref p,.ref W] h = .ok (.str (nxF ps 90 st).1) (h.set W (.lst ((nxF ps 90 st).2.reverse.map uv))):=by
 by_cases q:st=[]
 ·subst q
  have nn:=ye2 eW
  have e:nxF ps 90 []=((Str.ofString "" : Str),([]:List Un)):=rfl
  rw [e];have hs:h.set W (.lst (([]:List Un).reverse.map uv))=h:=by
   refine List.ext_getElem? fun i=>?_
   by_cases q:W=i
   ·subst q;rw [List.getElem?_set_self (yaS eW),eW]
   ·exact List.getElem?_set_ne q
  rw [hs];have wl:∀ n,yaG CN yaO (n+1) [some (.ref p),some (.ref W),none] h = .nx [some (.ref p),some (.ref W),none] h:=fun n=>yeb (by simp [nn,-fNe])
  have wl':yaG CN yaO yaH [some (.ref p),some (.ref W),none] h = .nx [some (.ref p),some (.ref W),none] h:=wl _
  unfold ybr
  generalize yaG CN yaO yaH=WL at *;simp [wl']
 ·have h82:=ybD g ok
  have wl:=zgb g hW 90 yaH st h none S ok (by lia) (by decide) q (by lia) eW
  unfold ybr
  generalize yaG CN yaO yaH=WL at *;generalize h.set W (.lst ((nxF ps 90 st).2.reverse.map uv))=HF at *;simp [wl]
end Sk
namespace Sk
open PySem PySem.Spec L2 Sm
theorem eq_n (j k:Nat) (h:AH):fEq (.int j) (.int k) h = .ok (.bl (decide (j=k))) h:=by
 by_cases q:j=k
 ·subst q;simp
 ·have : ¬ (j:Int)=k:=by lia
  simp [q,this]
def tpR (W:Nat) (h:AH) (r:Option (List Un)) (o:OutS):Prop:=match r with
 | some st' => o = .rt (.bl true) (h.set W (.lst (st'.reverse.map uv)))
 | none=>∃ (Z:List AV) (en:En),o = .rt (.bl false) (h.set W (.lst Z))\/o = .nx en (h.set W (.lst Z))
end Sk
namespace Sk
open PySem PySem.Spec L2 Sm
def psh (z:Str) (st:List Un):List Un:=if z = "" then st else .s z::st
def d1 (ps:List Pc) (st:List Un):List Un:=psh (dpS (nxF ps 90 st).1 1) (nxF ps 90 st).2
def dN (ps:List Pc):Nat->List Un->List Un
 | 0,st=>st
 | m+1,st=>dN ps m (d1 ps st)
theorem ye4 (ps:List Pc):∀ (a b:Nat) (st:List Un),dN ps (a+b) st=dN ps b (dN ps a st)
 | 0,b,st=>by rw [Nat.zero_add];rfl
 | a+1,b,st=>by rw [Nat.add_right_comm,dN,dN,ye4 ps a b]
theorem zaQ {z:Str}:z = "" ↔ z.length=0:=by
 constructor
 ·rintro rfl;rfl
 ·intro h
  refine zae ?_
  rw [zac] at h;rw [List.length_eq_zero_iff.mp h];rfl
theorem ygz (z:Str) (a b:Nat):dpS (dpS z a) b=dpS z (a+b):=zae (by rw [ybF,ybF,ybF,List.drop_drop])
theorem nx_s (ps:List Pc) (c:Nat) (z:Str) (st:List Un):nxF ps c (.s z::st)=(z,st):=by cases c<;>rfl
theorem yfW (ps:List Pc):∀ (m:Nat) (z:Str) (st:List Un),m<=z.length->dN ps m (psh z st)=psh (dpS z m) st
 | 0,z,st,_=>by rw [dN,dp_0]
 | m+1,z,st,h=>by
  have ne : ¬ z = "" := fun q=>by rw [zaQ] at q;lia
  have e:psh z st = .s z::st:=if_neg ne
  rw [dN,d1,e,nx_s];show dN ps m (psh (dpS z 1) st)=_
  rw [yfW ps m _ _ (by rw [ydF];lia),ygz,Nat.add_comm]
theorem ygA {ps:List Pc} {st st0:List Un} {z:Str} {m:Nat} (e:nxF ps 90 st=(z,st0)) (m1:1<=m) (hm:m<=z.length):dN ps m st=psh (dpS z m) st0:=by
 obtain ⟨j,rfl⟩:∃ j,m=j+1:=⟨m-1,by lia⟩
 rw [dN,d1,e];show dN ps j (psh (dpS z 1) st0)=_
 rw [yfW ps j _ _ (by rw [ydF];lia),ygz,Nat.add_comm]
theorem ye5 (ps:List Pc) (z:Str) (st:List Un):rdS ps (psh z st)=z.cps.toList++rdS ps st:=by
 unfold psh
 split
 ·rename_i q;rw [q];rfl
 ·rfl
theorem ye6 {ps:List Pc} {z:Str} {st:List Un} (hz:z.length<=8) (ok:∀ u∈st,OkU ps u):∀ u∈psh z st,OkU ps u:=by
 unfold psh
 split
 ·exact ok
 ·rename_i q
  intro u hu
  rcases List.mem_cons.mp hu with rfl | hu
  ·exact .s (by rw [zaQ] at q;lia) hz
  ·exact ok u hu
theorem zgc (z:Str) (st:List Un):(psh z st).length<=st.length+1:=by
 unfold psh
 split
 ·lia
 ·rw [List.length_cons];lia
def tkF (ps:List Pc):Nat->Str->List Un->Option (List Un)
 | 0,_,_=>none
 | c+1,w,st=>if w = "" then some st else
   if min (nxF ps 90 st).1.length w.length=0 \/ ¬ tkS (nxF ps 90 st).1 (min (nxF ps 90 st).1.length w.length)=tkS w (min (nxF ps 90 st).1.length w.length) then none else
    tkF ps c (dpS w (min (nxF ps 90 st).1.length w.length)) (psh (dpS (nxF ps 90 st).1 (min (nxF ps 90 st).1.length w.length)) (nxF ps 90 st).2)
structure TkOk (ps:List Pc) (w:Str) (st st':List Un) (c:Nat):Prop where
 rd:rdS ps st=w.cps.toList++rdS ps st'
 ok:∀ u∈st',OkU ps u
 ln:st'.length<=st.length+91*c
 dn:st'=dN ps w.length st
theorem zbz {ps:List Pc} (g:Good ps):∀ (c:Nat) {w:Str} {st st':List Un},(∀ u∈st,OkU ps u)->tkF ps c w st=some st'->TkOk ps w st st' c
 | 0,w,st,st',_,h=>by cases h
 | c+1,w,st,st',ok,h=>by
  rw [tkF] at h;by_cases q:w = ""
  ·rw [if_pos q] at h
   cases h
   subst q;exact ⟨rfl,ok,by lia,rfl⟩
  ·rw [if_neg q] at h
   have N:=ydC g 90 st ok (by have:=ybD g ok;lia)
   obtain ⟨z,st0,e⟩:∃ z st0,nxF ps 90 st=(z,st0):=⟨_,_,rfl⟩
   rw [e] at h N;dsimp only at h
   obtain ⟨m,em⟩:∃ m,m=min z.length w.length:=⟨_,rfl⟩
   rw [<- em] at h;by_cases q2:m=0 \/ ¬ tkS z m=tkS w m
   ·rw [if_pos q2] at h;cases h
   ·rw [if_neg q2] at h
    have m0 : ¬ m=0:=fun z=>q2 (.inl z)
    have tq:tkS z m=tkS w m:=Decidable.byContradiction fun z=>q2 (.inr z)
    have sn:st≠[]:=fun z0=>by
     have:=N.z0 z0
     cases this
     have:("" : Str).length=0:=rfl
     lia
    have zb:=N.z1 sn
    dsimp only at zb
    have okp:=ye6 (z:=dpS z m) (st:=st0) (by rw [ydF];lia) N.ok
    have r:=zbz g c okp h
    have rd:=N.rd
    dsimp only at rd
    have nl:=N.ln
    dsimp only at nl
    have pl:=zgc (dpS z m) st0
    have ct:∀ v:Str,v.cps.toList=(tkS v m).cps.toList++(dpS v m).cps.toList:=fun v=>by rw [ybw,ybF,List.take_append_drop]
    refine ⟨?_,r.ok,by have:=r.ln;lia,?_⟩
    ·have r1:=r.rd
     rw [ye5] at r1;rw [rd,ct z,tq,ct w,List.append_assoc,List.append_assoc,r1]
    ·rw [r.dn,<- ygA e (by lia) (by lia),<- ye4,ydF]
     congr 1
     lia
theorem zjv {a b c d:List Nat} (e:a++b=c++d) {m:Nat} (h1:m<=a.length) (h2:m<=c.length):a.take m=c.take m/\a.drop m++b=c.drop m++d:=by
 have t:=congrArg (List.take m) e
 rw [List.take_append_of_le_length h1,List.take_append_of_le_length h2] at t;have u:=congrArg (List.drop m) e
 rw [List.drop_append_of_le_length h1,List.drop_append_of_le_length h2] at u;exact ⟨t,u⟩
theorem zgd {ps:List Pc} (g:Good ps):∀ (c:Nat) {w:Str} {st:List Un} {r:List Nat},(∀ u∈st,OkU ps u)->rdS ps st=w.cps.toList++r->w.length<c->∃ st',tkF ps c w st=some st'
 | 0,w,st,r,_,_,h=>absurd h (Nat.not_lt_zero _)
 | c+1,w,st,r,ok,rd,hc=>by
  rw [tkF];by_cases q:w = ""
  ·rw [if_pos q];exact ⟨_,rfl⟩
  ·rw [if_neg q]
   have w1:1<=w.length:=by rw [zaQ] at q;lia
   have N:=ydC g 90 st ok (by have:=ybD g ok;lia)
   obtain ⟨z,st0,e⟩:∃ z st0,nxF ps 90 st=(z,st0):=⟨_,_,rfl⟩
   rw [e] at N ⊢;dsimp only;have sn:st≠[]:=fun z0=>by
    rw [z0] at rd;have:=congrArg List.length rd
    rw [List.length_append,<- zac] at this;have:(rdS ps []).length=0:=rfl
    lia
   have zb:=N.z1 sn
   dsimp only at zb
   have rd2:=N.rd
   dsimp only at rd2
   obtain ⟨m,em⟩:∃ m,m=min z.length w.length:=⟨_,rfl⟩
   rw [<- em];have lz:=zac z
   have lw:=zac w
   obtain ⟨t1,t2⟩:=zjv (rd2.symm.trans rd) (m:=m) (by lia) (by lia)
   have tq:tkS z m=tkS w m:=zae t1
   rw [if_neg (by
    rintro (z0 | z0)
    ·lia
    ·exact z0 tq)]
   refine zgd g c (r:=r) (ye6 (by rw [ydF];lia) N.ok) ?_ (by rw [ydF];lia)
   rw [ye5,ybF,ybF];exact t2
theorem zdM {ps:List Pc} (g:Good ps) {c:Nat} {w:Str} {st:List Un} {r:List Nat} (ok:∀ u∈st,OkU ps u) (rd:rdS ps st=w.cps.toList++r) (hc:w.length<c):tkF ps c w st=some (dN ps w.length st):=by
 obtain ⟨st',e⟩:=zgd g c ok rd hc
 rw [e,(zbz g c ok e).dn]
end Sk
namespace Sk
open PySem PySem.Spec L2 Sm
theorem zcH {h:AH} {W:Nat} {o:AO} (e:h[W]? = some o):h.set W o=h:=by
 refine List.ext_getElem? fun i=>?_
 by_cases q:W=i
 ·subst q;rw [List.getElem?_set_self (yaS e),e]
 ·exact List.getElem?_set_ne q
theorem yfX {h:AH} {W:Nat} {st:List Un} (z:Str) (eW:h[W]? = some (.lst (st.reverse.map uv))) (ls:st.length<=1000000):ycA [.ref W,.str z] h = .ok .non (h.set W (.lst ((psh z st).reverse.map uv))):=by
 unfold psh
 by_cases q:z = ""
 ·rw [if_pos q,zcH eW]
  have ne:fNe (.str z) (.str "") h = .ok (.bl false) h:=by rw [q];simp
  simp [ycA,ne,-fNe]
 ·rw [if_neg q,ycV]
  have ne:fNe (.str z) (.str "") h = .ok (.bl true) h:=by simp [q]
  have l1:(st.reverse.map uv).length<sizeLine:=Nat.lt_of_le_of_lt (m:=1000000) (by simpa using ls) (by decide)
  have ap:yax (.ref W) [.str z] h = .ok .non (h.set W (.lst (st.reverse.map uv++[.str z]))):=by simp only [yax,eW,l1,if_true]
  have is1:yaB (.ref W) h=true:=by simp [eW]
  show _=Out.ok AV.non (h.set W (.lst (st.reverse.map uv++[.str z])))
  generalize h.set W (.lst (st.reverse.map uv++[.str z]))=HF at *;simp [ycA,ne,is1,ap,-fNe,-yaB,-yax]
abbrev CP:SB:=yam (sOp2 fNe (sVar 3) (sLit (.str "")))
def tkR (W:Nat) (h:AH) (p:Nat) (w0:Str) (r:Option (List Un)) (o:OutS):Prop:=match r with
 | some st' => ∃ o3 o4 o5,o = .nx [some (.ref p),some (.ref W),some (.str w0),o3,o4,o5] (h.set W (.lst (st'.reverse.map uv)))
 | none=>∃ Z,o = .rt (.bl false) (h.set W (.lst Z))
end Sk
namespace Sk
open PySem PySem.Spec L2 Sm
inductive OkI (ps:List Pc):Un->Prop
 | n {k:Nat} {m f l:Ms} {x:Str} (T:Tx ps k m x f l):OkI ps (.n k)
 | s {z:Str} (a:ya7 z=true):OkI ps (.s z)
def itF (ps:List Pc):Un->List Un->Option (List Un)
 | .n k,st=>topF ps k 90 st
 | .s w,st=>tkF ps 10 w st
def lbF (ps:List Pc):List Un->List Un->Option (List Un)
 | [],st=>some st
 | i::r,st=>(itF ps i st).bind (lbF ps r)
theorem ye7 (ps:List Pc):∀ (a b:List Un) (st:List Un),lbF ps (a++b) st=(lbF ps a st).bind (lbF ps b)
 | [],b,st=>rfl
 | i::a,b,st=>by
  rw [List.cons_append,lbF,lbF]
  cases itF ps i st with
  | none=>rfl
  | some s=>exact ye7 ps a b s
theorem zb8 {ps:List Pc} (g:Good ps) {i:Un} {st st':List Un} (ok:∀ u∈st,OkU ps u) (e:itF ps i st=some st'):rdS ps st=rdU ps i++rdS ps st'/\(∀ u∈st',OkU ps u)/\st'.length<=st.length+1000:=by
 cases i with
 | n k =>
  obtain ⟨a,b,c⟩:=yfV g 90 ok e
  exact ⟨a,b,by lia⟩
 | s w =>
  have r:=zbz g 10 ok e
  exact ⟨r.rd,r.ok,by have:=r.ln;lia⟩
theorem za6 {ps:List Pc} (g:Good ps):∀ (its:List Un) {st st':List Un},(∀ u∈st,OkU ps u)->lbF ps its st=some st'->rdS ps st=rdS ps its++rdS ps st'/\(∀ u∈st',OkU ps u)
 | [],st,st',ok,e=>by cases e;exact ⟨rfl,ok⟩
 | i::its,st,st',ok,e=>by
  rw [lbF] at e;obtain ⟨s1,e1,e2⟩:=Option.bind_eq_some_iff.mp e
  obtain ⟨a,b,_⟩:=zb8 g ok e1
  obtain ⟨c,d⟩:=za6 g its b e2
  exact ⟨by rw [a,c,rdS,List.append_assoc],d⟩
inductive SrcI (h:AH) (its:List Un):AV->Option Nat->Prop
 | ref {B:Nat} (e:h[B]? = some (.lst (its.map uv))):SrcI h its (.ref B) (some B)
 | fl:SrcI h its (.fl (its.map uv)) none
def Bd (ps:List Pc) (H:Nat):List Un->Prop
 | []=>True
 | u::r=>r.length+hU ps (u::r)<=H/\Bd ps H r
theorem Bd.len {ps:List Pc} {H:Nat} {st:List Un} (b:Bd ps H st):st.length<=H+1:=by
 cases st with
 | nil=>exact Nat.zero_le _
 | cons u r =>
  have:=b.1
  rw [List.length_cons];lia
theorem zdN {ps:List Pc} {H j a b:Nat} {m ma mb f l fa la fb lb:Ms} {x y z:Str} {r:List Un} (T:Tx ps j m x f l) (A:Tx ps a ma y fa la) (B:Tx ps b mb z fb lb) (e5:m=ycU ma mb) (h:Bd ps H (.n j::r)):Bd ps H (.n a :: .n b::r):=by
 have h1:=h.1
 rw [ybg T] at h1;have hh:=congrArg Ms.ht e5
 rw [fmH] at hh;have a0:=A.ky.ht
 have b0:=B.ky.ht
 refine ⟨?_,?_,h.2⟩
 ·rw [ybg A,List.length_cons];lia
 ·rw [ybg B];lia
theorem ygB {ps:List Pc} (g:Good ps) {H:Nat}:∀ (c:Nat) (st:List Un),(∀ u∈st,OkU ps u)->hU ps st<=c->Bd ps H st->Bd ps H (nxF ps c st).2/\(nxF ps c st).2.length<=H
 | c,[],ok,_,b=>by
  have e:nxF ps c []=((Str.ofString "" : Str),([]:List Un)):=by cases c<;>rfl
  rw [e];exact ⟨trivial,Nat.zero_le _⟩
 | c,.s z::st,ok,_,b=>by
  rw [nx_s];have:=b.1
  exact ⟨b.2,by show st.length<=H;lia⟩
 | 0,.n k::st,ok,h,b=>by
  cases ok _ (List.mem_cons_self ..) with
  | @n _ m f l x T=>rw [ybg T] at h;lia
 | c+1,.n k::st,ok,h,b=>by
  cases ok _ (List.mem_cons_self ..) with
  | @n _ m f l x T =>
   have h' := h
   rw [ybg T] at h';rcases g.kind T with ⟨e1,e2,e3,e4,e5⟩ | ⟨a,d,ma,mb,y,z,fa,la,fb,lb,e1,e2,e3,A,B,e4,e5,e6⟩
   ·have e:nxF ps (c+1) (.n k::st)=(x,st):=by unfold nxF;rw [e1]
    rw [e];have:=b.1
    exact ⟨b.2,by show st.length<=H;lia⟩
   ·have e:nxF ps (c+1) (.n k::st)=nxF ps c (.n a :: .n d::st):=by rw [nxF,e1]
    rw [e];have hh:=congrArg Ms.ht e5
    rw [fmH] at hh;have a0:=A.ky.ht
    have b0:=B.ky.ht
    exact ygB g c (.n a :: .n d::st) (zbe A B ok) (by rw [ybg A];lia) (zdN T A B e5 b)
theorem yfY {ps:List Pc} (g:Good ps) {H k:Nat}:∀ (c:Nat) {st st':List Un},(∀ u∈st,OkU ps u)->topF ps k c st=some st'->Bd ps H st->Bd ps H st'
 | 0,[],st',_,h,_=>by cases h
 | 0,.s _::_,st',_,h,_=>by cases h
 | 0,.n _::_,st',_,h,_=>by cases h
 | c+1,[],st',_,h,_=>by cases h
 | c+1,.s _::_,st',_,h,_=>by cases h
 | c+1,.n j::st,st',ok,h,b=>by
  rw [topF] at h;by_cases q:j=k
  ·rw [if_pos q] at h
   cases h
   exact b.2
  ·rw [if_neg q] at h
   cases ok _ (List.mem_cons_self ..) with
   | @n _ m f l x T =>
    rcases g.kind T with ⟨e1,_⟩ | ⟨a,d,ma,mb,y,z,fa,la,fb,lb,e1,e2,e3,A,B,e4,e5,e6⟩
    ·rw [e1] at h;cases h
    ·rw [e1] at h
     exact yfY g c (zbe A B ok) h (zdN T A B e5 b)
theorem yhX {ps:List Pc} {H:Nat} {z:Str} {st:List Un} (b:Bd ps H st) (h:st.length<=H):Bd ps H (psh z st):=by
 unfold psh
 split
 ·exact b
 ·exact ⟨h,b⟩
theorem ygC {ps:List Pc} (g:Good ps) {H:Nat}:∀ (c:Nat) {w:Str} {st st':List Un},(∀ u∈st,OkU ps u)->tkF ps c w st=some st'->Bd ps H st->Bd ps H st'
 | 0,w,st,st',_,h,_=>by cases h
 | c+1,w,st,st',ok,h,b=>by
  rw [tkF] at h;by_cases q:w = ""
  ·rw [if_pos q] at h
   cases h
   exact b
  ·rw [if_neg q] at h
   have N:=ydC g 90 st ok (by have:=ybD g ok;lia)
   have M:=ygB (H:=H) g 90 st ok (by have:=ybD g ok;lia) b
   obtain ⟨z,st0,e⟩:∃ z st0,nxF ps 90 st=(z,st0):=⟨_,_,rfl⟩
   rw [e] at h N M;dsimp only at h M
   obtain ⟨m,em⟩:∃ m,m=min z.length w.length:=⟨_,rfl⟩
   rw [<- em] at h;by_cases q2:m=0 \/ ¬ tkS z m=tkS w m
   ·rw [if_pos q2] at h;cases h
   ·rw [if_neg q2] at h
    have m0 : ¬ m=0:=fun z=>q2 (.inl z)
    have sn:st≠[]:=fun z0=>by
     have:=N.z0 z0
     cases this
     have:("" : Str).length=0:=rfl
     lia
    have zb:=N.z1 sn
    dsimp only at zb
    exact ygC g c (ye6 (by rw [ydF];lia) N.ok) h (yhX M.1 M.2)
theorem yi0 {ps:List Pc} (g:Good ps) {H:Nat} {i:Un} {st st':List Un} (ok:∀ u∈st,OkU ps u) (e:itF ps i st=some st') (b:Bd ps H st):Bd ps H st' := by
 cases i with
 | n k=>exact yfY g 90 ok e b
 | s w=>exact ygC g 10 ok e b
def lbR (W:Nat) (hh:AH) (e0:Option AV->En) (r:Option (List Un)) (o:OutS):Prop:=match r with
 | some st' => ∃ o4,o = .nx (e0 o4) (hh.set W (.lst (st'.reverse.map uv)))
 | none=>∃ Z,o = .rt .non (hh.set W (.lst Z))
end Sk
namespace Sk
open PySem PySem.Spec L2 Sm
def sg1 (ps:List Pc) (st:List Un):Str:=tkS (nxF ps 90 st).1 1
theorem zjw {h:AH} {p W:Nat} {ps:List Pc} {st:List Un} (S:ShelfAt h p ps) (g:Good ps) (hW:p+8<W) (ok:∀ u∈st,OkU ps u) (ls:st.length<=900000) (eW:h[W]? = some (.lst (st.reverse.map uv))) :
  yca [.ref p,.ref W] h = .ok (.str (sg1 ps st)) (h.set W (.lst ((nxF ps 90 st).2.reverse.map uv))):=by
 have fn:=ye3 S g hW ok ls eW
 have ct:∀ hh,ya0 (.str (nxF ps 90 st).1) none (some 1) hh = .ok (.str (sg1 ps st)) hh:=fun hh=>yeh (x:=(nxF ps 90 st).1) (a:=1) hh
 generalize sg1 ps st=SG at *;generalize (nxF ps 90 st).1=Z at *;generalize h.set W (.lst ((nxF ps 90 st).2.reverse.map uv))=HF at *;simp [yca,fn,ct,-ya0]
theorem ygD {h:AH} {W:Nat} {st:List Un} (e:h[W]? = some (.lst (st.reverse.map uv))):fEq (.ref W) (.fl []) h = .ok (.bl (decide (st=[]))) h:=by
 show (match eqA (.ref W) (.fl []) h with | some b=>Out.ok (AV.bl b) h | none=>Out.bad)=_
 rw [ye1 e]
 cases st with
 | nil=>rfl
 | cons a b=>simp
theorem zjx (W:Nat) (h:AH):fIsN (.ref W) .non h = .ok (.bl false) h:=by
 simp only [fIsN]
 rw [decide_eq_false (fun z=>by cases z)]
def apR (ps:List Pc) (its:List Un) (a b:Nat) (c d:Str):Prop:=∃ s1 s2,lbF ps its [.n a]=some s1/\lbF ps its [.n b]=some s2/\c=sg1 ps s1/\d=sg1 ps s2 /\ ¬ c=d
theorem yhY {ps:List Pc} {t:Nat} {m f l:Ms} {x:Str} (T:Tx ps t m x f l):∀ u∈([.n t]:List Un),OkU ps u:=fun u hu=>by rw [List.mem_singleton] at hu;subst hu;exact .n T
theorem ygE {ps:List Pc} (g:Good ps) {H:Nat}:∀ (its:List Un) {st st':List Un},(∀ u∈st,OkU ps u)->lbF ps its st=some st'->Bd ps H st->Bd ps H st'
 | [],st,st',ok,e,b=>by cases e;exact b
 | i::its,st,st',ok,e,b=>by
  rw [lbF] at e;obtain ⟨s1,e1,e2⟩:=Option.bind_eq_some_iff.mp e
  exact ygE g its (zb8 g ok e1).2.1 e2 (yi0 g ok e1 b)
theorem bd0 {ps:List Pc} (g:Good ps) {t:Nat} {m f l:Ms} {x:Str} (T:Tx ps t m x f l):Bd ps 83 [.n t]:=⟨by have:=ybD g (yhY T);show 0+_<=_;lia,trivial⟩
end Sk
namespace Sk
open PySem PySem.Spec L2 Sm
theorem zdO {ps:List Pc} (g:Good ps):∀ (c d:Nat) (st:List Un),(∀ u∈st,OkU ps u)->hU ps st<=c->hU ps st<=d->nxF ps c st=nxF ps d st
 | c,d,[],_,_,_=>by cases c<;>cases d<;>rfl
 | c,d,.s z::st,_,_,_=>by rw [nx_s,nx_s]
 | 0,d,.n k::st,ok,h,_=>by
  cases ok _ (List.mem_cons_self ..) with
  | @n _ m f l x T=>rw [ybg T] at h;lia
 | c+1,0,.n k::st,ok,_,h=>by
  cases ok _ (List.mem_cons_self ..) with
  | @n _ m f l x T=>rw [ybg T] at h;lia
 | c+1,d+1,.n k::st,ok,h1,h2=>by
  cases ok _ (List.mem_cons_self ..) with
  | @n _ m f l x T =>
   rw [ybg T] at h1 h2;rcases g.kind T with ⟨e1,e2,e3,e4,e5⟩ | ⟨a,b,ma,mb,y,z,fa,la,fb,lb,e1,e2,e3,A,B,e4,e5,e6⟩
   ·rw [nxF,nxF,e1]
   ·rw [nxF,nxF,e1]
    have hh:=congrArg Ms.ht e5
    rw [fmH] at hh;have a0:=A.ky.ht
    have b0:=B.ky.ht
    exact zdO g c d (.n a :: .n b::st) (zbe A B ok) (by rw [ybg A];lia) (by rw [ybg A];lia)
theorem zdj {ps:List Pc} (g:Good ps) {k:Nat}:∀ (c d:Nat) (st:List Un),(∀ u∈st,OkU ps u)->hU ps st<=c->hU ps st<=d->topF ps k c st=topF ps k d st
 | c,d,[],_,_,_=>by cases c<;>cases d<;>rfl
 | c,d,.s z::st,_,_,_=>by cases c<;>cases d<;>rfl
 | 0,d,.n k::st,ok,h,_=>by
  cases ok _ (List.mem_cons_self ..) with
  | @n _ m f l x T=>rw [ybg T] at h;lia
 | c+1,0,.n k::st,ok,_,h=>by
  cases ok _ (List.mem_cons_self ..) with
  | @n _ m f l x T=>rw [ybg T] at h;lia
 | c+1,d+1,.n j::st,ok,h1,h2=>by
  rw [topF,topF];by_cases q:j=k
  ·rw [if_pos q,if_pos q]
  ·rw [if_neg q,if_neg q]
   cases ok _ (List.mem_cons_self ..) with
   | @n _ m f l x T =>
    rw [ybg T] at h1 h2;rcases g.kind T with ⟨e1,e2,e3,e4,e5⟩ | ⟨a,b,ma,mb,y,z,fa,la,fb,lb,e1,e2,e3,A,B,e4,e5,e6⟩
    ·rw [e1]
    ·rw [e1]
     have hh:=congrArg Ms.ht e5
     rw [fmH] at hh;have a0:=A.ky.ht
     have b0:=B.ky.ht
     exact zdj g c d (.n a :: .n b::st) (zbe A B ok) (by rw [ybg A];lia) (by rw [ybg A];lia)
def Low (k:Nat):List Un->Prop
 | []=>True
 | .n j::r=>j<=k/\Low k r
 | .s z::r=>1<=z.length/\Low k r
theorem ygF {ps:List Pc} {c:Nat} {w:Str} {st st2:List Un} (w0 : ¬ w = "") (e:nxF ps 90 st=nxF ps 90 st2):tkF ps (c+1) w st=tkF ps (c+1) w st2:=by
 unfold tkF
 rw [if_neg w0,if_neg w0,e]
def sgl (cs:List Nat):List Un:=cs.map fun c=>.s ⟨#[c]⟩
theorem zeO {ps:List Pc} (g:Good ps):∀ (cs:List Nat) {st:List Un} {r:List Nat},(∀ u∈st,OkU ps u)->rdS ps st=cs++r->lbF ps (sgl cs) st=some (dN ps cs.length st)
 | [],st,r,ok,h=>rfl
 | c::cs,st,r,ok,h=>by
  show (tkF ps 10 ⟨#[c]⟩ st).bind (lbF ps (sgl cs))=_
  have e:=zdM (c:=10) (w:=⟨#[c]⟩) (st:=st) (r:=cs++r) g ok h (by show (1:Nat)<10;decide)
  have s:=zbz g 10 ok e
  rw [e];have rd:=s.rd
  rw [h] at rd;have rd':c::(cs++r)=c::rdS ps (dN ps 1 st):=rd
  have tl:=(List.cons.inj rd').2
  have ok1:∀ u∈dN ps 1 st,OkU ps u:=s.ok
  show lbF ps (sgl cs) (dN ps 1 st)=_
  rw [zeO g cs ok1 tl.symm,<- ye4,List.length_cons,Nat.add_comm]
structure SpOk (ps:List Pc) (t:Nat) (its:List Un):Prop where
 ne:its≠[]
 lo:Low t its
 oi:∀ i∈its,OkI ps i
 sp:∀ st,(∀ u∈st,OkU ps u)->lbF ps its (.n t::st)=some st
theorem yfZ {ps:List Pc}:∀ (cs:List Nat),(∀ c∈cs,yc7 c=true)->∀ i∈sgl cs,OkI ps i
 | [],_,i,hi=>by cases hi
 | c::cs,h,i,hi=>by
  rcases List.mem_cons.mp hi with rfl | hi
  ·refine .s ?_
   have:=h c (List.mem_cons_self ..)
   simp [ya7,yav,this]
   show (1:Nat)<=1/\(1:Nat)<=8
   decide
  ·exact yfZ cs (fun d hd=>h d (List.mem_cons_of_mem _ hd)) i hi
theorem ye8 {ps:List Pc} (g:Good ps) {st:List Un} (ok:∀ u∈st,OkU ps u):(sg1 ps st).cps.toList=(rdS ps st).take 1:=by
 have N:=ydC g 90 st ok (by have:=ybD g ok;lia)
 unfold sg1
 rw [ybw,N.rd];by_cases q:st=[]
 ·rw [N.z0 q]
  rfl
 ·have z:=(N.z1 q).1
  rw [zac] at z;rw [List.take_append_of_le_length z]
end Sk
namespace Sk
open PySem PySem.Spec L2 Sm
inductive Op (ps:List Pc):List Un->List Un->Prop
 | refl (st:List Un):Op ps st st
 | open {s st:List Un} {j a b:Nat} (h:Op ps s (.n j::st)) (e:ps[j-1]? = some (.fork a b)):Op ps s (.n a :: .n b::st)
theorem OkI.u {ps:List Pc} {u:Un} (o:OkI ps u):OkU ps u:=by
 cases o with
 | n T=>exact .n T
 | s a=>exact .s (zao a).1 (zao a).2.1
theorem zbj {ps:List Pc} (g:Good ps) {j a b:Nat} {m f l:Ms} {x:Str} (T:Tx ps j m x f l) (e:ps[j-1]? = some (.fork a b)):∃ ma mb y z fa la fb lb,a<j/\Tx ps a ma y fa la/\Tx ps b mb z fb lb/\x=y++z/\m=ycU ma mb:=by
 rcases g.kind T with ⟨q,_⟩ | ⟨a',b',ma,mb,y,z,fa,la,fb,lb,e1,e2,_,A,B,x1,x2,_⟩
 ·rw [e] at q;cases q
 ·rw [e] at e1;cases e1
  exact ⟨ma,mb,y,z,fa,la,fb,lb,e2,A,B,x1,x2⟩
theorem zaE {ps:List Pc} (g:Good ps) {j a b:Nat} {st:List Un} (ok:∀ u∈(.n j::st:List Un),OkI ps u) (e:ps[j-1]? = some (.fork a b)):∀ u∈(.n a :: .n b::st:List Un),OkI ps u:=by
 cases ok _ (List.mem_cons_self ..) with
 | n T =>
  obtain ⟨ma,mb,y,z,fa,la,fb,lb,_,A,B,_⟩:=zbj g T e
  intro u hu
  rcases List.mem_cons.mp hu with rfl | hu
  ·exact .n A
  ·rcases List.mem_cons.mp hu with rfl | hu
   ·exact .n B
   ·exact ok u (List.mem_cons_of_mem _ hu)
theorem ydG {ps:List Pc} (g:Good ps) {s L:List Un} (o:Op ps s L) (ok:∀ u∈s,OkI ps u):∀ u∈L,OkI ps u:=by
 induction o with
 | refl=>exact ok
 | «open» h e ih=>exact zaE g ih e
theorem okis {ps:List Pc} {s:List Un} (ok:∀ u∈s,OkI ps u):∀ u∈s,OkU ps u:=fun u hu=>(ok u hu).u
theorem yeE {ps:List Pc} (g:Good ps) {s L:List Un} (o:Op ps s L) (ok:∀ u∈s,OkI ps u):nxF ps 90 s=nxF ps 90 L:=by
 induction o with
 | refl=>rfl
 | @«open» st j a b h e ih =>
  rw [ih];have k1:=okis (ydG g h ok)
  have k2:=okis (zaE g (ydG g h ok) e)
  have q:nxF ps 90 (.n j::st)=nxF ps 89 (.n a :: .n b::st):=by
   show (match ps[j-1]? with
    | some (.fork a b)=>nxF ps 89 (.n a :: .n b::st)
    | some (.leaf z)=>(z,st)
    | none=>("",st))=_
   rw [e]
  rw [q];exact zdO g 89 90 _ k2 (by have:=ybD g k2;lia) (by have:=ybD g k2;lia)
theorem yhZ {ps:List Pc} (g:Good ps) {s L:List Un} (o:Op ps s L) (ok:∀ u∈s,OkI ps u):∀ {k i:Nat} {r:List Un},L = .n i::r->k<=i->topF ps k 90 s=topF ps k 90 L:=by
 induction o with
 | refl=>intro k i r _ _;rfl
 | @«open» st j a b h e ih =>
  intro k i r q hk
  cases q
  have k0:=ydG g h ok
  have k2:=okis (zaE g k0 e)
  cases k0 _ (List.mem_cons_self ..) with
  | n T =>
   obtain ⟨_,_,_,_,_,_,_,_,hl,_⟩:=zbj g T e
   rw [ih rfl (by lia)]
   have q:topF ps k 90 (.n j::st)=topF ps k 89 (.n a :: .n b::st):=by
    show (if j=k then some st else match ps[j-1]? with
     | some (.fork a b)=>topF ps k 89 (.n a :: .n b::st)
     | _=>none)=_
    rw [if_neg (by lia),e]
   rw [q];exact zdj g 89 90 _ k2 (by have:=ybD g k2;lia) (by have:=ybD g k2;lia)
theorem zjy {ps:List Pc} (g:Good ps) {s L:List Un} {k:Nat} (o:Op ps s (.n k::L)) (ok:∀ u∈s,OkI ps u):itF ps (.n k) s=some L:=by
 show topF ps k 90 s=_
 rw [yhZ g o ok rfl (Nat.le_refl _)];show (if k=k then some L else _)=_
 rw [if_pos rfl]
theorem zjz {ps:List Pc} (g:Good ps) {s L L0:List Un} {z:Str} {m:Nat} (o:Op ps s L) (ok:∀ u∈s,OkI ps u) (e:nxF ps 90 L=(z,L0)) (m1:1<=m) (hm:m<=z.length) (z8:z.length<=8):itF ps (.s (tkS z m)) s=some (psh (dpS z m) L0):=by
 show tkF ps 10 (tkS z m) s=_
 have en:=(yeE g o ok).trans e
 have lt:(tkS z m).length=m:=by rw [zac,ybw,List.length_take,<- zac];lia
 have N:=ydC g 90 s (okis ok) (by have:=ybD g (okis ok);lia)
 have rd:=N.rd
 rw [en] at rd;have rd2:rdS ps s=(tkS z m).cps.toList++(z.cps.toList.drop m++rdS ps L0):=by
  rw [rd,ybw,<- List.append_assoc,List.take_append_drop]
 rw [zdM g (okis ok) rd2 (by lia),lt,ygA en m1 hm]
theorem yf0 {ps:List Pc} {s L:List Un} (o:Op ps s L):s=[] ↔ L=[]:=by
 induction o with
 | refl=>exact Iff.rfl
 | «open» h e ih=>exact ⟨fun q=>(by have:=ih.mp q;cases this),fun q=>(by cases q)⟩
theorem yeF {ps:List Pc} (g:Good ps):∀ (c:Nat) (st:List Un),(∀ u∈st,OkI ps u)->hU ps st<=c->(∀ u∈(nxF ps c st).2,OkI ps u)/\(st≠[]->ya7 (nxF ps c st).1=true)
 | c,[],ok,_=>by
  have:nxF ps c []=((("" : Str),([]:List Un))):=by cases c<;>rfl
  rw [this];exact ⟨fun u hu=>(by cases hu),fun z=>absurd rfl z⟩
 | c,.s z::st,ok,_=>by
  rw [nx_s];refine ⟨fun u hu=>ok u (List.mem_cons_of_mem _ hu),fun _=>?_⟩
  cases ok _ (List.mem_cons_self ..) with
  | s a=>exact a
 | 0,.n k::st,ok,h=>absurd h (by show ¬ _+1<=0;lia)
 | c+1,.n k::st,ok,h=>by
  cases ok _ (List.mem_cons_self ..) with
  | @n k m f l x T =>
   rcases g.kind T with ⟨e,_⟩ | ⟨a,b,ma,mb,y,z,fa,la,fb,lb,e,e2,_,A,B,x1,x2,_⟩
   ·have q:nxF ps (c+1) (.n k::st)=(x,st):=by
     show (match ps[k-1]? with
      | some (.fork a b)=>nxF ps c (.n a :: .n b::st)
      | some (.leaf z)=>(z,st)
      | none=>("",st))=_
     rw [e]
    rw [q];exact ⟨fun u hu=>ok u (List.mem_cons_of_mem _ hu),fun _=>g.get e⟩
   ·have q:nxF ps (c+1) (.n k::st)=nxF ps c (.n a :: .n b::st):=by
     show (match ps[k-1]? with
      | some (.fork a b)=>nxF ps c (.n a :: .n b::st)
      | some (.leaf z)=>(z,st)
      | none=>("",st))=_
     rw [e]
    rw [q];rw [ybg T] at h;have r:=yeF g c (.n a :: .n b::st) (zaE g ok e) (by
     rw [ybg A];have:=A.ky.ht
     have:=B.ky.ht
     rw [x2] at h;have:(ycU ma mb).ht=max ma.ht mb.ht+1:=rfl
     lia)
    exact ⟨r.1,fun _=>r.2 (fun z=>by cases z)⟩
structure Cs (ps:List Pc) (one items L:List Un):Prop where
 ex:∃ s,lbF ps items one=some s/\(∀ u∈s,OkI ps u)/\Op ps s L
theorem Cs.oki {ps:List Pc} (g:Good ps) {one items L:List Un} (c:Cs ps one items L):∀ u∈L,OkI ps u:=by
 obtain ⟨s,_,ok,o⟩:=c.ex
 exact ydG g o ok
theorem Cs.opn {ps:List Pc} {one items L L2:List Un} (c:Cs ps one items L) (o:Op ps L L2):Cs ps one items L2:=by
 induction o with
 | refl=>exact c
 | «open» h e ih =>
  obtain ⟨s,a,b,d⟩:=ih.ex
  exact ⟨s,a,b,.open d e⟩
theorem zge {ps:List Pc} {items one s r:List Un} {i:Un} (e:lbF ps items one=some s) (q:itF ps i s=some r):lbF ps (items++[i]) one=some r:=by
 rw [ye7,e];show (itF ps i s).bind (lbF ps [])=_
 rw [q];rfl
theorem Cs.num {ps:List Pc} (g:Good ps) {one items L:List Un} {k:Nat} (c:Cs ps one items (.n k::L)):Cs ps one (items++[.n k]) L:=by
 obtain ⟨s,a,b,o⟩:=c.ex
 exact ⟨L,zge a (zjy g o b),fun u hu=>ydG g o b u (List.mem_cons_of_mem _ hu),.refl _⟩
theorem zb9 {z:Str} {m:Nat} (h:yav z=true):yav (dpS z m)=true:=by
 unfold yav at h ⊢
 rw [ybF];exact List.all_eq_true.mpr fun c hc=>List.all_eq_true.mp h c (List.mem_of_mem_drop hc)
theorem zis {z:Str} {m:Nat} (h:yav z=true):yav (tkS z m)=true:=by
 unfold yav at h ⊢
 rw [ybw];exact List.all_eq_true.mpr fun c hc=>List.all_eq_true.mp h c (List.mem_of_mem_take hc)
theorem zeP {z:Str} (p:yav z=true) (a:1<=z.length) (b:z.length<=8):ya7 z=true:=by simp [ya7,p,a,b]
theorem zdP {ps:List Pc} {z:Str} {st:List Un} (p:yav z=true) (b:z.length<=8) (ok:∀ u∈st,OkI ps u):∀ u∈psh z st,OkI ps u:=by
 unfold psh
 by_cases q:z = ""
 ·rw [if_pos q];exact ok
 ·rw [if_neg q]
  intro u hu
  rcases List.mem_cons.mp hu with rfl | hu
  ·exact .s (zeP p (by rcases Nat.eq_zero_or_pos z.length with w | w;exact absurd (zaQ.mpr w) q;exact w) b)
  ·exact ok u hu
theorem Cs.txt {ps:List Pc} (g:Good ps) {one items L L0:List Un} {z:Str} {m:Nat} (c:Cs ps one items L) (e:nxF ps 90 L=(z,L0)) (m1:1<=m) (hm:m<=z.length):OkI ps (.s (tkS z m))/\Cs ps one (items++[.s (tkS z m)]) (psh (dpS z m) L0):=by
 have okL:=c.oki g
 obtain ⟨s,a,b,o⟩:=c.ex
 have N:=yeF g 90 L okL (by have:=ybD g (okis okL);lia)
 rw [e] at N;have ne:L≠[]:=fun q=>by
  rw [q] at e
  cases e
  exact absurd hm (by show ¬ m<=0;lia)
 obtain ⟨l1,l8,pl⟩:=zao (show ya7 z=true from N.2 ne)
 have lt:(tkS z m).length=m:=by rw [zac,ybw,List.length_take,<- zac];lia
 have ld:(dpS z m).length=z.length-m:=by rw [zac,ybF,List.length_drop,<- zac]
 exact ⟨.s (zeP (zis pl) (by lia) (by lia)),_,zge a (zjz g o b e m1 hm l8),zdP (zb9 pl) (by lia) N.1,.refl _⟩
end Sk
namespace Sk
open PySem PySem.Spec L2 Sm
def cmN:List Nat->List Nat->Nat
 | x::a,y::b=>if x=y then cmN a b+1 else 0
 | _,_=>0
theorem yec:∀ a b:List Nat,cmN a b<=a.length/\cmN a b<=b.length
 | [],[]=>⟨Nat.le_refl _,Nat.le_refl _⟩
 | [],_::_=>⟨Nat.zero_le _,Nat.zero_le _⟩
 | _::_,[]=>⟨Nat.zero_le _,Nat.zero_le _⟩
 | x::a,y::b=>by
  have:=yec a b
  rw [cmN,List.length_cons,List.length_cons];split<;>lia
theorem zgf:∀ a b:List Nat,a.take (cmN a b)=b.take (cmN a b)
 | [],[]=>rfl
 | [],_::_=>rfl
 | _::_,[]=>rfl
 | x::a,y::b=>by
  rw [cmN];split
  ·rename_i h
   subst h;rw [List.take_succ_cons,List.take_succ_cons,zgf a b]
  ·rfl
theorem ygG:∀ (a b:List Nat) (j:Nat),j<cmN a b->a[j]? = b[j]?
 | [],[],_,h=>absurd h (Nat.not_lt_zero _)
 | [],_::_,_,h=>absurd h (Nat.not_lt_zero _)
 | _::_,[],_,h=>absurd h (Nat.not_lt_zero _)
 | x::a,y::b,j,h=>by
  rw [cmN] at h;split at h
  ·rename_i q
   cases j with
   | zero=>rw [q];rfl
   | succ j=>simpa using ygG a b j (by lia)
  ·exact absurd h (Nat.not_lt_zero _)
theorem ye9:∀ (a b:List Nat),cmN a b<a.length->cmN a b<b.length->a[cmN a b]? ≠ b[cmN a b]?
 | [],_,h,_=>absurd h (Nat.not_lt_zero _)
 | _::_,[],_,h=>absurd h (Nat.not_lt_zero _)
 | x::a,y::b,h1,h2=>by
  rw [cmN] at h1 h2 ⊢;split
  ·rename_i q
   rw [if_pos q] at h1 h2;rw [List.length_cons] at h1 h2;simpa using ye9 a b (by lia) (by lia)
  ·rename_i q
   intro z
   exact q (by simpa using z)
theorem zjA (a b:List Nat):(a.drop (cmN a b)).take 1=(b.drop (cmN a b)).take 1->a.length<=cmN a b/\b.length<=cmN a b:=fun e=>by
 have l:=yec a b
 rcases Nat.lt_or_ge (cmN a b) a.length with h1 | h1
 ·rcases Nat.lt_or_ge (cmN a b) b.length with h2 | h2
  ·refine absurd ?_ (ye9 a b h1 h2)
   have:=congrArg (fun l:List Nat=>l[0]?) e
   simpa using this
  ·have:=congrArg List.length e
   rw [List.length_take,List.length_take,List.length_drop,List.length_drop] at this;lia
 ·rcases Nat.lt_or_ge (cmN a b) b.length with h2 | h2
  ·have:=congrArg List.length e
   rw [List.length_take,List.length_take,List.length_drop,List.length_drop] at this;lia
  ·exact ⟨h1,h2⟩
theorem zdQ {c:SB} {b:SS} {E:Nat->En} {h:AH} {n:Nat} (hc:∀ j,j<=n->c (E j) h = .ok (decide (j<n)) h) (hb:∀ j,j<n->b (E j) h = .nx (E (j+1)) h):∀ (fuel j:Nat),j<=n->n-j<fuel->yaG c b fuel (E j) h = .nx (E n) h
 | 0,j,_,hf=>absurd hf (Nat.not_lt_zero _)
 | fu+1,j,hj,hf=>by
  by_cases q:j<n
  ·rw [yeC (by rw [hc j hj,decide_eq_true q]) (hb j q)]
   exact zdQ hc hb fu (j+1) q (by lia)
  ·have:j=n:=by lia
   subst this;exact yeb (by rw [hc j hj,decide_eq_false q])
theorem zgg {x y:Str} {j:Nat} (hj:j<=cmN x.cps.toList y.cps.toList) (h:AH) :
  (yc8 [.int x.length,.int y.length] h = .ok (.int ((min x.length y.length:Nat):Int)) h)/\fLt (.int j) (.int ((min x.length y.length:Nat):Int)) h = .ok (.bl (decide (j<min x.length y.length))) h /\
  (j<min x.length y.length->∃ a b:Nat,fIx (.str x) (.int j) h = .ok (.str ⟨#[a]⟩) h/\fIx (.str y) (.int j) h = .ok (.str ⟨#[b]⟩) h/\fEq (.str ⟨#[a]⟩) (.str ⟨#[b]⟩) h = .ok (.bl (decide (j<cmN x.cps.toList y.cps.toList))) h)/\(¬ j<min x.length y.length -> ¬ j<cmN x.cps.toList y.cps.toList):=by
 have l:=yec x.cps.toList y.cps.toList
 rw [<- zac,<- zac] at l;refine ⟨?_,?_,fun q=>?_,fun q=>by lia⟩
 ·have:yc8 [.int x.length,.int y.length] h = .ok (.int (if (y.length:Int)<x.length then (y.length:Int) else x.length)) h:=rfl
  rw [this];by_cases q:y.length<x.length
  ·rw [if_pos (by lia)];congr 2;lia
  ·rw [if_neg (by lia)];congr 2;lia
 ·show Out.ok (AV.bl (decide ((j:Int)<((min x.length y.length:Nat):Int)))) h=_
  congr 2
  exact decide_eq_decide.mpr Int.ofNat_lt
 ·have hx:j<x.cps.toList.length:=by rw [<- zac];lia
  have hy:j<y.cps.toList.length:=by rw [<- zac];lia
  refine ⟨x.cps.toList[j],y.cps.toList[j],?_,?_,?_⟩
  ·simp only [fIx,zbr (List.getElem?_eq_getElem hx)]
  ·simp only [fIx,zbr (List.getElem?_eq_getElem hy)]
  ·have e:(⟨#[x.cps.toList[j]]⟩:Str)=⟨#[y.cps.toList[j]]⟩ ↔ j<cmN x.cps.toList y.cps.toList:=by
    constructor
    ·intro z
     rcases Nat.lt_or_ge j (cmN x.cps.toList y.cps.toList) with w | w
     ·exact w
     ·have w':j=cmN x.cps.toList y.cps.toList:=by lia
      refine absurd ?_ (ye9 x.cps.toList y.cps.toList (w'▸hx) (w'▸hy))
      rw [<- w',List.getElem?_eq_getElem hx,List.getElem?_eq_getElem hy];have:=congrArg (fun s:Str=>s.cps.toList) z
      simpa using this
    ·intro w
     have:=ygG _ _ j w
     rw [List.getElem?_eq_getElem hx,List.getElem?_eq_getElem hy] at this;rw [Option.some.inj this]
   generalize (⟨#[x.cps.toList[j]]⟩:Str)=u at *;generalize (⟨#[y.cps.toList[j]]⟩:Str)=v at *;have q:fEq (.str u) (.str v) h = .ok (.bl (decide (u=v))) h:=by
    by_cases w:u=v<;>simp [toD,PyData.eqv,w]
   rw [q];congr 2
   exact decide_eq_decide.mpr e
def eqU:Un->Un->Bool
 | .n a,.n b=>decide (a=b)
 | .s x,.s y=>decide (x=y)
 | .n _,.s _=>false
 | .s _,.n _=>false
theorem ygH (u:Un):eqU u u=true:=by cases u<;>simp [eqU]
theorem ygI {u v:Un} (h : ¬ u=v):eqU u v=false:=by
 cases u<;>cases v<;>simp_all [eqU]
def szU (ps:List Pc):Un->Nat
 | .n k=>match (meas ps)[k]? with | some m=>m.sg | none=>0
 | .s z=>z.length
def opU (ps:List Pc):Un->Option (Nat×Nat)
 | .n k=>match ps[k-1]? with
  | some (.fork a b)=>some (a,b)
  | _=>none
 | .s _=>none
theorem zcI {ps:List Pc} {k a b:Nat} (e:ps[k-1]? = some (.fork a b)):opU ps (.n k)=some (a,b):=by
 show (match ps[k-1]? with | some (.fork a b)=>some (a,b) | _=>none)=_
 rw [e]
theorem zdR {ps:List Pc} {k:Nat} {x:Str} (e:ps[k-1]? = some (.leaf x)):opU ps (.n k)=none:=by
 show (match ps[k-1]? with | some (.fork a b)=>some (a,b) | _=>none)=_
 rw [e]
def ciF (ps:List Pc):Nat->List Un->List Un->Option (Un×List Un×List Un)
 | 0,_,_=>none
 | _+1,[],_=>none
 | _+1,_::_,[]=>none
 | f+1,u::l,v::r=>if eqU u v then some (u,l,r) else match decide (szU ps u<szU ps v) with
  | true=>match opU ps v with
   | some q=>ciF ps f (u::l) (.n q.1 :: .n q.2::r)
   | none=>none
  | false=>match opU ps u with
   | some q=>ciF ps f (.n q.1 :: .n q.2::l) (v::r)
   | none=>none
theorem zcJ {ps:List Pc} {u:Un} {l r:List Un} (f:Nat):ciF ps (f+1) (u::l) (u::r)=some (u,l,r):=by
 rw [ciF,if_pos (ygH u)]
theorem zcK {ps:List Pc} {u v:Un} {l r:List Un} (f:Nat) (h : ¬ u=v):ciF ps (f+1) (u::l) (v::r)=match decide (szU ps u<szU ps v) with
  | true=>(match opU ps v with
   | some q=>ciF ps f (u::l) (.n q.1 :: .n q.2::r)
   | none=>none)
  | false=>(match opU ps u with
   | some q=>ciF ps f (.n q.1 :: .n q.2::l) (v::r)
   | none=>none):=by
 rw [ciF,if_neg (by rw [ygI h];exact Bool.false_ne_true)]
def citF (ps:List Pc) (L R:List Un):Un×List Un×List Un:=match ciF ps yaH L R with
 | some t=>t
 | none=>(.s (tkS (nxF ps 90 L).1 (cmN (nxF ps 90 L).1.cps.toList (nxF ps 90 R).1.cps.toList)),psh (dpS (nxF ps 90 L).1 (cmN (nxF ps 90 L).1.cps.toList (nxF ps 90 R).1.cps.toList)) (nxF ps 90 L).2,psh (dpS (nxF ps 90 R).1 (cmN (nxF ps 90 L).1.cps.toList (nxF ps 90 R).1.cps.toList)) (nxF ps 90 R).2)
theorem zdk {ps:List Pc} {L R:List Un} {t:Un×List Un×List Un} (e:ciF ps yaH L R=some t):citF ps L R=t:=by
 unfold citF
 rw [e]
theorem zeQ {ps:List Pc} {L R L0 R0:List Un} {x y:Str} (e:ciF ps yaH L R=none) (e1:nxF ps 90 L=(x,L0)) (e2:nxF ps 90 R=(y,R0)):citF ps L R=(.s (tkS x (cmN x.cps.toList y.cps.toList)),psh (dpS x (cmN x.cps.toList y.cps.toList)) L0,psh (dpS y (cmN x.cps.toList y.cps.toList)) R0):=by
 unfold citF
 rw [e,e1,e2]
def csF (ps:List Pc):Nat->List Un->List Un->List Un->List Un×List Un×List Un
 | 0,items,L,R=>(items,L,R)
 | _+1,items,[],R=>(items,[],R)
 | _+1,items,u::l,[]=>(items,u::l,[])
 | f+1,items,u::l,v::r=>if eqU (citF ps (u::l) (v::r)).1 (.s "") then (items,(citF ps (u::l) (v::r)).2.1,(citF ps (u::l) (v::r)).2.2) else csF ps f (items++[(citF ps (u::l) (v::r)).1]) (citF ps (u::l) (v::r)).2.1 (citF ps (u::l) (v::r)).2.2
theorem yfo {ps:List Pc} {items l r L1 R1:List Un} {u v i:Un} (f:Nat) (e:citF ps (u::l) (v::r)=(i,L1,R1)) (n : ¬ i = .s ""):csF ps (f+1) items (u::l) (v::r)=csF ps f (items++[i]) L1 R1:=by
 rw [csF,e,if_neg (by rw [ygI n];exact Bool.false_ne_true)]
theorem yfa {ps:List Pc} {items l r L1 R1:List Un} {u v:Un} (f:Nat) (e:citF ps (u::l) (v::r)=(.s "",L1,R1)):csF ps (f+1) items (u::l) (v::r)=(items,L1,R1):=by
 rw [csF,e,if_pos (ygH _)]
theorem zjB {ps:List Pc} {items L R:List Un} (q:L=[]\/R=[]):∀ f,csF ps f items L R=(items,L,R)
 | 0=>rfl
 | f+1=>by
  rcases q with rfl | rfl
  ·rfl
  ·cases L<;>rfl
theorem yf1 {ps:List Pc} {L R:List Un} (q:L=[]\/R=[]):csF ps yaH [] L R=([],L,R):=zjB q _
theorem yh0 {ps:List Pc} {i:Un} (o:OkI ps i) : ¬ i = .s "" := fun q=>by
 subst q
 cases o with
 | s a=>exact absurd (zao a).1 (by decide)
abbrev CG:SB:=sAnd (yam (sOp2 fLt (sVar 5) (yae yc8 (yab (yae fLen (yab (sVar 3) sNil)) (yab (yae fLen (yab (sVar 4) sNil)) sNil))))) (yam (sOp2 fEq (sOp2 fIx (sVar 3) (sVar 5)) (sOp2 fIx (sVar 4) (sVar 5))))
theorem zjC {h:AH} {x y:Str} {o0 o1 o2:Option AV} (hx:x.length<=8):yaG CG ybX yaH [o0,o1,o2,some (.str x),some (.str y),some (.int 0)] h = .nx [o0,o1,o2,some (.str x),some (.str y),some (.int (cmN x.cps.toList y.cps.toList))] h:=by
 have l:=yec x.cps.toList y.cps.toList
 rw [<- zac,<- zac] at l;refine zdQ (E:=fun j=>[o0,o1,o2,some (.str x),some (.str y),some (.int j)]) (n:=cmN x.cps.toList y.cps.toList) (fun j hj=>?_) (fun j hj=>?_) yaH 0 (Nat.zero_le _) (Nat.lt_of_le_of_lt (m:=8) (by lia) (by decide))
 ·obtain ⟨mn,lt,a,b⟩:=zgg hj h
  have l1:fLen [.str x] h = .ok (.int x.length) h:=rfl
  have l2:fLen [.str y] h = .ok (.int y.length) h:=rfl
  generalize (x.length:Int)=XL at *;generalize (y.length:Int)=YL at *;by_cases q:j<min x.length y.length
  ·obtain ⟨a,b,e1,e2,e3⟩:=a q
   rw [decide_eq_true q] at lt;generalize ((min x.length y.length:Nat):Int)=MM at *;simp [CG,l1,l2,mn,lt,e1,e2,e3,-fLen,-yc8,-fLt,-fIx,-fEq]
  ·rw [decide_eq_false q] at lt
   rw [decide_eq_false (b q)];generalize ((min x.length y.length:Nat):Int)=MM at *;simp [CG,l1,l2,mn,lt,-fLen,-yc8,-fLt,-fIx,-fEq]
 ·show ybX _ h=_
  have ad:fAdd (.int j) (.int 1) h = .ok (.int ((j+1:Nat):Int)) h:=rfl
  simp [ybX,ad,-fAdd]
theorem set4 (h:AH) {W V:Nat} (ne:W≠V) (a b c d:AO):(((h.set W a).set V b).set W c).set V d=(h.set W c).set V d:=by
 rw [List.set_comm _ _ ne,List.set_set,List.set_comm _ _ ne.symm,List.set_set]
theorem zit {h:AH} {p W V:Nat} {ps:List Pc} {L R L0 R0:List Un} {x y:Str} (S:ShelfAt h p ps) (g:Good ps) (hW:p+8<W) (hV:p+8<V) (ne:W≠V) (okL:∀ u∈L,OkI ps u) (okR:∀ u∈R,OkI ps u) (lL:L.length<=900000) (lR:R.length<=900000) (eW:h[W]? = some (.lst (L.reverse.map uv))) (eV:h[V]? = some (.lst (R.reverse.map uv)))
  (e1:nxF ps 90 L=(x,L0)) (e2:nxF ps 90 R=(y,R0)) :
  ycj [.ref p,.ref W,.ref V] h = .ok (.str (tkS x (cmN x.cps.toList y.cps.toList))) ((h.set W (.lst ((psh (dpS x (cmN x.cps.toList y.cps.toList)) L0).reverse.map uv))).set V (.lst ((psh (dpS y (cmN x.cps.toList y.cps.toList)) R0).reverse.map uv))):=by
 have f1:=ye3 S g hW (okis okL) lL eW
 have N1:=ydC g 90 L (okis okL) (by have:=ybD g (okis okL);lia)
 have N2:=ydC g 90 R (okis okR) (by have:=ybD g (okis okR);lia)
 rw [e1] at f1 N1;rw [e2] at N2;have l1:=N1.ln
 have l2:=N2.ln
 dsimp only at f1 l1 l2
 have x8:x.length<=8:=by
  by_cases q:L=[]
  ·have:=N1.z0 q
   cases this
   exact Nat.zero_le _
  ·exact (N1.z1 q).2
 have S1:=zax S hW (.lst (L0.reverse.map uv))
 have eV1:(h.set W (.lst (L0.reverse.map uv)))[V]? = some (.lst (R.reverse.map uv)):=by rw [List.getElem?_set_ne ne];exact eV
 have f2:=ye3 S1 g hV (okis okR) lR eV1
 rw [e2] at f2;dsimp only at f2
 obtain ⟨n,en⟩:∃ n,n=cmN x.cps.toList y.cps.toList:=⟨_,rfl⟩
 have nl:=yec x.cps.toList y.cps.toList
 rw [<- zac,<- zac,<- en] at nl;have S2:=zax S1 hV (.lst (R0.reverse.map uv))
 have eW2:((h.set W (.lst (L0.reverse.map uv))).set V (.lst (R0.reverse.map uv)))[W]? = some (.lst (L0.reverse.map uv)):=by rw [List.getElem?_set_ne ne.symm];exact List.getElem?_set_self (yaS eW)
 have eV2:((h.set W (.lst (L0.reverse.map uv))).set V (.lst (R0.reverse.map uv)))[V]? = some (.lst (R0.reverse.map uv)):=List.getElem?_set_self (yaS eV1)
 have lp:=zjC (h:=(h.set W (.lst (L0.reverse.map uv))).set V (.lst (R0.reverse.map uv))) (x:=x) (y:=y) (o0:=some (.ref p)) (o1:=some (.ref W)) (o2:=some (.ref V)) x8
 have p1:=yfX (dpS x n) eW2 (by lia)
 have eV3:(((h.set W (.lst (L0.reverse.map uv))).set V (.lst (R0.reverse.map uv))).set W (.lst ((psh (dpS x n) L0).reverse.map uv)))[V]? = some (.lst (R0.reverse.map uv)):=by rw [List.getElem?_set_ne ne];exact eV2
 have p2:=yfX (dpS y n) eV3 (by lia)
 rw [set4 h ne] at p2;rw [<- en] at lp ⊢;have c1:∀ hh,ya0 (.str x) (some (n:Int)) none hh = .ok (.str (dpS x n)) hh:=yeB nl.1
 have c2:∀ hh,ya0 (.str y) (some (n:Int)) none hh = .ok (.str (dpS y n)) hh:=yeB nl.2
 obtain ⟨H4,eH4⟩:∃ H4,H4=(h.set W (.lst ((psh (dpS x n) L0).reverse.map uv))).set V (.lst ((psh (dpS y n) R0).reverse.map uv)):=⟨_,rfl⟩
 rw [<- eH4] at p2 ⊢;have c3:=yeh (x:=x) (a:=n) H4
 clear S S1 S2 eW eV eV1 eW2 eV2 eV3 N1 N2 okL okR en eH4;unfold ycj
 generalize yaG CG ybX yaH=WL at *;generalize ((h.set W (.lst (L0.reverse.map uv))).set V (.lst (R0.reverse.map uv))).set W (.lst ((psh (dpS x n) L0).reverse.map uv))=H3 at *;generalize (h.set W (.lst (L0.reverse.map uv))).set V (.lst (R0.reverse.map uv))=H2 at *;generalize h.set W (.lst (L0.reverse.map uv))=H1 at *;generalize (n:Int)=NN at *;simp [f1,f2,lp,c1,c2,c3,p1,p2,-ya0]
end Sk
namespace Sk
open PySem PySem.Spec L2 Sm
theorem zeR {ps:List Pc} {s L M:List Un} (a:Op ps s L) (b:Op ps L M):Op ps s M:=by
 induction b with
 | refl=>exact a
 | «open» h e ih=>exact .open ih e
theorem zcL {h:AH} {W:Nat} {u:Un} {st:List Un} (eW:h[W]? = some (.lst ((u::st).reverse.map uv))):fIx (.ref W) (.int (-1)) h = .ok (uv u) h:=by
 rw [ycV] at eW;generalize st.reverse.map uv=Z at *;generalize uv u=w at *;have q:atI (Z++[w]) (-1)=some w:=by
  have e:(-1+((Z.length:Int)+1)).toNat=Z.length:=by lia
  have e2:(1:Int)<=(Z.length:Int)+1:=by lia
  simp [atI,ixN,e,e2]
 simp only [fIx,eW,q]
theorem ygJ (u v:Un) (h:AH):∃ b,fNe (uv u) (uv v) h = .ok (.bl b) h/\(b=false ↔ u=v):=by
 cases u with
 | n j =>
  cases v with
  | n k =>
   by_cases q:j=k
   ·exact ⟨false,by subst q;simp [toD,PyData.eqv],by simp [q]⟩
   ·exact ⟨true,by simp [toD,PyData.eqv];lia,by simp [q]⟩
  | s z=>exact ⟨true,by simp [toD,PyData.eqv],by simp⟩
 | s y =>
  cases v with
  | n k=>exact ⟨true,by simp [toD,PyData.eqv],by simp⟩
  | s z =>
   by_cases q:y=z
   ·exact ⟨false,by subst q;simp [toD,PyData.eqv],by simp [q]⟩
   ·exact ⟨true,by simp [toD,PyData.eqv,q],by simp [q]⟩
theorem yf2 {h:AH} {p:Nat} {ps:List Pc} {u:Un} (S:ShelfAt h p ps) (o:OkI ps u):ya9 [.ref p,uv u] h = .ok (.int (szU ps u)) h:=by
 cases o with
 | @n k m f l x T =>
  have ob:=S.ob
  have fs:=zaP S T.ms
  have e:szU ps (.n k)=m.sg:=by show (match (meas ps)[k]? with | some m=>m.sg | none=>0)=_;rw [T.ms]
  rw [e];simp [ya9,ob,fs]
 | @s z a =>
  have e:szU ps (.s z)=z.length:=rfl
  rw [e];simp [ya9]
theorem ziu {h:AH} {W:Nat} {u:Un} {st:List Un} (eW:h[W]? = some (.lst ((u::st).reverse.map uv))) (ls:st.length<=900000):yax (.ref W) [uv u] (h.set W (.lst (st.reverse.map uv))) = .ok .non h:=by
 have l1:(st.reverse.map uv).length<sizeLine:=Nat.lt_of_le_of_lt (m:=900000) (by simpa using ls) (by decide)
 have e1:(h.set W (.lst (st.reverse.map uv)))[W]? = some (.lst (st.reverse.map uv)):=List.getElem?_set_self (yaS eW)
 have e2:(h.set W (.lst (st.reverse.map uv))).set W (.lst (st.reverse.map uv++[uv u]))=h:=by
  rw [List.set_set,<- ycV];exact zcH eW
 simp only [yax,e1,l1,if_true,e2]
theorem zjD {h:AH} {p W V:Nat} {ps:List Pc} {u v:Un} {l r:List Un} {o3 o4 o5:Option AV} (S:ShelfAt h p ps) (eW:h[W]? = some (.lst ((u::l).reverse.map uv))) (eV:h[V]? = some (.lst ((v::r).reverse.map uv))) (ou:OkI ps u) (ov:OkI ps v) :
  (sOp2 fLt (yae ya9 (yab (sVar 0) (yab (sOp2 fIx (sVar 1) (sOp1 fNeg (sLit (.int 1)))) sNil))) (yae ya9 (yab (sVar 0) (yab (sOp2 fIx (sVar 2) (sOp1 fNeg (sLit (.int 1)))) sNil)))) [some (.ref p),some (.ref W),some (.ref V),o3,o4,o5] h = .ok (.bl (decide (szU ps u<szU ps v))) h:=by
 have f1:=yf2 S ou
 have f2:=yf2 S ov
 generalize szU ps u=k1 at *;generalize szU ps v=k2 at *;have i1:=zcL eW
 have i2:=zcL eV
 have lt:fLt (.int k1) (.int k2) h = .ok (.bl (decide (k1<k2))) h:=by
  show Out.ok (AV.bl (decide ((k1:Int)<k2))) h=_
  congr 2
  exact decide_eq_decide.mpr (by lia)
 generalize uv u=UU at *;generalize uv v=VV at *;simp [i1,i2,f1,f2,lt,-fIx,-fLt]
theorem zgh {h:AH} {p W V X:Nat} {ps:List Pc} {b:Bool} {st:List Un} {o3 o4 o5:Option AV} {a c k:Nat} (S:ShelfAt h p ps) (pk:(sOp2 fLt (yae ya9 (yab (sVar 0) (yab (sOp2 fIx (sVar 1) (sOp1 fNeg (sLit (.int 1)))) sNil))) (yae ya9 (yab (sVar 0) (yab (sOp2 fIx (sVar 2) (sOp1 fNeg (sLit (.int 1)))) sNil)))) [some (.ref p),some (.ref W),some (.ref V),o3,o4,o5] h = .ok (.bl b) h) (hb:(b=true/\X=V)\/(b=false/\X=W)) (hX:p+8<X)
  (eX:h[X]? = some (.lst ((.n k::st).reverse.map uv))) (k1:1<=k) (e:ps[k-1]? = some (.fork a c)) (ls:st.length<=900000) :
  ∃ e3 e4 e5,ybj [some (.ref p),some (.ref W),some (.ref V),o3,o4,o5] h = .nx [some (.ref p),some (.ref W),some (.ref V),e3,e4,e5] (h.set X (.lst ((.n a :: .n c::st).reverse.map uv))):=by
 have eX' := eX
 rw [ycV] at eX';have pp:=popU eX'
 have is1:yaB (.ref X) h=true:=by simp [eX]
 have e1:(h.set X (.lst (st.reverse.map uv)))[X]? = some (.lst (st.reverse.map uv)):=List.getElem?_set_self (yaS eX)
 have of:=zga (zax S hX (.lst (st.reverse.map uv))) k1 e hX e1 (by simpa using Nat.le_trans ls (by decide))
 rw [List.set_set] at of;have er:st.reverse.map uv++[.int c]++[.int a]=(.n a :: .n c::st:List Un).reverse.map uv:=by simp
 rw [er] at of;generalize (.n a :: .n c::st:List Un).reverse.map uv=Z at *;generalize st.reverse.map uv=Z0 at *;generalize h.set X (.lst Z)=HF at *;generalize h.set X (.lst Z0)=H1 at *;have uk:uv (.n k) = .int k:=rfl
 rw [uk] at pp;unfold ybj
 generalize (sOp2 fLt (yae ya9 (yab (sVar 0) (yab (sOp2 fIx (sVar 1) (sOp1 fNeg (sLit (.int 1)))) sNil))) (yae ya9 (yab (sVar 0) (yab (sOp2 fIx (sVar 2) (sOp1 fNeg (sLit (.int 1)))) sNil))))=PK at *;rcases hb with ⟨rfl,rfl⟩ | ⟨rfl,rfl⟩
 ·exact ⟨_,_,_,by simp [pk,is1,pp,of,-yaB,-mPop];exact ⟨rfl,rfl,rfl⟩⟩
 ·exact ⟨_,_,_,by simp [pk,is1,pp,of,-yaB,-mPop];exact ⟨rfl,rfl,rfl⟩⟩
theorem zgi {h:AH} {p W V X:Nat} {b:Bool} {w:Un} {st:List Un} {o3 o4 o5:Option AV} {R:AV} {h2:AH} (pk:(sOp2 fLt (yae ya9 (yab (sVar 0) (yab (sOp2 fIx (sVar 1) (sOp1 fNeg (sLit (.int 1)))) sNil))) (yae ya9 (yab (sVar 0) (yab (sOp2 fIx (sVar 2) (sOp1 fNeg (sLit (.int 1)))) sNil)))) [some (.ref p),some (.ref W),some (.ref V),o3,o4,o5] h = .ok (.bl b) h) (hb:(b=true/\X=V)\/(b=false/\X=W))
  (eX:h[X]? = some (.lst ((w::st).reverse.map uv))) (of:ybd [.ref p,.ref X,uv w] (h.set X (.lst (st.reverse.map uv))) = .ok (.bl false) (h.set X (.lst (st.reverse.map uv)))) (ls:st.length<=900000) (cs:ycj [.ref p,.ref W,.ref V] h = .ok R h2) :
  ybj [some (.ref p),some (.ref W),some (.ref V),o3,o4,o5] h = .rt R h2:=by
 have ab:=ziu eX ls
 have is2:yaB (.ref X) (h.set X (.lst (st.reverse.map uv)))=true:=by simp [List.getElem?_set_self (yaS eX)]
 have eX' := eX
 rw [ycV] at eX';have pp:=popU eX'
 have is1:yaB (.ref X) h=true:=by simp [eX]
 generalize st.reverse.map uv=Z0 at *;generalize h.set X (.lst Z0)=H1 at *;unfold ybj
 generalize (sOp2 fLt (yae ya9 (yab (sVar 0) (yab (sOp2 fIx (sVar 1) (sOp1 fNeg (sLit (.int 1)))) sNil))) (yae ya9 (yab (sVar 0) (yab (sOp2 fIx (sVar 2) (sOp1 fNeg (sLit (.int 1)))) sNil))))=PK at *;generalize uv w=UW at *;rcases hb with ⟨rfl,rfl⟩ | ⟨rfl,rfl⟩
 ·simp [pk,is1,is2,pp,of,ab,cs,-yaB,-mPop,-yax]
 ·simp [pk,is1,is2,pp,of,ab,cs,-yaB,-mPop,-yax]
end Sk
namespace Sk
open PySem PySem.Spec L2 Sm
theorem zeS {ps:List Pc} {p:Nat} (g:Good ps) {w:Un} (o:OkI ps w) :
  (∃ k a c,w = .n k/\1<=k/\ps[k-1]? = some (.fork a c)/\∀ st,hU ps (.n a :: .n c::st)+1<=hU ps (.n k::st))\/(opU ps w=none/\∀ hh X,ShelfAt hh p ps->ybd [.ref p,.ref X,uv w] hh = .ok (.bl false) hh):=by
 cases o with
 | @s z a=>exact .inr ⟨rfl,fun hh X _=>of_s z⟩
 | @n k m f l x T =>
  rcases g.kind T with ⟨e,_⟩ | ⟨a,b,ma,mb,y,z,fa,la,fb,lb,e,e2,_,A,B,x1,x2,_⟩
  ·exact .inr ⟨zdR e,fun hh X S=>zf9 S T.n1 e⟩
  ·refine .inl ⟨k,a,b,rfl,T.n1,e,fun st=>?_⟩
   rw [ybg T,ybg A,x2];have:=A.ky.ht
   have:=B.ky.ht
   have:(ycU ma mb).ht=max ma.ht mb.ht+1:=rfl
   lia
abbrev CI:SB:=yam (sOp2 fNe (sOp2 fIx (sVar 1) (sOp1 fNeg (sLit (.int 1)))) (sOp2 fIx (sVar 2) (sOp1 fNeg (sLit (.int 1)))))
def two (h:AH) (W V:Nat) (L R:List Un):AH:=(h.set W (.lst (L.reverse.map uv))).set V (.lst (R.reverse.map uv))
theorem ygK (h:AH) (W V:Nat) (L L1 R:List Un):two (h.set W (.lst (L1.reverse.map uv))) W V L R=two h W V L R:=by
 unfold two
 rw [List.set_set]
theorem ygL (h:AH) {W V:Nat} (ne:W≠V) (L R1 R:List Un):two (h.set V (.lst (R1.reverse.map uv))) W V L R=two h W V L R:=by
 unfold two
 rw [List.set_comm _ _ ne.symm,List.set_set]
theorem yh1 {h:AH} {W V:Nat} {L R:List Un} (eW:h[W]? = some (.lst (L.reverse.map uv))) (eV:h[V]? = some (.lst (R.reverse.map uv))):two h W V L R=h:=by
 unfold two
 rw [zcH eW,zcH eV]
def ciR (ps:List Pc) (p W V fuel:Nat) (L R:List Un) (h:AH) (o:OutS):Prop :=
 (∃ u l r e3 e4 e5,ciF ps fuel L R=some (u,l,r)/\Op ps L (u::l)/\Op ps R (u::r)/\o = .nx [some (.ref p),some (.ref W),some (.ref V),e3,e4,e5] (two h W V (u::l) (u::r))) \/
 (∃ x L0 y R0,ciF ps fuel L R=none/\nxF ps 90 L=(x,L0)/\nxF ps 90 R=(y,R0)/\o = .rt (.str (tkS x (cmN x.cps.toList y.cps.toList))) (two h W V (psh (dpS x (cmN x.cps.toList y.cps.toList)) L0) (psh (dpS y (cmN x.cps.toList y.cps.toList)) R0)))
theorem zdS {p W V:Nat} {ps:List Pc} (g:Good ps) (hW:p+8<W) (hV:p+8<V) (ne:W≠V):∀ (fuel:Nat) (L R:List Un) (h:AH) (o3 o4 o5:Option AV),ShelfAt h p ps->(∀ u∈L,OkI ps u)->(∀ u∈R,OkI ps u)->L≠[]->R≠[]->hU ps L+hU ps R<fuel->L.length+hU ps L<=800000->R.length+hU ps R<=800000 ->
  h[W]? = some (.lst (L.reverse.map uv))->h[V]? = some (.lst (R.reverse.map uv))->ciR ps p W V fuel L R h (yaG CI ybj fuel [some (.ref p),some (.ref W),some (.ref V),o3,o4,o5] h)
 | 0,L,R,h,o3,o4,o5,S,okL,okR,nL,nR,hf,lL,lR,eW,eV=>absurd hf (Nat.not_lt_zero _)
 | fu+1,[],R,h,o3,o4,o5,S,okL,okR,nL,nR,hf,lL,lR,eW,eV=>absurd rfl nL
 | fu+1,u::l,[],h,o3,o4,o5,S,okL,okR,nL,nR,hf,lL,lR,eW,eV=>absurd rfl nR
 | fu+1,u::l,v::r,h,o3,o4,o5,S,okL,okR,nL,nR,hf,lL,lR,eW,eV=>by
  have i1:=zcL eW
  have i2:=zcL eV
  obtain ⟨q,ne1,ne2⟩:=ygJ u v h
  have ou:=okL u (List.mem_cons_self ..)
  have ov:=okR v (List.mem_cons_self ..)
  have ll:(u::l).length=l.length+1:=rfl
  have lr:(v::r).length=r.length+1:=rfl
  have cn:CI [some (.ref p),some (.ref W),some (.ref V),o3,o4,o5] h = .ok q h:=by
   generalize uv u=UU at *;generalize uv v=VV at *;simp [CI,i1,i2,ne1,-fIx,-fNe]
  cases q with
  | false =>
   have huv:u=v:=ne2.mp rfl
   subst huv;rw [yeb cn];exact .inl ⟨u,l,r,o3,o4,o5,zcJ fu,.refl _,.refl _,by rw [yh1 eW eV]⟩
  | true =>
   have huv : ¬ u=v:=fun z=>by have:=ne2.mpr z;cases this
   have pk:=zjD (o3:=o3) (o4:=o4) (o5:=o5) S eW eV ou ov
   have cw:=zcK (l:=l) (r:=r) (ps:=ps) fu huv
   obtain ⟨b,eb0⟩:∃ b,b=decide (szU ps u<szU ps v):=⟨_,rfl⟩
   rw [<- eb0] at pk cw;clear eb0;obtain ⟨x,L0,e1⟩:∃ x L0,nxF ps 90 (u::l)=(x,L0):=⟨_,_,rfl⟩
   obtain ⟨y,R0,e2⟩:∃ y R0,nxF ps 90 (v::r)=(y,R0):=⟨_,_,rfl⟩
   have cs:=zit S g hW hV ne okL okR (by lia) (by lia) eW eV e1 e2
   cases b with
   | true =>
    rcases zeS (p:=p) g ov with ⟨k,a,c,rfl,k1,e,hh⟩ | ⟨ofn,of⟩
    ·have cw2:ciF ps (fu+1) (u::l) (.n k::r)=ciF ps fu (u::l) (.n a :: .n c::r):=by rw [cw,zcI e]
     obtain ⟨d3,d4,d5,eb⟩:=zgh S pk (.inl ⟨rfl,rfl⟩) hV eV k1 e (by lia)
     rw [yeC cn eb];have hh' := hh r
     have lr2:(.n a :: .n c::r:List Un).length=r.length+2:=rfl
     have ih:=zdS g hW hV ne fu (u::l) (.n a :: .n c::r) (h.set V (.lst ((.n a :: .n c::r).reverse.map uv))) d3 d4 d5 (zax S hV _) okL (zaE g okR e) nL (fun z=>by cases z) (by lia) lL (by lia)
      (by rw [List.getElem?_set_ne ne.symm];exact eW) (List.getElem?_set_self (yaS eV))
     have o1:Op ps (.n k::r) (.n a :: .n c::r):=.open (.refl _) e
     rcases ih with ⟨u',l',r',f3,f4,f5,q0,q1,q2,q3⟩ | ⟨x',L',y',R',q0,q1,q2,q3⟩
     ·exact .inl ⟨u',l',r',f3,f4,f5,cw2.trans q0,q1,zeR o1 q2,by rw [q3,ygL h ne]⟩
     ·exact .inr ⟨x',L',y',R',cw2.trans q0,q1,(yeE g o1 okR).trans q2,by rw [q3,ygL h ne]⟩
    ·rw [yeR cn (zgi pk (.inl ⟨rfl,rfl⟩) eV (of _ _ (zax S hV _)) (by lia) cs)]
     exact .inr ⟨x,L0,y,R0,by rw [cw,ofn],e1,e2,rfl⟩
   | false =>
    rcases zeS (p:=p) g ou with ⟨k,a,c,rfl,k1,e,hh⟩ | ⟨ofn,of⟩
    ·have cw2:ciF ps (fu+1) (.n k::l) (v::r)=ciF ps fu (.n a :: .n c::l) (v::r):=by rw [cw,zcI e]
     obtain ⟨d3,d4,d5,eb⟩:=zgh S pk (.inr ⟨rfl,rfl⟩) hW eW k1 e (by lia)
     rw [yeC cn eb];have hh' := hh l
     have lr2:(.n a :: .n c::l:List Un).length=l.length+2:=rfl
     have ih:=zdS g hW hV ne fu (.n a :: .n c::l) (v::r) (h.set W (.lst ((.n a :: .n c::l).reverse.map uv))) d3 d4 d5 (zax S hW _) (zaE g okL e) okR (fun z=>by cases z) nR (by lia) (by lia) lR
      (List.getElem?_set_self (yaS eW)) (by rw [List.getElem?_set_ne ne];exact eV)
     have o1:Op ps (.n k::l) (.n a :: .n c::l):=.open (.refl _) e
     rcases ih with ⟨u',l',r',f3,f4,f5,q0,q1,q2,q3⟩ | ⟨x',L',y',R',q0,q1,q2,q3⟩
     ·exact .inl ⟨u',l',r',f3,f4,f5,cw2.trans q0,zeR o1 q1,q2,by rw [q3,ygK]⟩
     ·exact .inr ⟨x',L',y',R',cw2.trans q0,(yeE g o1 okL).trans q1,q2,by rw [q3,ygK]⟩
    ·rw [yeR cn (zgi pk (.inr ⟨rfl,rfl⟩) eW (of _ _ (zax S hW _)) (by lia) cs)]
     exact .inr ⟨x,L0,y,R0,by rw [cw,ofn],e1,e2,rfl⟩
theorem zjE {h:AH} {p W V:Nat} {ps:List Pc} {L R:List Un} (S:ShelfAt h p ps) (g:Good ps) (hW:p+8<W) (hV:p+8<V) (ne:W≠V) (okL:∀ u∈L,OkI ps u) (okR:∀ u∈R,OkI ps u) (nL:L≠[]) (nR:R≠[]) (lL:L.length<=700000) (lR:R.length<=700000) (eW:h[W]? = some (.lst (L.reverse.map uv))) (eV:h[V]? = some (.lst (R.reverse.map uv))) :
  (∃ u l r,ciF ps yaH L R=some (u,l,r)/\Op ps L (u::l)/\Op ps R (u::r)/\ybv [.ref p,.ref W,.ref V] h = .ok (uv u) (two h W V l r)) \/
  (∃ x L0 y R0,ciF ps yaH L R=none/\nxF ps 90 L=(x,L0)/\nxF ps 90 R=(y,R0)/\ybv [.ref p,.ref W,.ref V] h = .ok (.str (tkS x (cmN x.cps.toList y.cps.toList))) (two h W V (psh (dpS x (cmN x.cps.toList y.cps.toList)) L0) (psh (dpS y (cmN x.cps.toList y.cps.toList)) R0))):=by
 have a1:=ybD g (okis okL)
 have a2:=ybD g (okis okR)
 rcases zdS g hW hV ne yaH L R h none none none S okL okR nL nR (Nat.lt_of_le_of_lt (m:=166) (by lia) (by decide)) (by lia) (by lia) eW eV with ⟨u,l,r,e3,e4,e5,q0,q1,q2,q3⟩ | ⟨x,L0,y,R0,q0,q1,q2,q3⟩
 ·refine .inl ⟨u,l,r,q0,q1,q2,?_⟩
  have hWl:=yaS eW
  have hVl:=yaS eV
  have g1:(two h W V (u::l) (u::r))[V]? = some (.lst (r.reverse.map uv++[uv u])):=by
   unfold two
   rw [List.getElem?_set_self (by rw [List.length_set];exact hVl),ycV]
  have p1:=popU g1
  have h1:(two h W V (u::l) (u::r)).set V (.lst (r.reverse.map uv))=two h W V (u::l) r:=by
   unfold two
   rw [List.set_set]
  rw [h1] at p1;have g2:(two h W V (u::l) r)[W]? = some (.lst (l.reverse.map uv++[uv u])):=by
   unfold two
   rw [List.getElem?_set_ne ne.symm,List.getElem?_set_self hWl,ycV]
  have p2:=popU g2
  have h2:(two h W V (u::l) r).set W (.lst (l.reverse.map uv))=two h W V l r:=by
   unfold two
   rw [List.set_comm _ _ ne.symm,List.set_set]
  rw [h2] at p2;have is1:yaB (.ref V) (two h W V (u::l) (u::r))=true:=by simp [g1]
  have is2:yaB (.ref W) (two h W V (u::l) r)=true:=by simp [g2]
  unfold ybv
  generalize yaG CI ybj yaH=WL at *;generalize two h W V (u::l) (u::r)=H1 at *;generalize two h W V (u::l) r=H2 at *;generalize two h W V l r=H3 at *;generalize uv u=UU at *;simp [q3,is1,is2,p1,p2,-yaB,-mPop]
 ·refine .inr ⟨x,L0,y,R0,q0,q1,q2,?_⟩
  unfold ybv
  generalize yaG CI ybj yaH=WL at *;generalize two h W V (psh (dpS x (cmN x.cps.toList y.cps.toList)) L0) (psh (dpS y (cmN x.cps.toList y.cps.toList)) R0)=H1 at *;generalize tkS x (cmN x.cps.toList y.cps.toList)=XX at *;simp [q3]
end Sk
namespace Sk
open PySem PySem.Spec L2 Sm
theorem yi1 {ps:List Pc} (g:Good ps) {s L:List Un} (o:Op ps s L) (ok:∀ u∈s,OkI ps u):rdS ps s=rdS ps L:=by
 induction o with
 | refl=>rfl
 | @«open» st j a b h e ih =>
  rw [ih]
  cases ydG g h ok _ (List.mem_cons_self ..) with
  | n T =>
   obtain ⟨ma,mb,y,z,fa,la,fb,lb,_,A,B,x1,_⟩:=zbj g T e
   rw [rdS,rdS,rdS,ycR T,ycR A,ycR B,x1,zan,List.append_assoc]
theorem yi2 {ps:List Pc} (g:Good ps) {H:Nat} {s L:List Un} (o:Op ps s L) (ok:∀ u∈s,OkI ps u) (b:Bd ps H s):Bd ps H L:=by
 induction o with
 | refl=>exact b
 | @«open» st j a b h e ih =>
  cases ydG g h ok _ (List.mem_cons_self ..) with
  | n T =>
   obtain ⟨ma,mb,y,z,fa,la,fb,lb,_,A,B,_,x2⟩:=zbj g T e
   exact zdN T A B x2 ih
theorem Cs.bd {ps:List Pc} (g:Good ps) {one items L:List Un} (c:Cs ps one items L) (ok1:∀ u∈one,OkU ps u) (b:Bd ps 83 one):L.length<=84:=by
 obtain ⟨s,e,ok,o⟩:=c.ex
 exact (yi2 g o ok (ygE g items ok1 e b)).len
structure Fs (ps:List Pc) (one items L:List Un):Prop where
 ex:∃ s,lbF ps items one=some s/\(∀ u∈s,OkI ps u)/\(L=[] ↔ s=[])/\nxF ps 90 L=nxF ps 90 s
 ok:∀ u∈L,OkI ps u
 ln:L.length<=700000
theorem Cs.fs {ps:List Pc} (g:Good ps) {one items L:List Un} (c:Cs ps one items L) (ln:L.length<=84):Fs ps one items L:=by
 have ok:=c.oki g
 obtain ⟨s,e,oks,o⟩:=c.ex
 exact ⟨⟨s,e,oks,(yf0 o).symm,(yeE g o oks).symm⟩,ok,by lia⟩
theorem yf3 {ps:List Pc} {z:Str} {st:List Un} (q : ¬ z = ""):nxF ps 90 (psh z st)=(z,st):=by
 unfold psh
 rw [if_neg q,nx_s]
theorem Cs.stop {ps:List Pc} (g:Good ps) {one items L L0:List Un} {x:Str} (c:Cs ps one items L) (ln:L.length<=84) (nL:L≠[]) (e:nxF ps 90 L=(x,L0)):Fs ps one items (psh (dpS x 0) L0)/\sg1 ps (psh (dpS x 0) L0)=tkS x 1/\1<=x.length:=by
 have okL:=c.oki g
 have h82:=ybD g (okis okL)
 have N:=ydC g 90 L (okis okL) (by lia)
 have N2:=yeF g 90 L okL (by lia)
 rw [e] at N N2;have z1:=N.z1 nL
 have nl:=N.ln
 dsimp only at z1 nl
 obtain ⟨l1,l8,pl⟩:=zao (show ya7 x=true from N2.2 nL)
 have xn : ¬ x = "" := fun q=>by rw [zaQ] at q;lia
 rw [dp_0];have nx:=yf3 (ps:=ps) (st:=L0) xn
 obtain ⟨s,e1,oks,o⟩:=c.ex
 have pl2:=zgc x L0
 refine ⟨⟨⟨s,e1,oks,⟨fun q=>?_,fun q=>?_⟩,?_⟩,zdP pl l8 N2.1,by lia⟩,?_,l1⟩
 ·unfold psh at q
  rw [if_neg xn] at q
  cases q
 ·exact absurd ((yf0 o).mp q) nL
 ·rw [nx,yeE g o oks,e]
 ·unfold sg1
  rw [nx]
theorem yh2 {h:AH} {p W V:Nat} {ps:List Pc} {one other items L R:List Un} (S:ShelfAt h p ps) (g:Good ps) (hW:p+8<W) (hV:p+8<V) (ne:W≠V) (cL:Cs ps one items L) (cR:Cs ps other items R) (nL:L≠[]) (nR:R≠[]) (lL:L.length<=84) (lR:R.length<=84) (eW:h[W]? = some (.lst (L.reverse.map uv))) (eV:h[V]? = some (.lst (R.reverse.map uv))) :
  (∃ i L1 R1,ybv [.ref p,.ref W,.ref V] h = .ok (uv i) (two h W V L1 R1)/\OkI ps i/\Cs ps one (items++[i]) L1/\Cs ps other (items++[i]) R1/\(rdS ps L1).length<(rdS ps L).length/\citF ps L R=(i,L1,R1)) \/
  (∃ L1 R1,ybv [.ref p,.ref W,.ref V] h = .ok (.str "") (two h W V L1 R1)/\Fs ps one items L1/\Fs ps other items R1 /\ ¬ sg1 ps L1=sg1 ps R1/\citF ps L R=(.s "",L1,R1)):=by
 have okL:=cL.oki g
 have okR:=cR.oki g
 rcases zjE S g hW hV ne okL okR nL nR (by lia) (by lia) eW eV with ⟨u,l,r,cf,o1,o2,f⟩ | ⟨x,L0,y,R0,cf,e1,e2,f⟩
 ·have c1:=cL.opn o1
  have c2:=cR.opn o2
  have ou:=ydG g o1 okL u (List.mem_cons_self ..)
  have rd:=yi1 g o1 okL
  have pos:=ou.u.pos
  have lt:(rdS ps l).length<(rdS ps L).length:=by
   rw [rd,rdS,List.length_append];lia
  cases u with
  | n k=>exact .inl ⟨.n k,l,r,f,ou,c1.num g,c2.num g,lt,zdk cf⟩
  | s z =>
   cases ou with
   | s a =>
    obtain ⟨a1,a8,apl⟩:=zao a
    have t:=c1.txt g (nx_s ps 90 z l) a1 (Nat.le_refl _)
    have t2:=c2.txt g (nx_s ps 90 z r) a1 (Nat.le_refl _)
    have et:tkS z z.length=z:=zae (by rw [ybw,zac,List.take_length])
    have ed:dpS z z.length = "" := zae (by rw [ybF,zac,List.drop_length];rfl)
    have ep:∀ st,psh "" st=st:=fun st=>by unfold psh;rw [if_pos rfl]
    rw [et,ed,ep] at t t2;exact .inl ⟨.s z,l,r,f,.s a,t.2,t2.2,lt,zdk cf⟩
 ·have ct:=zeQ cf e1 e2
  obtain ⟨n,en⟩:∃ n,n=cmN x.cps.toList y.cps.toList:=⟨_,rfl⟩
  rw [<- en] at ct;have nl:=yec x.cps.toList y.cps.toList
  rw [<- zac,<- zac,<- en] at nl;have tt:tkS x n=tkS y n:=zae (by rw [ybw,ybw,en,zgf])
  by_cases q:n=0
  ·obtain ⟨s1,s2,s3⟩:=cL.stop g lL nL e1
   obtain ⟨t1,t2,t3⟩:=cR.stop g lR nR e2
   have dn:=zjA x.cps.toList y.cps.toList
   rw [<- en] at f dn;rw [q] at f dn;rw [tk_0] at f;refine .inr ⟨_,_,f,s1,t1,fun z=>?_,by rw [ct,q,tk_0]⟩
   rw [s2,t2] at z;have z' := congrArg (fun w:Str=>w.cps.toList) z
   rw [ybw,ybw] at z';have:=(dn (by rw [List.drop_zero,List.drop_zero];exact z')).1
   rw [<- zac] at this;lia
  ·rw [<- en] at f
   have t:=cL.txt g e1 (show 1<=n by lia) nl.1
   have t2:=cR.txt g e2 (show 1<=n by lia) nl.2
   rw [<- tt] at t2;refine .inl ⟨.s (tkS x n),_,_,f,t.1,t.2,t2.2,?_,ct⟩
   have N:=ydC g 90 L (okis okL) (by have:=ybD g (okis okL);lia)
   have rd:=N.rd
   rw [e1] at rd;dsimp only at rd
   rw [rd,ye5,List.length_append,List.length_append,ybF,List.length_drop,<- zac];lia
theorem yi3 {c:SB} {b:SS} {n:Nat} {en e2:En} {h h2:AH} (e:c en h = .ok true h) (eb:b en h = .bk e2 h2):yaG c b (n+1) en h = .nx e2 h2:=by
 simp only [yaG,e,eb]
abbrev CW:SB:=sAnd (yam (sOp2 fNe (sVar 1) (sLst sNil))) (yam (sOp2 fNe (sVar 2) (sLst sNil)))
structure S3 (n0:Nat) (h0 h:AH) (p W V B:Nat) (ps:List Pc) (L R items:List Un):Prop where
 sh:ShelfAt h p ps
 eW:h[W]? = some (.lst (L.reverse.map uv))
 eV:h[V]? = some (.lst (R.reverse.map uv))
 eB:h[B]? = some (.lst (items.map uv))
 fr:∀ i,i<n0->h[i]? = h0[i]?
 nl:n0<=h.length
theorem S3.put {n0 p W V B:Nat} {h0 h:AH} {ps:List Pc} {L R items L1 R1:List Un} (s:S3 n0 h0 h p W V B ps L R items) (hW:p+8<W) (hV:p+8<V) (n1:W≠V) (n2:W≠B) (n3:V≠B) (wn:n0<=W) (vn:n0<=V):S3 n0 h0 (two h W V L1 R1) p W V B ps L1 R1 items:=by
 unfold two
 refine ⟨zax (zax s.sh hW _) hV _,?_,?_,?_,fun i hi=>?_,by rw [List.length_set,List.length_set];exact s.nl⟩
 ·rw [List.getElem?_set_ne n1.symm,List.getElem?_set_self (yaS s.eW)]
 ·exact List.getElem?_set_self (by rw [List.length_set];exact yaS s.eV)
 ·rw [List.getElem?_set_ne n3,List.getElem?_set_ne n2];exact s.eB
 ·rw [List.getElem?_set_ne (by lia),List.getElem?_set_ne (by lia)];exact s.fr i hi
theorem S3.add {n0 p W V B:Nat} {h0 h:AH} {ps:List Pc} {L R items:List Un} {i:Un} (s:S3 n0 h0 h p W V B ps L R items) (hB:p+8<B) (n2:W≠B) (n3:V≠B) (bn:n0<=B):S3 n0 h0 (h.set B (.lst ((items++[i]).map uv))) p W V B ps L R (items++[i]) :=
 ⟨zax s.sh hB _,by rw [List.getElem?_set_ne n2.symm];exact s.eW,by rw [List.getElem?_set_ne n3.symm];exact s.eV,List.getElem?_set_self (yaS s.eB),fun i hi=>by rw [List.getElem?_set_ne (by lia)];exact s.fr i hi,by rw [List.length_set];exact s.nl⟩
theorem ne_e {ps:List Pc} {i:Un} (o:OkI ps i) (h:AH):fEq (uv i) (.str "") h = .ok (.bl false) h:=by
 cases o with
 | @n k m f l x T=>simp [toD,PyData.eqv]
 | @s z a =>
  have : ¬ z = "" := fun q=>by
   have:=(zao a).1
   rw [zaQ] at q;lia
  simp [toD,PyData.eqv,this]
theorem zgj {p W V B n0:Nat} {ps:List Pc} {h0:AH} {one other:List Un} (g:Good ps) (hW:p+8<W) (hV:p+8<V) (hB:p+8<B) (n1:W≠V) (n2:W≠B) (n3:V≠B) (wn:n0<=W) (vn:n0<=V) (bn:n0<=B) (ok1:∀ u∈one,OkU ps u) (ok2:∀ u∈other,OkU ps u) (b1:Bd ps 83 one) (b2:Bd ps 83 other):∀ (fuel:Nat) (items L R:List Un) (h:AH) (o4:Option AV),S3 n0 h0 h p W V B ps L R items->Cs ps one items L->Cs ps other items R->(∀ i∈items,OkI ps i)->(rdS ps L).length<fuel->items.length+(rdS ps L).length<=500000 ->
  ∃ items' L' R' h' o4',yaG CW ya1 fuel [some (.ref p),some (.ref W),some (.ref V),some (.ref B),o4] h = .nx [some (.ref p),some (.ref W),some (.ref V),some (.ref B),o4'] h'/\S3 n0 h0 h' p W V B ps L' R' items'/\Fs ps one items' L'/\Fs ps other items' R'/\(∀ i∈items',OkI ps i)/\(L'=[]\/R'=[] \/ ¬ sg1 ps L'=sg1 ps R')/\csF ps fuel items L R=(items',L',R')
 | 0,items,L,R,h,o4,s,cL,cR,oi,hf,ln=>absurd hf (Nat.not_lt_zero _)
 | fu+1,items,[],R,h,o4,s,cL,cR,oi,hf,ln=>by
  have e1:=ye2 s.eW
  rw [yeb (by simp [CW,e1,-fNe])]
  exact ⟨items,[],R,h,o4,rfl,s,cL.fs g (cL.bd g ok1 b1),cR.fs g (cR.bd g ok2 b2),oi,.inl rfl,rfl⟩
 | fu+1,items,u::l,[],h,o4,s,cL,cR,oi,hf,ln=>by
  have e1:=yeD s.eW
  have e2:=ye2 s.eV
  rw [yeb (by simp [CW,e1,e2,-fNe])]
  exact ⟨items,u::l,[],h,o4,rfl,s,cL.fs g (cL.bd g ok1 b1),cR.fs g (cR.bd g ok2 b2),oi,.inr (.inl rfl),rfl⟩
 | fu+1,items,u::l,v::r,h,o4,s,cL,cR,oi,hf,ln=>by
  have e1:=yeD s.eW
  have e2:=yeD s.eV
  have cn:CW [some (.ref p),some (.ref W),some (.ref V),some (.ref B),o4] h = .ok true h:=by simp [CW,e1,e2,-fNe]
  rcases yh2 s.sh g hW hV n1 cL cR (fun z=>by cases z) (fun z=>by cases z) (cL.bd g ok1 b1) (cR.bd g ok2 b2) s.eW s.eV with ⟨i,L1,R1,f,o,c1,c2,lt,ct⟩ | ⟨L1,R1,f,c1,c2,df,ct⟩
  ·have s1:=s.put (L1:=L1) (R1:=R1) hW hV n1 n2 n3 wn vn
   obtain ⟨h1,eh1⟩:∃ h1,h1=two h W V L1 R1:=⟨_,rfl⟩
   rw [<- eh1] at f s1;have eq:=ne_e o h1
   have is1:yaB (.ref B) h1=true:=by simp [s1.eB]
   have l1:(items.map uv).length<sizeLine:=Nat.lt_of_le_of_lt (m:=500000) (by rw [List.length_map];lia) (by decide)
   have ap:yax (.ref B) [uv i] h1 = .ok .non (h1.set B (.lst ((items++[i]).map uv))):=by
    simp only [yax,s1.eB,l1,if_true,List.map_append]
    rfl
   have s2:=s1.add (i:=i) hB n2 n3 bn
   obtain ⟨h2,eh2⟩:∃ h2,h2=h1.set B (.lst ((items++[i]).map uv)):=⟨_,rfl⟩
   rw [<- eh2] at ap s2;have eb:ya1 [some (.ref p),some (.ref W),some (.ref V),some (.ref B),o4] h = .nx [some (.ref p),some (.ref W),some (.ref V),some (.ref B),some (uv i)] h2:=by
    generalize uv i=UI at *;simp [ya1,f,eq,is1,ap,-fEq,-yaB,-yax]
   rw [yeC cn eb];have li:(items++[i]).length=items.length+1:=by simp
   rw [yfo fu ct (yh0 o)];exact zgj g hW hV hB n1 n2 n3 wn vn bn ok1 ok2 b1 b2 fu (items++[i]) L1 R1 h2 (some (uv i)) s2 c1 c2 (fun j hj=>(List.mem_append.mp hj).elim (oi j) (fun q=>by rw [List.mem_singleton] at q;subst q;exact o)) (by lia) (by lia)
  ·have s1:=s.put (L1:=L1) (R1:=R1) hW hV n1 n2 n3 wn vn
   obtain ⟨h1,eh1⟩:∃ h1,h1=two h W V L1 R1:=⟨_,rfl⟩
   rw [<- eh1] at f s1;have eq:fEq (.str "") (.str "") h1 = .ok (.bl true) h1:=by simp
   have eb:ya1 [some (.ref p),some (.ref W),some (.ref V),some (.ref B),o4] h = .bk [some (.ref p),some (.ref W),some (.ref V),some (.ref B),some (.str "")] h1:=by
    simp [ya1,f,eq,-fEq]
   rw [yi3 cn eb];exact ⟨items,L1,R1,h1,_,rfl,s1,c1,c2,oi,.inr (.inr df),yfa fu ct⟩
end Sk
namespace Sk
open PySem PySem.Spec L2 Sm
def zs (a:Nat):List Un:=if a=0 then [] else [.n a]
theorem zs_0:zs 0=[]:=rfl
theorem yeS {ps:List Pc} {a:Nat} {m f l:Ms} {x:Str} (T:Tx ps a m x f l):zs a=[.n a]:=by
 have:=T.n1
 unfold zs
 rw [if_neg (by lia)]
theorem ycf {ps:List Pc} {a:Nat} {x:Str} (T:TxZ ps a x):(∀ u∈zs a,OkI ps u)/\rdS ps (zs a)=x.cps.toList:=by
 rcases T with ⟨rfl,rfl⟩ | ⟨m,f,l,T⟩
 ·exact ⟨fun u hu=>(by cases hu),rfl⟩
 ·rw [yeS T]
  exact ⟨fun u hu=>(by rw [List.mem_singleton] at hu;subst hu;exact .n T),by show rdU ps (.n a)++[]=_;rw [List.append_nil,ycR T]⟩
theorem ygM {ps:List Pc} (g:Good ps) {a:Nat} {x:Str} (T:TxZ ps a x):Bd ps 83 (zs a):=by
 rcases T with ⟨rfl,rfl⟩ | ⟨m,f,l,T⟩
 ·trivial
 ·rw [yeS T];exact bd0 g T
def LfV (p n0:Nat) (h:AH) (v:AV) (s:List Un):Prop:=(∃ W,v = .ref W/\n0<=W/\p+8<W/\h[W]? = some (.lst (s.reverse.map uv)))\/(v = .fl []/\s=[])
theorem LfV.isn {p n0:Nat} {h:AH} {v:AV} {s:List Un} (l:LfV p n0 h v s):fIsN v .non h = .ok (.bl false) h:=by
 rcases l with ⟨W,rfl,_⟩ | ⟨rfl,_⟩
 ·exact zjx W h
 ·simp
theorem LfV.eq {p n0:Nat} {h:AH} {v:AV} {s:List Un} (l:LfV p n0 h v s):fEq v (.fl []) h = .ok (.bl (decide (s=[]))) h:=by
 rcases l with ⟨W,rfl,_,_,e⟩ | ⟨rfl,rfl⟩
 ·exact ygD e
 ·simp [toD,toDs,PyData.eqv,PyData.eqvAll]
theorem LfV.ne {p n0:Nat} {h:AH} {v:AV} {s:List Un} (l:LfV p n0 h v s):fNe v (.fl []) h = .ok (.bl (!decide (s=[]))) h:=by
 have e:=l.eq
 have q:fEq v (.fl []) h=(match eqA v (.fl []) h with | some b=>.ok (.bl b) h | none=>.bad):=rfl
 rw [q] at e;show (match eqA v (.fl []) h with | some b=>Out.ok (AV.bl (!b)) h | none=>.bad)=_
 cases hh:eqA v (.fl []) h with
 | none=>rw [hh] at e;cases e
 | some b=>rw [hh] at e;cases e;rfl
theorem LfV.fr {p n0:Nat} {h h2:AH} {v:AV} {s:List Un} (l:LfV p n0 h v s) (k:∀ W,v = .ref W->h2[W]? = h[W]?):LfV p n0 h2 v s:=by
 rcases l with ⟨W,rfl,a,b,e⟩ | ⟨rfl,rfl⟩
 ·exact .inl ⟨W,rfl,a,b,(k W rfl).trans e⟩
 ·exact .inr ⟨rfl,rfl⟩
theorem yh3 {h:AH} {p:Nat}:ybr [.ref p,.fl []] h = .ok (.str "") h:=by
 have nn:fNe (.fl []) (.fl []) h = .ok (.bl false) h:=by simp [toD,toDs,PyData.eqv,PyData.eqvAll]
 have wl:∀ n,yaG CN yaO (n+1) [some (.ref p),some (.fl []),none] h = .nx [some (.ref p),some (.fl []),none] h:=fun n=>yeb (by simp [nn,-fNe])
 have wl':yaG CN yaO yaH [some (.ref p),some (.fl []),none] h = .nx [some (.ref p),some (.fl []),none] h:=wl _
 unfold ybr
 generalize yaG CN yaO yaH=WL at *;simp [wl']
theorem LfV.nsg {p n0:Nat} {ps:List Pc} {h:AH} {v:AV} {s:List Un} (l:LfV p n0 h v s) (S:ShelfAt h p ps) (g:Good ps) (ok:∀ u∈s,OkU ps u) (ls:s.length<=900000):∃ h',yca [.ref p,v] h = .ok (.str (sg1 ps s)) h'/\ShelfAt h' p ps/\(∀ i,v ≠ .ref i->h'[i]? = h[i]?)/\(∀ i,i<n0->h'[i]? = h[i]?)/\h'.length=h.length:=by
 rcases l with ⟨W,rfl,a,b,e⟩ | ⟨rfl,rfl⟩
 ·exact ⟨_,zjw S g b ok ls e,zax S b _,fun i hi=>List.getElem?_set_ne (fun q=>hi (by rw [q])),fun i hi=>List.getElem?_set_ne (by lia),List.length_set⟩
 ·refine ⟨h,?_,S,fun _ _=>rfl,fun _ _=>rfl,rfl⟩
  have e:sg1 ps [] = "" := rfl
  rw [e];have nn:=yh3 (h:=h) (p:=p)
  have c:ya0 (.str "") none (some 1) h = .ok (.str "") h:=rfl
  simp [yca,nn,c,-ya0]
theorem yh4 {ps:List Pc} {i:Un} (o:OkI ps i):itF ps i []=none:=by
 cases o with
 | n T=>rfl
 | @s z a =>
  show tkF ps 10 z []=none
  have : ¬ z = "" := fun q=>by
   have:=(zao a).1
   rw [zaQ] at q;lia
  rw [tkF,if_neg this,if_pos (.inl (by show min 0 z.length=0;lia))]
theorem zdT {h h':AH} (k:∀ i,i<h.length->h'[i]? = h[i]?) (l:h.length<=h'.length):∃ r,h'=h++r:=by
 refine ⟨h'.drop h.length,List.ext_getElem? fun i=>?_⟩
 by_cases q:i<h.length
 ·rw [k i q,List.getElem?_append_left q]
 ·rw [List.getElem?_append_right (by lia),List.getElem?_drop]
  congr 1
  lia
theorem LfV.app {p n0:Nat} {h:AH} {v:AV} {s:List Un} (l:LfV p n0 h v s) (r:AH):LfV p n0 (h++r) v s:=by
 rcases l with ⟨W,rfl,a,b,e⟩ | ⟨rfl,rfl⟩
 ·exact .inl ⟨W,rfl,a,b,by rw [List.getElem?_append_left (yaS e)];exact e⟩
 ·exact .inr ⟨rfl,rfl⟩
theorem LfV.below {p n0:Nat} {h:AH} {v:AV} {s:List Un} (l:LfV p n0 h v s) {n1 i:Nat} (q:v = .ref i) (hn:h.length<=n1):i<n1:=by
 rcases l with ⟨W,rfl,a,b,e⟩ | ⟨rfl,rfl⟩
 ·cases q
  exact Nat.lt_of_lt_of_le (yaS e) hn
 ·cases q
theorem LfV.above {p n0:Nat} {h:AH} {v:AV} {s:List Un} (l:LfV p n0 h v s) {i:Nat} (hi:i<n0):v ≠ .ref i:=by
 rcases l with ⟨W,rfl,a,b,e⟩ | ⟨rfl,rfl⟩
 ·intro q;cases q;lia
 ·intro q;cases q
theorem yh5 {h:AH} {p:Nat} {ps:List Pc} (S:ShelfAt h p ps):ybW [.ref p,.int 0] h = .ok (.fl []) h:=by
 have ck:yaP [.ref p,.int 0] h = .ok .non h:=zbc S (Nat.zero_le _)
 have t0:fEq (.int 0) (.int 0) h = .ok (.bl true) h:=by simp
 simp [ybW,S.ob,ck,t0,-fEq]
def apZ (ps:List Pc) (its:List Un) (a b:Nat) (c d:Str):Prop:=∃ s1 s2,lbF ps its (zs a)=some s1/\lbF ps its (zs b)=some s2/\c=sg1 ps s1/\d=sg1 ps s2 /\ ¬ c=d
end Sk
namespace Sk
open PySem PySem.Spec L2 Sm
theorem zeT {h:AH} {p a:Nat} {ps:List Pc} {x:Str} (S:ShelfAt h p ps) (A:TxZ ps a x):∃ r v,ybW [.ref p,.int a] h = .ok v (h++r)/\LfV p h.length (h++r) v (zs a):=by
 rcases A with ⟨rfl,rfl⟩ | ⟨m,f,l,T⟩
 ·exact ⟨[],.fl [],by rw [List.append_nil];exact yh5 S,.inr ⟨rfl,rfl⟩⟩
 ·have hW:p+8<h.length:=yaS S.h8
  have t1:=T.n1
  have t0:fEq (.int a) (.int 0) h = .ok (.bl false) h:=by
   have:=eq_n a 0 h
   rw [decide_eq_false (by lia)] at this
   exact this
  have ck:yaP [.ref p,.int a] h = .ok .non h:=zbc S (by have:=T.le;lia)
  refine ⟨[.lst [.int a]],.ref h.length,by simp [ybW,S.ob,ck,t0,-fEq],?_⟩
  rw [yeS T];exact .inl ⟨h.length,rfl,Nat.le_refl _,hW,by simp⟩
theorem yf4 {ps:List Pc} (g:Good ps) {R:List Un} (ok:∀ u∈R,OkI ps u) (ne:R≠[]) : ¬ sg1 ps R = "" := fun q=>by
 have e:=ye8 g (okis ok)
 rw [q] at e
 cases R with
 | nil=>exact ne rfl
 | cons u r =>
  have:=(okis ok u (List.mem_cons_self ..)).pos
  have l:=congrArg List.length e
  rw [List.length_take,rdS,List.length_append] at l;have z:("" : Str).cps.toList.length=0:=rfl
  lia
structure Ci (ps:List Pc) (p n0 n1:Nat) (H h':AH) (v1 v2:AV) (one other items L R:List Un):Prop where
 sh:ShelfAt h' p ps
 eB:h'[H.length]? = some (.lst (items.map uv))
 l1:LfV p n0 h' v1 L
 l2:LfV p n1 h' v2 R
 f1:Fs ps one items L
 f2:Fs ps other items R
 oi:∀ i∈items,OkI ps i
 en:L=[]\/R=[] \/ ¬ sg1 ps L=sg1 ps R
 fr:∀ i,i<n0->h'[i]? = H[i]?
 nl:H.length<=h'.length
 cs:csF ps yaH [] one other=(items,L,R)
theorem ziv {H:AH} {p a b n0 n1:Nat} {ps:List Pc} {x y:Str} {v1 v2:AV} (S:ShelfAt H p ps) (g:Good ps) (A:TxZ ps a x) (B:TxZ ps b y) (lx:x.length<=10000) (l1:LfV p n0 H v1 (zs a)) (l2:LfV p n1 H v2 (zs b)) (n01:n0<=n1) (nH:n1<=H.length) (df:∀ i,v1 = .ref i->i<n1) :
  ∃ items L R h',ycZ [.ref p,v1,v2] H = .ok (.ref H.length) h'/\Ci ps p n0 n1 H h' v1 v2 (zs a) (zs b) items L R:=by
 have oa:=(ycf A).1
 have ob:=(ycf B).1
 have hW:p+8<H.length:=yaS S.h8
 have S1:=S.app [.lst []]
 have l1' := l1.app [.lst []]
 have l2' := l2.app [.lst []]
 have eB:(H++[AO.lst []])[H.length]? = some (.lst (([]:List Un).map uv)):=by simp
 have cA:Cs ps (zs a) [] (zs a):=⟨zs a,rfl,oa,.refl _⟩
 have cB:Cs ps (zs b) [] (zs b):=⟨zs b,rfl,ob,.refl _⟩
 have ba:=ygM g A
 have bb:=ygM g B
 have key:∃ items L R h' o4,yaG CW ya1 yaH [some (.ref p),some v1,some v2,some (.ref H.length),none] (H++[.lst []]) = .nx [some (.ref p),some v1,some v2,some (.ref H.length),o4] h'/\Ci ps p n0 n1 H h' v1 v2 (zs a) (zs b) items L R:=by
  have out:(zs a=[]\/zs b=[])->∃ items L R h' o4,yaG CW ya1 yaH [some (.ref p),some v1,some v2,some (.ref H.length),none] (H++[.lst []]) = .nx [some (.ref p),some v1,some v2,some (.ref H.length),o4] h'/\Ci ps p n0 n1 H h' v1 v2 (zs a) (zs b) items L R:=fun q=>by
   have cn:CW [some (.ref p),some v1,some v2,some (.ref H.length),none] (H++[.lst []]) = .ok false (H++[.lst []]):=by
    have e1:=l1'.ne
    have e2:=l2'.ne
    by_cases z:zs a=[]
    ·rw [decide_eq_true z] at e1
     simp [CW,e1,-fNe]
    ·rw [decide_eq_false z] at e1
     rw [decide_eq_true (q.resolve_left z)] at e2;simp [CW,e1,e2,-fNe]
   have wl:∀ n,yaG CW ya1 (n+1) [some (.ref p),some v1,some v2,some (.ref H.length),none] (H++[.lst []]) = .nx [some (.ref p),some v1,some v2,some (.ref H.length),none] (H++[.lst []]):=fun n=>yeb cn
   refine ⟨[],zs a,zs b,_,none,wl _,S1,eB,l1',l2',cA.fs g (cA.bd g (okis oa) ba),cB.fs g (cB.bd g (okis ob) bb),fun i hi=>(by cases hi),?_,fun i hi=>List.getElem?_append_left (by lia),by rw [List.length_append];lia,yf1 q⟩
   exact q.elim .inl fun z=>.inr (.inl z)
  rcases id l1' with ⟨W,rfl,w1,w2,eW⟩ | ⟨_,z⟩
  ·rcases id l2' with ⟨V,rfl,u1,u2,eV⟩ | ⟨_,z⟩
   ·have wlt:=df W rfl
    have vlt:V<H.length:=by
     rcases l2 with ⟨V',q,_,_,e⟩ | ⟨q,_⟩
     ·cases q;exact yaS e
     ·cases q
    obtain ⟨items,L,R,h',o4,lp,s3,f1,f2,oi,en,cse⟩:=zgj (n0:=n0) (h0:=H) (one:=zs a) (other:=zs b) g w2 u2 hW (by lia) (by lia) (by lia) w1 (by lia) (by lia) (okis oa) (okis ob) ba bb yaH [] (zs a) (zs b) (H++[.lst []]) none
     ⟨S1,eW,eV,eB,fun i hi=>List.getElem?_append_left (by lia),by rw [List.length_append];lia⟩ cA cB (fun i hi=>(by cases hi)) (by rw [(ycf A).2,<- zac];exact Nat.lt_of_le_of_lt lx (by decide)) (by rw [(ycf A).2,<- zac];show 0+_<=_;lia)
    exact ⟨items,L,R,h',o4,lp,s3.sh,s3.eB,.inl ⟨W,rfl,w1,w2,s3.eW⟩,.inl ⟨V,rfl,u1,u2,s3.eV⟩,f1,f2,oi,en,s3.fr,Nat.le_of_lt (yaS s3.eB),cse⟩
   ·exact out (.inr z)
  ·exact out (.inl z)
 obtain ⟨items,L,R,h',o4,lp,ci⟩:=key
 refine ⟨items,L,R,h',?_,ci⟩
 clear ci cA cB l1 l2 l1' l2' df S S1 eB oa ob A B ba bb;unfold ycZ
 generalize yaG CW ya1 yaH=WL at *;simp [lp]
theorem zgk {h:AH} {p a b:Nat} {ps:List Pc} {x y:Str} (S:ShelfAt h p ps) (g:Good ps) (A:TxZ ps a x) (B:TxZ ps b y) (lx:x.length<=10000) (ly:y.length<=10000) :
  ∃ (r:AH) (items L R:List Un) (I:Nat),csF ps yaH [] (zs a) (zs b)=(items,L,R)/\h.length<=I/\(h++r)[I]? = some (.lst (items.map uv))/\(∀ i∈items,OkI ps i) /\
  ((yaz [.ref p,.int a,.int b] h = .ok (.tup [.str "alike",.ref I]) (h++r)/\L=[]/\R=[]/\lbF ps items (zs a)=some []/\lbF ps items (zs b)=some []) \/
  (yaz [.ref p,.int a,.int b] h = .ok (.tup [.str "apart",.ref I,.str (sg1 ps L),.str (sg1 ps R)]) (h++r) /\ ¬ (L=[]/\R=[])/\apZ ps items a b (sg1 ps L) (sg1 ps R))):=by
 obtain ⟨ma,ema,sga⟩:=A.meas
 obtain ⟨mb,emb,sgb⟩:=B.meas
 have ob:=S.ob
 have fa:=zaP S ema
 have fb:=zaP S emb
 obtain ⟨M,hM,mx⟩:∃ M:Int,M<=10000/\yde [.int ma.sg,.int mb.sg] h = .ok (.int M) h:=by
  refine ⟨if (mb.sg:Int) > ma.sg then (mb.sg:Int) else ma.sg,?_,rfl⟩
  split<;>lia
 have gt:fGt (.int M) (.int 10000) h = .ok (.bl false) h:=by
  show Out.ok (AV.bl (decide (M > 10000))) h=_
  rw [decide_eq_false (by lia)]
 obtain ⟨nb,ne⟩:∃ q:Bool,fNe (.int a) (.int b) h = .ok (.bl q) h:=by
  by_cases q:a=b
  ·exact ⟨false,by subst q;simp [toD,PyData.eqv]⟩
  ·exact ⟨true,by simp [toD,PyData.eqv];lia⟩
 obtain ⟨r1,v1,w1,l1⟩:=zeT S A
 have S1:=S.app r1
 obtain ⟨h1,eh1⟩:∃ h1,h1=h++r1:=⟨_,rfl⟩
 rw [<- eh1] at w1 l1 S1;obtain ⟨r2,v2,w2,l2⟩:=zeT S1 B
 have S2:=S1.app r2
 have l1' := l1.app r2
 have hl1:h.length<=h1.length:=by rw [eh1,List.length_append];lia
 obtain ⟨H,eH⟩:∃ H,H=h1++r2:=⟨_,rfl⟩
 rw [<- eH] at w2 l2 S2 l1';have hl2:h1.length<=H.length:=by rw [eH,List.length_append];lia
 obtain ⟨items,L,R,h3,fc,ci⟩:=ziv S2 g A B lx l1' l2 hl1 hl2 (fun i q=>l1.below q (Nat.le_refl _))
 have hk:∀ i,i<h.length->h3[i]? = h[i]? := fun i hi=>by
  rw [ci.fr i hi,eH,List.getElem?_append_left (by lia),eh1,List.getElem?_append_left hi]
 have q1:=ci.l1.eq
 have q2:=ci.l2.eq
 obtain ⟨s1,e1,ok1,z1,x1⟩:=ci.f1.ex
 obtain ⟨s2,e2,ok2,z2,x2⟩:=ci.f2.ex
 by_cases c1:L=[]/\R=[]
 ·rw [decide_eq_true c1.1] at q1
  rw [decide_eq_true c1.2] at q2;obtain ⟨r,hr⟩:=zdT hk (Nat.le_trans hl1 (Nat.le_trans hl2 ci.nl))
  refine ⟨r,items,L,R,H.length,ci.cs,Nat.le_trans hl1 hl2,by rw [<- hr];exact ci.eB,ci.oi,.inl ⟨?_,c1.1,c1.2,by rw [e1,z1.mp c1.1],by rw [e2,z2.mp c1.2]⟩⟩
  rw [<- hr];clear ci S S1 S2 l1 l1' l2 A B hk hr eh1 eH
  cases nb with
  | true=>simp [yaz,ob,fa,fb,mx,ne,gt,w1,w2,fc,q1,q2,-yde,-fNe,-fGt,-fEq]
  | false=>simp [yaz,ob,fa,fb,mx,ne,w1,w2,fc,q1,q2,-yde,-fNe,-fGt,-fEq]
 ·obtain ⟨h4,n1,S4,k4,k4',m4⟩:=ci.l1.nsg ci.sh g (okis ci.f1.ok) (Nat.le_trans ci.f1.ln (by decide))
  have l2':LfV p h1.length h4 v2 R:=ci.l2.fr fun W hw=>k4 W (fun q=>ci.l2.above (l1.below q (Nat.le_refl _)) hw)
  obtain ⟨h5,n2,S5,k5,k5',m5⟩:=l2'.nsg S4 g (okis ci.f2.ok) (Nat.le_trans ci.f2.ln (by decide))
  obtain ⟨r,hr⟩:∃ r,h5=h++r:=zdT (fun i hi=>by rw [k5' i (by lia),k4' i hi,hk i hi]) (by rw [m5,m4];exact Nat.le_trans hl1 (Nat.le_trans hl2 ci.nl))
  have eI:h5[H.length]? = some (.lst (items.map uv)):=by
   have b1:v1 ≠ .ref H.length:=fun q=>absurd (l1.below q (Nat.le_refl _)) (by lia)
   have b2:v2 ≠ .ref H.length:=fun q=>absurd (l2.below q (Nat.le_refl _)) (by lia)
   rw [k5 _ b2,k4 _ b1];exact ci.eB
  have g1:sg1 ps L=sg1 ps s1:=by unfold sg1;rw [x1]
  have g2:sg1 ps R=sg1 ps s2:=by unfold sg1;rw [x2]
  refine ⟨r,items,L,R,H.length,ci.cs,Nat.le_trans hl1 hl2,by rw [<- hr];exact eI,ci.oi,.inr ⟨?_,c1,s1,s2,e1,e2,g1,g2,?_⟩⟩
  ·rw [<- hr]
   clear S S1 S2 S4 S5 l1 l1' l2 l2' A B hk hr eh1 eH k4 k4' k5 k5' g1 g2;generalize sg1 ps L=G1 at *;generalize sg1 ps R=G2 at *;by_cases z:L=[]
   ·rw [decide_eq_true z] at q1
    rw [decide_eq_false (fun w=>c1 ⟨z,w⟩)] at q2;clear ci
    cases nb with
    | true=>simp [yaz,ob,fa,fb,mx,ne,gt,w1,w2,fc,q1,q2,n1,n2,-yde,-fNe,-fGt,-fEq]
    | false=>simp [yaz,ob,fa,fb,mx,ne,w1,w2,fc,q1,q2,n1,n2,-yde,-fNe,-fGt,-fEq]
   ·rw [decide_eq_false z] at q1
    clear ci
    cases nb with
    | true=>simp [yaz,ob,fa,fb,mx,ne,gt,w1,w2,fc,q1,n1,n2,-yde,-fNe,-fGt,-fEq]
    | false=>simp [yaz,ob,fa,fb,mx,ne,w1,w2,fc,q1,n1,n2,-yde,-fNe,-fGt,-fEq]
  ·have n0:sg1 ps [] = "" := rfl
   rcases ci.en with z | z | z
   ·rw [z,n0]
    exact fun w=>yf4 g ci.f2.ok (fun q=>c1 ⟨z,q⟩) w.symm
   ·rw [z,n0]
    exact fun w=>yf4 g ci.f1.ok (fun q=>c1 ⟨q,z⟩) w
   ·exact z
end Sk
namespace Sk
open PySem PySem.Spec L2 Sm
theorem zjF (c k:Int) (h:AH):∃ m,ydy [.int c,.int k] h = .ok (.int m) h:=by
 have b1:0<=(c % 1000000007+7919*k+101)*48271 % 2147483647:=Int.emod_nonneg _ (by decide)
 have b2:(c % 1000000007+7919*k+101)*48271 % 2147483647<2147483647:=Int.emod_lt_of_pos _ (by decide)
 refine ⟨(c % 1000000007+7919*k+101)*48271 % 2147483647*((c % 1000000007+7919*k+101)*48271 % 2147483647) % 2147483629*69621 % 2147483647,?_⟩
 generalize he:(c % 1000000007+7919*k+101)*48271 % 2147483647=v at *;have c1:v.natAbs<18446744073709551616:=by lia
 simp [ydy,he,c1]
theorem yh6 {i j:Int} {h:AH} (hi:i.natAbs<2 ^ 4000) (hj:j.natAbs<2 ^ 4000):fMul (.int i) (.int j) h = .ok (.int (i*j)) h:=if_pos (.inr ⟨hi,hj⟩)
theorem zgT (ns:List Int):yef (ns.map AV.int)=some ns:=by
 induction ns with
 | nil=>rfl
 | cons n r ih=>simp [ih]
abbrev T60:Int:=1000000000000000000000000000000000000000000000000000000000000000000000000000000000000000000000000000000000000000000000000
theorem yh7:(10:Nat) ^ 960<2 ^ 4000:=by decide +kernel
theorem yi4:T60.natAbs<2 ^ 4000:=by decide +kernel
theorem zfe (ns:List Int) (k:Nat) (i:Nat) (c:Nat) (o:Option AV) (h:AH) (hi:i<8) (hc:c<10 ^ (120*i)) (hj:k+i*8<ns.length) :
  ∃ c':Nat,c'<10 ^ (120*(i+1))/\ybP [some (.fl (ns.map AV.int)),some (.int k),some (.int c),some (.int ((k:Int)+i*8)),o] h = .nx [some (.fl (ns.map AV.int)),some (.int k),some (.int c'),some (.int ((k:Int)+i*8)),o] h:=by
 obtain ⟨s,es⟩:∃ s,ns[k+i*8]? = some s:=⟨ns[k+i*8],by simp [hj]⟩
 have ix:fIx (.fl (ns.map AV.int)) (.int ((k:Int)+i*8)) h = .ok (.int s) h:=by
  rw [show ((k:Int)+i*8)=((k+i*8:Nat):Int) by simp]
  simp only [fIx,zeJ es]
 have p1:(10:Nat) ^ (120*i)<=10 ^ 960:=Nat.pow_le_pow_right (by decide) (by lia)
 have m1:((c:Int)).natAbs<2 ^ 4000:=by
  have:=yh7
  exact Nat.lt_trans (show c<10 ^ 960 by lia) this
 have mu:fMul (.int c) (.int T60) h = .ok (.int (c*T60)) h:=yh6 m1 yi4
 have r0:0<=s % T60:=Int.emod_nonneg _ (by decide)
 have r1:s % T60<T60:=Int.emod_lt_of_pos _ (by decide)
 obtain ⟨r,er⟩:∃ r:Nat,s % T60=(r:Int):=⟨(s % T60).toNat,(Int.toNat_of_nonneg r0).symm⟩
 have rl:r<10 ^ 120:=by
  have:(r:Int)<T60:=er▸r1
  have e:T60=((10 ^ 120:Nat):Int):=by decide +kernel
  rw [e] at this;exact Int.ofNat_lt.mp this
 obtain ⟨c',ec,lc⟩:∃ c':Nat,(c:Int)*T60+r=(c':Int)/\c'<10 ^ (120*(i+1)):=by
  refine ⟨c*10 ^ 120+r,?_,?_⟩
  ·have e:T60=((10 ^ 120:Nat):Int):=by decide +kernel
   rw [e,Int.natCast_add,Int.natCast_mul]
  ·rw [show 120*(i+1)=120*i+120 by lia,Nat.pow_add]
   have:(c+1)*10 ^ 120<=10 ^ (120*i)*10 ^ 120:=Nat.mul_le_mul_right _ hc
   have e2:(c+1)*10 ^ 120=c*10 ^ 120+10 ^ 120:=Nat.succ_mul _ _
   lia
 refine ⟨c',lc,?_⟩
 have pw:(sOp2 fMul (sOp2 fPow (sLit (.int 10)) (sLit (.int 60))) (sOp2 fPow (sLit (.int 10)) (sLit (.int 60)))) [some (.fl (ns.map AV.int)),some (.int k),some (.int c),some (.int ((k:Int)+i*8)),o] h = .ok (.int T60) h:=by simp
 have md:fMod (.int s) (.int T60) h = .ok (.int r) h:=by simp only [fMod];rw [if_pos (by decide),er]
 clear p1 m1 r0 r1 er rl hc lc hi;unfold ybP
 generalize sOp2 fMul (sOp2 fPow (sLit (.int 10)) (sLit (.int 60))) (sOp2 fPow (sLit (.int 10)) (sLit (.int 60)))=PW at *;generalize T60=t60 at *;simp [pw,mu,ix,md,ec,-fMul,-fIx,-fMod]
theorem zeU (en0:Option AV) (ns:List Int) (k c f j:Int) (h:AH):∃ f',ybQ [some (.fl (ns.map AV.int)),some (.int k),some (.int c),some (.int j),some (.int f)] h = .nx [some (.fl (ns.map AV.int)),some (.int k),some (.int c),some (.int j),some (.int f')] h:=by
 obtain ⟨m,hm⟩:=zjF (c+1009*k+ns.length) j h
 refine ⟨f*2147483647+m,?_⟩
 have m1:fMul (.int f) (.int 2147483647) h = .ok (.int (f*2147483647)) h:=yhQ (by decide)
 have m2:fMul (.int 1009) (.int k) h = .ok (.int (1009*k)) h:=yhP (by decide)
 simp [ybQ,hm,m1,m2,-fMul]
theorem ziw (ns:List Int) (hl:ns.length<=63) (k:Nat) (hk:k<=10) (h:AH):∃ N:Int,ycT [.fl (ns.map AV.int),.int k] h = .ok (.ref h.length) (h++[.lst [.int N]]):=by
 obtain ⟨M,eM⟩:∃ M:Nat,M=(if (k:Int)<(ns.length:Int) then ((ns.length:Int)-k-1) / 8+1 else 0).toNat:=⟨_,rfl⟩
 have hM:M<=8/\∀ i,i<M->k+i*8<ns.length:=by
  rw [eM];split
  ·refine ⟨by lia,fun i hi=>by lia⟩
  ·refine ⟨by lia,fun i hi=>by simp at hi⟩
 obtain ⟨e1,h1,r1,r2⟩:=yem (w:=none) (all:=(List.range M).map (fun m:Nat=>AV.int ((k:Int)+m*8))) (t:=.nm 3) (b:=ybP) (xs:=(List.range M).map (fun m:Nat=>AV.int ((k:Int)+m*8))) (en:=[some (.fl (ns.map AV.int)),some (.int k),some (.int 0),none,none]) (h:=h)
  (fun i en h' => h'=h/\∃ (c:Nat) (o:Option AV),c<10 ^ (120*i)/\en=[some (.fl (ns.map AV.int)),some (.int k),some (.int c),o,none]) ⟨rfl,0,none,by decide,rfl⟩ (fun _ _ _ _=>rfl) (by
   rintro j x en h' hx ⟨rfl,c,o,hc,rfl⟩
   rw [List.getElem?_map] at hx;obtain ⟨m,em,rfl⟩:=Option.map_eq_some_iff.mp hx
   have hj:j<M:=by
    have:=(List.getElem?_eq_some_iff.mp em).1;simpa using this
   rw [List.getElem?_range hj] at em
   cases em
   obtain ⟨c',l',e⟩:=zfe ns k j c none h' (by have:=hM.1;lia) hc (hM.2 j hj)
   show thn (ybP [some (.fl (ns.map AV.int)),some (.int k),some (.int c),some (.int ((k:Int)+j*8)),none] h') _
   rw [e];exact ⟨rfl,c',_,l',rfl⟩)
 obtain ⟨rfl,c,o,hc,rfl⟩:=r2
 have z1:(k:Int).natAbs<1099511627776:=by lia
 have z2:((ns.length:Nat):Int).natAbs<1099511627776:=by lia
 have it3:ycY (sVar 1) (yae fLen (yab (sVar 0) sNil)) (sLit (.int 8)) [some (.fl (ns.map AV.int)),some (.int k),some (.int 0),none,none] h1 = .ok ((List.range M).map (fun m:Nat=>AV.int ((k:Int)+m*8)),none) h1:=by
  simp only [ycY,sVar,yae,yab,sNil,sLit,Out.bind,fLen,List.getElem?_cons_zero,List.getElem?_cons_succ,lenA]
  rw [if_pos ⟨z1,z2,by decide,by decide⟩,<- eM]
 have f1:=(ydS (t:=.nm 3) (b:=ybP) it3).trans r1
 clear r1 it3;by_cases hb:(1000000000000000000:Int)<=c
 ·exact ⟨c,by simp [ycT,f1,hb,-sFor]⟩
 ·have cm:=zeI (js:=[]) (en:=[some (.fl (ns.map AV.int)),some (.int k),some (.int c),o,none]) (w:=none) (all:=ns.map AV.int) (e:=sOp2 fMod (sVar 0) (sOp2 fPow (sLit (.int 10)) (sLit (.int 18)))) (g:=AV.int) (f:=fun i=>AV.int (i % 1000000000000000000)) (h:=h1) rfl ns [] (by intro i _;simp) (by
    simp only [List.length_nil];exact Nat.le_trans (show 0+ns.length<=63 by lia) (by decide))
  have im:(ns.map fun i=>AV.int (i % 1000000000000000000))=(ns.map fun i=>i % 1000000000000000000).map AV.int:=by simp
  obtain ⟨S,eS⟩:∃ S:Int,S=(ns.map fun i=>i % 1000000000000000000).sum:=⟨_,rfl⟩
  have sm:fSum [.fl (ns.map fun i=>AV.int (i % 1000000000000000000))] h1 = .ok (.int S) h1:=by
   rw [im,eS];simp only [fSum,zgT]
  obtain ⟨e2,h2,s1,s2⟩:=yem (w:=none) (all:=ya5 0 16) (t:=.nm 3) (b:=ybQ) (xs:=ya5 0 16) (en:=[some (.fl (ns.map AV.int)),some (.int k),some (.int (c+S)),o,some (.int 0)]) (h:=h1)
   (fun i en h' => h'=h1/\∃ (f:Int) (o:Option AV),en=[some (.fl (ns.map AV.int)),some (.int k),some (.int (c+S)),o,some (.int f)]) ⟨rfl,0,o,rfl⟩ (fun _ _ _ _=>rfl) (by
    rintro j x en h' hx ⟨rfl,f,o,rfl⟩
    rw [zco] at hx;by_cases q:j<16
    ·rw [if_pos q] at hx
     cases hx
     obtain ⟨f',e⟩:=zeU none ns k (c+S) f (0+(j:Int)) h'
     show thn (ybQ [some (.fl (ns.map AV.int)),some (.int k),some (.int (c+S)),some (.int (0+(j:Int))),some (.int f)] h') _
     rw [e];exact ⟨rfl,f',_,rfl⟩
    ·rw [if_neg q] at hx;cases hx)
  obtain ⟨rfl,f,o',rfl⟩:=s2
  have f2:=(ydS (t:=.nm 3) (b:=ybQ) (zbK (a:=sLit (.int 16)) (en:=[some (.fl (ns.map AV.int)),some (.int k),some (.int (c+S)),o,some (.int 0)]) (h:=h2) (n:=16) rfl (by decide))).trans s1
  refine ⟨f,?_⟩
  simp at cm
  simp [ycT,f1,hb,cm,sm,f2,-sFor,-fSum]
theorem zjG {h:AH} {st:Nat} {n:Int} (m:Nat) (e:h[st]? = some (.lst [.int n])) (hm:0<m) (hm2:m<=10 ^ 50):∃ v:Nat,v<m/\yaL [.ref st,.int m] h = .ok (.int v) (h.set st (.lst [.int (n / m)])):=by
 have a0:atI [AV.int n] 0=some (.int n):=rfl
 have i0:ixN 1 0=some 0:=rfl
 have hm0:(0:Int)<m:=Int.ofNat_lt.mpr hm
 have hm3:m<1606938044258990275541962092341162602522202993782792835301376:=Nat.lt_of_le_of_lt hm2 (by decide)
 refine ⟨(n % m).toNat,?_,?_⟩
 ·have:=Int.emod_lt_of_pos n hm0;have:=Int.emod_nonneg n (show (m:Int)≠0 by lia);lia
 ·rw [Int.toNat_of_nonneg (Int.emod_nonneg n (show (m:Int)≠0 by lia))]
  simp [yaL,e,a0,hm0,hm,hm3,i0]
theorem zeV {x:Str} {v:Nat} (hv:v<x.length) (hx:yav x=true) (h:AH):∃ c,yc7 c=true/\fIx (.str x) (.int v) h = .ok (.str ⟨#[c]⟩) h:=by
 have hv':v<x.cps.toList.length:=by rw [<- zac];exact hv
 refine ⟨x.cps.toList[v],List.all_eq_true.mp hx _ (List.getElem_mem hv'),?_⟩
 have e:x.cps.toList[v]? = some x.cps.toList[v]:=List.getElem?_eq_getElem hv'
 simp only [fIx,zbr e]
theorem zcM {hh:AH} {L:Nat} {N:Int} (m:Nat) (e:hh[L]? = some (.lst [.int N])) (hm:0<m) (hm2:m<=10 ^ 50):∃ (v:Nat) (N':Int),v<m/\yaL [.ref L,.int m] hh = .ok (.int v) (hh.set L (.lst [.int N'])):=by
 obtain ⟨v,hv,e1⟩:=zjG m e hm hm2
 exact ⟨v,N / m,hv,e1⟩
theorem zgU {y:Str} {c:Nat} (hy:yav y=true) (hc:yc7 c=true):yav (y++⟨#[c]⟩)=true/\(y++(⟨#[c]⟩:Str)).length=y.length+1:=by
 refine ⟨?_,by rw [zap];rfl⟩
 rw [zaX,hy];simp [yav,hc]
def lowS:Str := "abcdefghijklmnopqrstuvwxyz"
def upS:Str := "ABCDEFGHIJKLMNOPQRSTUVWXYZ"
def restS:Str := " !\"#$&'()*+,-./0123456789:;<=>?\x40[\\]^_`{|}~\n"
def sg46:List Str:=["ab", "aaab", "a\n", "ab \n",(lowS++upS)++restS]
theorem zbW:∀ x∈sg46,yav x=true/\1<=x.length/\x.length<=200:=by decide +kernel
theorem yf5:Txt.upper lowS=upS:=by decide +kernel
theorem mup (h:AH):yez (.str lowS) [] h = .ok (.str upS) h:=by
 have c:(Txt.upper lowS).length<=sizeLine/\(Txt.upper lowS).cps.all (· < 0x110000)=true:=by rw [yf5];decide +kernel
 show (if (Txt.upper lowS).length<=sizeLine/\(Txt.upper lowS).cps.all (· < 0x110000)=true then Out.ok (AV.str (Txt.upper lowS)) h else .bad)=_
 rw [if_pos c,yf5]
theorem yh8 (v:Nat) (hv:v<5):∃ z:Str,(∀ h,fIx (.fl [.str "ab",.str "aaab",.str "a\n",.str "ab \n",.str ((lowS++upS)++restS)]) (.int (v:Int)) h = .ok (.str z) h)/\yav z=true/\1<=z.length/\z.length<=200:=by
 have:v=0\/v=1\/v=2\/v=3\/v=4:=by lia
 rcases this with rfl | rfl | rfl | rfl | rfl
 ·exact ⟨_,fun _=>rfl,zbW _ (by simp [sg46])⟩
 ·exact ⟨_,fun _=>rfl,zbW _ (by simp [sg46])⟩
 ·exact ⟨_,fun _=>rfl,zbW _ (by simp [sg46])⟩
 ·exact ⟨_,fun _=>rfl,zbW _ (by simp [sg46])⟩
 ·exact ⟨_,fun _=>rfl,zbW _ (by simp [sg46])⟩
theorem zhF {hh:AH} {L:Nat} {N:Int} (most:Nat) (hm:most<=1000) (e:hh[L]? = some (.lst [.int N])):∃ (y:Str) (N':Int),ybN [.ref L,.int most] hh = .ok (.str y) (hh.set L (.lst [.int N']))/\yav y=true/\y.length<=most:=by
 have Ll:=yaS e
 obtain ⟨v,N1,hv,t1⟩:=zcM 5 e (by decide) (by decide)
 have t1':yaL [.ref L,.int 5] hh = .ok (.int v) (hh.set L (.lst [.int N1])):=t1
 obtain ⟨z,ez,pz,z1,z2⟩:=yh8 v hv
 have e1:(hh.set L (.lst [.int N1]))[L]? = some (.lst [.int N1]):=List.getElem?_set_self Ll
 obtain ⟨k,N2,hk,t2⟩:=zcM (most+1) e1 (Nat.succ_pos _) (Nat.le_trans (Nat.succ_le_succ hm) (by decide))
 rw [List.set_set] at t2;have t2':yaL [.ref L,.int ((most:Int)+1)] (hh.set L (.lst [.int N1])) = .ok (.int k) (hh.set L (.lst [.int N2])):=by
  have:=t2;rw [Int.natCast_succ] at this;exact this
 obtain ⟨W3,eW3⟩:∃ W3:Str,W3=(lowS++upS)++restS:=⟨_,rfl⟩
 rw [<- eW3] at ez;obtain ⟨e',h',r1,y,N3,o4,r2,r3,r4,r5⟩:=yem (w:=none) (all:=ya5 0 k) (t:=.nm 6) (b:=ybJ) (xs:=ya5 0 k) (en:=[some (.ref L),some (.int most),some (.str lowS),some (.str W3),some (.str z),some (.str ""),none]) (h:=hh.set L (.lst [.int N2]))
  (fun j en h' => ∃ (y:Str) (N':Int) (o4:Option AV),en=[some (.ref L),some (.int most),some (.str lowS),some (.str W3),some (.str z),some (.str y),o4]/\h'=hh.set L (.lst [.int N'])/\yav y=true/\y.length=j) ⟨"",N2,none,rfl,rfl,rfl,rfl⟩ (fun _ _ _ _=>rfl) (by
   rintro j u en h' hu ⟨y,N',o4,rfl,rfl,py,ly⟩
   have jk:j<k:=by have:=(List.getElem?_eq_some_iff.mp hu).1;rwa [zaU] at this
   have e3:(hh.set L (.lst [.int N']))[L]? = some (.lst [.int N']):=List.getElem?_set_self Ll
   obtain ⟨t,N4,ht,et⟩:=zcM z.length e3 (by lia) (Nat.le_trans z2 (by decide))
   rw [List.set_set] at et;obtain ⟨c,pc,ec⟩:=zeV ht pz (hh.set L (.lst [.int N4]))
   have ad:fAdd (.str y) (.str ⟨#[c]⟩) (hh.set L (.lst [.int N4])) = .ok (.str (y++⟨#[c]⟩)) (hh.set L (.lst [.int N4])):=by
    have:y.length+(⟨#[c]⟩:Str).length<=sizeLine:=Nat.le_trans (m:=1001) (by show y.length+1<=_;lia) (by decide)
    simp only [fAdd,this,if_true]
   have es:ybJ [some (.ref L),some (.int most),some (.str lowS),some (.str W3),some (.str z),some (.str y),some u] (hh.set L (.lst [.int N'])) = .nx [some (.ref L),some (.int most),some (.str lowS),some (.str W3),some (.str z),some (.str (y++⟨#[c]⟩)),some u] (hh.set L (.lst [.int N4])):=by
    generalize hh.set L (.lst [.int N4])=h2 at *;generalize hh.set L (.lst [.int N'])=h1 at *;simp [ybJ,et,ec,ad,-fIx,-fAdd]
   show thn (ybJ [some (.ref L),some (.int most),some (.str lowS),some (.str W3),some (.str z),some (.str y),some u] (hh.set L (.lst [.int N']))) _
   rw [es];obtain ⟨q1,q2⟩:=zgU py pc
   exact ⟨_,N4,_,rfl,rfl,q1,by rw [q2,ly]⟩)
 rw [zaU] at r5;have f1:=(ydS (t:=.nm 6) (b:=ybJ) (zbK (a:=yae yaL (yab (sVar 0) (yab (sOp2 fAdd (sVar 1) (sLit (.int 1))) sNil))) (en:=[some (.ref L),some (.int most),some (.str lowS),some (.str W3),some (.str z),some (.str ""),none]) (h:=hh.set L (.lst [.int N1])) (n:=k) (by simp [t2']) (by lia))).trans r1
 refine ⟨y,N3,?_,r4,by lia⟩
 rw [<- r3];subst r2;have a1:fAdd (.str lowS) (.str upS) hh = .ok (.str (lowS++upS)) hh:=by
  have:lowS.length+upS.length<=sizeLine:=by decide +kernel
  simp only [fAdd,this,if_true]
 have a2:fAdd (.str (lowS++upS)) (.str restS) hh = .ok (.str W3) hh:=by
  have:(lowS++upS).length+restS.length<=sizeLine:=by decide +kernel
  rw [eW3];simp only [fAdd,this,if_true]
 have mu:=mup hh
 have el:Str.ofString "abcdefghijklmnopqrstuvwxyz" = lowS:=rfl
 have er:Str.ofString " !\"#$&'()*+,-./0123456789:;<=>?\x40[\\]^_`{|}~\n" = restS:=rfl
 unfold ybN
 rw [el,er];generalize sFor (yb3 (yae yaL (yab (sVar 0) (yab (sOp2 fAdd (sVar 1) (sLit (.int 1))) sNil)))) (.nm 6) ybJ=F1 at *;generalize hh.set L (.lst [.int N1])=h1 at *;generalize lowS=LO at *;generalize upS=UP at *;generalize restS=RS at *;generalize LO++UP=LU at *;simp [mu,a1,a2,t1',ez,f1,-fAdd,-fIx]
structure Zq (L:Nat) (h:AH) (ps:List Pc):Prop where
 sh:ShelfAt h 0 ps
 gd:Good ps
 hl:8<L
 ro:∃ N:Int,h[L]? = some (.lst [.int N])
theorem Zq.app {L:Nat} {h:AH} {ps:List Pc} (z:Zq L h ps) (r:AH):Zq L (h++r) ps:=by
 obtain ⟨N,e⟩:=z.ro
 exact ⟨z.sh.app r,z.gd,z.hl,N,by rw [List.getElem?_append_left (yaS e)];exact e⟩
theorem Zq.dd {L:Nat} {h h':AH} {ps ps':List Pc} {k:Nat} (z:Zq L h ps) (d:Dd 0 h h' ps ps' k):Zq L h' ps' := by
 obtain ⟨N,e⟩:=z.ro
 exact ⟨d.sh,d.gd,z.hl,N,(d.fr L (.inr (by have:=z.hl;lia))).trans e⟩
theorem Zq.take {L:Nat} {h:AH} {ps:List Pc} (z:Zq L h ps) (m:Nat) (hm:0<m) (hm2:m<=10 ^ 50):∃ (v:Nat) (h':AH),v<m/\yaL [.ref L,.int m] h = .ok (.int v) h'/\Zq L h' ps:=by
 obtain ⟨N,e⟩:=z.ro
 obtain ⟨v,N',hv,t⟩:=zcM m e hm hm2
 exact ⟨v,_,hv,t,zax z.sh (by have:=z.hl;lia) _,z.gd,z.hl,N',List.getElem?_set_self (yaS e)⟩
theorem Zq.plain {L:Nat} {h:AH} {ps:List Pc} (z:Zq L h ps) (most:Nat) (hm:most<=1000):∃ (y:Str) (h':AH),ybN [.ref L,.int most] h = .ok (.str y) h'/\Zq L h' ps/\yav y=true/\y.length<=most:=by
 obtain ⟨N,e⟩:=z.ro
 obtain ⟨y,N',t,py,ly⟩:=zhF most hm e
 exact ⟨y,_,t,⟨zax z.sh (by have:=z.hl;lia) _,z.gd,z.hl,N',List.getElem?_set_self (yaS e)⟩,py,ly⟩
theorem htZ6 {ps:List Pc} (g:Good ps) {n:Nat} {x:Str} (t:TxZ ps n x):htOf ps n<=82:=by
 rcases t with ⟨rfl,rfl⟩ | ⟨m,f,l,T⟩
 ·show ((meas ps).getD 0 ms0).ht<=82
  have e:(meas ps)[0]? = some ms0:=zbN ps
  rw [zaL e];decide
 ·show ((meas ps).getD n ms0).ht<=82
  rw [zaL T.ms];exact ht82 g T
theorem Zq.more {L:Nat} {h:AH} {ps:List Pc} {a:Nat} {x y:Str} (z:Zq L h ps) (A:TxZ ps a x) (py:yav y=true) (lx:x.length<=100) (ly:y.length<=100) (hz:ps.length<=1000000):∃ (b n:Nat) (h1 h':AH) (ps':List Pc),ydn [.ref 0,.str y] h = .ok (.int b) h1/\yby [.ref 0,.int a,.int b] h1 = .ok (.int n) h'/\Zq L h' ps'/\ps <+: ps'/\TxZ ps' n (x++y)/\ps'.length<=ps.length+1600:=by
 obtain ⟨b,ps1,h1,f1,D1,B⟩:=zju z.sh z.gd py (by lia) (by lia)
 have l1:=D1.len
 obtain ⟨n,ps2,h2,D2,T⟩:=zir D1.sh D1.gd (A.pre D1.pre) B (by lia) (by lia)
 have l2:=D2.dd.len
 have m1:=htZ6 D1.gd (A.pre D1.pre)
 have m2:=htZ6 D1.gd B
 exact ⟨b,n,h1,h2,ps2,f1,D2.ev,(z.dd D1).dd D2.dd,D1.pre.trans D2.dd.pre,T,by lia⟩
end Sk
namespace Sk
open PySem PySem.Spec L2 Sm
theorem tkdp (x:Str) (n:Nat):tkS x n++dpS x n=x:=zae (by rw [zan,ybw,ybF,List.take_append_drop])
theorem yh9 (a b c:Str):(a++b)++c=a++(b++c):=zae (by rw [zan,zan,zan,zan,List.append_assoc])
abbrev eG (L:Nat) (y:Str) (n:Nat) (rest:Str) (o5 o6:Option AV):En:=[some (.ref 0),some (.str y),some (.ref L),some (.int n),some (.str rest),o5,o6]
theorem yia {L n:Nat} {h:AH} {ps:List Pc} {y a rest:Str} {o5 o6:Option AV} (z:Zq L h ps) (A:TxZ ps n a) (e:a++rest=y) (pr:yav rest=true) (ly:y.length<=62) (hz:ps.length<=1000000) :
  ∃ (n':Nat) (h':AH) (ps':List Pc) (a' rest':Str) (o6':Option AV),ybK (eG L y n rest o5 o6) h = .nx (eG L y n' rest' o5 o6') h'/\Zq L h' ps'/\ps <+: ps'/\TxZ ps' n' a'/\a' ++ rest'=y/\yav rest'=true/\ps'.length<=ps.length+1600:=by
 have ll:a.length+rest.length=y.length:=by rw [<- e,zap]
 obtain ⟨v,h1,hv,t,z1⟩:=z.take (rest.length+1) (Nat.succ_pos _) (Nat.le_trans (m:=63) (by lia) (by decide))
 have ln:fLen [.str rest] h = .ok (.int rest.length) h:=rfl
 have ad:fAdd (.int rest.length) (.int 1) h = .ok (.int ((rest.length+1:Nat):Int)) h:=rfl
 have lt:=yfU (x:=rest) (a:=v) (by lia)
 obtain ⟨b,n',h2,h3,ps',f1,f2,z3,pr3,T,l3⟩:=z1.more A (zdi pr v) (by lia) (by lia) hz
 have c1:=yeh (x:=rest) (a:=v) h1
 have c2:∀ hh,ya0 (.str rest) (some (v:Int)) none hh = .ok (.str (dpS rest v)) hh:=yeB (by lia)
 refine ⟨n',h3,ps',a++tkS rest v,dpS rest v,some (.int v),?_,z3,pr3,T,by rw [yh9,tkdp,e],zb9 pr,l3⟩
 clear z z1 z3 A T;generalize ((rest.length+1:Nat):Int)=RL at *;generalize (rest.length:Int)=R0 at *;generalize (v:Int)=VV at *;simp [ybK,eG,ln,ad,t,c1,f1,f2,c2,-fLen,-fAdd,-ya0]
theorem zgl {L:Nat} {h:AH} {ps:List Pc} {y:Str} (z:Zq L h ps) (py:yav y=true) (ly:y.length<=62) (hz:ps.length<=900000) :
  ∃ (n:Nat) (h':AH) (ps':List Pc),ycB [.ref 0,.str y,.ref L] h = .ok (.int n) h'/\Zq L h' ps'/\ps <+: ps'/\TxZ ps' n y/\ps'.length<=ps.length+10000:=by
 obtain ⟨k,h1,hk,t,z1⟩:=z.take 5 (by decide) (by decide)
 replace t:yaL [.ref L,.int 5] h = .ok (.int k) h1:=t
 have e0:("" : Str)++y=y:=zae (by rw [zan];rfl)
 obtain ⟨e',h',r1,r2⟩:=yem (w:=none) (all:=ya5 0 k) (t:=.nm 5) (b:=ybK) (xs:=ya5 0 k) (en:=eG L y 0 y none none) (h:=h1)
  (fun j en hh=>j<=4->∃ (n:Nat) (ps':List Pc) (a rest:Str) (o5 o6:Option AV),en=eG L y n rest o5 o6/\Zq L hh ps'/\ps <+: ps'/\TxZ ps' n a/\a++rest=y/\yav rest=true/\ps'.length<=ps.length+j*1600)
  (fun _=>⟨0,ps, "",y,none,none,rfl,z1,List.prefix_refl _,.inl ⟨rfl,rfl⟩,e0,py,by lia⟩) (fun _ _ _ _=>rfl) (by
   intro j u en hh hu hp
   have jk:j<k:=by have:=(List.getElem?_eq_some_iff.mp hu).1;rwa [zaU] at this
   obtain ⟨n,ps1,a,rest,o5,o6,rfl,z2,p2,A,e,pr,l2⟩:=hp (by lia)
   obtain ⟨n',h3,ps3,a',rest',o6',ev,z3,p3,A3,e3,pr3,l3⟩:=yia (o5:=some u) (o6:=o6) z2 A e pr ly (by lia)
   show thn (ybK (eG L y n rest (some u) o6) hh) _
   rw [ev];exact fun _=>⟨n',ps3,a',rest',some u,o6',rfl,z3,p2.trans p3,A3,e3,pr3,by lia⟩)
 rw [zaU] at r2;obtain ⟨n,ps1,a,rest,o5,o6,rfl,z2,p2,A,e,pr,l2⟩:=r2 (by lia)
 have ll:a.length+rest.length=y.length:=by rw [<- e,zap]
 obtain ⟨b,n',h2,h3,ps',f1,f2,z3,p3,T,l3⟩:=z2.more A pr (by lia) (by lia) (by lia)
 rw [e] at T;refine ⟨n',h3,ps',?_,z3,p2.trans p3,T,by lia⟩
 have it:yb3 (yae yaL (yab (sVar 2) (yab (sLit (.int 5)) sNil))) (eG L y 0 y none none) h = .ok (ya5 0 k,none) h1:=zbK (by simp [eG,t]) (by exact Nat.le_trans (Nat.le_of_lt hk) (by decide))
 have fo:=(ydS (t:=.nm 5) (b:=ybK) it).trans r1
 clear z z1 z2 z3 A T;unfold ycB
 generalize sFor (yb3 (yae yaL (yab (sVar 2) (yab (sLit (.int 5)) sNil)))) (.nm 5) ybK=FF at *;have z0:eG L y 0 y none none=[some (.ref 0),some (.str y),some (.ref L),some (.int 0),some (.str y),none,none]:=rfl
 rw [z0] at fo;simp only [eG] at fo
 simp [fo,f1,f2]
theorem zix (v:Nat) (hv:v<3) (h:AH):∃ c:Nat,yc7 c=true/\fIx (.str "ab\n") (.int v) h = .ok (.str ⟨#[c]⟩) h:=zeV (x := "ab\n") hv (by decide) h
theorem yib {L:Nat} {h:AH} {ps:List Pc} (z:Zq L h ps):∃ (x y:Str) (h':AH),ycv [.ref L,.int 60] h = .ok (.tup [.str x,.str y]) h'/\Zq L h' ps/\yav x=true/\yav y=true/\x.length<=62/\y.length<=62:=by
 obtain ⟨x,h1,t1,z1,px,lx⟩:=z.plain 60 (by decide)
 replace t1:ybN [.ref L,.int 60] h = .ok (.str x) h1:=t1
 obtain ⟨k,h2,hk,t2,z2⟩:=z1.take 5 (by decide) (by decide)
 replace t2:yaL [.ref L,.int 5] h1 = .ok (.int k) h2:=t2
 obtain ⟨a,h3,ha,t3,z3⟩:=z2.take (x.length+1) (Nat.succ_pos _) (Nat.le_trans (m:=61) (by lia) (by decide))
 have ln:fLen [.str x] h2 = .ok (.int x.length) h2:=rfl
 have ad:fAdd (.int x.length) (.int 1) h2 = .ok (.int ((x.length+1:Nat):Int)) h2:=rfl
 have lt:fLt (.int k) (.int 2) h3 = .ok (.bl (decide ((k:Int)<2))) h3:=rfl
 have e2:=eq_n k 2 h3
 have e3:=eq_n k 3 h3
 replace e2:fEq (.int k) (.int 2) h3 = .ok (.bl (decide (k=2))) h3:=e2
 replace e3:fEq (.int k) (.int 3) h3 = .ok (.bl (decide (k=3))) h3:=e3
 have c1:=yeh (x:=x) (a:=a) h3
 have l1:=yfU (x:=x) (a:=a) (by lia)
 by_cases q:k<2
 ·rw [decide_eq_true (show (k:Int)<2 by lia)] at lt
  refine ⟨x,x,h3,?_,z3,px,px,by lia,by lia⟩
  clear z z1 z2 z3 e2 e3;generalize ((x.length+1:Nat):Int)=XL1 at *;generalize (x.length:Int)=XL at *;generalize (k:Int)=KK at *;simp [ycv,t1,t2,ln,ad,t3,lt,-fLen,-fAdd,-fLt,-fEq]
 ·rw [decide_eq_false (show ¬ (k:Int)<2 by lia)] at lt
  by_cases q2:k=2
  ·rw [decide_eq_true q2] at e2
   obtain ⟨v,h4,hv,t4,z4⟩:=z3.take 3 (by decide) (by decide)
   replace t4:yaL [.ref L,.int 3] h3 = .ok (.int v) h4:=t4
   obtain ⟨c,pc,ic⟩:=zix v hv h4
   have a1:=zdg (w:=tkS x a) (v:=⟨#[c]⟩) (by show _+1<=100;lia) h4
   have a2:fAdd (.int a) (.int 1) h4 = .ok (.int ((a+1:Nat):Int)) h4:=rfl
   obtain ⟨d,pd,ld,cd⟩:∃ d:Str,yav d=true/\d.length<=x.length-(a+1)/\ya0 (.str x) (some ((a+1:Nat):Int)) none h4 = .ok (.str d) h4:=by
    by_cases w:a+1<=x.length
    ·exact ⟨dpS x (a+1),zb9 px,by rw [ydF];lia,yeB w h4⟩
    ·refine ⟨"",rfl,Nat.zero_le _,?_⟩
     simp only [ya0]
     congr 2
     refine zae ?_
     have:((x.cps.toList.drop (HT.sIx x.cps.size 0 (some ((a+1:Nat):Int)))).take (HT.sIx x.cps.size x.cps.size none-HT.sIx x.cps.size 0 (some ((a+1:Nat):Int))))=[]:=by
      rw [HT.sIx_nat,HT.sIx_none];rw [Nat.min_eq_right (by have:x.cps.size=x.length:=rfl;lia),Nat.sub_self,List.take_zero]
     rw [show (Str.ofString "" : Str).cps.toList=[] from rfl];simpa [cutS] using this
   have lc:(tkS x a++(⟨#[c]⟩:Str)).length=a+1:=by rw [zap,l1];rfl
   have a3:=zdg (w:=tkS x a++⟨#[c]⟩) (v:=d) (by lia) h4
   have pl:yav (tkS x a++(⟨#[c]⟩:Str)++d)=true:=by
    rw [zaX,zaX,zdi px a,pd];simp [yav,pc]
   have ll:(tkS x a++(⟨#[c]⟩:Str)++d).length<=62:=by rw [zap,lc];lia
   refine ⟨x,_,h4,?_,z4,px,pl,by lia,ll⟩
   clear z z1 z2 z3 z4 e3 pl ll;generalize tkS x a++(⟨#[c]⟩:Str)++d=W2 at *;generalize tkS x a++(⟨#[c]⟩:Str)=W1 at *;generalize tkS x a=W0 at *;generalize ((x.length+1:Nat):Int)=XL1 at *;generalize (x.length:Int)=XL at *;generalize ((a+1:Nat):Int)=AA1 at *;generalize (a:Int)=AA at *;generalize (k:Int)=KK at *;simp [ycv,t1,t2,ln,ad,t3,lt,e2,c1,t4,ic,a1,a2,cd,a3,-fLen,-fAdd,-fLt,-fEq,-fIx,-ya0]
  ·rw [decide_eq_false q2] at e2
   by_cases q3:k=3
   ·rw [decide_eq_true q3] at e3
    refine ⟨tkS x a,x,h3,?_,z3,zdi px a,px,by lia,by lia⟩
    clear z z1 z2 z3;generalize tkS x a=W0 at *;generalize ((x.length+1:Nat):Int)=XL1 at *;generalize (x.length:Int)=XL at *;generalize (a:Int)=AA at *;generalize (k:Int)=KK at *;simp [ycv,t1,t2,ln,ad,t3,lt,e2,e3,c1,-fLen,-fAdd,-fLt,-fEq,-fIx,-ya0]
   ·rw [decide_eq_false q3] at e3
    obtain ⟨y,h4,t4,z4,py,ly⟩:=z3.plain 60 (by decide)
    replace t4:ybN [.ref L,.int 60] h3 = .ok (.str y) h4:=t4
    refine ⟨x,y,h4,?_,z4,px,py,by lia,by lia⟩
    clear z z1 z2 z3 z4;generalize ((x.length+1:Nat):Int)=XL1 at *;generalize (x.length:Int)=XL at *;generalize (a:Int)=AA at *;generalize (k:Int)=KK at *;simp [ycv,t1,t2,ln,ad,t3,lt,e2,e3,t4,-fLen,-fAdd,-fLt,-fEq,-fIx,-ya0]
abbrev CC:SB:=sAnd (yam (sOp2 fLt (sVar 2) (yae yc8 (yab (yae fLen (yab (sVar 0) sNil)) (yab (yae fLen (yab (sVar 1) sNil)) sNil))))) (yam (sOp2 fEq (sOp2 fIx (sVar 0) (sVar 2)) (sOp2 fIx (sVar 1) (sVar 2))))
theorem ziy {h:AH} {x y:Str} (hx:x.length<=1000):ydk [.str x,.str y] h = .ok (.int (cmN x.cps.toList y.cps.toList)) h:=by
 have l:=yec x.cps.toList y.cps.toList
 rw [<- zac,<- zac] at l;have lp:yaG CC yck yaH [some (.str x),some (.str y),some (.int 0)] h = .nx [some (.str x),some (.str y),some (.int (cmN x.cps.toList y.cps.toList))] h:=by
  refine zdQ (E:=fun j=>[some (.str x),some (.str y),some (.int j)]) (n:=cmN x.cps.toList y.cps.toList) (fun j hj=>?_) (fun j hj=>?_) yaH 0 (Nat.zero_le _) (Nat.lt_of_le_of_lt (m:=1000) (by lia) (by decide))
  ·obtain ⟨mn,lt,a,b⟩:=zgg hj h
   have l1:fLen [.str x] h = .ok (.int x.length) h:=rfl
   have l2:fLen [.str y] h = .ok (.int y.length) h:=rfl
   generalize (x.length:Int)=XL at *;generalize (y.length:Int)=YL at *;by_cases q:j<min x.length y.length
   ·obtain ⟨a,b,e1,e2,e3⟩:=a q
    rw [decide_eq_true q] at lt;generalize ((min x.length y.length:Nat):Int)=MM at *;simp [CC,l1,l2,mn,lt,e1,e2,e3,-fLen,-yc8,-fLt,-fIx,-fEq]
   ·rw [decide_eq_false q] at lt
    rw [decide_eq_false (b q)];generalize ((min x.length y.length:Nat):Int)=MM at *;simp [CC,l1,l2,mn,lt,-fLen,-yc8,-fLt,-fIx,-fEq]
  ·show yck _ h=_
   have ad:fAdd (.int j) (.int 1) h = .ok (.int ((j+1:Nat):Int)) h:=rfl
   simp [yck,ad,-fAdd]
 unfold ydk
 generalize yaG CC yck yaH=WL at *;simp [lp]
end Sk
namespace Sk
open PySem PySem.Spec L2 Sm
theorem yeG {ps ps':List Pc} (h:ps <+: ps') (g:Good ps):∀ (c:Nat) (st:List Un),(∀ u∈st,OkI ps u)->nxF ps' c st=nxF ps c st
 | c,[],_=>by cases c<;>rfl
 | c,.s z::st,_=>by rw [nx_s,nx_s]
 | 0,.n k::st,_=>rfl
 | c+1,.n k::st,ok=>by
  cases ok _ (List.mem_cons_self ..) with
  | @n k m f l x T =>
   rcases g.kind T with ⟨e,_⟩ | ⟨a,b,ma,mb,y,z,fa,la,fb,lb,e,e2,_,A,B,x1,x2,_⟩
   ·show (match ps'[k-1]? with
     | some (.fork a b)=>nxF ps' c (.n a :: .n b::st)
     | some (.leaf z)=>(z,st)
     | none=>("",st))=(match ps[k-1]? with
     | some (.fork a b)=>nxF ps c (.n a :: .n b::st)
     | some (.leaf z)=>(z,st)
     | none=>("",st))
    rw [e,ya8 h e]
   ·show (match ps'[k-1]? with
     | some (.fork a b)=>nxF ps' c (.n a :: .n b::st)
     | some (.leaf z)=>(z,st)
     | none=>("",st))=(match ps[k-1]? with
     | some (.fork a b)=>nxF ps c (.n a :: .n b::st)
     | some (.leaf z)=>(z,st)
     | none=>("",st))
    rw [e,ya8 h e];exact yeG h g c _ (zaE g ok e)
theorem yf6 {ps ps':List Pc} (h:ps <+: ps') {u:Un} (o:OkI ps u):szU ps' u=szU ps u:=by
 cases o with
 | @n k m f l x T =>
  show (match (meas ps')[k]? with | some m=>m.sg | none=>0)=(match (meas ps)[k]? with | some m=>m.sg | none=>0)
  rw [T.ms,zad h T.ms]
 | s a=>rfl
theorem zgm {ps ps':List Pc} (h:ps <+: ps') (g:Good ps) {u:Un} (o:OkI ps u):opU ps' u=opU ps u:=by
 cases o with
 | @n k m f l x T =>
  rcases g.kind T with ⟨e,_⟩ | ⟨a,b,ma,mb,y,z,fa,la,fb,lb,e,_⟩
  ·rw [zdR e,zdR (ya8 h e)]
  ·rw [zcI e,zcI (ya8 h e)]
 | s a=>rfl
theorem zca {ps:List Pc} {u:Un} {q:Nat×Nat} (e:opU ps u=some q):∃ k,u = .n k/\ps[k-1]? = some (.fork q.1 q.2):=by
 cases u with
 | n k =>
  refine ⟨k,rfl,?_⟩
  have e':(match ps[k-1]? with | some (.fork a b)=>some (a,b) | _=>none)=some q:=e
  cases z:ps[k-1]? with
  | none=>rw [z] at e';cases e'
  | some w =>
   rw [z] at e'
   cases w with
   | leaf x=>cases e'
   | fork a b=>cases e';rfl
 | s z=>cases e
theorem yfb {ps ps':List Pc} (h:ps <+: ps') (g:Good ps):∀ (f:Nat) (L R:List Un),(∀ u∈L,OkI ps u)->(∀ u∈R,OkI ps u)->ciF ps' f L R=ciF ps f L R
 | 0,_,_,_,_=>rfl
 | _+1,[],_,_,_=>rfl
 | _+1,_::_,[],_,_=>rfl
 | f+1,u::l,v::r,okL,okR=>by
  have ou:=okL u (List.mem_cons_self ..)
  have ov:=okR v (List.mem_cons_self ..)
  by_cases q:u=v
  ·subst q
   rw [zcJ,zcJ]
  ·rw [zcK f q,zcK f q,yf6 h ou,yf6 h ov,zgm h g ou,zgm h g ov]
   cases decide (szU ps u<szU ps v) with
   | true =>
    dsimp only
    cases z:opU ps v with
    | none=>rfl
    | some w =>
     obtain ⟨k,rfl,e⟩:=zca z
     exact yfb h g f _ _ okL (zaE g okR e)
   | false =>
    dsimp only
    cases z:opU ps u with
    | none=>rfl
    | some w =>
     obtain ⟨k,rfl,e⟩:=zca z
     exact yfb h g f _ _ (zaE g okL e) okR
theorem zjH {ps ps':List Pc} (h:ps <+: ps') (g:Good ps) {L R:List Un} (okL:∀ u∈L,OkI ps u) (okR:∀ u∈R,OkI ps u):citF ps' L R=citF ps L R:=by
 unfold citF
 rw [yfb h g yaH L R okL okR,yeG h g 90 L okL,yeG h g 90 R okR]
theorem yfp {ps:List Pc} (g:Good ps):∀ (f:Nat) (L R:List Un) {u:Un} {l r:List Un},(∀ u∈L,OkI ps u)->(∀ u∈R,OkI ps u)->ciF ps f L R=some (u,l,r)->(∀ u∈l,OkI ps u)/\(∀ u∈r,OkI ps u)
 | 0,_,_,_,_,_,_,_,e=>by cases e
 | _+1,[],_,_,_,_,_,_,e=>by cases e
 | _+1,_::_,[],_,_,_,_,_,e=>by cases e
 | f+1,u::l,v::r,u',l',r',okL,okR,e=>by
  by_cases q:u=v
  ·subst q
   rw [zcJ] at e
   cases e
   exact ⟨fun w hw=>okL w (List.mem_cons_of_mem _ hw),fun w hw=>okR w (List.mem_cons_of_mem _ hw)⟩
  ·rw [zcK f q] at e
   cases z0:decide (szU ps u<szU ps v) with
   | true =>
    rw [z0] at e;dsimp only at e
    cases z:opU ps v with
    | none=>rw [z] at e;cases e
    | some w =>
     rw [z] at e;obtain ⟨k,rfl,e2⟩:=zca z
     exact yfp g f _ _ okL (zaE g okR e2) e
   | false =>
    rw [z0] at e;dsimp only at e
    cases z:opU ps u with
    | none=>rw [z] at e;cases e
    | some w =>
     rw [z] at e;obtain ⟨k,rfl,e2⟩:=zca z
     exact yfp g f _ _ (zaE g okL e2) okR e
theorem zel {ps:List Pc} (g:Good ps) {L:List Un} (ok:∀ u∈L,OkI ps u) (m:Nat):∀ u∈psh (dpS (nxF ps 90 L).1 m) (nxF ps 90 L).2,OkI ps u:=by
 have N:=yeF g 90 L ok (by have:=ybD g (okis ok);lia)
 by_cases q:L=[]
 ·subst q
  have:nxF ps 90 []=((("" : Str),([]:List Un))):=rfl
  rw [this];have e:dpS "" m = "" := zae (by rw [ybF];simp [show (Str.ofString "" : Str).cps.toList=[] from rfl])
  rw [e];exact fun u hu=>(by cases hu)
 ·obtain ⟨a1,a8,ap⟩:=zao (N.2 q)
  exact zdP (zb9 ap) (by rw [zac,ybF,List.length_drop,<- zac];lia) N.1
theorem yic {ps:List Pc} (g:Good ps) {L R:List Un} (okL:∀ u∈L,OkI ps u) (okR:∀ u∈R,OkI ps u):(∀ u∈(citF ps L R).2.1,OkI ps u)/\(∀ u∈(citF ps L R).2.2,OkI ps u):=by
 cases z:ciF ps yaH L R with
 | some t =>
  obtain ⟨u,l,r⟩:=t
  rw [zdk z];exact yfp g yaH L R okL okR z
 | none =>
  rw [zeQ z rfl rfl];exact ⟨zel g okL _,zel g okR _⟩
theorem yf7 {ps ps':List Pc} (h:ps <+: ps') (g:Good ps):∀ (f:Nat) (items L R:List Un),(∀ u∈L,OkI ps u)->(∀ u∈R,OkI ps u)->csF ps' f items L R=csF ps f items L R/\(∀ u∈(csF ps f items L R).2.1,OkI ps u)/\(∀ u∈(csF ps f items L R).2.2,OkI ps u)
 | 0,items,L,R,okL,okR=>⟨rfl,okL,okR⟩
 | _+1,items,[],R,okL,okR=>⟨rfl,okL,okR⟩
 | _+1,items,u::l,[],okL,okR=>⟨rfl,okL,okR⟩
 | f+1,items,u::l,v::r,okL,okR=>by
  have c:=zjH h g okL okR
  have o:=yic g okL okR
  obtain ⟨t,et⟩:∃ t,t=citF ps (u::l) (v::r):=⟨_,rfl⟩
  obtain ⟨i,L1,R1⟩:=t
  rw [<- et] at c o;by_cases q:i = .s ""
  ·subst q
   rw [yfa f c,yfa f et.symm];exact ⟨rfl,o.1,o.2⟩
  ·rw [yfo f c q,yfo f et.symm q]
   exact yf7 h g f _ _ _ o.1 o.2
theorem zgn {ps ps':List Pc} (h:ps <+: ps') (g:Good ps) {L:List Un} (ok:∀ u∈L,OkI ps u):sg1 ps' L=sg1 ps L:=by
 unfold sg1
 rw [yeG h g 90 L ok]
end Sk
namespace Sk
open PySem PySem.Spec L2 Sm
def yaN:List Un->List Un
 | []=>[]
 | .n k::r=>.n k::yaN r
 | .s w::r=>sgl w.cps.toList++yaN r
theorem zgo (ps:List Pc):∀ cs:List Nat,rdS ps (sgl cs)=cs
 | []=>rfl
 | c::cs=>by
  show [c]++rdS ps (sgl cs)=_
  rw [zgo ps cs];rfl
theorem yid {ps:List Pc} (g:Good ps) {w:Str} {st:List Un} (ok:∀ u∈st,OkU ps u) (w8:w.length<=8):itF ps (.s w) st=lbF ps (sgl w.cps.toList) st:=by
 show tkF ps 10 w st=_
 cases h:tkF ps 10 w st with
 | some s =>
  have T:=zbz g 10 ok h
  rw [zeO g _ ok T.rd,<- zac,<- T.dn]
 | none =>
  cases h2:lbF ps (sgl w.cps.toList) st with
  | none=>rfl
  | some s =>
   have rd:=(za6 g _ ok h2).1
   rw [zgo] at rd;rw [zdM g ok rd (by lia)] at h
   cases h
theorem zdU {ps:List Pc} (g:Good ps):∀ (its:List Un) {st:List Un},(∀ u∈st,OkU ps u)->(∀ i∈its,OkI ps i)->lbF ps its st=lbF ps (yaN its) st
 | [],st,_,_=>rfl
 | .n k::r,st,ok,oi=>by
  show (itF ps (.n k) st).bind (lbF ps r)=(itF ps (.n k) st).bind (lbF ps (yaN r))
  cases h:itF ps (.n k) st with
  | none=>rfl
  | some s=>exact zdU g r (zb8 g ok h).2.1 (fun i hi=>oi i (List.mem_cons_of_mem _ hi))
 | .s w::r,st,ok,oi=>by
  have w8:w.length<=8:=by
   cases oi _ (List.mem_cons_self ..) with
   | s a=>exact (zao a).2.1
  show (itF ps (.s w) st).bind (lbF ps r)=lbF ps (sgl w.cps.toList++yaN r) st
  rw [ye7,<- yid g ok w8]
  cases h:itF ps (.s w) st with
  | none=>rfl
  | some s=>exact zdU g r (zb8 g ok h).2.1 (fun i hi=>oi i (List.mem_cons_of_mem _ hi))
def yeT:Un->Prop
 | .n _=>True
 | .s w=>w.length=1
theorem yie {ps:List Pc} (g:Good ps) {j a b:Nat} {m f l:Ms} {x:Str} {st r:List Un} {i:Un} (T:Tx ps j m x f l) (e:ps[j-1]? = some (.fork a b)) (ok:∀ u∈st,OkU ps u) (ne:i ≠ .n j) (u1:yeT i):lbF ps (i::r) (.n j::st)=lbF ps (i::r) (.n a :: .n b::st):=by
 obtain ⟨ma,mb,y,z,fa,la,fb,lb,_,A,B,_,_⟩:=zbj g T e
 have k2:∀ u∈(.n a :: .n b::st:List Un),OkU ps u:=fun u hu=>by
  rcases List.mem_cons.mp hu with rfl | hu
  ·exact .n A
  ·rcases List.mem_cons.mp hu with rfl | hu
   ·exact .n B
   ·exact ok u hu
 have h82:=ybD g k2
 have q:itF ps i (.n j::st)=itF ps i (.n a :: .n b::st):=by
  cases i with
  | n k =>
   have nk : ¬ j=k:=fun z=>ne (by rw [z])
   show topF ps k 90 (.n j::st)=topF ps k 90 (.n a :: .n b::st)
   have q:topF ps k 90 (.n j::st)=topF ps k 89 (.n a :: .n b::st):=by
    show (if j=k then some st else match ps[j-1]? with
     | some (.fork a b)=>topF ps k 89 (.n a :: .n b::st)
     | _=>none)=_
    rw [if_neg nk,e]
   rw [q];exact zdj g 89 90 _ k2 (by lia) (by lia)
  | s w =>
   have w0 : ¬ w = "" := fun z=>by
    have:w.length=1:=u1
    rw [zaQ] at z;lia
   refine ygF w0 ?_
   have q:nxF ps 90 (.n j::st)=nxF ps 89 (.n a :: .n b::st):=by
    show (match ps[j-1]? with
     | some (.fork a b)=>nxF ps 89 (.n a :: .n b::st)
     | some (.leaf z)=>(z,st)
     | none=>("",st))=_
    rw [e]
   rw [q];exact zdO g 89 90 _ k2 (by lia) (by lia)
 show (itF ps i (.n j::st)).bind _=(itF ps i (.n a :: .n b::st)).bind _
 rw [q]
inductive Af where
 | bad
 | out
 | at (r:List Un)
def yb2:List Nat->List Un->Af
 | [],us=>.at us
 | _::_,[]=>.out
 | c::cs,.s w::us=>if w=⟨#[c]⟩ then yb2 cs us else .bad
 | _::_,.n _::_=>.bad
def AfOk (ps:List Pc) (us L st:List Un):Af->Prop
 | .bad=>lbF ps us L=none
 | .out=>∃ s,lbF ps us L=some s/\s≠[]
 | .at r=>lbF ps us L=lbF ps r st/\∀ u∈r,u∈us
theorem yif {ps:List Pc} {z w:Str} {c:Nat} {cs:List Nat} {st:List Un} (ez:z.cps.toList=c::cs) (w1:w.length=1):tkF ps 10 w (.s z::st)=if w=⟨#[c]⟩ then some (psh (dpS z 1) st) else none:=by
 have w0 : ¬ w = "" := fun q=>by rw [zaQ] at q;lia
 have zl:1<=z.length:=by rw [zac,ez,List.length_cons];lia
 have mn:min z.length w.length=1:=by lia
 have tz:tkS z 1=⟨#[c]⟩:=zae (by rw [ybw,ez];rfl)
 have tw:tkS w 1=w:=zae (by rw [ybw,List.take_of_length_le (by rw [<- zac];lia)])
 have dw:dpS w 1 = "" := zae (by rw [ybF,List.drop_of_length_le (by rw [<- zac];lia)];rfl)
 rw [tkF,if_neg w0,nx_s];dsimp only;rw [mn,tz,tw,dw];by_cases q:w=⟨#[c]⟩
 ·rw [if_pos q,if_neg (by rintro (h | h);exact absurd h (by decide);exact h q.symm),tkF,if_pos rfl]
 ·rw [if_neg q,if_pos (.inr (fun h=>q h.symm))]
theorem zgp {ps:List Pc}:∀ (cs:List Nat) (us:List Un) {st:List Un} {z:Str},z.cps.toList=cs->(∀ u∈us,yeT u)->AfOk ps us (psh z st) st (yb2 cs us)
 | [],us,st,z,ez,u1=>by
  have:z = "" := zae (by rw [ez];rfl)
  subst this;have ep:psh "" st=st:=by unfold psh;rw [if_pos rfl]
  rw [ep];exact ⟨rfl,fun u hu=>hu⟩
 | c::cs,[],st,z,ez,u1=>by
  have zn : ¬ z = "" := fun q=>by rw [q] at ez;cases ez
  refine ⟨psh z st,rfl,fun q=>?_⟩
  unfold psh at q
  rw [if_neg zn] at q
  cases q
 | c::cs,.n k::us,st,z,ez,u1=>by
  have zn : ¬ z = "" := fun q=>by rw [q] at ez;cases ez
  show lbF ps (.n k::us) (psh z st)=none
  unfold psh
  rw [if_neg zn];rfl
 | c::cs,.s w::us,st,z,ez,u1=>by
  have zn : ¬ z = "" := fun q=>by rw [q] at ez;cases ez
  have w1:w.length=1:=u1 _ (List.mem_cons_self ..)
  have tk:=yif (ps:=ps) (st:=st) ez w1
  have lb:lbF ps (.s w::us) (psh z st)=(if w=⟨#[c]⟩ then some (psh (dpS z 1) st) else none:Option (List Un)).bind (lbF ps us):=by
   rw [<- tk];unfold psh
   rw [if_neg zn];rfl
  rw [yb2];by_cases q:w=⟨#[c]⟩
  ·rw [if_pos q] at lb ⊢
   have ih:=zgp (ps:=ps) cs us (st:=st) (z:=dpS z 1) (by rw [ybF,ez];rfl) (fun u hu=>u1 u (List.mem_cons_of_mem _ hu))
   have lb':lbF ps (.s w::us) (psh z st)=lbF ps us (psh (dpS z 1) st):=lb
   cases h:yb2 cs us with
   | bad=>rw [h] at ih;exact lb'.trans ih
   | out =>
    rw [h] at ih;obtain ⟨s,a,b⟩:=ih
    exact ⟨s,lb'.trans a,b⟩
   | «at» r =>
    rw [h] at ih;exact ⟨lb'.trans ih.1,fun u hu=>List.mem_cons_of_mem _ (ih.2 u hu)⟩
  ·rw [if_neg q] at lb ⊢
   exact lb
def aft (ps:List Pc):Nat->Nat->List Un->Af
 | 0,_,_=>.bad
 | _+1,_,[]=>.out
 | d+1,t,u::us=>if (match u with | .n k=>decide (k=t) | .s _=>false)=true then .at us else match ps[t-1]? with
  | some (.leaf x)=>yb2 x.cps.toList (u::us)
  | some (.fork a b)=>(match aft ps d a (u::us) with
   | .at r=>aft ps d b r
   | .bad=>.bad
   | .out=>.out)
  | none=>.bad
theorem yf8 (ps:List Pc) (d t:Nat) (u:Un) (us:List Un):aft ps (d+1) t (u::us)=if (match u with | .n k=>decide (k=t) | .s _=>false)=true then .at us else match ps[t-1]? with
  | some (.leaf x)=>yb2 x.cps.toList (u::us)
  | some (.fork a b)=>(match aft ps d a (u::us) with
   | .at r=>aft ps d b r
   | .bad=>.bad
   | .out=>.out)
  | none=>.bad:=by
 cases u<;>rfl
theorem yfc {ps:List Pc} (g:Good ps):∀ (d:Nat) {t:Nat} {m f l:Ms} {x:Str} (us:List Un) {st:List Un},Tx ps t m x f l->m.ht.toNat<d->(∀ u∈st,OkU ps u)->(∀ u∈us,yeT u)->AfOk ps us (.n t::st) st (aft ps d t us)
 | 0,t,m,f,l,x,us,st,T,hd,ok,u1=>absurd hd (Nat.not_lt_zero _)
 | d+1,t,m,f,l,x,[],st,T,hd,ok,u1=>⟨.n t::st,rfl,fun q=>by cases q⟩
 | d+1,t,m,f,l,x,u::us,st,T,hd,ok,u1=>by
  have uu:=u1 u (List.mem_cons_self ..)
  rw [yf8];by_cases q:u = .n t
  ·subst q
   rw [if_pos (by simp)]
   refine ⟨?_,fun v hv=>List.mem_cons_of_mem _ hv⟩
   show (topF ps t 90 (.n t::st)).bind _=_
   have:topF ps t 90 (.n t::st)=some st:=by
    show (if t=t then some st else _)=_
    rw [if_pos rfl]
   rw [this];rfl
  ·rw [if_neg (by
    cases u with
    | n k=>simp;intro z;exact q (by rw [z])
    | s w=>simp)]
   rcases g.kind T with ⟨e,_,_,x1,x8⟩ | ⟨a,b,ma,mb,y,z,fa,la,fb,lb,e,e2,_,A,B,x1,x2,_⟩
   ·rw [e]
    have xn : ¬ x = "" := fun z=>by rw [zaQ] at z;lia
    have eq:lbF ps (u::us) (.n t::st)=lbF ps (u::us) (psh x st):=by
     show (itF ps u (.n t::st)).bind _=(itF ps u (psh x st)).bind _
     have:itF ps u (.n t::st)=itF ps u (psh x st):=by
      cases u with
      | n k =>
       have nk : ¬ t=k:=fun z=>q (by rw [z])
       have r1:topF ps k 90 (.n t::st)=none:=by
        show (if t=k then some st else match ps[t-1]? with
         | some (.fork a b)=>topF ps k 89 (.n a :: .n b::st)
         | _=>none)=_
        rw [if_neg nk,e]
       show topF ps k 90 (.n t::st)=topF ps k 90 (psh x st)
       rw [r1];unfold psh
       rw [if_neg xn];rfl
      | s w =>
       have w0 : ¬ w = "" := fun z=>by
        have:w.length=1:=uu
        rw [zaQ] at z;lia
       refine ygF w0 ?_
       rw [yf3 xn];show (match ps[t-1]? with
        | some (.fork a b)=>nxF ps 89 (.n a :: .n b::st)
        | some (.leaf z)=>(z,st)
        | none=>("",st))=_
       rw [e]
     rw [this]
    have lf:=zgp (ps:=ps) x.cps.toList (u::us) (st:=st) rfl u1
    dsimp only
    cases h:yb2 x.cps.toList (u::us) with
    | bad=>rw [h] at lf;exact eq.trans lf
    | out =>
     rw [h] at lf;obtain ⟨s,a,b⟩:=lf
     exact ⟨s,eq.trans a,b⟩
    | «at» r =>
     rw [h] at lf;exact ⟨eq.trans lf.1,lf.2⟩
   ·rw [e]
    dsimp only;have op:=yie (r:=us) g T e ok q uu
    have hh:m.ht=max ma.ht mb.ht+1:=by rw [x2];rfl
    have a0:=A.ky.ht
    have b0:=B.ky.ht
    have okb:∀ v∈(.n b::st:List Un),OkU ps v:=fun v hv=>by
     rcases List.mem_cons.mp hv with rfl | hv
     ·exact .n B
     ·exact ok v hv
    have ia:=yfc g d (u::us) (st:=.n b::st) A (by lia) okb u1
    cases h:aft ps d a (u::us) with
    | bad=>rw [h] at ia;exact op.trans ia
    | out =>
     rw [h] at ia;obtain ⟨s,c1,c2⟩:=ia
     exact ⟨s,op.trans c1,c2⟩
    | «at» r =>
     rw [h] at ia;have ib:=yfc g d r (st:=st) B (by lia) ok (fun v hv=>u1 v (ia.2 v hv))
     dsimp only;have eq:=op.trans ia.1
     cases h2:aft ps d b r with
     | bad=>rw [h2] at ib;exact eq.trans ib
     | out =>
      rw [h2] at ib;obtain ⟨s,c1,c2⟩:=ib
      exact ⟨s,eq.trans c1,c2⟩
     | «at» r2 =>
      rw [h2] at ib;exact ⟨eq.trans ib.1,fun v hv=>ia.2 v (ib.2 v hv)⟩
abbrev cS (c:Nat):AV:=.str ⟨#[c]⟩
theorem yig (cs:List Nat):(sgl cs).map uv=cs.map cS:=by
 unfold sgl
 rw [List.map_map];rfl
theorem zbO:∀ a b:List Un,yaN (a++b)=yaN a++yaN b
 | [],b=>rfl
 | .n k::a,b=>by rw [List.cons_append,yaN,yaN,zbO a b,List.cons_append]
 | .s w::a,b=>by rw [List.cons_append,yaN,yaN,zbO a b,List.append_assoc]
theorem zcs {ps:List Pc}:∀ {its:List Un},(∀ i∈its,OkI ps i)->(yaN its).length<=8*its.length
 | [],_=>Nat.le_refl _
 | .n k::r,ok=>by
  have:=zcs (its:=r) fun i hi=>ok i (List.mem_cons_of_mem _ hi)
  rw [yaN,List.length_cons,List.length_cons];lia
 | .s w::r,ok=>by
  have:=zcs (its:=r) fun i hi=>ok i (List.mem_cons_of_mem _ hi)
  have w8:w.length<=8:=by
   cases ok _ (List.mem_cons_self ..) with
   | s a=>exact (zao a).2.1
  rw [yaN,List.length_append,List.length_cons,sgl,List.length_map,<- zac];lia
theorem zcN {ps:List Pc}:∀ {its:List Un},(∀ i∈its,OkI ps i)->∀ u∈yaN its,yeT u/\OkI ps u
 | [],_,u,hu=>by cases hu
 | .n k::r,ok,u,hu=>by
  rcases List.mem_cons.mp hu with rfl | hu
  ·exact ⟨trivial,ok _ (List.mem_cons_self ..)⟩
  ·exact zcN (fun i hi=>ok i (List.mem_cons_of_mem _ hi)) u hu
 | .s w::r,ok,u,hu=>by
  rcases List.mem_append.mp hu with hu | hu
  ·have pl:yav w=true:=by
    cases ok _ (List.mem_cons_self ..) with
    | s a=>exact (zao a).2.2
   refine ⟨?_,yfZ w.cps.toList (List.all_eq_true.mp (by simpa [yav] using pl)) u hu⟩
   obtain ⟨c,_,rfl⟩:=List.mem_map.mp hu
   rfl
  ·exact zcN (fun i hi=>ok i (List.mem_cons_of_mem _ hi)) u hu
theorem yfd {h:AH} {R k:Nat} {U:List Un} {u:Un} (eR:h[R]? = some (.lst (U.map uv))) (eu:U[k]? = some u):fIx (.ref R) (.int k) h = .ok (uv u) h:=by
 have:=zeJ (f:=uv) eu
 simp only [fIx,eR,this]
theorem eqi (a b:Int) (h:AH):fEq (.int a) (.int b) h = .ok (.bl (decide (a=b))) h:=by simp
theorem yf9:∀ (c:List Nat) {a b:List Nat},¬ a.take 1=b.take 1->cmN (c++a) (c++b)=c.length
 | [],[],[],h=>absurd rfl h
 | [],[],_::_,_=>rfl
 | [],_::_,[],_=>rfl
 | [],x::a,y::b,h=>by
  show cmN (x::a) (y::b)=0
  rw [cmN,if_neg (fun q=>h (by rw [q];rfl))]
 | x::c,a,b,h=>by
  show cmN (x::(c++a)) (x::(c++b))=c.length+1
  rw [cmN,if_pos rfl,yf9 c h]
end Sk
namespace Sk
open PySem PySem.Spec L2 Sm
theorem lenB {ps:List Pc}:∀ {its:List Un},(∀ i∈its,OkI ps i)->its.length<=(rdS ps its).length
 | [],_=>Nat.zero_le _
 | i::r,ok=>by
  have:=lenB (its:=r) fun j hj=>ok j (List.mem_cons_of_mem _ hj)
  have p:=(ok i (List.mem_cons_self ..)).u.pos
  rw [rdS,List.length_append,List.length_cons];lia
theorem ygN (h:AH):fEq (.str "leaf") (.str "leaf") h = .ok (.bl true) h:=by simp
theorem ygO (h:AH):fEq (.str "fork") (.str "leaf") h = .ok (.bl false) h:=by
 have : ¬ (Str.ofString "fork" = Str.ofString "leaf"):=by decide +kernel
 simp [this]
theorem zcb {h:AH} {p:Nat} {ps:List Pc} (S:ShelfAt h p ps) (g:Good ps):∀ (d:Nat) {t:Nat} {m f l:Ms} {x:Str},Tx ps t m x f l->m.ht.toNat<d->x.length<=100000->yaF d [.ref p,.int t] h = .ok (.str x) h
 | 0,t,m,f,l,x,T,hd,hx=>absurd hd (Nat.not_lt_zero _)
 | d+1,t,m,f,l,x,T,hd,hx=>by
  have ob:=S.ob
  have z:=eqi t 0 h
  rw [decide_eq_false (by have:=T.n1;lia)] at z
  have lt:=ygN h
  have lf:=ygO h
  rcases g.kind T with ⟨e,_⟩ | ⟨a,b,ma,mb,y,w,fa,la,fb,lb,e,e2,_,A,B,x1,x2,_⟩
  ·have fp:=zbd S T.n1 e
   have c0:fIx (Pc.leaf x).av (.int 0) h = .ok (.str "leaf") h:=rfl
   have c1:fIx (Pc.leaf x).av (.int 1) h = .ok (.str x) h:=rfl
   show ycb (yaF d) [.ref p,.int t] h=_
   generalize yaF d=G
   generalize (Pc.leaf x).av=PA at *;simp [ycb,z,ob,fp,c0,c1,lt,-fEq,-fIx]
  ·have fp:=zbd S T.n1 e
   have a0:=A.ky.ht
   have b0:=B.ky.ht
   have hh:m.ht=max ma.ht mb.ht+1:=by rw [x2];rfl
   have ll:y.length+w.length=x.length:=by rw [x1,zap]
   have ia:=zcb S g d A (by lia) (by lia)
   have ib:=zcb S g d B (by lia) (by lia)
   have ad:fAdd (.str y) (.str w) h = .ok (.str x) h:=by
    have:y.length+w.length<=sizeLine:=Nat.le_trans (m:=100000) (by lia) (by decide)
    rw [x1];simp only [fAdd,this,if_true]
   show ycb (yaF d) [.ref p,.int t] h=_
   have c0:fIx (Pc.fork a b).av (.int 0) h = .ok (.str "fork") h:=rfl
   have c1:fIx (Pc.fork a b).av (.int 1) h = .ok (.int a) h:=rfl
   have c2:fIx (Pc.fork a b).av (.int 2) h = .ok (.int b) h:=rfl
   generalize yaF d=G at *;generalize (Pc.fork a b).av=PA at *;simp [ycb,z,ob,fp,c0,c1,c2,lf,ia,ib,ad,-fEq,-fAdd,-fIx]
theorem zeW {h:AH} {p:Nat} {ps:List Pc} (S:ShelfAt h p ps) (g:Good ps) {t:Nat} {x:Str} (T:TxZ ps t x) (hx:x.length<=100000):yaF 90 [.ref p,.int t] h = .ok (.str x) h:=by
 rcases T with ⟨rfl,rfl⟩ | ⟨m,f,l,T⟩
 ·have z:=eqi 0 0 h
  rw [decide_eq_true rfl] at z;show ycb (yaF 89) [.ref p,.int 0] h=_
  generalize yaF 89=G at *;simp [ycb,z,-fEq]
 ·exact zcb S g 90 T (by have:=ht82 g T;lia) hx
theorem zjI {c:Nat} (pc:yc7 c=true) (h:AH):(sOr (yam (ycg fLe fLe (sLit (.str " ")) (sVar 0) (sLit (.str "~")))) (yam (sOp2 fEq (sVar 0) (sLit (.str "\n"))))) [some (.str ⟨#[c]⟩)] h = .ok true h:=by
 have eq:fEq (.str ⟨#[c]⟩) (.str "\n") h = .ok (.bl (decide (c=10))) h:=by
  have:((⟨#[c]⟩:Str)=Str.ofString "\n") ↔ c=10:=by rw [yeZ];simp
  simp [this]
 have l1:fLe (.str " ") (.str ⟨#[c]⟩) h = .ok (.bl (decide (32<=c))) h:=by
  simp only [fLe,yfQ]
  by_cases q:32<=c
  ·have : ¬ ([c]<[32]):=by rw [lt1];lia
   simp [this,q]
  ·have:([c]<[32]):=by rw [lt1];lia
   simp [this,q]
 have l2:fLe (.str ⟨#[c]⟩) (.str "~") h = .ok (.bl (decide (c<=126))) h:=by
  simp only [fLe,yfR]
  by_cases q:c<=126
  ·have : ¬ ([126]<[c]):=by rw [lt1];lia
   simp [this,q]
  ·have:([126]<[c]):=by rw [lt1];lia
   simp [this,q]
 by_cases q:c=10
 ·rw [decide_eq_true q] at eq
  rw [decide_eq_false (by lia)] at l1
  simp [l1,eq,-fLe,-fEq]
 ·have r:32<=c/\c<=126:=by simpa [yc7,q] using pc
  rw [decide_eq_true r.1] at l1;rw [decide_eq_true r.2] at l2;simp [l1,l2,-fLe,-fEq]
theorem fl_n {hh:AH} {ps:List Pc} {R k:Nat} {fs:List AV} {o1 o4:Option AV} (S:ShelfAt hh 0 ps) (eR:hh[R]? = some (.lst fs)) (k1:1<=k) (k2:k<=ps.length) (lf:fs.length<=100000) :
  ybl [some (.ref 0),o1,some (.ref R),some (.int k),o4] hh = .nx [some (.ref 0),o1,some (.ref R),some (.int k),o4] (hh.set R (.lst (fs++[.int k]))):=by
 have ap:yax (.ref R) [.int k] hh = .ok .non (hh.set R (.lst (fs++[.int k]))):=by
  have:fs.length<sizeLine:=Nat.lt_of_le_of_lt lf (by decide)
  simp only [yax,eR,this,if_true]
 have is1:yaB (.ref R) hh=true:=by simp [eR]
 have l1:fLt (.int 0) (.int k) hh = .ok (.bl true) hh:=by simp;lia
 have fm:=ye0 S
 have l2:fLe (.int k) (.int ps.length) hh = .ok (.bl true) hh:=by simp;lia
 have ob:=S.ob
 have wh:ydA [.int k] hh = .ok (.bl true) hh:=by simp [ydA]
 generalize hh.set R (.lst (fs++[.int k]))=HF at *;generalize (ps.length:Int)=PL at *;simp [ybl,wh,l1,ob,fm,l2,is1,ap,-yaB,-yax,-fLt,-fLe]
theorem fl_s {hh:AH} {R:Nat} {fs:List AV} {z:Str} {o1 o4:Option AV} (eR:hh[R]? = some (.lst fs)) (a:ya7 z=true) (lf:fs.length<=100000) :
  ybl [some (.ref 0),o1,some (.ref R),some (.str z),o4] hh = .nx [some (.ref 0),o1,some (.ref hh.length),some (.str z),some (.fl (z.cps.toList.map cS))] (hh++[.lst (fs++z.cps.toList.map cS)]):=by
 obtain ⟨z1,z8,zp⟩:=zao a
 have cp:ybb [] (iVal (sVar 3)) (sOr (yam (ycg fLe fLe (sLit (.str " ")) (sVar 0) (sLit (.str "~")))) (yam (sOp2 fEq (sVar 0) (sLit (.str "\n"))))) (sVar 0) [some (.ref 0),o1,some (.ref R),some (.str z),o4] hh = .ok (.fl (z.cps.toList.map cS)) hh:=by
  have:=zbJ (js:=[]) (en:=[some (.ref 0),o1,some (.ref R),some (.str z),o4]) (w:=none) (all:=z.cps.toList.map cS) (c:=sOr (yam (ycg fLe fLe (sLit (.str " ")) (sVar 0) (sLit (.str "~")))) (yam (sOp2 fEq (sVar 0) (sLit (.str "\n"))))) (e:=sVar 0) (g:=cS) (f:=cS) (p:=fun _=>true) (h:=hh) rfl z.cps.toList []
   (fun c hc=>zjI (List.all_eq_true.mp (by simpa [yav] using zp) c hc) hh) (fun c hc _=>rfl) (by
    rw [<- zac];exact Nat.le_trans (m:=8) (by simp;lia) (by decide))
  rw [List.filter_eq_self.mpr (fun _ _=>rfl),List.nil_append] at this;have it:iVal (sVar 3) [some (.ref 0),o1,some (.ref R),some (.str z),o4] hh = .ok (z.cps.toList.map cS,none) hh:=rfl
  simp only [ybb,it,this]
 have ln:fLen [.str z] hh = .ok (.int z.length) hh:=rfl
 have ln2:fLen [.fl (z.cps.toList.map cS)] hh = .ok (.int z.length) hh:=by simp only [fLen,List.length_map,zac]
 have c1:fLt (.int 0) (.int z.length) hh = .ok (.bl true) hh:=by simp;lia
 have c2:fLt (.int z.length) (.int 9) hh = .ok (.bl true) hh:=by simp;lia
 have c3:fLt (.int z.length) (.int z.length) hh = .ok (.bl false) hh:=by simp
 have ad:yel (.ref R) (.fl (z.cps.toList.map cS)) hh = .ok (.ref hh.length) (hh++[.lst (fs++z.cps.toList.map cS)]):=by
  have:fs.length+(z.cps.toList.map cS).length<=sizeLine:=Nat.le_trans (m:=100008) (by rw [List.length_map,<- zac];lia) (by decide)
  simp only [yel,yb8,eR]
  rw [if_pos this]
 unfold ybl
 generalize ybb [] (iVal (sVar 3)) (sOr (yam (ycg fLe fLe (sLit (.str " ")) (sVar 0) (sLit (.str "~")))) (yam (sOp2 fEq (sVar 0) (sLit (.str "\n"))))) (sVar 0)=CM at *;generalize z.cps.toList.map cS=ZS at *;generalize hh++[.lst (fs++ZS)]=HF at *;generalize (z.length:Int)=ZL at *;generalize hh.length=HL at *;simp [cp,ln,ln2,c1,c2,c3,ad,-fLen,-fLt,-yel]
theorem yih {h:AH} {ps:List Pc} {I:Nat} {its:List Un} (S:ShelfAt h 0 ps) (eI:h[I]? = some (.lst (its.map uv))) (oi:∀ i∈its,OkI ps i) (hl:its.length<=1000) :
  ∃ (r:AH) (R:Nat),ydM [.ref 0,.ref I] h = .ok (.ref R) (h++r)/\(h++r)[R]? = some (.lst ((yaN its).map uv)):=by
 have kp:∀ (r:AH) (i:Nat),i<h.length->(h++r)[i]? = h[i]? := fun r i hi=>List.getElem?_append_left hi
 have Il:=yaS eI
 obtain ⟨e',h',r1,r2⟩:=yem (w:=some I) (all:=its.map uv) (t:=.nm 3) (b:=ybl) (xs:=its.map uv) (en:=[some (.ref 0),some (.ref I),some (.ref h.length),none,none]) (h:=h++[.lst []])
  (fun j en hh=>(∃ r,hh=h++r)/\(j<=its.length->∃ (o3 o4:Option AV) (R:Nat),h.length<=R/\en=[some (.ref 0),some (.ref I),some (.ref R),o3,o4]/\hh[R]? = some (.lst ((yaN (its.take j)).map uv))))
  ⟨⟨_,rfl⟩,fun _=>⟨none,none,h.length,Nat.le_refl _,rfl,by simp [yaN]⟩⟩ (fun _ _ _ p=>by
   obtain ⟨⟨r,rfl⟩,_⟩:=p
   simp [kp r I Il,eI]) (by
   rintro j u en hh hu ⟨⟨r,rfl⟩,p2⟩
   rw [List.getElem?_map] at hu;obtain ⟨i,ei,rfl⟩:=Option.map_eq_some_iff.mp hu
   have hj:=(List.getElem?_eq_some_iff.mp ei).1
   obtain ⟨o3,o4,R,hR,rfl,eR⟩:=p2 (by lia)
   have oki:=oi i (List.mem_of_getElem? ei)
   have tk:its.take (j+1)=its.take j++[i]:=by rw [List.take_succ,ei];rfl
   have lf:((yaN (its.take j)).map uv).length<=100000:=by
    have:=zcs (its:=its.take j) fun i hi=>oi i (List.mem_of_mem_take hi)
    rw [List.length_map];rw [List.length_take] at this;lia
   cases oki with
   | @n k m f l x T =>
    have ev:=fl_n (o1:=some (.ref I)) (o4:=o4) (S.app r) eR T.n1 T.le lf
    show thn (ybl [some (.ref 0),some (.ref I),some (.ref R),some (.int k),o4] _) _
    rw [ev];obtain ⟨r',er'⟩:=zdT (h:=h) (h' := (h++r).set R (.lst ((yaN (its.take j)).map uv++[.int k]))) (fun i hi=>by rw [List.getElem?_set_ne (by lia),kp r i hi]) (by rw [List.length_set,List.length_append];lia)
    refine ⟨⟨r',er'⟩,fun _=>⟨_,_,R,hR,rfl,?_⟩⟩
    rw [List.getElem?_set_self (yaS eR),tk,zbO,List.map_append];rfl
   | @s z a =>
    have ev:=fl_s (o1:=some (.ref I)) (o4:=o4) eR a lf
    show thn (ybl [some (.ref 0),some (.ref I),some (.ref R),some (.str z),o4] _) _
    rw [ev];refine ⟨⟨_,List.append_assoc ..⟩,fun _=>⟨_,_,(h++r).length,by rw [List.length_append];lia,rfl,?_⟩⟩
    rw [tk,zbO,List.map_append,yaN,yaN,List.append_nil,yig];simp)
 rw [List.length_map] at r2;obtain ⟨⟨r,rfl⟩,r2⟩:=r2
 obtain ⟨o3,o4,R,hR,rfl,eR⟩:=r2 (Nat.le_refl _)
 rw [List.take_length] at eR;have it:iVal (sVar 1) [some (.ref 0),some (.ref I),some (.ref h.length),none,none] (h++[.lst []]) = .ok (its.map uv,some I) (h++[.lst []]):=by
  have:=(kp [.lst []] I Il).trans eI
  simp [this]
 have l1:=(ydS (t:=.nm 3) (b:=ybl) it).trans r1
 refine ⟨r,R,?_,eR⟩
 clear r1 it eR eI S;unfold ydM
 generalize sFor (iVal (sVar 1)) (.nm 3) ybl=L1 at *;generalize h++r=H2 at *;simp [l1]
end Sk
namespace Sk
open PySem PySem.Spec L2 Sm
def AfM (U:List Un) (h:AH) (a:Af) (o:Out AV):Prop:=match a with
 | .bad=>o = .ok .non h
 | .out=>o = .ok (.int ((U.length+1:Nat):Int)) h
 | .at r=>∃ k:Nat,k<=U.length/\r=U.drop k/\o = .ok (.int k) h
theorem zgq:∀ (cs:List Nat) (us r:List Un),yb2 cs us = .at r->r=us.drop cs.length/\cs.length<=us.length
 | [],us,r,q=>by
  rw [yb2] at q
  cases q
  exact ⟨rfl,Nat.zero_le _⟩
 | c::cs,[],r,q=>by rw [yb2] at q;cases q
 | c::cs,.n k::us,r,q=>by rw [yb2] at q;cases q
 | c::cs,.s w::us,r,q=>by
  rw [yb2] at q;by_cases z:w=⟨#[c]⟩
  ·rw [if_pos z] at q
   obtain ⟨a,b⟩:=zgq cs us r q
   exact ⟨a,by rw [List.length_cons,List.length_cons];lia⟩
  ·rw [if_neg z] at q;cases q
theorem zgr {U:List Un} {k:Nat} {u:Un} (e:U[k]? = some u):U.drop k=u::U.drop (k+1):=by
 have hk:=(List.getElem?_eq_some_iff.mp e).1
 rw [List.drop_eq_getElem_cons hk];congr 1
 exact (List.getElem?_eq_some_iff.mp e).2
abbrev eM (p:Nat) (t:Option AV) (R k:Nat) (o4 o5 o6 o7:Option AV):En:=[some (.ref p),t,some (.ref R),some (.int k),o4,o5,o6,o7]
theorem yii {h:AH} {p R k i c:Nat} {U:List Un} {t o4 o7:Option AV} (eR:h[R]? = some (.lst (U.map uv))) :
  (U.length<=k+i->yaI (eM p t R k o4 (some (.int i)) (some (.str ⟨#[c]⟩)) o7) h = .rt (.int ((U.length+1:Nat):Int)) h) /\
  (∀ u,U[k+i]? = some u->u ≠ .s ⟨#[c]⟩->yaI (eM p t R k o4 (some (.int i)) (some (.str ⟨#[c]⟩)) o7) h = .rt .non h) /\
  (U[k+i]? = some (.s ⟨#[c]⟩)->yaI (eM p t R k o4 (some (.int i)) (some (.str ⟨#[c]⟩)) o7) h = .nx (eM p t R k o4 (some (.int i)) (some (.str ⟨#[c]⟩)) o7) h):=by
 have ln:fLen [.ref R] h = .ok (.int U.length) h:=by simp only [fLen,eR,List.length_map]
 have ad:fAdd (.int k) (.int i) h = .ok (.int ((k+i:Nat):Int)) h:=rfl
 have ad1:fAdd (.int U.length) (.int 1) h = .ok (.int ((U.length+1:Nat):Int)) h:=rfl
 have ge:fGe (.int ((k+i:Nat):Int)) (.int U.length) h = .ok (.bl (decide (U.length<=k+i))) h:=by
  show Out.ok (AV.bl (decide (((k+i:Nat):Int) ≥ U.length))) h=_
  congr 2
  exact decide_eq_decide.mpr (by lia)
 refine ⟨fun q=>?_,fun u eu nu=>?_,fun eu=>?_⟩
 ·rw [decide_eq_true q] at ge
  generalize ((U.length+1:Nat):Int)=U1 at *;generalize (U.length:Int)=U0 at *;generalize ((k+i:Nat):Int)=KI at *;simp [yaI,ad,ln,ge,ad1,-fAdd,-fLen,-fGe]
 ·have hk:=(List.getElem?_eq_some_iff.mp eu).1
  rw [decide_eq_false (by lia)] at ge
  have ix:=yfd eR eu
  obtain ⟨b,n1,n2⟩:=ygJ u (.s ⟨#[c]⟩) h
  have nb:b=true:=by
   cases b with
   | true=>rfl
   | false=>exact absurd (n2.mp rfl) nu
  subst nb;have n1':fNe (uv u) (.str ⟨#[c]⟩) h = .ok (.bl true) h:=n1
  generalize uv u=UU at *;generalize ((U.length+1:Nat):Int)=U1 at *;generalize (U.length:Int)=U0 at *;generalize ((k+i:Nat):Int)=KI at *;simp [yaI,ad,ln,ge,ix,n1',-fAdd,-fLen,-fGe,-fIx,-fNe]
 ·have hk:=(List.getElem?_eq_some_iff.mp eu).1
  rw [decide_eq_false (by lia)] at ge
  have ix:=yfd eR eu
  have ix':fIx (.ref R) (.int ((k+i:Nat):Int)) h = .ok (.str ⟨#[c]⟩) h:=ix
  have n1:fNe (.str ⟨#[c]⟩) (.str ⟨#[c]⟩) h = .ok (.bl false) h:=by simp
  generalize ((U.length+1:Nat):Int)=U1 at *;generalize (U.length:Int)=U0 at *;generalize ((k+i:Nat):Int)=KI at *;simp [yaI,ad,ln,ge,ix',n1,-fAdd,-fLen,-fGe,-fIx,-fNe]
theorem yga {h:AH} {p R k:Nat} {U:List Un} {t o4 o7:Option AV} {all:List AV} (eR:h[R]? = some (.lst (U.map uv))):∀ (cs:List Nat) (i:Nat) (o5 o6:Option AV),k+i<=U.length ->
  (match yb2 cs (U.drop (k+i)) with
  | .bad=>ybp none all (.tup [5,6]) yaI (Sm.numbered i (cs.map cS)) (eM p t R k o4 o5 o6 o7) h = .rt .non h
  | .out=>ybp none all (.tup [5,6]) yaI (Sm.numbered i (cs.map cS)) (eM p t R k o4 o5 o6 o7) h = .rt (.int ((U.length+1:Nat):Int)) h
  | .at _=>∃ o5' o6',ybp none all (.tup [5,6]) yaI (Sm.numbered i (cs.map cS)) (eM p t R k o4 o5 o6 o7) h = .nx (eM p t R k o4 o5' o6' o7) h)
 | [],i,o5,o6,hk=>⟨o5,o6,rfl⟩
 | c::cs,i,o5,o6,hk=>by
  obtain ⟨s1,s2,s3⟩:=yii (p:=p) (t:=t) (o4:=o4) (o7:=o7) (k:=k) (i:=i) (c:=c) eR
  have st:setT (.tup [5,6]) (.tup [.int i,cS c]) (eM p t R k o4 o5 o6 o7)=some (eM p t R k o4 (some (.int i)) (some (.str ⟨#[c]⟩)) o7):=rfl
  have un:∀ o:OutS,yaI (eM p t R k o4 (some (.int i)) (some (.str ⟨#[c]⟩)) o7) h=o->ybp none all (.tup [5,6]) yaI (Sm.numbered i ((c::cs).map cS)) (eM p t R k o4 o5 o6 o7) h=(match o with
    | .nx e2 h2=>ybp none all (.tup [5,6]) yaI (Sm.numbered (i+1) (cs.map cS)) e2 h2
    | .ct e2 h2=>ybp none all (.tup [5,6]) yaI (Sm.numbered (i+1) (cs.map cS)) e2 h2
    | .bk e2 h2=>.nx e2 h2
    | .rt v h2=>.rt v h2
    | _=>.bad):=fun o eo=>by
   rw [List.map_cons,Sm.numbered];conv=>lhs;unfold ybp
   rw [if_pos (show yct none all h=true from rfl),st];dsimp only;rw [eo]
   all_goals (cases o<;>rfl)
  by_cases q:k+i=U.length
  ·have e:U.drop (k+i)=[]:=by rw [q,List.drop_length]
   rw [e,yb2];exact un _ (s1 (by lia))
  ·have hk':k+i<U.length:=by lia
   obtain ⟨u,eu⟩:∃ u,U[k+i]? = some u:=⟨_,List.getElem?_eq_getElem hk'⟩
   rw [zgr eu]
   cases u with
   | n j =>
    rw [yb2];exact un _ (s2 _ eu (fun z=>by cases z))
   | s w =>
    rw [yb2];by_cases z:w=⟨#[c]⟩
    ·subst z
     rw [if_pos rfl];have ih:=yga (p:=p) (t:=t) (o4:=o4) (o7:=o7) (all:=all) (k:=k) eR cs (i+1) (some (.int i)) (some (.str ⟨#[c]⟩)) (by lia)
     have go:=un _ (s3 eu)
     dsimp only at go
     rw [show k+i+1=k+(i+1) by lia]
     cases lm:yb2 cs (U.drop (k+(i+1))) with
     | bad=>rw [lm] at ih;exact go.trans ih
     | out=>rw [lm] at ih;exact go.trans ih
     | «at» r =>
      rw [lm] at ih;obtain ⟨o5',o6',e⟩:=ih
      exact ⟨o5',o6',go.trans e⟩
    ·rw [if_neg z]
     exact un _ (s2 _ eu (fun y=>by cases y;exact z rfl))
theorem yi5 {h:AH} {p t R d k:Nat} {U:List Un} (eR:h[R]? = some (.lst (U.map uv))) (hk:U.length<=k):yay (d+1) [.ref p,.int t,.ref R,.int k] h = .ok (.int ((U.length+1:Nat):Int)) h:=by
 have ln:fLen [.ref R] h = .ok (.int U.length) h:=by simp only [fLen,eR,List.length_map]
 have ad1:fAdd (.int U.length) (.int 1) h = .ok (.int ((U.length+1:Nat):Int)) h:=rfl
 have ge:fGe (.int k) (.int U.length) h = .ok (.bl true) h:=by simp;lia
 show yaR (yay d) _ h=_
 generalize yay d=G
 generalize ((U.length+1:Nat):Int)=U1 at *;generalize (U.length:Int)=U0 at *;simp [yaR,ln,ge,ad1,-fLen,-fGe,-fAdd]
theorem zdV {h:AH} {p R:Nat} {ps:List Pc} {U:List Un} (S:ShelfAt h p ps) (g:Good ps) (eR:h[R]? = some (.lst (U.map uv))):∀ (d:Nat) {t:Nat} {m f l:Ms} {x:Str},Tx ps t m x f l->m.ht.toNat<d->∀ k,k<=U.length ->
  AfM U h (aft ps d t (U.drop k)) (yay d [.ref p,.int t,.ref R,.int k] h)
 | 0,t,m,f,l,x,T,hd,k,hk=>absurd hd (Nat.not_lt_zero _)
 | d+1,t,m,f,l,x,T,hd,k,hk=>by
  by_cases q:k=U.length
  ·subst q
   rw [List.drop_length];exact yi5 eR (Nat.le_refl _)
  ·have hk':k<U.length:=by lia
   obtain ⟨u,eu⟩:∃ u,U[k]? = some u:=⟨_,List.getElem?_eq_getElem hk'⟩
   have ed:=zgr eu
   have ln:fLen [.ref R] h = .ok (.int U.length) h:=by simp only [fLen,eR,List.length_map]
   have ge:fGe (.int k) (.int U.length) h = .ok (.bl false) h:=by simp;lia
   have ix:=yfd eR eu
   have ob:=S.ob
   rw [ed,yf8];by_cases z:u = .n t
   ·subst z
    rw [if_pos (by simp)]
    refine ⟨k+1,by lia,rfl,?_⟩
    have ix':fIx (.ref R) (.int k) h = .ok (.int t) h:=ix
    have q2:=eqi t t h
    rw [decide_eq_true rfl] at q2;have ad:fAdd (.int k) (.int 1) h = .ok (.int ((k+1:Nat):Int)) h:=rfl
    show yaR (yay d) _ h=_
    generalize yay d=G
    generalize (U.length:Int)=U0 at *;generalize ((k+1:Nat):Int)=K1 at *;simp [yaR,ln,ge,ix',q2,ad,-fLen,-fGe,-fAdd,-fIx,-fEq]
   ·have q2:fEq (uv u) (.int t) h = .ok (.bl false) h:=by
     cases u with
     | n j =>
      have:=eqi j t h
      rw [decide_eq_false (fun y=>z (by congr 1;lia))] at this
      exact this
     | s w =>
      simp [toD,PyData.eqv]
    rw [if_neg (by
     cases u with
     | n j=>simp;intro y;exact z (by rw [y])
     | s w=>simp)]
    have lt:=ygN h
    have lf:=ygO h
    rcases g.kind T with ⟨e,_,_,x1,x8⟩ | ⟨a,b,ma,mb,y,w,fa,la,fb,lb,e,e2,_,A,B,x1,x2,_⟩
    ·rw [e]
     dsimp only;rw [<- ed];have fp:=zbd S T.n1 e
     have c0:fIx (Pc.leaf x).av (.int 0) h = .ok (.str "leaf") h:=rfl
     have c1:fIx (Pc.leaf x).av (.int 1) h = .ok (.str x) h:=rfl
     have lx:fLen [.str x] h = .ok (.int x.length) h:=rfl
     have lp:=yga (p:=p) (t:=some (.int t)) (o4:=some (Pc.leaf x).av) (o7:=none) (all:=Sm.numbered 0 (x.cps.toList.map cS)) (k:=k) eR x.cps.toList 0 none none (by lia)
     rw [Nat.add_zero] at lp;have it:ydR (sOp2 fIx (sVar 4) (sLit (.int 1))) (eM p (some (.int t)) R k (some (Pc.leaf x).av) none none none) h = .ok (Sm.numbered 0 (x.cps.toList.map cS),none) h:=by
      generalize (Pc.leaf x).av=PA at *;simp [c1,yeg,-fIx]
     have fo:=ydS (t:=.tup [5,6]) (b:=yaI) it
     show AfM U h _ (yaR (yay d) [.ref p,.int t,.ref R,.int k] h)
     generalize yay d=G
     cases lm:yb2 x.cps.toList (U.drop k) with
     | bad =>
      rw [lm] at lp;have f1:=fo.trans lp
      simp only [eM] at f1
      show yaR G _ h = .ok .non h
      unfold yaR
      generalize sFor (ydR (sOp2 fIx (sVar 4) (sLit (.int 1)))) (.tup [5,6]) yaI=FF at *;generalize (Pc.leaf x).av=PA at *;generalize uv u=UU at *;generalize (U.length:Int)=U0 at *;simp [ln,ge,ix,q2,ob,fp,c0,lt,f1,-fLen,-fGe,-fAdd,-fIx,-fEq]
     | out =>
      rw [lm] at lp;have f1:=fo.trans lp
      simp only [eM] at f1
      show yaR G _ h = .ok (.int ((U.length+1:Nat):Int)) h
      unfold yaR
      generalize sFor (ydR (sOp2 fIx (sVar 4) (sLit (.int 1)))) (.tup [5,6]) yaI=FF at *;generalize (Pc.leaf x).av=PA at *;generalize uv u=UU at *;generalize ((U.length+1:Nat):Int)=U1 at *;generalize (U.length:Int)=U0 at *;simp [ln,ge,ix,q2,ob,fp,c0,lt,f1,-fLen,-fGe,-fAdd,-fIx,-fEq]
     | «at» r =>
      rw [lm] at lp;obtain ⟨o5,o6,lp⟩:=lp
      have f1:=fo.trans lp
      simp only [eM] at f1
      obtain ⟨r1,r2⟩:=zgq _ _ _ lm
      rw [List.length_drop,<- zac] at r2;refine ⟨k+x.length,by lia,by rw [r1,List.drop_drop,<- zac],?_⟩
      have ad:fAdd (.int k) (.int x.length) h = .ok (.int ((k+x.length:Nat):Int)) h:=rfl
      unfold yaR
      generalize sFor (ydR (sOp2 fIx (sVar 4) (sLit (.int 1)))) (.tup [5,6]) yaI=FF at *;generalize (Pc.leaf x).av=PA at *;generalize uv u=UU at *;generalize ((k+x.length:Nat):Int)=K1 at *;generalize (x.length:Int)=XL at *;generalize (U.length:Int)=U0 at *;simp [ln,ge,ix,q2,ob,fp,c0,c1,lt,f1,lx,ad,-fLen,-fGe,-fAdd,-fIx,-fEq]
    ·rw [e]
     dsimp only;have fp:=zbd S T.n1 e
     have c0:fIx (Pc.fork a b).av (.int 0) h = .ok (.str "fork") h:=rfl
     have c1:fIx (Pc.fork a b).av (.int 1) h = .ok (.int a) h:=rfl
     have c2:fIx (Pc.fork a b).av (.int 2) h = .ok (.int b) h:=rfl
     have hh:m.ht=max ma.ht mb.ht+1:=by rw [x2];rfl
     have a0:=A.ky.ht
     have b0:=B.ky.ht
     have ia:=zdV S g eR d A (by lia) k hk
     rw [ed] at ia;show AfM U h _ (yaR (yay d) [.ref p,.int t,.ref R,.int k] h)
     cases h1:aft ps d a (u::U.drop (k+1)) with
     | bad =>
      rw [h1] at ia;have ia':yay d [.ref p,.int a,.ref R,.int k] h = .ok .non h:=ia
      have isn:fIsN .non .non h = .ok (.bl true) h:=by simp
      show yaR (yay d) _ h = .ok .non h
      generalize yay d=G at *;generalize (Pc.fork a b).av=PA at *;generalize uv u=UU at *;generalize (U.length:Int)=U0 at *;simp [yaR,ln,ge,ix,q2,ob,fp,c0,c1,lf,ia',isn,-fLen,-fGe,-fAdd,-fIx,-fEq,-fIsN]
     | out =>
      rw [h1] at ia;have ia':yay d [.ref p,.int a,.ref R,.int k] h = .ok (.int ((U.length+1:Nat):Int)) h:=ia
      have isn:fIsN (.int ((U.length+1:Nat):Int)) .non h = .ok (.bl false) h:=by simp
      have gt:fGt (.int ((U.length+1:Nat):Int)) (.int U.length) h = .ok (.bl true) h:=by simp;lia
      show yaR (yay d) _ h = .ok (.int ((U.length+1:Nat):Int)) h
      generalize yay d=G at *;generalize (Pc.fork a b).av=PA at *;generalize uv u=UU at *;generalize ((U.length+1:Nat):Int)=U1 at *;generalize (U.length:Int)=U0 at *;simp [yaR,ln,ge,ix,q2,ob,fp,c0,c1,lf,ia',isn,gt,-fLen,-fGe,-fGt,-fAdd,-fIx,-fEq,-fIsN]
     | «at» r =>
      rw [h1] at ia;obtain ⟨k',k1,rfl,k2⟩:=ia
      have ib:=zdV S g eR d B (by lia) k' k1
      dsimp only;have isn:fIsN (.int k') .non h = .ok (.bl false) h:=by simp
      have gt:fGt (.int k') (.int U.length) h = .ok (.bl false) h:=by simp;lia
      have ev:yaR (yay d) [.ref p,.int t,.ref R,.int k] h=yay d [.ref p,.int b,.ref R,.int k'] h:=by
       generalize yay d=G at *;generalize hX:G [.ref p,.int b,.ref R,.int k'] h=X
       generalize (Pc.fork a b).av=PA at *;generalize uv u=UU at *;generalize (U.length:Int)=U0 at *;simp [yaR,ln,ge,ix,q2,ob,fp,c0,c1,c2,lf,k2,isn,gt,hX,-fLen,-fGe,-fGt,-fAdd,-fIx,-fEq,-fIsN]
       cases X<;>rfl
      rw [ev];exact ib
end Sk
namespace Sk
open PySem PySem.Spec L2 Sm
theorem zgs {ps:List Pc} {its s:List Un} (oi:∀ i∈its,OkI ps i) (e:lbF ps its []=some s):its=[]/\s=[]:=by
 cases its with
 | nil=>cases e;exact ⟨rfl,rfl⟩
 | cons i r =>
  have:(itF ps i []).bind (lbF ps r)=some s:=e
  rw [yh4 (oi i (List.mem_cons_self ..))] at this
  cases this
theorem eqU0 {h:AH} {R:Nat} {U:List Un} (e:h[R]? = some (.lst (U.map uv))):fEq (.ref R) (.fl []) h = .ok (.bl (decide (U=[]))) h:=by
 have:=ygD (st:=U.reverse) (by rw [List.reverse_reverse];exact e)
 rw [this];congr 2
 exact decide_eq_decide.mpr (by simp)
theorem zgt {h:AH} {ps:List Pc} {I t:Nat} {its s1:List Un} {x:Str} (S:ShelfAt h 0 ps) (g:Good ps) (eI:h[I]? = some (.lst (its.map uv))) (oi:∀ i∈its,OkI ps i) (hl:its.length<=1000) (T:TxZ ps t x) (lb:lbF ps its (zs t)=some s1) :
  ∃ r:AH,ybC [.ref 0,.int t,.ref I] h = .ok (.tup [.bl true,.bl (decide (s1=[]))]) (h++r):=by
 obtain ⟨r,R,f1,eR⟩:=yih S eI oi hl
 refine ⟨r,?_⟩
 have S1:=S.app r
 generalize h++r=H at *;have isn:fIsN (.ref R) .non H = .ok (.bl false) H:=by simp
 rcases T with ⟨rfl,rfl⟩ | ⟨m,f,l,T⟩
 ·rw [zs_0] at lb
  obtain ⟨rfl,rfl⟩:=zgs oi lb
  have q:=eqU0 eR
  have q':fEq (.ref R) (.fl []) H = .ok (.bl true) H:=q
  have z:=eqi 0 0 H
  rw [decide_eq_true rfl] at z;simp [ybC,f1,isn,z,q',-fEq,-fIsN]
 ·have z:=eqi t 0 H
  rw [decide_eq_false (by have:=T.n1;lia)] at z
  have ou:∀ u∈([.n t]:List Un),OkU ps u:=fun u hu=>by
   rw [List.mem_singleton] at hu;subst hu;exact .n T
  rw [yeS T,zdU g its ou oi] at lb;have M:=zdV S1 g eR 90 T (by have:=ht82 g T;lia) 0 (Nat.zero_le _)
  rw [List.drop_zero] at M;have ok:=yfc g 90 (yaN its) (st:=[]) T (by have:=ht82 g T;lia) (fun u hu=>by cases hu) (fun u hu=>(zcN oi u hu).1)
  have oU:=fun u hu=>(zcN oi u hu).2
  have ln:fLen [.ref R] H = .ok (.int (yaN its).length) H:=by simp only [fLen,eR,List.length_map]
  cases a:aft ps 90 t (yaN its) with
  | bad =>
   rw [a] at ok;have ok':lbF ps (yaN its) [.n t]=none:=ok
   rw [ok'] at lb
   cases lb
  | out =>
   rw [a] at ok M;obtain ⟨s,e,ne⟩:=ok
   rw [e] at lb
   cases lb
   have M':yay 90 [.ref 0,.int t,.ref R,.int 0] H = .ok (.int (((yaN its).length+1:Nat):Int)) H:=M
   rw [decide_eq_false ne];have nn:yd5 (.int (((yaN its).length+1:Nat):Int)) .non H = .ok (.bl true) H:=by simp
   have ge:fGe (.int (((yaN its).length+1:Nat):Int)) (.int (yaN its).length) H = .ok (.bl true) H:=by simp;lia
   have q:=eqi (((yaN its).length+1:Nat):Int) (yaN its).length H
   rw [decide_eq_false (by lia)] at q
   generalize (((yaN its).length+1:Nat):Int)=U1 at *;generalize ((yaN its).length:Int)=U0 at *;unfold ybC
   generalize yay 90=G at *;simp [f1,isn,z,M',nn,ge,ln,q,-fEq,-fIsN,-yd5,-fGe,-fLen]
  | «at» r2 =>
   rw [a] at ok M;have o1:lbF ps (yaN its) [.n t]=lbF ps r2 []:=ok.1
   rw [o1] at lb;obtain ⟨rfl,rfl⟩:=zgs (fun i hi=>oU i (ok.2 i hi)) lb
   obtain ⟨k,k1,k2,k3⟩:=M
   have hk:k=(yaN its).length:=by
    have:=congrArg List.length k2
    rw [List.length_drop] at this;have z0:([]:List Un).length=0:=rfl
    lia
   subst hk;have k3':yay 90 [.ref 0,.int t,.ref R,.int 0] H = .ok (.int (yaN its).length) H:=k3
   have nn:yd5 (.int (yaN its).length) .non H = .ok (.bl true) H:=by simp
   have ge:fGe (.int (yaN its).length) (.int (yaN its).length) H = .ok (.bl true) H:=by simp
   have q:=eqi (yaN its).length (yaN its).length H
   rw [decide_eq_true rfl] at q;generalize ((yaN its).length:Int)=U0 at *;unfold ybC
   generalize yay 90=G at *;simp [f1,isn,z,k3',nn,ge,ln,q,-fEq,-fIsN,-yd5,-fGe,-fLen]
def rdT (ps:List Pc):Un->Str
 | .n k=>((reads ps)[k]?).getD ""
 | .s z=>z
theorem ygP {ps:List Pc} {k:Nat} {m f l:Ms} {x:Str} (T:Tx ps k m x f l):rdT ps (.n k)=x:=by
 show ((reads ps)[k]?).getD "" = x
 rw [T.rd];rfl
theorem zeX:∀ l:List Str,yed (l.map AV.str)=some l
 | []=>rfl
 | x::l=>by simp [zeX l]
theorem zgu {ps:List Pc}:∀ {its:List Un},(∀ i∈its,OkI ps i)->((its.map (rdT ps)).map fun x:Str=>x.cps.toList).flatten=rdS ps its
 | [],_=>rfl
 | i::r,ok=>by
  have ih:=zgu (its:=r) fun j hj=>ok j (List.mem_cons_of_mem _ hj)
  rw [List.map_cons,List.map_cons,List.flatten_cons,ih,rdS];congr 1
  cases ok i (List.mem_cons_self ..) with
  | n T=>rw [ygP T,ycR T]
  | s a=>rfl
theorem ygb {ps:List Pc}:∀ {its:List Un} {i:Un},i∈its->(rdU ps i).length<=(rdS ps its).length
 | j::r,i,hi=>by
  rw [rdS,List.length_append];rcases List.mem_cons.mp hi with rfl | hi
  ·lia
  ·have:=ygb (ps:=ps) hi
   lia
theorem ziz {h:AH} {ps:List Pc} {I:Nat} {its:List Un} (S:ShelfAt h 0 ps) (g:Good ps) (eI:h[I]? = some (.lst (its.map uv))) (oi:∀ i∈its,OkI ps i) (hl:(rdS ps its).length<=1000) :
  ∃ w:Str,ydB [.ref 0,.ref I] h = .ok (.str w) h/\w.cps.toList=rdS ps its:=by
 have ll:=lenB oi
 have cp:=zeI (js:=[0]) (en:=[some (.ref 0),some (.ref I)]) (w:=some I) (all:=its.map uv) (e:=sIfE (ybi (sIsB "str" (sVar 0))) (sVar 0) (yae (yaF 90) (yab (sVar 1) (yab (sVar 0) sNil)))) (g:=uv) (f:=fun i=>AV.str (rdT ps i)) (h:=h) (by simp [eI]) its [] (by
  intro i hi
  have ul:=ygb (ps:=ps) hi
  cases oi i hi with
  | @n k m f l x T =>
   rw [ycR T,<- zac] at ul;have rr:=zcb S g 90 T (by have:=ht82 g T;lia) (by lia)
   rw [ygP T];show (sIfE (ybi (sIsB "str" (sVar 0))) (sVar 0) (yae (yaF 90) (yab (sVar 1) (yab (sVar 0) sNil)))) [some (.int k),some (.ref 0)] h=_
   generalize yaF 90=G at *;simp [rr]
  | @s z a =>
   show (sIfE (ybi (sIsB "str" (sVar 0))) (sVar 0) (yae (yaF 90) (yab (sVar 1) (yab (sVar 0) sNil)))) [some (.str z),some (.ref 0)] h=_
   generalize yaF 90=G
   simp [rdT]) (Nat.le_trans (m:=1000) (by simp;lia) (by decide))
 rw [List.nil_append] at cp;have cc:ybb [0] (iVal (sVar 1)) sYes (sIfE (ybi (sIsB "str" (sVar 0))) (sVar 0) (yae (yaF 90) (yab (sVar 1) (yab (sVar 0) sNil)))) [some (.ref 0),some (.ref I)] h = .ok (.fl (its.map fun i=>AV.str (rdT ps i))) h:=by
  have it:iVal (sVar 1) [some (.ref 0),some (.ref I)] h = .ok (its.map uv,some I) h:=by simp [eI]
  simp only [ybb,it,cp]
 have e2:(its.map fun i=>AV.str (rdT ps i))=(its.map (rdT ps)).map AV.str:=by rw [List.map_map];rfl
 rw [e2] at cc;refine ⟨⟨(rdS ps its).toArray⟩,?_,by simp⟩
 have jn:yei (.str "") [.fl ((its.map (rdT ps)).map AV.str)] h = .ok (.str ⟨(rdS ps its).toArray⟩) h:=by
  have e:(Str.ofString "")=Str.empty:=by decide +kernel
  unfold yei
  simp only [e,if_true,yb8,zeX,zgu oi]
  rw [if_pos (Nat.le_trans hl (by decide))]
 unfold ydB
 generalize ybb [0] (iVal (sVar 1)) sYes (sIfE (ybi (sIsB "str" (sVar 0))) (sVar 0) (yae (yaF 90) (yab (sVar 1) (yab (sVar 0) sNil))))=CC at *;generalize (its.map (rdT ps)).map AV.str=ZZ at *;simp [cc,jn,-yei]
end Sk
namespace Sk
open PySem PySem.Spec L2 Sm
theorem yeH (n:Nat) (h:AH):∀ l:List Un,toDs (toD (n+1) h) (l.map uv)=some (l.map ud)
 | []=>rfl
 | .n k::l=>by
  have e:toD (n+1) h (.int k)=some (.int k):=rfl
  show (match toD (n+1) h (.int k),toDs (toD (n+1) h) (l.map uv) with | some d,some ds=>some (d::ds) | _,_=>none)=_
  rw [e,yeH n h l];rfl
 | .s z::l=>by
  have e:toD (n+1) h (.str z)=some (.str z):=rfl
  show (match toD (n+1) h (.str z),toDs (toD (n+1) h) (l.map uv) with | some d,some ds=>some (d::ds) | _,_=>none)=_
  rw [e,yeH n h l];rfl
theorem zdl:∀ l:List Un,PyData.eqvAll (l.map ud) (l.map ud)=true
 | []=>by simp [PyData.eqvAll]
 | .n k::l=>by
  rw [List.map_cons];simp [PyData.eqvAll,PyData.eqv,ud,zdl l]
 | .s z::l=>by
  rw [List.map_cons];simp [PyData.eqvAll,PyData.eqv,ud,zdl l]
theorem ygc {h:AH} {s:Str} {its:List Un} (v:AV) (hv:toD 7 h v=some (.list (its.map ud))) (ws:List AV) (ds:List PyData) (hw:toDs (toD 7 h) ws=some ds):toD 8 h (.tup (.str s::v::ws))=some (.tuple (.str s :: .list (its.map ud)::ds)):=by
 show (toDs (toD 7 h) (.str s::v::ws)).map PyData.tuple=_
 have e:toD 7 h (.str s)=some (.str s):=rfl
 simp [toDs,e,hv,hw]
theorem zgv {h:AH} {s:Str} {I:Nat} {its:List Un} (eI:h[I]? = some (.lst (its.map uv))) (ws:List Str):fNe (.tup (.str s :: .ref I::ws.map AV.str)) (.tup (.str s :: .fl (its.map uv)::ws.map AV.str)) h = .ok (.bl false) h:=by
 have w:∀ l:List Str,toDs (toD 7 h) (l.map AV.str)=some (l.map PyData.str):=fun l=>by
  induction l with
  | nil=>rfl
  | cons x l ih =>
   have e:toD 7 h (.str x)=some (.str x):=rfl
   rw [List.map_cons,List.map_cons];simp [toDs,e,ih]
 have r1:toD 7 h (.ref I)=some (.list (its.map ud)):=by
  have:toD 7 h (.ref I)=(match h[I]? with | some (.lst xs)=>(toDs (toD 6 h) xs).map PyData.list | _=>none):=rfl
  rw [this,eI];dsimp only;rw [yeH];rfl
 have r2:toD 7 h (.fl (its.map uv))=some (.list (its.map ud)):=by
  show (toDs (toD 6 h) (its.map uv)).map PyData.list=_
  rw [yeH];rfl
 have sr:∀ l:List Str,PyData.eqvAll (l.map PyData.str) (l.map PyData.str)=true:=fun l=>by
  induction l with
  | nil=>simp [PyData.eqvAll]
  | cons x l ih=>simp [PyData.eqvAll,PyData.eqv,ih]
 have q:eqA (.tup (.str s :: .ref I::ws.map AV.str)) (.tup (.str s :: .fl (its.map uv)::ws.map AV.str)) h=some true:=by
  show (match toD 8 h (.tup (.str s :: .ref I::ws.map AV.str)),toD 8 h (.tup (.str s :: .fl (its.map uv)::ws.map AV.str)) with | some d,some e=>some (PyData.eqv d e) | _,_=>none)=_
  rw [ygc _ r1 _ _ (w ws),ygc _ r2 _ _ (w ws)];simp [PyData.eqv,PyData.eqvAll,zdl,sr]
 show (match eqA (.tup (.str s :: .ref I::ws.map AV.str)) (.tup (.str s :: .fl (its.map uv)::ws.map AV.str)) h with | some b=>Out.ok (AV.bl (!b)) h | none=>Out.bad)=_
 rw [q];rfl
def kvF (ps:List Pc) (a b:Nat):AV:=if (csF ps yaH [] (zs a) (zs b)).2.1.isEmpty && (csF ps yaH [] (zs a) (zs b)).2.2.isEmpty then .tup [.str "alike",.fl ((csF ps yaH [] (zs a) (zs b)).1.map uv)] else .tup [.str "apart",.fl ((csF ps yaH [] (zs a) (zs b)).1.map uv),.str (sg1 ps (csF ps yaH [] (zs a) (zs b)).2.1),.str (sg1 ps (csF ps yaH [] (zs a) (zs b)).2.2)]
theorem yfq {ps:List Pc} {a b:Nat} {items:List Un} (e:csF ps yaH [] (zs a) (zs b)=(items,[],[])):kvF ps a b = .tup [.str "alike",.fl (items.map uv)]:=by
 unfold kvF
 rw [e];rfl
theorem ygQ {ps:List Pc} {a b:Nat} {items L R:List Un} (e:csF ps yaH [] (zs a) (zs b)=(items,L,R)) (n : ¬ (L=[]/\R=[])):kvF ps a b = .tup [.str "apart",.fl (items.map uv),.str (sg1 ps L),.str (sg1 ps R)]:=by
 unfold kvF
 rw [e];have:(L.isEmpty && R.isEmpty)=false:=by
  cases L with
  | nil =>
   cases R with
   | nil=>exact absurd ⟨rfl,rfl⟩ n
   | cons=>rfl
  | cons=>rfl
 rw [if_neg (by dsimp only;rw [this];exact Bool.false_ne_true)]
theorem zbq {h:AH} {a b:Nat} {ps0 ps:List Pc} {x y:Str} (S:ShelfAt h 0 ps) (g0:Good ps0) (g:Good ps) (pr:ps0 <+: ps) (A:TxZ ps0 a x) (B:TxZ ps0 b y) (lx:x.length<=10000) (ly:y.length<=10000) :
  ∃ (r:AH) (v:AV),yaz [.ref 0,.int a,.int b] h = .ok v (h++r)/\fNe v (kvF ps0 a b) (h++r) = .ok (.bl false) (h++r):=by
 obtain ⟨r,items,L,R,I,cs,_,eI,oi,q⟩:=zgk S g (A.pre pr) (B.pre pr) lx ly
 have cp:=yf7 pr g0 yaH [] (zs a) (zs b) (ycf A).1 (ycf B).1
 have c0:=cp.1.symm.trans cs
 have o1:=cp.2.1
 have o2:=cp.2.2
 rw [c0] at o1 o2;rcases q with ⟨f,rfl,rfl,_⟩ | ⟨f,n,_⟩
 ·exact ⟨r,_,f,by rw [yfq c0];exact zgv eI []⟩
 ·refine ⟨r,_,f,?_⟩
  rw [ygQ c0 n,zgn pr g0 o1,zgn pr g0 o2];exact zgv eI [_,_]
theorem ygd {h:AH} {ps:List Pc} {I a b:Nat} {its s1 s2:List Un} {x y:Str} {T:AV} {o2 o4 o5 o6 o7:Option AV} (S:ShelfAt h 0 ps) (g:Good ps) (eI:h[I]? = some (.lst (its.map uv))) (oi:∀ i∈its,OkI ps i) (hl:its.length<=1000) (A:TxZ ps a x) (B:TxZ ps b y) (la:lbF ps its (zs a)=some s1) (lb:lbF ps its (zs b)=some s2) (ix:∀ h,fIx T (.int 1) h = .ok (.ref I) h) :
  ∃ r:AH,ybb [0,3] (iVal (sVar 1)) sYes (yae ybC (yab (sVar 1) (yab (sVar 0) (yab (sOp2 fIx (sVar 2) (sLit (.int 1))) sNil)))) [some (.ref 0),some (.fl [.int a,.int b]),o2,some T,o4,o5,o6,o7] h = .ok (.fl [.tup [.bl true,.bl (decide (s1=[]))],.tup [.bl true,.bl (decide (s2=[]))]]) (h++r):=by
 obtain ⟨r1,e1⟩:=zgt S g eI oi hl A la
 have eI1:(h++r1)[I]? = some (.lst (its.map uv)):=by rw [List.getElem?_append_left (yaS eI)];exact eI
 obtain ⟨r2,e2⟩:=zgt (S.app r1) g eI1 oi hl B lb
 refine ⟨r1++r2,?_⟩
 rw [<- List.append_assoc];have i1:=ix h
 have i2:=ix (h++r1)
 have sl:2<sizeLine:=by decide
 have sl1:1<sizeLine:=by decide
 have sl0:0<sizeLine:=by decide
 clear S g eI eI1 oi A B la lb ix;generalize h++r1++r2=H2 at *;generalize h++r1=H1 at *;generalize decide (s1=[])=D1 at *;generalize decide (s2=[])=D2 at *;simp [ya3,i1,i2,e1,e2,sl,sl1,sl0,-fIx]
end Sk
namespace Sk
open PySem PySem.Spec L2 Sm
theorem zjJ (h:AH):fEq (.fl [.tup [.bl true,.bl true],.tup [.bl true,.bl true]]) (.fl [.tup [.bl true,.bl true],.tup [.bl true,.bl true]]) h = .ok (.bl true) h:=by
 simp [toD,toDs,PyData.eqv,PyData.eqvAll]
theorem zff {h:AH} {ps:List Pc} {I a b:Nat} {its:List Un} {x:Str} (S:ShelfAt h 0 ps) (g:Good ps) (eI:h[I]? = some (.lst (its.map uv))) (oi:∀ i∈its,OkI ps i) (hl:its.length<=1000) (A:TxZ ps a x) (B:TxZ ps b x) (la:lbF ps its (zs a)=some []) (lb:lbF ps its (zs b)=some []) :
  ∃ r:AH,ybO [.ref 0,.fl [.int a,.int b],.tup [.str x,.str x],.tup [.str "alike",.ref I]] h = .ok (.bl true) (h++r):=by
 have ix:∀ h,fIx (.tup [.str "alike",.ref I]) (.int 1) h = .ok (.ref I) h:=fun _=>rfl
 have ix0:∀ h,fIx (.tup [.str "alike",.ref I]) (.int 0) h = .ok (.str "alike") h:=fun _=>rfl
 obtain ⟨r,cp⟩:=ygd (o2:=some (.tup [.str x,.str x])) (o4:=some (.str x)) (o5:=some (.str x)) (o6:=none) (o7:=none) S g eI oi hl A B la lb ix
 rw [decide_eq_true rfl] at cp;refine ⟨r,?_⟩
 have i1:=ix h
 have i0:=ix0 (h++r)
 have ln:∀ h,fLen [.tup [.str "alike",.ref I]] h = .ok (.int 2) h:=fun _=>rfl
 have lt:fLt (.int 2) (.int 2) h = .ok (.bl false) h:=by simp
 have il:sIsB "list" (sOp2 fIx (sVar 3) (sLit (.int 1))) [some (.ref 0),some (.fl [.int a,.int b]),some (.tup [.str x,.str x]),some (.tup [.str "alike",.ref I]),some (.str x),some (.str x),none,none] h = .ok (.bl true) h:=by
  generalize AV.tup [.str "alike",.ref I]=TT at *;simp [i1,eI,-fIx]
 have ex:fEq (.str x) (.str x) (h++r) = .ok (.bl true) (h++r):=by simp
 have ea:fEq (.str "alike") (.str "alike") (h++r) = .ok (.bl true) (h++r):=by simp
 have e2:fEq (.int 2) (.int 2) (h++r) = .ok (.bl true) (h++r):=by simp
 have es:=zjJ (h++r)
 clear S g eI oi A B la lb ix ix0;unfold ybO
 generalize h++r=H at *;generalize ybb [0,3] (iVal (sVar 1)) sYes (yae ybC (yab (sVar 1) (yab (sVar 0) (yab (sOp2 fIx (sVar 2) (sLit (.int 1))) sNil))))=CM at *;generalize sIsB "list" (sOp2 fIx (sVar 3) (sLit (.int 1)))=IL at *;simp [ln,lt,il,cp,ex,i0,ea,e2,es,-fIx,-fLen,-fLt,-fEq]
theorem zfg {h:AH} {ps:List Pc} {I a b:Nat} {its:List Un} {x y c d:Str} (S:ShelfAt h 0 ps) (g:Good ps) (eI:h[I]? = some (.lst (its.map uv))) (oi:∀ i∈its,OkI ps i) (lx:x.length<=900) (A:TxZ ps a x) (B:TxZ ps b y) (ap:apZ ps its a b c d) :
  ∃ r:AH,ybO [.ref 0,.fl [.int a,.int b],.tup [.str x,.str y],.tup [.str "apart",.ref I,.str c,.str d]] h = .ok (.bl true) (h++r):=by
 obtain ⟨s1,s2,la,lb,ec,ed,nd⟩:=ap
 obtain ⟨ra,oa⟩:=za6 g its (okis (ycf A).1) la
 obtain ⟨rb,ob2⟩:=za6 g its (okis (ycf B).1) lb
 rw [(ycf A).2] at ra;rw [(ycf B).2] at rb;have g1:=ye8 g oa
 have g2:=ye8 g ob2
 rw [<- ec] at g1;rw [<- ed] at g2;have nt : ¬ (rdS ps s1).take 1=(rdS ps s2).take 1:=fun q=>nd (zae (by rw [g1,g2,q]))
 have xy : ¬ x=y:=fun q=>by
  rw [q,rb] at ra;exact nt (by rw [List.append_cancel_left ra])
 have lr:(rdS ps its).length<=x.length:=by rw [zac,ra,List.length_append];lia
 have li:=lenB oi
 obtain ⟨m,em⟩:∃ m,m=(rdS ps its).length:=⟨_,rfl⟩
 have fc:=fun h=>ziy (h:=h) (x:=x) (y:=y) (by lia)
 rw [ra,rb,yf9 _ nt,<- em] at fc;have ix:∀ h,fIx (.tup [.str "apart",.ref I,.str c,.str d]) (.int 1) h = .ok (.ref I) h:=fun _=>rfl
 have ix0:∀ h,fIx (.tup [.str "apart",.ref I,.str c,.str d]) (.int 0) h = .ok (.str "apart") h:=fun _=>rfl
 obtain ⟨r,cp⟩:=ygd (o2:=some (.tup [.str x,.str y])) (o4:=some (.str x)) (o5:=some (.str y)) (o6:=none) (o7:=none) S g eI oi (by lia) A B la lb ix
 refine ⟨r,?_⟩
 have eI1:(h++r)[I]? = some (.lst (its.map uv)):=by rw [List.getElem?_append_left (yaS eI)];exact eI
 obtain ⟨w,sg,ew⟩:=ziz (S.app r) g eI1 oi (by lia)
 have ct0:=yeh (x:=x) (a:=m) (h++r)
 have wt:tkS x m=w:=zae (by rw [ybw,ra,em,List.take_left',ew];rfl)
 rw [wt] at ct0;have ctT:ya0 (.tup [.str "apart",.ref I,.str c,.str d]) (some 2) none (h++r) = .ok (.tup [.str c,.str d]) (h++r):=rfl
 have ct1:ya0 (.str x) (some (m:Int)) (some ((m+1:Nat):Int)) (h++r) = .ok (.str c) (h++r):=by
  have:cutS x (some (m:Int)) (some ((m+1:Nat):Int))=c:=zae (by rw [zdK (by lia),g1,ra,em,List.drop_left',Nat.add_sub_cancel_left];rfl)
  simp only [ya0,this]
 have ct2:ya0 (.str y) (some (m:Int)) (some ((m+1:Nat):Int)) (h++r) = .ok (.str d) (h++r):=by
  have:cutS y (some (m:Int)) (some ((m+1:Nat):Int))=d:=zae (by rw [zdK (by lia),g2,rb,em,List.drop_left',Nat.add_sub_cancel_left];rfl)
  simp only [ya0,this]
 have i1:=ix h
 have i1r:=ix (h++r)
 have i0:=ix0 (h++r)
 have ln:∀ h,fLen [.tup [.str "apart",.ref I,.str c,.str d]] h = .ok (.int 4) h:=fun _=>rfl
 have lt:fLt (.int 4) (.int 2) h = .ok (.bl false) h:=by simp
 have il:sIsB "list" (sOp2 fIx (sVar 3) (sLit (.int 1))) [some (.ref 0),some (.fl [.int a,.int b]),some (.tup [.str x,.str y]),some (.tup [.str "apart",.ref I,.str c,.str d]),some (.str x),some (.str y),none,none] h = .ok (.bl true) h:=by
  generalize AV.tup [.str "apart",.ref I,.str c,.str d]=TT at *;simp [i1,eI,-fIx]
 have ex:fEq (.str x) (.str y) (h++r) = .ok (.bl false) (h++r):=by simp [xy]
 have ea:fNe (.str "apart") (.str "apart") (h++r) = .ok (.bl false) (h++r):=by simp
 have e4:fNe (.int 4) (.int 4) (h++r) = .ok (.bl false) (h++r):=by simp
 have sp0:fIx (.fl [.tup [.bl true,.bl (decide (s1=[]))],.tup [.bl true,.bl (decide (s2=[]))]]) (.int 0) (h++r) = .ok (.tup [.bl true,.bl (decide (s1=[]))]) (h++r):=rfl
 have sp1:fIx (.fl [.tup [.bl true,.bl (decide (s1=[]))],.tup [.bl true,.bl (decide (s2=[]))]]) (.int 1) (h++r) = .ok (.tup [.bl true,.bl (decide (s2=[]))]) (h++r):=rfl
 have sq0:∀ q,fIx (.tup [.bl true,.bl q]) (.int 0) (h++r) = .ok (.bl true) (h++r):=fun _=>rfl
 have ew1:fEq (.str w) (.str w) (h++r) = .ok (.bl true) (h++r):=by simp
 have ep:fEq (.tup [.str c,.str d]) (.tup [.str c,.str d]) (h++r) = .ok (.bl true) (h++r):=by simp [toD,toDs,PyData.eqv,PyData.eqvAll]
 have ad:fAdd (.int m) (.int 1) (h++r) = .ok (.int ((m+1:Nat):Int)) (h++r):=rfl
 have fc' := fc (h++r)
 clear S g eI eI1 oi A B la lb ix ix0 ra rb oa ob2 g1 g2 nt xy lr li em fc wt ew ec ed nd lx;unfold ybO
 generalize h++r=H at *;generalize ybb [0,3] (iVal (sVar 1)) sYes (yae ybC (yab (sVar 1) (yab (sVar 0) (yab (sOp2 fIx (sVar 2) (sLit (.int 1))) sNil))))=CM at *;generalize sIsB "list" (sOp2 fIx (sVar 3) (sLit (.int 1)))=IL at *;generalize ((m+1:Nat):Int)=M1 at *;generalize (m:Int)=M0 at *;generalize decide (s1=[])=D1 at *;generalize decide (s2=[])=D2 at *;simp [ln,lt,il,cp,ex,fc',i0,i1r,ea,e4,sp0,sp1,sq0,sg,ct0,ew1,ctT,ad,ct1,ct2,ep,-fIx,-fLen,-fLt,-fEq,-fNe,-fAdd,-ya0]
end Sk
namespace Sk
open PySem PySem.Spec L2 Sm
theorem yge {h:AH} {ps:List Pc} {a b:Nat} {x y:Str} (S:ShelfAt h 0 ps) (g:Good ps) (A:TxZ ps a x) (B:TxZ ps b y) (lx:x.length<=900) (ly:y.length<=900) :
  ∃ (r:AH) (items:List Un) (I:Nat) (tv:AV) (s:Str) (rest:List AV),yaz [.ref 0,.int a,.int b] h = .ok tv (h++r)/\h.length<=I/\(h++r)[I]? = some (.lst (items.map uv))/\items.length<=1000 /\
   (∀ hh,fIx tv (.int 1) hh = .ok (.ref I) hh)/\(∀ hh,fIx tv (.int 0) hh = .ok (.str s) hh)/\(∀ hh,ya0 tv (some 2) none hh = .ok (.tup rest) hh)/\rest.length<=2/\kvF ps a b = .tup (.str s :: .fl (items.map uv)::rest) /\
   (∀ hh,ShelfAt hh 0 ps->hh[I]? = some (.lst (items.map uv))->∃ r',ybO [.ref 0,.fl [.int a,.int b],.tup [.str x,.str y],tv] hh = .ok (.bl true) (hh++r')):=by
 obtain ⟨r,items,L,R,I,cs,hI,eI,oi,q⟩:=zgk S g A B (by lia) (by lia)
 have li:=lenB oi
 rcases q with ⟨f,rfl,rfl,la,lb⟩ | ⟨f,n,ap⟩
 ·have ra:=(za6 g items (okis (ycf A).1) la).1
  have rb:=(za6 g items (okis (ycf B).1) lb).1
  rw [(ycf A).2] at ra;rw [(ycf B).2] at rb;have xy:x=y:=zae (by rw [ra,rb])
  subst xy;have lr:(rdS ps items).length<=x.length:=by rw [zac,ra,List.length_append];lia
  exact ⟨r,items,I,_, "alike",[],f,hI,eI,by lia,fun _=>rfl,fun _=>rfl,fun _=>rfl,Nat.zero_le _,yfq cs,fun hh S' e' => zff S' g e' oi (by lia) A B la lb⟩
 ·obtain ⟨s1,s2,la,_⟩:=id ap
  have ra:=(za6 g items (okis (ycf A).1) la).1
  rw [(ycf A).2] at ra;have lr:(rdS ps items).length<=x.length:=by rw [zac,ra,List.length_append];lia
  exact ⟨r,items,I,_, "apart",[.str (sg1 ps L),.str (sg1 ps R)],f,hI,eI,by lia,fun _=>rfl,fun _=>rfl,fun _=>rfl,Nat.le_refl _,ygQ cs n,fun hh S' e' => zfg S' g e' oi lx A B ap⟩
theorem sh_q:∀ w∈([48,49,50,51]:List Nat),ya7 ((Str.ofString "Q")++(⟨#[w]⟩:Str))=true:=by decide +kernel
theorem q_ix (k:Nat) (hk:k<4):∃ w q:Str,(∀ h,fIx (.str "0123") (.int k) h = .ok (.str w) h)/\(∀ h,fAdd (.str "Q") (.str w) h = .ok (.str q) h)/\ya7 q=true:=by
 have e:(Str.ofString "0123").cps.toList=[48,49,50,51]:=by decide +kernel
 obtain ⟨c,ec⟩:∃ c,(Str.ofString "0123").cps.toList[k]? = some c:=⟨_,List.getElem?_eq_getElem (by rw [e];exact hk)⟩
 have mc:c∈([48,49,50,51]:List Nat):=by rw [<- e];exact List.mem_of_getElem? ec
 refine ⟨⟨#[c]⟩,(Str.ofString "Q")++⟨#[c]⟩,fun h=>?_,fun h=>?_,sh_q c mc⟩
 ·have:=zbr ec
  simp only [fIx,this]
 ·have:(Str.ofString "Q").length+(⟨#[c]⟩:Str).length<=sizeLine:=by
   have l1:(Str.ofString "Q").length=1:=by decide +kernel
   rw [l1];show 1+1<=sizeLine
   decide
  simp only [fAdd,this,if_true]
theorem yij {L:Nat} {h:AH} {ps:List Pc} {x y:Str} {en:En} (z:Zq L h ps) (px:yav x=true) (py:yav y=true) (lx:x.length<=62) (ly:y.length<=62) (hz:ps.length<=800000) (e1:en[1]? = some (some (.ref 0))) (e3:en[3]? = some (some (.ref L))) (e4:en[4]? = some (some (.tup [.str x,.str y]))) :
  ∃ (a b:Nat) (h':AH) (ps':List Pc),ybb [1,3] (iVal (sVar 4)) sYes (yae ycB (yab (sVar 1) (yab (sVar 0) (yab (sVar 2) sNil)))) en h = .ok (.fl [.int a,.int b]) h'/\Zq L h' ps'/\TxZ ps' a x/\TxZ ps' b y/\ps'.length<=ps.length+20000:=by
 obtain ⟨a,h1,ps1,f1,z1,p1,A,l1⟩:=zgl z px lx (by lia)
 obtain ⟨b,h2,ps2,f2,z2,p2,B,l2⟩:=zgl z1 py ly (by lia)
 refine ⟨a,b,h2,ps2,?_,z2,A.pre p2,B,by lia⟩
 have sl:2<sizeLine:=by decide
 have sl1:1<sizeLine:=by decide
 have sl0:0<sizeLine:=by decide
 clear z z1 z2 A B;simp [ya3,e1,e3,e4,f1,f2,sl,sl1,sl0]
theorem yik {h:AH} {ps:List Pc} {a b:Nat} {x y:Str} {en:En} (S:ShelfAt h 0 ps) (g:Good ps) (A:TxZ ps a x) (B:TxZ ps b y) (lx:x.length<=62) (ly:y.length<=62) (e1:en[1]? = some (some (.ref 0))) (e5:en[5]? = some (some (.fl [.int a,.int b]))) :
  ybb [1] (iVal (sVar 5)) sYes (yae (yaF 90) (yab (sVar 1) (yab (sVar 0) sNil))) en h = .ok (.fl [.str x,.str y]) h:=by
 have f1:=zeW S g A (by lia)
 have f2:=zeW S g B (by lia)
 have sl:2<sizeLine:=by decide
 have sl1:1<sizeLine:=by decide
 have sl0:0<sizeLine:=by decide
 generalize yaF 90=G at *;simp [ya3,e1,e5,f1,f2,sl,sl1,sl0]
theorem zjK {v w:AV} {h:AH} (e:fNe v w h = .ok (.bl false) h):fEq v w h = .ok (.bl true) h:=by
 have e':(match eqA v w h with | some b=>Out.ok (AV.bl (!b)) h | none=>Out.bad) = .ok (.bl false) h:=e
 show (match eqA v w h with | some b=>Out.ok (AV.bl b) h | none=>Out.bad)=_
 cases q:eqA v w h with
 | none=>rw [q] at e';cases e'
 | some b =>
  rw [q] at e'
  cases b with
  | true=>rfl
  | false=>cases e'
abbrev e62 (o0 o2 o3 o4 o5 o6 o7 o8 o9:Option AV):En:=[o0,some (.ref 0),o2,o3,o4,o5,o6,o7,o8,o9]
theorem yil {ns:List Int} (hl:ns.length<=63) {k:Nat} {h:AH} {ps:List Pc} {o3 o4 o5 o6 o7 o8 o9:Option AV} (S:ShelfAt h 0 ps) (g:Good ps) (hk:k<4) (hz:ps.length<=200000) :
  ∃ (c3 c4 c5 c6 c7 c8 c9:Option AV) (h':AH) (ps':List Pc),ydo (e62 (some (.fl (ns.map AV.int))) (some (.int k)) o3 o4 o5 o6 o7 o8 o9) h = .nx (e62 (some (.fl (ns.map AV.int))) (some (.int k)) c3 c4 c5 c6 c7 c8 c9) h'/\ShelfAt h' 0 ps'/\Good ps'/\ps'.length<=ps.length+30000:=by
 obtain ⟨N,es⟩:=ziw ns hl k (by lia) h
 have z0:Zq h.length (h++[.lst [.int N]]) ps:=⟨S.app _,g,by have:=yaS S.h8;lia,N,by simp⟩
 obtain ⟨Lr,eLr⟩:∃ Lr,Lr=h.length:=⟨_,rfl⟩
 rw [<- eLr] at es z0;generalize h++[AO.lst [.int N]]=H1 at *;obtain ⟨x,y,h2,fp,z2,px,py,lx,ly⟩:=yib z0
 obtain ⟨a,b,h4,ps4,gr,z4,A,B,l4⟩:=yij (en:=e62 (some (.fl (ns.map AV.int))) (some (.int k)) (some (.ref Lr)) (some (.tup [.str x,.str y])) o5 o6 o7 o8 o9) z2 px py lx ly (by lia) rfl rfl rfl
 have rd:=yik (en:=e62 (some (.fl (ns.map AV.int))) (some (.int k)) (some (.ref Lr)) (some (.tup [.str x,.str y])) (some (.fl [.int a,.int b])) o6 o7 o8 o9) z4.sh z4.gd A B lx ly rfl rfl
 have la:ydE [.tup [.str x,.str y]] h4 = .ok (.fl [.str x,.str y]) h4:=rfl
 have n0:fNe (.fl [.str x,.str y]) (.fl [.str x,.str y]) h4 = .ok (.bl false) h4:=by simp [toD,toDs,PyData.eqv,PyData.eqvAll]
 have fm4:=ye0 z4.sh
 have ob4:=z4.sh.ob
 have t0:∀ hh,fIx (.fl [.int a,.int b]) (.int 0) hh = .ok (.int a) hh:=fun _=>rfl
 have t1:∀ hh,fIx (.fl [.int a,.int b]) (.int 1) hh = .ok (.int b) hh:=fun _=>rfl
 obtain ⟨r5,items,I,tv,s,rest,ft,hI,eI,li,ix1,ix0,cu,lr,kv,rt⟩:=yge z4.sh z4.gd A B (by lia) (by lia)
 have S5:=z4.sh.app r5
 have h8:8<I:=by have:=yaS z4.sh.h8;lia
 generalize h4++r5=H5 at *;obtain ⟨r6,f6⟩:=rt H5 S5 eI
 have S6:=S5.app r6
 have eI6:(H5++r6)[I]? = some (.lst (items.map uv)):=by rw [List.getElem?_append_left (yaS eI)];exact eI
 generalize H5++r6=H6 at *;have fl6:ydE [.ref I] H6 = .ok (.fl (items.map uv)) H6:=by simp only [ydE,eI6]
 have fa6:fAdd (.tup [.str s,.fl (items.map uv)]) (.tup rest) H6 = .ok (kvF ps4 a b) H6:=by
  rw [kv];have:2+rest.length<=sizeLine:=Nat.le_trans (m:=4) (by lia) (by decide)
  show (if ([AV.str s,.fl (items.map uv)]≠[]/\([AV.str s,.fl (items.map uv)].length+rest.length<=sizeLine)) then Out.ok (AV.tup ([AV.str s,.fl (items.map uv)]++rest)) H6 else Out.bad)=_
  rw [if_pos ⟨by simp,this⟩]
  rfl
 obtain ⟨KV,eKV⟩:∃ KV,KV=kvF ps4 a b:=⟨_,rfl⟩
 rw [<- eKV] at fa6;obtain ⟨r7,v7,f7,n7⟩:=zbq S6 z4.gd z4.gd (List.prefix_refl _) A B (by lia) (by lia)
 rw [<- eKV] at n7;have S7:=S6.app r7
 have eI7:(H6++r7)[I]? = some (.lst (items.map uv)):=by rw [List.getElem?_append_left (yaS eI6)];exact eI6
 generalize H6++r7=H7 at *;have is7:yaB (.ref I) H7=true:=by simp [eI7]
 have ap7:yax (.ref I) [.str "zz"] H7 = .ok .non (H7.set I (.lst (items.map uv++[.str "zz"]))):=by
  have:(items.map uv).length<sizeLine:=Nat.lt_of_le_of_lt (m:=1000) (by rw [List.length_map];exact li) (by decide)
  simp only [yax,eI7,this,if_true]
 have S8:=zax S7 (show 0+8<I by lia) (.lst (items.map uv++[.str "zz"]))
 generalize H7.set I (.lst (items.map uv++[.str "zz"]))=H8 at *;obtain ⟨r9,v9,f9,n9⟩:=zbq S8 z4.gd z4.gd (List.prefix_refl _) A B (by lia) (by lia)
 rw [<- eKV] at n9;have S9:=S8.app r9
 generalize H8++r9=H9 at *;have fm9:=ye0 S9
 have ob9:=S9.ob
 have nm9:fNe (.int ps4.length) (.int ps4.length) H9 = .ok (.bl false) H9:=by simp
 obtain ⟨w,q,wi,wa,wq⟩:=q_ix k hk
 obtain ⟨n',ps5,h10,f10,D,_⟩:=zhB S9 z4.gd wq (by lia)
 have l5:=D.len
 obtain ⟨r11,v11,f11,n11⟩:=zbq D.sh z4.gd D.gd D.pre A B (by lia) (by lia)
 rw [<- eKV] at n11;have S11:=D.sh.app r11
 generalize h10++r11=H11 at *;obtain ⟨r12,items2,I2,tv2,s2,rest2,ft2,_,eI2,_,_,_,_,_,_,rt2⟩:=yge S11 D.gd (B.pre D.pre) (A.pre D.pre) (by lia) (by lia)
 have S12:=S11.app r12
 generalize H11++r12=H12 at *;obtain ⟨r13,f13⟩:=rt2 H12 S12 eI2
 refine ⟨some (.ref Lr),some (.tup [.str x,.str y]),some (.fl [.int a,.int b]),some (.int ps4.length),some tv,some KV,some tv2,H12++r13,ps5,?_,S12.app r13,D.gd,by lia⟩
 have i50:=ix0 H6
 have i51:=ix1 H6
 have i71:=ix1 H7
 have cu6:=cu H6
 have wi9:=wi H9
 have wa9:=wa H9
 have ng:∀ hh,fNeg (.int 1) hh = .ok (.int (-1)) hh:=fun _=>rfl
 have rv:([.int b,.int a]:List AV)=[.int a,.int b].reverse:=rfl
 simp only [e62] at gr rd
 clear z0 z2 z4 S S5 S6 S7 S8 S9 S11 S12 D A B rt rt2 eI eI2 eI6 eI7 kv eKV ix0 ix1 cu wi wa hI;unfold ydo
 generalize ybb [1,3] (iVal (sVar 4)) sYes (yae ycB (yab (sVar 1) (yab (sVar 0) (yab (sVar 2) sNil))))=CA at *;generalize ybb [1] (iVal (sVar 5)) sYes (yae (yaF 90) (yab (sVar 1) (yab (sVar 0) sNil)))=CB at *;generalize H12++r13=H13 at *;generalize items.map uv=IT at *;generalize (ps4.length:Int)=PL at *;generalize ns.map AV.int=ZN at *;simp [es,fp,gr,rd,la,n0,ob4,fm4,t0,t1,ft,f6,i50,i51,fl6,cu6,fa6,f7,n7,i71,is7,ap7,f9,n9,ob9,fm9,nm9,wi9,wa9,f10,f11,n11,ft2,ng,f13,-fIx,-fNe,-fAdd,-ydE,-yaB,-yax,-ya0,-fNeg]
theorem law_true (ns:List Int) (hl:ns.length<=63):∃ h',yfn [.fl (ns.map AV.int)] [] = .ok (.bl true) h' := by
 have mk:=yhT [some (.fl (ns.map AV.int)),none,none,none,none,none,none,none,none,none] []
 have l0:([]:AH).length=0:=rfl
 rw [l0,List.nil_append] at mk;have S0:ShelfAt (yd9 0) 0 []:=by have:=yhU [] [];simpa using this
 obtain ⟨e',h',r1,r2⟩:=yem (w:=none) (all:=ya5 0 4) (t:=.nm 2) (b:=ydo) (xs:=ya5 0 4) (en:=e62 (some (.fl (ns.map AV.int))) none none none none none none none none) (h:=yd9 0)
  (fun j en hh=>j<=4->∃ (o2 o3 o4 o5 o6 o7 o8 o9:Option AV) (ps:List Pc),en=e62 (some (.fl (ns.map AV.int))) o2 o3 o4 o5 o6 o7 o8 o9/\ShelfAt hh 0 ps/\Good ps/\ps.length<=j*30000)
  (fun _=>⟨none,none,none,none,none,none,none,none,[],rfl,S0,.nil,Nat.le_refl _⟩) (fun _ _ _ _=>rfl) (by
   intro j u en hh hu hp
   have jk:j<4:=by have:=(List.getElem?_eq_some_iff.mp hu).1;rwa [zaU] at this
   obtain ⟨o2,o3,o4,o5,o6,o7,o8,o9,ps,rfl,S,g,l⟩:=hp (by lia)
   rw [zco,if_pos jk] at hu;obtain rfl:u = .int ((0:Int)+j):=(Option.some.inj hu).symm
   have ej:((0:Int)+j)=(j:Nat):=by lia
   rw [ej];obtain ⟨c3,c4,c5,c6,c7,c8,c9,h2,ps2,ev,S2,g2,l2⟩:=yil hl (k:=j) (o3:=o3) (o4:=o4) (o5:=o5) (o6:=o6) (o7:=o7) (o8:=o8) (o9:=o9) S g jk (by lia)
   show thn (ydo (e62 (some (.fl (ns.map AV.int))) (some (.int (j:Nat))) o3 o4 o5 o6 o7 o8 o9) hh) _
   rw [ev];exact fun _=>⟨_,c3,c4,c5,c6,c7,c8,c9,ps2,rfl,S2,g2,by lia⟩)
 rw [zaU] at r2;obtain ⟨o2,o3,o4,o5,o6,o7,o8,o9,ps,rfl,S,g,l⟩:=r2 (Nat.le_refl _)
 have fo:=(ydS (t:=.nm 2) (b:=ydo) (zbK (a:=sLit (.int 4)) (en:=e62 (some (.fl (ns.map AV.int))) none none none none none none none none) (h:=yd9 0) rfl (by decide))).trans r1
 have t00:TxZ ps 0 "" := .inl ⟨rfl,rfl⟩
 obtain ⟨r,v,f,n⟩:=zbq S g g (List.prefix_refl _) t00 t00 (by decide) (by decide)
 have f':yaz [.ref 0,.int 0,.int 0] h' = .ok v (h' ++ r):=f
 have kv:kvF ps 0 0 = .tup [.str "alike",.fl []]:=yfq (items:=[]) (yf1 (.inl rfl))
 rw [kv] at n;have q:=zjK n
 refine ⟨h' ++ r,?_⟩
 clear S g S0 n f;unfold yfn
 generalize h' ++ r=H at *;generalize sFor (yb3 (sLit (.int 4))) (.nm 2) ydo=FF at *;generalize yeO 0 8 ycS sNil=MK at *;simp only [e62] at fo
 generalize yd9 0=HN at *;generalize ns.map AV.int=ZN at *;simp [mk,fo,f',q,-fEq]
end Sk
namespace Sk
open PySem PySem.Spec L2 Sm
theorem zdW:bootBuiltins "list" = some (.type "list"):=by decide +kernel
def top (i:Nat):Stmt:=PySem.Challenge.pw_skeinwood_k62_held_together.main.body.getD i (.Pass ⟨0,0,0,0⟩)
abbrev ycl:Stmt:=ybs (top 29) 0
abbrev ycC:Stmt:=top 43
abbrev yb1:Stmt:=top 44
abbrev yc1:Stmt:=top 45
abbrev ycD:Stmt:=top 46
abbrev yc2:Stmt:=top 53
abbrev ycm:Stmt:=ybs (top 29) 3
abbrev yc3:Stmt:=top 10
abbrev ybt:Stmt:=ybs (top 29) 11
abbrev ybk:Stmt:=ybs (top 29) 12
abbrev ybm:Stmt:=ybs (top 29) 13
abbrev ycn:Stmt:=top 16
abbrev yb4:Stmt:=ybs (top 29) 5
abbrev ydb:Stmt:=top 21
abbrev yb5:Stmt:=ybs (top 29) 4
abbrev yco:Stmt:=top 18
abbrev ycp:Stmt:=top 17
abbrev ycE:Stmt:=top 23
abbrev ybR:Stmt:=top 22
abbrev yb6:Stmt:=top 20
abbrev ybS:Stmt:=top 19
abbrev ycF:Stmt:=top 26
abbrev ybG:Stmt:=top 25
abbrev ybH:Stmt:=top 12
abbrev ycw:Stmt:=top 11
abbrev yc4:Stmt:=top 13
abbrev ycG:Stmt:=ybs (top 29) 17
abbrev ydc:Stmt:=top 14
abbrev ybA:Stmt:=ybs (top 29) 15
abbrev ycq:Stmt:=ybs (top 29) 1
abbrev ybT:Stmt:=top 33
abbrev ybu:Stmt:=ybs (top 29) 10
abbrev ybn:Stmt:=ybs (top 29) 9
abbrev ycH:Stmt:=top 34
abbrev ybo:Stmt:=ybs (top 29) 14
abbrev ybB:Stmt:=ybs (top 29) 16
abbrev ycr:Stmt:=ybs (top 29) 2
abbrev ycI:Stmt:=top 39
abbrev ybU:Stmt:=ybs (top 29) 8
abbrev yb7:Stmt:=top 36
abbrev ybI:Stmt:=top 40
abbrev ybV:Stmt:=top 37
abbrev ydp:Stmt:=top 35
abbrev ydq:Stmt:=top 38
abbrev ydr:Stmt:=top 31
abbrev yds:Stmt:=top 41
abbrev ydt:Stmt:=top 32
abbrev ycJ:Stmt:=top 47
abbrev ycs:Stmt:=top 54
abbrev ycK:Stmt:=top 48
abbrev ycx:Stmt:=top 50
abbrev ycL:Stmt:=top 51
abbrev ycM:Stmt:=top 52
abbrev ycN:Stmt:=top 49
abbrev ycc:Stmt:=top 55
abbrev ycd:Stmt:=top 56
abbrev ydO:Stmt:=top 57
def flds:Nat->List Str
 | 0=>["pieces", "numbers", "sign_counts", "end_counts", "leaf_counts", "heights", "first_leaves", "last_leaves"]
 | _=>[]
theorem zjL:∀ c,(flds c).Nodup
 | 0=>by decide +kernel
 | _+1=>List.nodup_nil
theorem ziA:∀ c,(flds c).length<=500
 | 0=>by decide +kernel
 | _+1=>Nat.zero_le _
abbrev mkT (K:PySem.W.Frag) (cls exc:Nat->Option Addr):Tb:=⟨K,cls,exc,flds,zjL,ziA⟩
structure Facts (P:Program) (w:World) (K:PySem.W.Frag) (cls exc:Nat->Option Addr) (mg:Str->Option Value) (base:Heap):Prop where
 b_abs:mg "abs" = none
 b_all:mg "all" = none
 b_bool:mg "bool" = none
 b_enumerate:mg "enumerate" = none
 b_int:mg "int" = none
 b_isinstance:mg "isinstance" = none
 b_len:mg "len" = none
 b_list:mg "list" = none
 b_max:mg "max" = none
 b_min:mg "min" = none
 b_range:mg "range" = none
 b_str:mg "str" = none
 b_sum:mg "sum" = none
 b_tuple:mg "tuple" = none
 c_LEAF_SIGNS:∃ t,mg "LEAF_SIGNS" = some (.int 8 t)
 c_MOST_PLAIN:∃ t,mg "MOST_PLAIN" = some (.int 10000 t)
 c_MOST_SIGNS:∃ t,mg "MOST_SIGNS" = some (.int 1000000000000000000 t)
 cf_Shelf:CF (mkT K cls exc) 0
 x_NoText:GX (mkT K cls exc) mg base 1 "NoText"
 x_NoPiece:GX (mkT K cls exc) mg base 2 "NoPiece"
 x_Loose:GX (mkT K cls exc) mg base 3 "Loose"
 x_Unlevel:GX (mkT K cls exc) mg base 4 "Unlevel"
 x_TooLong:GX (mkT K cls exc) mg base 5 "TooLong"
 d_Shelf_init:∃ C f fd,cls 0=some C/\mg "Shelf" = some (.ref C)/\Mk K C f/\Binds K fd ["self"] []/\Fun K "__init__" "Shelf.__init__" ycl f fd
 d_law_mixed:DG K mg "_law_mixed" ycC ["cell", "k"]
 d_law_stream:DG K mg "_law_stream" yb1 ["script", "k"]
 d_law_take:DG K mg "_law_take" yc1 ["stream", "many"]
 d_law_plain:DG K mg "_law_plain" ycD ["stream", "most"]
 d_law_pair:DG K mg "_law_pair" yc2 ["stream", "most"]
 d_Shelf_many:∃ C f fd,cls 0=some C/\Cls K C/\Meth K C "many" f/\Binds K fd ["self"] []/\Fun K "many" "Shelf.many" ycm f fd
 d_is_whole:DG K mg "is_whole" yc3 ["thing"]
 d_Shelf_has_piece:∃ C f fd,cls 0=some C/\Cls K C/\Meth K C "has_piece" f/\Binds K fd ["self", "number"] []/\Fun K "has_piece" "Shelf.has_piece" ybt f fd
 d_Shelf_check_piece:∃ C f fd,cls 0=some C/\Cls K C/\Meth K C "check_piece" f/\Binds K fd ["self", "number"] []/\Fun K "check_piece" "Shelf.check_piece" ybk f fd
 d_Shelf_check_text:∃ C f fd,cls 0=some C/\Cls K C/\Meth K C "check_text" f/\Binds K fd ["self", "text"] []/\Fun K "check_text" "Shelf.check_text" ybm f fd
 d_whole_left:DG K mg "whole_left" ycn ["shelf", "text"]
 d_Shelf_signs:∃ C f fd,cls 0=some C/\Cls K C/\Meth K C "signs" f/\Binds K fd ["self", "text"] []/\Fun K "signs" "Shelf.signs" yb4 f fd
 d_size_of:DG K mg "size_of" ydb ["shelf", "thing"]
 d_Shelf_piece:∃ C f fd,cls 0=some C/\Cls K C/\Meth K C "piece" f/\Binds K fd ["self", "number"] []/\Fun K "piece" "Shelf.piece" yb5 f fd
 d_opens_fork:DG K mg "opens_fork" yco ["shelf", "left", "first"]
 d_next_signs:DG K mg "next_signs" ycp ["shelf", "left"]
 d_puts_back:DG K mg "puts_back" ycE ["left", "signs"]
 d_common_signs:DG K mg "common_signs" ybR ["shelf", "left", "other_left"]
 d_common_item:DG K mg "common_item" yb6 ["shelf", "left", "other_left"]
 d_common_items:DG K mg "common_items" ybS ["shelf", "left", "other_left"]
 d_next_sign:DG K mg "next_sign" ycF ["shelf", "left"]
 d_held_together:DG K mg "held_together" ybG ["shelf", "one", "other"]
 d_is_plain_sign:DG K mg "is_plain_sign" ybH ["sign"]
 d_is_plain:DG K mg "is_plain" ycw ["thing"]
 d_is_short:DG K mg "is_short" yc4 ["thing"]
 d_Shelf_lay:∃ C f fd,cls 0=some C/\Cls K C/\Meth K C "lay" f/\Binds K fd ["self", "made"] []/\Fun K "lay" "Shelf.lay" ycG f fd
 d_ends_in:DG K mg "ends_in" ydc ["plain"]
 d_Shelf_lay_leaf:∃ C f fd,cls 0=some C/\Cls K C/\Meth K C "lay_leaf" f/\Binds K fd ["self", "made"] []/\Fun K "lay_leaf" "Shelf.lay_leaf" ybA f fd
 d_Shelf_leaf:∃ C f fd,cls 0=some C/\Cls K C/\Meth K C "leaf" f/\Binds K fd ["self", "plain"] []/\Fun K "leaf" "Shelf.leaf" ycq f fd
 d_check_length:DG K mg "check_length" ybT ["signs"]
 d_Shelf_last_leaf:∃ C f fd,cls 0=some C/\Cls K C/\Meth K C "last_leaf" f/\Binds K fd ["self", "text"] []/\Fun K "last_leaf" "Shelf.last_leaf" ybu f fd
 d_Shelf_first_leaf:∃ C f fd,cls 0=some C/\Cls K C/\Meth K C "first_leaf" f/\Binds K fd ["self", "text"] []/\Fun K "first_leaf" "Shelf.first_leaf" ybn f fd
 d_are_close:DG K mg "are_close" ycH ["shelf", "one", "other"]
 d_Shelf_check_fork:∃ C f fd,cls 0=some C/\Cls K C/\Meth K C "check_fork" f/\Binds K fd ["self", "one", "other"] []/\Fun K "check_fork" "Shelf.check_fork" ybo f fd
 d_Shelf_lay_fork:∃ C f fd,cls 0=some C/\Cls K C/\Meth K C "lay_fork" f/\Binds K fd ["self", "made"] []/\Fun K "lay_fork" "Shelf.lay_fork" ybB f fd
 d_Shelf_fork:∃ C f fd,cls 0=some C/\Cls K C/\Meth K C "fork" f/\Binds K fd ["self", "one", "other"] []/\Fun K "fork" "Shelf.fork" ycr f fd
 d_with_last:DG K mg "with_last" ycI ["shelf", "text", "leaf"]
 d_Shelf_height:∃ C f fd,cls 0=some C/\Cls K C/\Meth K C "height" f/\Binds K fd ["self", "text"] []/\Fun K "height" "Shelf.height" ybU f fd
 d_turned_left:DG K mg "turned_left" yb7 ["shelf", "one", "other"]
 d_without_first:DG K mg "without_first" ybI ["shelf", "text"]
 d_turned_right:DG K mg "turned_right" ybV ["shelf", "one", "other"]
 d_linked:DG K mg "linked" ydp ["shelf", "one", "other"]
 d_welded:DG K mg "welded" ydq ["shelf", "one", "other"]
 d_joined:DG K mg "joined" ydr ["shelf", "one", "other"]
 d_halved:DG K mg "halved" yds ["shelf", "leaves"]
 d_built:DG K mg "built" ydt ["shelf", "plain"]
 d_law_grown:DG K mg "_law_grown" ycJ ["shelf", "plain", "stream"]
 d_law_common:DG K mg "_law_common" ycs ["one", "other"]
 d_law_whole:DG K mg "_law_whole" ycK ["found"]
 d_law_flat:DG K mg "_law_flat" ycx ["shelf", "items"]
 d_law_match:DG K mg "_law_match" ycL ["shelf", "text", "flat", "at"]
 d_law_spelt:DG K mg "_law_spelt" ycM ["shelf", "text", "items"]
 d_law_reads:DG K mg "_law_reads" ycN ["shelf", "text"]
 d_law_signs:DG K mg "_law_signs" ycc ["shelf", "items"]
 d_law_right:DG K mg "_law_right" ycd ["shelf", "texts", "plains", "told"]
 d_law:DG K mg "law" ydO ["script"]
theorem zeo:FnScope ["self"] ["self"] (yad ycl):=⟨rfl,rfl,rfl,by decide +kernel,rfl,by decide +kernel,by decide +kernel⟩
theorem zeY {P:Program} {w:World} {K:PySem.W.Frag} {cls exc:Nat->Option Addr} {mg:Str->Option Value} {base:Heap} (Z:Facts P w K cls exc mg base):GK P w (mkT K cls exc) mg base 1 0 "Shelf" ycS:=by
 obtain ⟨C0,f,fd,h0,h1,h2,h3,h4⟩:=Z.d_Shelf_init
 refine ⟨C0,f,fd,_,h0,h1,h2,h3,okA h4 rfl zeo fun cdv A outer s H E hr C=>?_⟩
 have hu:=hu64 hr
 exact (zab (zaW rfl Z.cf_Shelf (yaa 0) (ycz yac))
  (zab (zaW rfl Z.cf_Shelf (yaa 0) zja)
  (zab (zaW rfl Z.cf_Shelf (yaa 0) (ycz (zaa yaf yac)))
  (zab (zaW rfl Z.cf_Shelf (yaa 0) (ycz (zaa yaf yac)))
  (zab (zaW rfl Z.cf_Shelf (yaa 0) (ycz (zaa yaf yac)))
  (zab (zaW rfl Z.cf_Shelf (yaa 0) (ycz (zaa (ydT yaf) yac)))
  (zab (zaW rfl Z.cf_Shelf (yaa 0) (ycz (zaa yaf yac)))
  (yag (zaW rfl Z.cf_Shelf (yaa 0) (ycz (zaa yaf yac)))))))))))
theorem zct:FnScope ["cell", "k", "one"] ["cell", "k"] (yad ycC):=⟨rfl,rfl,rfl,by decide +kernel,rfl,by decide +kernel,by decide +kernel⟩
theorem zfh {P:Program} {w:World} {K:PySem.W.Frag} {cls exc:Nat->Option Addr} {mg:Str->Option Value} {base:Heap} (Z:Facts P w K cls exc mg base):GF P w (mkT K cls exc) mg base 1 "_law_mixed" ydy:=by
 obtain ⟨f,fd,h1,h2,h3,h4⟩:=Z.d_law_mixed
 refine ⟨f,fd,_,h1,h2,h3,okA h4 rfl zct fun cdv A outer s H E hr C=>?_⟩
 have hu:=hu64 hr
 exact (zab (yaq (i:=2) zct.nd (yat yd6 (yat ydJ (yat (yaV rfl) (yat (yaV rfl) (yat yd6 (yaa 0) yaf) (yat ydJ yaf (yaa 1))) yaf) yaf) yaf))
  (yag (yai (yat yd6 (yat ydJ (yat yd6 (yat ydJ (yaa 2) (yaa 2)) yaf) yaf) yaf))))
theorem zay:FnScope ["script", "k", "cell", "j", "found"] ["script", "k"] (yad yb1):=⟨rfl,rfl,rfl,by decide +kernel,rfl,by decide +kernel,by decide +kernel⟩
theorem zeZ {P:Program} {w:World} {K:PySem.W.Frag} {cls exc:Nat->Option Addr} {mg:Str->Option Value} {base:Heap} (Z:Facts P w K cls exc mg base):GF P w (mkT K cls exc) mg base 2 "_law_stream" ycT:=by
 obtain ⟨f,fd,h1,h2,h3,h4⟩:=Z.d_law_stream
 refine ⟨f,fd,_,h1,h2,h3,okA h4 rfl zay fun cdv A outer s H E hr C=>?_⟩
 have hu:=hu64 hr
 exact (zab (yaq (i:=2) zay.nd yaf)
  (zab (yd7 rfl (zeg (E:=EN) rfl Z.b_range (yaa 1) (r_bi (b_len rfl) rfl Z.b_len PySem.boot_len (zaa (yaa 0) yac)) yaf) (zbt (i:=3) zay.nd) (yag (yaq (i:=2) zay.nd (yat (yaV rfl) (yat ydJ (yaa 2) (yat ydJ (yat yek yaf yaf) (yat yek yaf yaf))) (yat yd6 (r_ix rfl hu (yaa 0) (yaa 3)) (yat ydJ (yat yek yaf yaf) (yat yek yaf yaf)))))))
  (zab (r_if (yar o_ge (yaa 2) (yat yek yaf yaf) (yak _)) (yag (yai (ycz (zaa (yaa 2) yac)))) yas)
  (zab (yaq (i:=2) zay.nd (yat (yaV rfl) (yaa 2) (r_bi (b_sum rfl) rfl Z.b_sum PyProof.Rows.boot_sum (zaa (yew (jf:=[]) (zaT (N:=["script", "k", "cell", "j", "found"]) (sc:=yad yb1) rfl (fun _=>rfl) (by decide +kernel)) rfl (ydD (E:=(fun _=>E)) rfl (yaa 0)) (fun _ _ _ _ _=>zba) (fun _ _ _ _ _=>(yat yd6 (yaa 0) (yat yek yaf yaf)))) yac))))
  (zab (yaq (i:=4) zay.nd yaf)
  (zab (yd7 rfl (zbI (E:=EN) rfl Z.b_range yaf) (zbt (i:=3) zay.nd) (yag (yaq (i:=4) zay.nd (yat (yaV rfl) (yat ydJ (yaa 4) yaf) (yaj rfl (C.nox) (zfh Z) (hr.mono (show 1<=1 by decide)) rfl (zaa (yat (yaV rfl) (yat (yaV rfl) (yaa 2) (yat ydJ yaf (yaa 1))) (r_bi (b_len rfl) rfl Z.b_len PySem.boot_len (zaa (yaa 0) yac))) (zaa (yaa 3) yac)))))))
  (yag (yai (ycz (zaa (yaa 4) yac))))))))))
theorem zcX:FnScope ["stream", "many", "digit"] ["stream", "many"] (yad yc1):=⟨rfl,rfl,rfl,by decide +kernel,rfl,by decide +kernel,by decide +kernel⟩
theorem zaM {P:Program} {w:World} {K:PySem.W.Frag} {cls exc:Nat->Option Addr} {mg:Str->Option Value} {base:Heap} (Z:Facts P w K cls exc mg base):GF P w (mkT K cls exc) mg base 1 "_law_take" yaL:=by
 obtain ⟨f,fd,h1,h2,h3,h4⟩:=Z.d_law_take
 refine ⟨f,fd,_,h1,h2,h3,okA h4 rfl zcX fun cdv A outer s H E hr C=>?_⟩
 have hu:=hu64 hr
 exact (zab (yaq (i:=2) zcX.nd (yat yd6 (r_ix rfl hu (yaa 0) yaf) (yaa 1)))
  (zab (zfN hu (yaa 0) yaf (yat ygp (r_ix rfl hu (yaa 0) yaf) (yaa 1)))
  (yag (yai (yaa 2)))))
theorem zaF:FnScope ["stream", "most", "letters", "many", "kinds", "found", "k"] ["stream", "most"] (yad ycD):=⟨rfl,rfl,rfl,by decide +kernel,rfl,by decide +kernel,by decide +kernel⟩
theorem zcY {P:Program} {w:World} {K:PySem.W.Frag} {cls exc:Nat->Option Addr} {mg:Str->Option Value} {base:Heap} (Z:Facts P w K cls exc mg base):GF P w (mkT K cls exc) mg base 2 "_law_plain" ybN:=by
 obtain ⟨f,fd,h1,h2,h3,h4⟩:=Z.d_law_plain
 refine ⟨f,fd,_,h1,h2,h3,okA h4 rfl zaF fun cdv A outer s H E hr C=>?_⟩
 have hu:=hu64 hr
 exact (zab (yaq (i:=2) zaF.nd yaK)
  (zab (yaq (i:=3) zaF.nd (yat (yaV rfl) (yat (yaV rfl) (yaa 2) (yey rfl PySem.F.plainAttrs_str PySem.F.slot_str_upper PySem.F.type_str_upper (zjl) zdI (yaa 2))) yaK))
  (zab (yaq (i:=4) zaF.nd (r_ix rfl hu (ydi (zaa yaK (zaa yaK (zaa yaK (zaa yaK (zaa (yaa 3) yac)))))) (yaj rfl C (zaM Z) (hr.mono (show 1<=1 by decide)) rfl (zaa (yaa 0) (zaa yaf yac)))))
  (zab (yaq (i:=5) zaF.nd yaK)
  (zab (yd7 rfl (zbI (E:=EN) rfl Z.b_range (yaj rfl (C.nox) (zaM Z) (hr.mono (show 1<=1 by decide)) rfl (zaa (yaa 0) (zaa (yat (yaV rfl) (yaa 1) yaf) yac)))) (zbt (i:=6) zaF.nd) (yag (yaq (i:=5) zaF.nd (yat (yaV rfl) (yaa 5) (r_ix rfl hu (yaa 4) (yaj rfl (C.nox) (zaM Z) (hr.mono (show 1<=1 by decide)) rfl (zaa (yaa 0) (zaa (r_bi (b_len rfl) rfl Z.b_len PySem.boot_len (zaa (yaa 4) yac)) yac))))))))
  (yag (yai (yaa 5))))))))
theorem zbh:FnScope ["stream", "most", "one", "kind", "at"] ["stream", "most"] (yad yc2):=⟨rfl,rfl,rfl,by decide +kernel,rfl,by decide +kernel,by decide +kernel⟩
theorem zgV {P:Program} {w:World} {K:PySem.W.Frag} {cls exc:Nat->Option Addr} {mg:Str->Option Value} {base:Heap} (Z:Facts P w K cls exc mg base):GF P w (mkT K cls exc) mg base 3 "_law_pair" ycv:=by
 obtain ⟨f,fd,h1,h2,h3,h4⟩:=Z.d_law_pair
 refine ⟨f,fd,_,h1,h2,h3,okA h4 rfl zbh fun cdv A outer s H E hr C=>?_⟩
 have hu:=hu64 hr
 exact (zab (yaq (i:=2) zbh.nd (yaj rfl C (zcY Z) (hr.mono (show 2<=2 by decide)) rfl (zaa (yaa 0) (zaa (yaa 1) yac))))
  (zab (yaq (i:=3) zbh.nd (yaj rfl C (zaM Z) (hr.mono (show 1<=2 by decide)) rfl (zaa (yaa 0) (zaa yaf yac))))
  (zab (yaq (i:=4) zbh.nd (yaj rfl C (zaM Z) (hr.mono (show 1<=2 by decide)) rfl (zaa (yaa 0) (zaa (yat (yaV rfl) (r_bi (b_len rfl) rfl Z.b_len PySem.boot_len (zaa (yaa 2) yac)) yaf) yac))))
  (zab (r_if (yar o_lt (yaa 3) yaf (yak _)) (yag (yai (ycu (zaa (yaa 2) (zaa (yaa 2) yac))))) yas)
  (zab (r_if (yar (o_eq rfl hu) (yaa 3) yaf (yak _)) (yag (yai (ycu (zaa (yaa 2) (zaa (yat (yaV rfl) (yat (yaV rfl) (zaw rfl (yaa 2) zaB (zas (yaa 4))) (r_ix rfl hu yaK (yaj rfl C (zaM Z) (hr.mono (show 1<=2 by decide)) rfl (zaa (yaa 0) (zaa yaf yac))))) (zaw rfl (yaa 2) (zas (yat (yaV rfl) (yaa 4) yaf)) zaB)) yac))))) yas)
  (zab (r_if (yar (o_eq rfl hu) (yaa 3) yaf (yak _)) (yag (yai (ycu (zaa (zaw rfl (yaa 2) zaB (zas (yaa 4))) (zaa (yaa 2) yac))))) yas)
  (yag (yai (ycu (zaa (yaa 2) (zaa (yaj rfl C (zcY Z) (hr.mono (show 2<=2 by decide)) rfl (zaa (yaa 0) (zaa (yaa 1) yac))) yac)))))))))))
theorem zep:FnScope ["self"] ["self"] (yad ycm):=⟨rfl,rfl,rfl,by decide +kernel,rfl,by decide +kernel,by decide +kernel⟩
theorem zbA {P:Program} {w:World} {K:PySem.W.Frag} {cls exc:Nat->Option Addr} {mg:Str->Option Value} {base:Heap} (Z:Facts P w K cls exc mg base):GM P w (mkT K cls exc) mg base 1 0 "many" yci:=by
 obtain ⟨C0,f,fd,h0,hc,h1,h3,h4⟩:=Z.d_Shelf_many
 refine ⟨⟨C0,f,fd,_,h0,hc,h1,h3,okA h4 rfl zep fun cdv A outer s H E hr C=>?_⟩,(show ("many" : Str)∉flds 0 from by decide +kernel)⟩
 have hu:=hu64 hr
 exact (yag (yai (r_bi (b_len rfl) rfl Z.b_len PySem.boot_len (zaa (yaM rfl Z.cf_Shelf (yaa 0)) yac))))
theorem zfi:FnScope ["thing"] ["thing"] (yad yc3):=⟨rfl,rfl,rfl,by decide +kernel,rfl,by decide +kernel,by decide +kernel⟩
theorem zgW {P:Program} {w:World} {K:PySem.W.Frag} {cls exc:Nat->Option Addr} {mg:Str->Option Value} {base:Heap} (Z:Facts P w K cls exc mg base):GF P w (mkT K cls exc) mg base 1 "is_whole" ydK:=by
 obtain ⟨f,fd,h1,h2,h3,h4⟩:=Z.d_is_whole
 refine ⟨f,fd,_,h1,h2,h3,okA h4 rfl zfi fun cdv A outer s H E hr C=>?_⟩
 have hu:=hu64 hr
 exact (yag (yai (ydV (yc9 rfl rfl Z.b_isinstance (yaa 0) rfl Z.b_int yfy (by decide)) (ydU (ygs (yc9 rfl rfl Z.b_isinstance (yaa 0) rfl Z.b_bool zfx (by decide)))))))
theorem zcu:FnScope ["self", "number"] ["self", "number"] (yad ybt):=⟨rfl,rfl,rfl,by decide +kernel,rfl,by decide +kernel,by decide +kernel⟩
theorem zcP {P:Program} {w:World} {K:PySem.W.Frag} {cls exc:Nat->Option Addr} {mg:Str->Option Value} {base:Heap} (Z:Facts P w K cls exc mg base):GM P w (mkT K cls exc) mg base 2 0 "has_piece" yce:=by
 obtain ⟨C0,f,fd,h0,hc,h1,h3,h4⟩:=Z.d_Shelf_has_piece
 refine ⟨⟨C0,f,fd,_,h0,hc,h1,h3,okA h4 rfl zcu fun cdv A outer s H E hr C=>?_⟩,(show ("has_piece" : Str)∉flds 0 from by decide +kernel)⟩
 have hu:=hu64 hr
 exact (yag (yai (ydV (yaj rfl C (zgW Z) (hr.mono (show 1<=1 by decide)) rfl (zaa (yaa 1) yac)) (ydU (zdF o_le o_le yaf (yaa 1) (r_bi (b_len rfl) rfl Z.b_len PySem.boot_len (zaa (yaM rfl Z.cf_Shelf (yaa 0)) yac)))))))
theorem zcc:FnScope ["self", "number"] ["self", "number"] (yad ybk):=⟨rfl,rfl,rfl,by decide +kernel,rfl,by decide +kernel,by decide +kernel⟩
theorem zaI {P:Program} {w:World} {K:PySem.W.Frag} {cls exc:Nat->Option Addr} {mg:Str->Option Value} {base:Heap} (Z:Facts P w K cls exc mg base):GM P w (mkT K cls exc) mg base 3 0 "check_piece" yba:=by
 obtain ⟨C0,f,fd,h0,hc,h1,h3,h4⟩:=Z.d_Shelf_check_piece
 refine ⟨⟨C0,f,fd,_,h0,hc,h1,h3,okA h4 rfl zcc fun cdv A outer s H E hr C=>?_⟩,(show ("check_piece" : Str)∉flds 0 from by decide +kernel)⟩
 have hu:=hu64 hr
 exact (yag (r_if (ych (zal rfl (yao rfl C (zcP Z) (hr.mono (show 2<=2 by decide)) (yaa 0) (zaa (yaa 1) yac)))) (yag (za1 Z.x_NoPiece za0 rfl (zaa yaK yac))) yas))
theorem zck:FnScope ["self", "text"] ["self", "text"] (yad ybm):=⟨rfl,rfl,rfl,by decide +kernel,rfl,by decide +kernel,by decide +kernel⟩
theorem zaA {P:Program} {w:World} {K:PySem.W.Frag} {cls exc:Nat->Option Addr} {mg:Str->Option Value} {base:Heap} (Z:Facts P w K cls exc mg base):GM P w (mkT K cls exc) mg base 4 0 "check_text" yaP:=by
 obtain ⟨C0,f,fd,h0,hc,h1,h3,h4⟩:=Z.d_Shelf_check_text
 refine ⟨⟨C0,f,fd,_,h0,hc,h1,h3,okA h4 rfl zck fun cdv A outer s H E hr C=>?_⟩,(show ("check_text" : Str)∉flds 0 from by decide +kernel)⟩
 have hu:=hu64 hr
 exact (yag (r_if (yar (o_ne rfl hu) (yaa 1) yaf (yak _)) (yag (yaJ (yao rfl C (zaI Z) (hr.mono (show 3<=3 by decide)) (yaa 0) (zaa (yaa 1) yac)))) yas))
theorem zeq:FnScope ["shelf", "text"] ["shelf", "text"] (yad ycn):=⟨rfl,rfl,rfl,by decide +kernel,rfl,by decide +kernel,by decide +kernel⟩
theorem zcv {P:Program} {w:World} {K:PySem.W.Frag} {cls exc:Nat->Option Addr} {mg:Str->Option Value} {base:Heap} (Z:Facts P w K cls exc mg base):GF P w (mkT K cls exc) mg base 5 "whole_left" ybW:=by
 obtain ⟨f,fd,h1,h2,h3,h4⟩:=Z.d_whole_left
 refine ⟨f,fd,_,h1,h2,h3,okA h4 rfl zeq fun cdv A outer s H E hr C=>?_⟩
 have hu:=hu64 hr
 exact (zab (yaJ (yao rfl C (zaA Z) (hr.mono (show 4<=4 by decide)) (yaa 0) (zaa (yaa 1) yac)))
  (yag (yai (yfj (yar (o_eq rfl hu) (yaa 1) yaf (yak _)) (ydi yac) (ycz (zaa (yaa 1) yac))))))
theorem zdX:FnScope ["self", "text"] ["self", "text"] (yad yb4):=⟨rfl,rfl,rfl,by decide +kernel,rfl,by decide +kernel,by decide +kernel⟩
theorem zaD {P:Program} {w:World} {K:PySem.W.Frag} {cls exc:Nat->Option Addr} {mg:Str->Option Value} {base:Heap} (Z:Facts P w K cls exc mg base):GM P w (mkT K cls exc) mg base 5 0 "signs" ya2:=by
 obtain ⟨C0,f,fd,h0,hc,h1,h3,h4⟩:=Z.d_Shelf_signs
 refine ⟨⟨C0,f,fd,_,h0,hc,h1,h3,okA h4 rfl zdX fun cdv A outer s H E hr C=>?_⟩,(show ("signs" : Str)∉flds 0 from by decide +kernel)⟩
 have hu:=hu64 hr
 exact (zab (yaJ (yao rfl C (zaA Z) (hr.mono (show 4<=4 by decide)) (yaa 0) (zaa (yaa 1) yac)))
  (yag (yai (r_ix rfl hu (yaM rfl Z.cf_Shelf (yaa 0)) (yaa 1)))))
theorem zgX:FnScope ["shelf", "thing"] ["shelf", "thing"] (yad ydb):=⟨rfl,rfl,rfl,by decide +kernel,rfl,by decide +kernel,by decide +kernel⟩
theorem zem {P:Program} {w:World} {K:PySem.W.Frag} {cls exc:Nat->Option Addr} {mg:Str->Option Value} {base:Heap} (Z:Facts P w K cls exc mg base):GF P w (mkT K cls exc) mg base 6 "size_of" ya9:=by
 obtain ⟨f,fd,h1,h2,h3,h4⟩:=Z.d_size_of
 refine ⟨f,fd,_,h1,h2,h3,okA h4 rfl zgX fun cdv A outer s H E hr C=>?_⟩
 have hu:=hu64 hr
 exact (zab (r_if (zal rfl (yc9 rfl rfl Z.b_isinstance (yaa 1) rfl Z.b_str ydZ (by decide))) (yag (yai (r_bi (b_len rfl) rfl Z.b_len PySem.boot_len (zaa (yaa 1) yac)))) yas)
  (yag (yai (yao rfl C (zaD Z) (hr.mono (show 5<=5 by decide)) (yaa 0) (zaa (yaa 1) yac)))))
theorem zdY:FnScope ["self", "number"] ["self", "number"] (yad yb5):=⟨rfl,rfl,rfl,by decide +kernel,rfl,by decide +kernel,by decide +kernel⟩
theorem zag {P:Program} {w:World} {K:PySem.W.Frag} {cls exc:Nat->Option Addr} {mg:Str->Option Value} {base:Heap} (Z:Facts P w K cls exc mg base):GM P w (mkT K cls exc) mg base 4 0 "piece" yaA:=by
 obtain ⟨C0,f,fd,h0,hc,h1,h3,h4⟩:=Z.d_Shelf_piece
 refine ⟨⟨C0,f,fd,_,h0,hc,h1,h3,okA h4 rfl zdY fun cdv A outer s H E hr C=>?_⟩,(show ("piece" : Str)∉flds 0 from by decide +kernel)⟩
 have hu:=hu64 hr
 exact (zab (yaJ (yao rfl C (zaI Z) (hr.mono (show 3<=3 by decide)) (yaa 0) (zaa (yaa 1) yac)))
  (yag (yai (r_ix rfl hu (yaM rfl Z.cf_Shelf (yaa 0)) (yat yeu (yaa 1) yaf)))))
theorem zcf:FnScope ["shelf", "left", "first", "piece"] ["shelf", "left", "first"] (yad yco):=⟨rfl,rfl,rfl,by decide +kernel,rfl,by decide +kernel,by decide +kernel⟩
theorem zcw {P:Program} {w:World} {K:PySem.W.Frag} {cls exc:Nat->Option Addr} {mg:Str->Option Value} {base:Heap} (Z:Facts P w K cls exc mg base):GF P w (mkT K cls exc) mg base 5 "opens_fork" ybd:=by
 obtain ⟨f,fd,h1,h2,h3,h4⟩:=Z.d_opens_fork
 refine ⟨f,fd,_,h1,h2,h3,okA h4 rfl zcf fun cdv A outer s H E hr C=>?_⟩
 have hu:=hu64 hr
 exact (zab (r_if (zal rfl (yc9 rfl rfl Z.b_isinstance (yaa 2) rfl Z.b_str ydZ (by decide))) (yag (yai r_bl)) yas)
  (zab (yaq (i:=3) zcf.nd (yao rfl C (zag Z) (hr.mono (show 4<=4 by decide)) (yaa 0) (zaa (yaa 2) yac)))
  (zab (r_if (yar (o_eq rfl hu) (r_ix rfl hu (yaa 3) yaf) yaK (yak _)) (yag (yai r_bl)) yas)
  (zab (yaJ (r_bm rfl PySem.F.plainAttrs_list PySem.F.slot_list_append PySem.F.type_list_append (zam) zak (yaa 1) (zaa (r_ix rfl hu (yaa 3) yaf) yac)))
  (zab (yaJ (r_bm rfl PySem.F.plainAttrs_list PySem.F.slot_list_append PySem.F.type_list_append (zam) zak (yaa 1) (zaa (r_ix rfl hu (yaa 3) yaf) yac)))
  (yag (yai r_bl)))))))
theorem zcg:FnScope ["shelf", "left", "first"] ["shelf", "left"] (yad ycp):=⟨rfl,rfl,rfl,by decide +kernel,rfl,by decide +kernel,by decide +kernel⟩
theorem zbB {P:Program} {w:World} {K:PySem.W.Frag} {cls exc:Nat->Option Addr} {mg:Str->Option Value} {base:Heap} (Z:Facts P w K cls exc mg base):GF P w (mkT K cls exc) mg base 6 "next_signs" ybr:=by
 obtain ⟨f,fd,h1,h2,h3,h4⟩:=Z.d_next_signs
 refine ⟨f,fd,_,h1,h2,h3,okA h4 rfl zcg fun cdv A outer s H E hr C=>?_⟩
 have hu:=hu64 hr
 exact (zab (zbU yaH (yar (o_ne rfl hu) (yaa 1) (ydi yac) (yak _)) (zab (yaq (i:=2) zcg.nd (yey rfl PySem.F.plainAttrs_list PySem.F.slot_list_pop PySem.F.type_list_pop (yeP) zak (yaa 1)))
  (zab (r_if (zal rfl (yc9 rfl rfl Z.b_isinstance (yaa 2) rfl Z.b_str ydZ (by decide))) (yag (yai (yaa 2))) yas)
  (yag (r_if (ych (zal rfl (yaj rfl (C.nox) (zcw Z) (hr.mono (show 5<=5 by decide)) rfl (zaa (yaa 0) (zaa (yaa 1) (zaa (yaa 2) yac)))))) (yag (yai (r_ix rfl hu (yao rfl (C.nox) (zag Z) (hr.mono (show 4<=5 by decide)) (yaa 0) (zaa (yaa 2) yac)) yaf))) yas)))))
  (yag (yai yaK)))
theorem ze0:FnScope ["left", "signs"] ["left", "signs"] (yad ycE):=⟨rfl,rfl,rfl,by decide +kernel,rfl,by decide +kernel,by decide +kernel⟩
theorem zcZ {P:Program} {w:World} {K:PySem.W.Frag} {cls exc:Nat->Option Addr} {mg:Str->Option Value} {base:Heap} (Z:Facts P w K cls exc mg base):GF P w (mkT K cls exc) mg base 1 "puts_back" ycA:=by
 obtain ⟨f,fd,h1,h2,h3,h4⟩:=Z.d_puts_back
 refine ⟨f,fd,_,h1,h2,h3,okA h4 rfl ze0 fun cdv A outer s H E hr C=>?_⟩
 have hu:=hu64 hr
 exact (yag (r_if (yar (o_ne rfl hu) (yaa 1) yaK (yak _)) (yag (yaJ (r_bm rfl PySem.F.plainAttrs_list PySem.F.slot_list_append PySem.F.type_list_append (zam) zak (yaa 0) (zaa (yaa 1) yac)))) yas))
theorem zaN:FnScope ["shelf", "left", "other_left", "one", "other", "many"] ["shelf", "left", "other_left"] (yad ybR):=⟨rfl,rfl,rfl,by decide +kernel,rfl,by decide +kernel,by decide +kernel⟩
theorem zdZ {P:Program} {w:World} {K:PySem.W.Frag} {cls exc:Nat->Option Addr} {mg:Str->Option Value} {base:Heap} (Z:Facts P w K cls exc mg base):GF P w (mkT K cls exc) mg base 7 "common_signs" ycj:=by
 obtain ⟨f,fd,h1,h2,h3,h4⟩:=Z.d_common_signs
 refine ⟨f,fd,_,h1,h2,h3,okA h4 rfl zaN fun cdv A outer s H E hr C=>?_⟩
 have hu:=hu64 hr
 exact (zab (yaq (i:=3) zaN.nd (yaj rfl C (zbB Z) (hr.mono (show 6<=6 by decide)) rfl (zaa (yaa 0) (zaa (yaa 1) yac))))
  (zab (yaq (i:=4) zaN.nd (yaj rfl C (zbB Z) (hr.mono (show 6<=6 by decide)) rfl (zaa (yaa 0) (zaa (yaa 2) yac))))
  (zab (yaq (i:=5) zaN.nd yaf)
  (zab (zbU yaH (rt_w (yd2 (yar o_lt (yaa 5) (r_bi (yfO) rfl Z.b_min PyProof.Rows.boot_min (zaa (r_bi (b_len rfl) rfl Z.b_len PySem.boot_len (zaa (yaa 3) yac)) (zaa (r_bi (b_len rfl) rfl Z.b_len PySem.boot_len (zaa (yaa 4) yac)) yac))) (yak _)) (zbs (yar (o_eq rfl hu) (r_ix rfl hu (yaa 3) (yaa 5)) (r_ix rfl hu (yaa 4) (yaa 5)) (yak _))))) (yag (yaq (i:=5) zaN.nd (yat (yaV rfl) (yaa 5) yaf))))
  (zab (yaJ (yaj rfl C (zcZ Z) (hr.mono (show 1<=6 by decide)) rfl (zaa (yaa 1) (zaa (zaw rfl (yaa 3) (zas (yaa 5)) zaB) yac))))
  (zab (yaJ (yaj rfl C (zcZ Z) (hr.mono (show 1<=6 by decide)) rfl (zaa (yaa 2) (zaa (zaw rfl (yaa 4) (zas (yaa 5)) zaB) yac))))
  (yag (yai (zaw rfl (yaa 3) zaB (zas (yaa 5)))))))))))
theorem za2:FnScope ["shelf", "left", "other_left", "shorter", "longer", "first"] ["shelf", "left", "other_left"] (yad yb6):=⟨rfl,rfl,rfl,by decide +kernel,rfl,by decide +kernel,by decide +kernel⟩
theorem zer {P:Program} {w:World} {K:PySem.W.Frag} {cls exc:Nat->Option Addr} {mg:Str->Option Value} {base:Heap} (Z:Facts P w K cls exc mg base):GF P w (mkT K cls exc) mg base 8 "common_item" ybv:=by
 obtain ⟨f,fd,h1,h2,h3,h4⟩:=Z.d_common_item
 refine ⟨f,fd,_,h1,h2,h3,okA h4 rfl za2 fun cdv A outer s H E hr C=>?_⟩
 have hu:=hu64 hr
 exact (zab (zbU yaH (yar (o_ne rfl hu) (r_ix rfl hu (yaa 1) (ydT yaf)) (r_ix rfl hu (yaa 2) (ydT yaf)) (yak _)) (zab (yaq (i:=3) za2.nd (ycO o_lt (yaj rfl (C.nox) (zem Z) (hr.mono (show 6<=7 by decide)) rfl (zaa (yaa 0) (zaa (r_ix rfl hu (yaa 1) (ydT yaf)) yac))) (yaj rfl (C.nox) (zem Z) (hr.mono (show 6<=7 by decide)) rfl (zaa (yaa 0) (zaa (r_ix rfl hu (yaa 2) (ydT yaf)) yac))) (yak _)))
  (zab (yaq (i:=4) za2.nd (yfj (zal rfl (yaa 3)) (yaa 2) (yaa 1)))
  (zab (yaq (i:=5) za2.nd (yey rfl PySem.F.plainAttrs_list PySem.F.slot_list_pop PySem.F.type_list_pop (yeP) zak (yaa 4)))
  (yag (r_if (ych (zal rfl (yaj rfl (C.nox) (zcw Z) (hr.mono (show 5<=7 by decide)) rfl (zaa (yaa 0) (zaa (yaa 4) (zaa (yaa 5) yac)))))) (zab (yaJ (r_bm rfl PySem.F.plainAttrs_list PySem.F.slot_list_append PySem.F.type_list_append (zam) zak (yaa 4) (zaa (yaa 5) yac)))
  (yag (yai (yaj rfl (C.nox) (zdZ Z) (hr.mono (show 7<=7 by decide)) rfl (zaa (yaa 0) (zaa (yaa 1) (zaa (yaa 2) yac))))))) yas))))))
  (zab (yaJ (yey rfl PySem.F.plainAttrs_list PySem.F.slot_list_pop PySem.F.type_list_pop (yeP) zak (yaa 2)))
  (yag (yai (yey rfl PySem.F.plainAttrs_list PySem.F.slot_list_pop PySem.F.type_list_pop (yeP) zak (yaa 1))))))
theorem za8:FnScope ["shelf", "left", "other_left", "items", "item"] ["shelf", "left", "other_left"] (yad ybS):=⟨rfl,rfl,rfl,by decide +kernel,rfl,by decide +kernel,by decide +kernel⟩
theorem zd0 {P:Program} {w:World} {K:PySem.W.Frag} {cls exc:Nat->Option Addr} {mg:Str->Option Value} {base:Heap} (Z:Facts P w K cls exc mg base):GF P w (mkT K cls exc) mg base 9 "common_items" ycZ:=by
 obtain ⟨f,fd,h1,h2,h3,h4⟩:=Z.d_common_items
 refine ⟨f,fd,_,h1,h2,h3,okA h4 rfl za8 fun cdv A outer s H E hr C=>?_⟩
 have hu:=hu64 hr
 exact (zab (yaq (i:=3) za8.nd (ycz yac))
  (zab (zbU yaH (rt_w (yd2 (yar (o_ne rfl hu) (yaa 1) (ydi yac) (yak _)) (zbs (yar (o_ne rfl hu) (yaa 2) (ydi yac) (yak _))))) (zab (yaq (i:=4) za8.nd (yaj rfl (C.nox) (zer Z) (hr.mono (show 8<=8 by decide)) rfl (zaa (yaa 0) (zaa (yaa 1) (zaa (yaa 2) yac)))))
  (zab (r_if (yar (o_eq rfl hu) (yaa 4) yaK (yak _)) (yag zjb) yas)
  (yag (yaJ (r_bm rfl PySem.F.plainAttrs_list PySem.F.slot_list_append PySem.F.type_list_append (zam) zak (yaa 3) (zaa (yaa 4) yac)))))))
  (yag (yai (yaa 3)))))
theorem ze1:FnScope ["shelf", "left"] ["shelf", "left"] (yad ycF):=⟨rfl,rfl,rfl,by decide +kernel,rfl,by decide +kernel,by decide +kernel⟩
theorem zc0 {P:Program} {w:World} {K:PySem.W.Frag} {cls exc:Nat->Option Addr} {mg:Str->Option Value} {base:Heap} (Z:Facts P w K cls exc mg base):GF P w (mkT K cls exc) mg base 7 "next_sign" yca:=by
 obtain ⟨f,fd,h1,h2,h3,h4⟩:=Z.d_next_sign
 refine ⟨f,fd,_,h1,h2,h3,okA h4 rfl ze1 fun cdv A outer s H E hr C=>?_⟩
 have hu:=hu64 hr
 exact (yag (yai (zaw rfl (yaj rfl C (zbB Z) (hr.mono (show 6<=6 by decide)) rfl (zaa (yaa 0) (zaa (yaa 1) yac))) zaB (zas yaf))))
theorem zaG:FnScope ["shelf", "one", "other", "longest", "left", "other_left", "items"] ["shelf", "one", "other"] (yad ybG):=⟨rfl,rfl,rfl,by decide +kernel,rfl,by decide +kernel,by decide +kernel⟩
theorem zaC {P:Program} {w:World} {K:PySem.W.Frag} {cls exc:Nat->Option Addr} {mg:Str->Option Value} {base:Heap} (Z:Facts P w K cls exc mg base):GF P w (mkT K cls exc) mg base 10 "held_together" yaz:=by
 obtain ⟨f,fd,h1,h2,h3,h4⟩:=Z.d_held_together
 refine ⟨f,fd,_,h1,h2,h3,okA h4 rfl zaG fun cdv A outer s H E hr C=>?_⟩
 have hu:=hu64 hr
 exact (zab (yaq (i:=3) zaG.nd (r_bi (yfN) rfl Z.b_max PyProof.Rows.boot_max (zaa (yao rfl C (zaD Z) (hr.mono (show 5<=9 by decide)) (yaa 0) (zaa (yaa 1) yac)) (zaa (yao rfl C (zaD Z) (hr.mono (show 5<=9 by decide)) (yaa 0) (zaa (yaa 2) yac)) yac))))
  (zab (r_if (rt_w (yd2 (yar (o_ne rfl hu) (yaa 1) (yaa 2) (yak _)) (zbs (yar o_gt (yaa 3) (r_gI rfl Z.c_MOST_PLAIN) (yak _))))) (yag (za1 Z.x_TooLong za0 rfl (zaa yaK yac))) yas)
  (zab (yaq (i:=4) zaG.nd (yaj rfl C (zcv Z) (hr.mono (show 5<=9 by decide)) rfl (zaa (yaa 0) (zaa (yaa 1) yac))))
  (zab (yaq (i:=5) zaG.nd (yaj rfl C (zcv Z) (hr.mono (show 5<=9 by decide)) rfl (zaa (yaa 0) (zaa (yaa 2) yac))))
  (zab (yaq (i:=6) zaG.nd (yaj rfl C (zd0 Z) (hr.mono (show 9<=9 by decide)) rfl (zaa (yaa 0) (zaa (yaa 4) (zaa (yaa 5) yac)))))
  (zab (r_if (rt_w (yd2 (yar (o_eq rfl hu) (yaa 4) (ydi yac) (yak _)) (zbs (yar (o_eq rfl hu) (yaa 5) (ydi yac) (yak _))))) (yag (yai (ycu (zaa yaK (zaa (yaa 6) yac))))) yas)
  (yag (yai (ycu (zaa yaK (zaa (yaa 6) (zaa (yaj rfl C (zc0 Z) (hr.mono (show 7<=9 by decide)) rfl (zaa (yaa 0) (zaa (yaa 4) yac))) (zaa (yaj rfl C (zc0 Z) (hr.mono (show 7<=9 by decide)) rfl (zaa (yaa 0) (zaa (yaa 5) yac))) yac)))))))))))))
theorem zdm:FnScope ["sign"] ["sign"] (yad ybH):=⟨rfl,rfl,rfl,by decide +kernel,rfl,by decide +kernel,by decide +kernel⟩
theorem zdz {P:Program} {w:World} {K:PySem.W.Frag} {cls exc:Nat->Option Addr} {mg:Str->Option Value} {base:Heap} (Z:Facts P w K cls exc mg base):GF P w (mkT K cls exc) mg base 1 "is_plain_sign" yb9:=by
 obtain ⟨f,fd,h1,h2,h3,h4⟩:=Z.d_is_plain_sign
 refine ⟨f,fd,_,h1,h2,h3,okA h4 rfl zdm fun cdv A outer s H E hr C=>?_⟩
 have hu:=hu64 hr
 exact (yag (yai (r_or (ycO (o_eq rfl hu) (yaa 0) yaK (yak _)) (ydU (zdF o_le o_le yaK (yaa 0) yaK)))))
theorem zfj:FnScope ["thing"] ["thing"] (yad ycw):=⟨rfl,rfl,rfl,by decide +kernel,rfl,by decide +kernel,by decide +kernel⟩
theorem zdA {P:Program} {w:World} {K:PySem.W.Frag} {cls exc:Nat->Option Addr} {mg:Str->Option Value} {base:Heap} (Z:Facts P w K cls exc mg base):GF P w (mkT K cls exc) mg base 2 "is_plain" ydj:=by
 obtain ⟨f,fd,h1,h2,h3,h4⟩:=Z.d_is_plain
 refine ⟨f,fd,_,h1,h2,h3,okA h4 rfl zfj fun cdv A outer s H E hr C=>?_⟩
 have hu:=hu64 hr
 exact (zab (r_if (ych (zal rfl (yc9 rfl rfl Z.b_isinstance (yaa 0) rfl Z.b_str ydZ (by decide)))) (yag (yai r_bl)) yas)
  (yag (yai (r_bi (b_all rfl) rfl Z.b_all PyProof.Rows.boot_all (zaa (yew (jf:=[]) (zaT (N:=["thing"]) (sc:=yad ycw) rfl (fun _=>rfl) (by decide +kernel)) rfl (ydD (E:=(fun _=>E)) rfl (yaa 0)) (fun _ _ _ _ _=>zba) (fun _ _ _ _ _=>(yaj rfl (CA.never rfl) (zdz Z) (hr.mono (show 1<=1 by decide)) rfl (zaa (yaa 0) yac)))) yac)))))
theorem zfk:FnScope ["thing"] ["thing"] (yad yc4):=⟨rfl,rfl,rfl,by decide +kernel,rfl,by decide +kernel,by decide +kernel⟩
theorem zgY {P:Program} {w:World} {K:PySem.W.Frag} {cls exc:Nat->Option Addr} {mg:Str->Option Value} {base:Heap} (Z:Facts P w K cls exc mg base):GF P w (mkT K cls exc) mg base 3 "is_short" ydL:=by
 obtain ⟨f,fd,h1,h2,h3,h4⟩:=Z.d_is_short
 refine ⟨f,fd,_,h1,h2,h3,okA h4 rfl zfk fun cdv A outer s H E hr C=>?_⟩
 have hu:=hu64 hr
 exact (yag (yai (ydV (yaj rfl C (zdA Z) (hr.mono (show 2<=2 by decide)) rfl (zaa (yaa 0) yac)) (ydU (zdF o_le o_le yaf (r_bi (b_len rfl) rfl Z.b_len PySem.boot_len (zaa (yaa 0) yac)) (r_gI rfl Z.c_LEAF_SIGNS))))))
theorem zcx:FnScope ["self", "made", "number"] ["self", "made"] (yad ycG):=⟨rfl,rfl,rfl,by decide +kernel,rfl,by decide +kernel,by decide +kernel⟩
theorem zc1 {P:Program} {w:World} {K:PySem.W.Frag} {cls exc:Nat->Option Addr} {mg:Str->Option Value} {base:Heap} (Z:Facts P w K cls exc mg base):GM P w (mkT K cls exc) mg base 1 0 "lay" yc6:=by
 obtain ⟨C0,f,fd,h0,hc,h1,h3,h4⟩:=Z.d_Shelf_lay
 refine ⟨⟨C0,f,fd,_,h0,hc,h1,h3,okA h4 rfl zcx fun cdv A outer s H E hr C=>?_⟩,(show ("lay" : Str)∉flds 0 from by decide +kernel)⟩
 have hu:=hu64 hr
 exact (zab (yaJ (r_bm rfl PySem.F.plainAttrs_list PySem.F.slot_list_append PySem.F.type_list_append (zam) zak (yaM rfl Z.cf_Shelf (yaa 0)) (zaa (yaa 1) yac)))
  (zab (yaq (i:=2) zcx.nd (r_bi (b_len rfl) rfl Z.b_len PySem.boot_len (zaa (yaM rfl Z.cf_Shelf (yaa 0)) yac)))
  (zab (zfN hu (yaM rfl Z.cf_Shelf (yaa 0)) (yaa 1) (yaa 2))
  (yag (yai (yaa 2))))))
theorem zgZ:FnScope ["plain"] ["plain"] (yad ydc):=⟨rfl,rfl,rfl,by decide +kernel,rfl,by decide +kernel,by decide +kernel⟩
theorem zhG {P:Program} {w:World} {K:PySem.W.Frag} {cls exc:Nat->Option Addr} {mg:Str->Option Value} {base:Heap} (Z:Facts P w K cls exc mg base):GF P w (mkT K cls exc) mg base 1 "ends_in" ydW:=by
 obtain ⟨f,fd,h1,h2,h3,h4⟩:=Z.d_ends_in
 refine ⟨f,fd,_,h1,h2,h3,okA h4 rfl zgZ fun cdv A outer s H E hr C=>?_⟩
 have hu:=hu64 hr
 exact (yag (yai (r_bm rfl PySem.F.plainAttrs_str PySem.F.slot_str_count PySem.F.type_str_count (zig) zdI (yaa 0) (zaa yaK yac))))
theorem za3:FnScope ["self", "made", "number", "plain"] ["self", "made"] (yad ybA):=⟨rfl,rfl,rfl,by decide +kernel,rfl,by decide +kernel,by decide +kernel⟩
theorem zdn {P:Program} {w:World} {K:PySem.W.Frag} {cls exc:Nat->Option Addr} {mg:Str->Option Value} {base:Heap} (Z:Facts P w K cls exc mg base):GM P w (mkT K cls exc) mg base 2 0 "lay_leaf" ybY:=by
 obtain ⟨C0,f,fd,h0,hc,h1,h3,h4⟩:=Z.d_Shelf_lay_leaf
 refine ⟨⟨C0,f,fd,_,h0,hc,h1,h3,okA h4 rfl za3 fun cdv A outer s H E hr C=>?_⟩,(show ("lay_leaf" : Str)∉flds 0 from by decide +kernel)⟩
 have hu:=hu64 hr
 exact (zab (yaq (i:=2) za3.nd (yao rfl C (zc1 Z) (hr.mono (show 1<=1 by decide)) (yaa 0) (zaa (yaa 1) yac)))
  (zab (yaq (i:=3) za3.nd (r_ix rfl hu (yaa 1) yaf))
  (zab (yaJ (r_bm rfl PySem.F.plainAttrs_list PySem.F.slot_list_append PySem.F.type_list_append (zam) zak (yaM rfl Z.cf_Shelf (yaa 0)) (zaa (r_bi (b_len rfl) rfl Z.b_len PySem.boot_len (zaa (yaa 3) yac)) yac)))
  (zab (yaJ (r_bm rfl PySem.F.plainAttrs_list PySem.F.slot_list_append PySem.F.type_list_append (zam) zak (yaM rfl Z.cf_Shelf (yaa 0)) (zaa (yaj rfl C (zhG Z) (hr.mono (show 1<=1 by decide)) rfl (zaa (yaa 3) yac)) yac)))
  (zab (yaJ (r_bm rfl PySem.F.plainAttrs_list PySem.F.slot_list_append PySem.F.type_list_append (zam) zak (yaM rfl Z.cf_Shelf (yaa 0)) (zaa yaf yac)))
  (zab (yaJ (r_bm rfl PySem.F.plainAttrs_list PySem.F.slot_list_append PySem.F.type_list_append (zam) zak (yaM rfl Z.cf_Shelf (yaa 0)) (zaa yaf yac)))
  (zab (yaJ (r_bm rfl PySem.F.plainAttrs_list PySem.F.slot_list_append PySem.F.type_list_append (zam) zak (yaM rfl Z.cf_Shelf (yaa 0)) (zaa (yaa 2) yac)))
  (yag (yaJ (r_bm rfl PySem.F.plainAttrs_list PySem.F.slot_list_append PySem.F.type_list_append (zam) zak (yaM rfl Z.cf_Shelf (yaa 0)) (zaa (yaa 2) yac)))))))))))
theorem zch:FnScope ["self", "plain", "made"] ["self", "plain"] (yad ycq):=⟨rfl,rfl,rfl,by decide +kernel,rfl,by decide +kernel,by decide +kernel⟩
theorem zbC {P:Program} {w:World} {K:PySem.W.Frag} {cls exc:Nat->Option Addr} {mg:Str->Option Value} {base:Heap} (Z:Facts P w K cls exc mg base):GM P w (mkT K cls exc) mg base 4 0 "leaf" yaT:=by
 obtain ⟨C0,f,fd,h0,hc,h1,h3,h4⟩:=Z.d_Shelf_leaf
 refine ⟨⟨C0,f,fd,_,h0,hc,h1,h3,okA h4 rfl zch fun cdv A outer s H E hr C=>?_⟩,(show ("leaf" : Str)∉flds 0 from by decide +kernel)⟩
 have hu:=hu64 hr
 exact (zab (r_if (ych (zal rfl (yaj rfl C (zgY Z) (hr.mono (show 3<=3 by decide)) rfl (zaa (yaa 1) yac)))) (yag (za1 Z.x_NoText za0 rfl (zaa yaK yac))) yas)
  (zab (yaq (i:=2) zch.nd (ycu (zaa yaK (zaa (yaa 1) yac))))
  (zab (r_if (yar (zfO rfl hu) (yaa 2) (yaM rfl Z.cf_Shelf (yaa 0)) rfl) (yag (yaJ (yao rfl C (zdn Z) (hr.mono (show 2<=3 by decide)) (yaa 0) (zaa (yaa 2) yac)))) yas)
  (yag (yai (r_ix rfl hu (yaM rfl Z.cf_Shelf (yaa 0)) (yaa 2)))))))
theorem zdB:FnScope ["signs"] ["signs"] (yad ybT):=⟨rfl,rfl,rfl,by decide +kernel,rfl,by decide +kernel,by decide +kernel⟩
theorem zd1 {P:Program} {w:World} {K:PySem.W.Frag} {cls exc:Nat->Option Addr} {mg:Str->Option Value} {base:Heap} (Z:Facts P w K cls exc mg base):GF P w (mkT K cls exc) mg base 1 "check_length" yc0:=by
 obtain ⟨f,fd,h1,h2,h3,h4⟩:=Z.d_check_length
 refine ⟨f,fd,_,h1,h2,h3,okA h4 rfl zdB fun cdv A outer s H E hr C=>?_⟩
 have hu:=hu64 hr
 exact (yag (r_if (yar o_gt (yaa 0) (r_gI rfl Z.c_MOST_SIGNS) (yak _)) (yag (za1 Z.x_TooLong za0 rfl (zaa yaK yac))) yas))
theorem zcy:FnScope ["self", "text"] ["self", "text"] (yad ybu):=⟨rfl,rfl,rfl,by decide +kernel,rfl,by decide +kernel,by decide +kernel⟩
theorem zbn {P:Program} {w:World} {K:PySem.W.Frag} {cls exc:Nat->Option Addr} {mg:Str->Option Value} {base:Heap} (Z:Facts P w K cls exc mg base):GM P w (mkT K cls exc) mg base 5 0 "last_leaf" ybM:=by
 obtain ⟨C0,f,fd,h0,hc,h1,h3,h4⟩:=Z.d_Shelf_last_leaf
 refine ⟨⟨C0,f,fd,_,h0,hc,h1,h3,okA h4 rfl zcy fun cdv A outer s H E hr C=>?_⟩,(show ("last_leaf" : Str)∉flds 0 from by decide +kernel)⟩
 have hu:=hu64 hr
 exact (zab (yaJ (yao rfl C (zaA Z) (hr.mono (show 4<=4 by decide)) (yaa 0) (zaa (yaa 1) yac)))
  (yag (yai (r_ix rfl hu (yaM rfl Z.cf_Shelf (yaa 0)) (yaa 1)))))
theorem zcl:FnScope ["self", "text"] ["self", "text"] (yad ybn):=⟨rfl,rfl,rfl,by decide +kernel,rfl,by decide +kernel,by decide +kernel⟩
theorem zbk {P:Program} {w:World} {K:PySem.W.Frag} {cls exc:Nat->Option Addr} {mg:Str->Option Value} {base:Heap} (Z:Facts P w K cls exc mg base):GM P w (mkT K cls exc) mg base 5 0 "first_leaf" ybE:=by
 obtain ⟨C0,f,fd,h0,hc,h1,h3,h4⟩:=Z.d_Shelf_first_leaf
 refine ⟨⟨C0,f,fd,_,h0,hc,h1,h3,okA h4 rfl zcl fun cdv A outer s H E hr C=>?_⟩,(show ("first_leaf" : Str)∉flds 0 from by decide +kernel)⟩
 have hu:=hu64 hr
 exact (zab (yaJ (yao rfl C (zaA Z) (hr.mono (show 4<=4 by decide)) (yaa 0) (zaa (yaa 1) yac)))
  (yag (yai (r_ix rfl hu (yaM rfl Z.cf_Shelf (yaa 0)) (yaa 1)))))
theorem ze2:FnScope ["shelf", "one", "other"] ["shelf", "one", "other"] (yad ycH):=⟨rfl,rfl,rfl,by decide +kernel,rfl,by decide +kernel,by decide +kernel⟩
theorem zfl {P:Program} {w:World} {K:PySem.W.Frag} {cls exc:Nat->Option Addr} {mg:Str->Option Value} {base:Heap} (Z:Facts P w K cls exc mg base):GF P w (mkT K cls exc) mg base 6 "are_close" ydz:=by
 obtain ⟨f,fd,h1,h2,h3,h4⟩:=Z.d_are_close
 refine ⟨f,fd,_,h1,h2,h3,okA h4 rfl ze2 fun cdv A outer s H E hr C=>?_⟩
 have hu:=hu64 hr
 exact (yag (yai (ycO o_gt (yat (yaV rfl) (yao rfl C (zaD Z) (hr.mono (show 5<=5 by decide)) (yaa 0) (zaa (yao rfl C (zbn Z) (hr.mono (show 5<=5 by decide)) (yaa 0) (zaa (yaa 1) yac)) yac)) (yao rfl C (zaD Z) (hr.mono (show 5<=5 by decide)) (yaa 0) (zaa (yao rfl C (zbk Z) (hr.mono (show 5<=5 by decide)) (yaa 0) (zaa (yaa 2) yac)) yac))) (r_gI rfl Z.c_LEAF_SIGNS) (yak _))))
theorem za9:FnScope ["self", "one", "other", "seam"] ["self", "one", "other"] (yad ybo):=⟨rfl,rfl,rfl,by decide +kernel,rfl,by decide +kernel,by decide +kernel⟩
theorem zcz {P:Program} {w:World} {K:PySem.W.Frag} {cls exc:Nat->Option Addr} {mg:Str->Option Value} {base:Heap} (Z:Facts P w K cls exc mg base):GM P w (mkT K cls exc) mg base 4 0 "check_fork" ya6:=by
 obtain ⟨C0,f,fd,h0,hc,h1,h3,h4⟩:=Z.d_Shelf_check_fork
 refine ⟨⟨C0,f,fd,_,h0,hc,h1,h3,okA h4 rfl za9 fun cdv A outer s H E hr C=>?_⟩,(show ("check_fork" : Str)∉flds 0 from by decide +kernel)⟩
 have hu:=hu64 hr
 exact (zab (yaJ (yao rfl C (zaI Z) (hr.mono (show 3<=3 by decide)) (yaa 0) (zaa (yaa 1) yac)))
  (zab (yaJ (yao rfl C (zaI Z) (hr.mono (show 3<=3 by decide)) (yaa 0) (zaa (yaa 2) yac)))
  (zab (yaq (i:=3) za9.nd (yat (yaV rfl) (r_ix rfl hu (yaM rfl Z.cf_Shelf (yaa 0)) (r_ix rfl hu (yaM rfl Z.cf_Shelf (yaa 0)) (yaa 1))) (r_ix rfl hu (yaM rfl Z.cf_Shelf (yaa 0)) (r_ix rfl hu (yaM rfl Z.cf_Shelf (yaa 0)) (yaa 2)))))
  (zab (r_if (yar o_le (yaa 3) (r_gI rfl Z.c_LEAF_SIGNS) (yak _)) (yag (za1 Z.x_Loose za0 rfl (zaa yaK yac))) yas)
  (zab (r_if (yar o_gt (r_bi (b_abs) rfl Z.b_abs PyProof.Rows.boot_abs (zaa (yat yeu (r_ix rfl hu (yaM rfl Z.cf_Shelf (yaa 0)) (yaa 1)) (r_ix rfl hu (yaM rfl Z.cf_Shelf (yaa 0)) (yaa 2))) yac)) yaf (yak _)) (yag (za1 Z.x_Unlevel za0 rfl (zaa yaK yac))) yas)
  (yag (r_if (yar o_gt (yat (yaV rfl) (r_ix rfl hu (yaM rfl Z.cf_Shelf (yaa 0)) (yaa 1)) (r_ix rfl hu (yaM rfl Z.cf_Shelf (yaa 0)) (yaa 2))) (r_gI rfl Z.c_MOST_SIGNS) (yak _)) (yag (za1 Z.x_TooLong za0 rfl (zaa yaK yac))) yas)))))))
theorem za4:FnScope ["self", "made", "one", "other"] ["self", "made"] (yad ybB):=⟨rfl,rfl,rfl,by decide +kernel,rfl,by decide +kernel,by decide +kernel⟩
theorem zdo {P:Program} {w:World} {K:PySem.W.Frag} {cls exc:Nat->Option Addr} {mg:Str->Option Value} {base:Heap} (Z:Facts P w K cls exc mg base):GM P w (mkT K cls exc) mg base 2 0 "lay_fork" ybZ:=by
 obtain ⟨C0,f,fd,h0,hc,h1,h3,h4⟩:=Z.d_Shelf_lay_fork
 refine ⟨⟨C0,f,fd,_,h0,hc,h1,h3,okA h4 rfl za4 fun cdv A outer s H E hr C=>?_⟩,(show ("lay_fork" : Str)∉flds 0 from by decide +kernel)⟩
 have hu:=hu64 hr
 exact (zab (yaJ (yao rfl C (zc1 Z) (hr.mono (show 1<=1 by decide)) (yaa 0) (zaa (yaa 1) yac)))
  (zab (yaq (i:=2) za4.nd (r_ix rfl hu (yaa 1) yaf))
  (zab (yaq (i:=3) za4.nd (r_ix rfl hu (yaa 1) yaf))
  (zab (yaJ (r_bm rfl PySem.F.plainAttrs_list PySem.F.slot_list_append PySem.F.type_list_append (zam) zak (yaM rfl Z.cf_Shelf (yaa 0)) (zaa (yat (yaV rfl) (r_ix rfl hu (yaM rfl Z.cf_Shelf (yaa 0)) (yaa 2)) (r_ix rfl hu (yaM rfl Z.cf_Shelf (yaa 0)) (yaa 3))) yac)))
  (zab (yaJ (r_bm rfl PySem.F.plainAttrs_list PySem.F.slot_list_append PySem.F.type_list_append (zam) zak (yaM rfl Z.cf_Shelf (yaa 0)) (zaa (yat (yaV rfl) (r_ix rfl hu (yaM rfl Z.cf_Shelf (yaa 0)) (yaa 2)) (r_ix rfl hu (yaM rfl Z.cf_Shelf (yaa 0)) (yaa 3))) yac)))
  (zab (yaJ (r_bm rfl PySem.F.plainAttrs_list PySem.F.slot_list_append PySem.F.type_list_append (zam) zak (yaM rfl Z.cf_Shelf (yaa 0)) (zaa (yat (yaV rfl) (r_ix rfl hu (yaM rfl Z.cf_Shelf (yaa 0)) (yaa 2)) (r_ix rfl hu (yaM rfl Z.cf_Shelf (yaa 0)) (yaa 3))) yac)))
  (zab (yaJ (r_bm rfl PySem.F.plainAttrs_list PySem.F.slot_list_append PySem.F.type_list_append (zam) zak (yaM rfl Z.cf_Shelf (yaa 0)) (zaa (yat (yaV rfl) (r_bi (yfN) rfl Z.b_max PyProof.Rows.boot_max (zaa (r_ix rfl hu (yaM rfl Z.cf_Shelf (yaa 0)) (yaa 2)) (zaa (r_ix rfl hu (yaM rfl Z.cf_Shelf (yaa 0)) (yaa 3)) yac))) yaf) yac)))
  (zab (yaJ (r_bm rfl PySem.F.plainAttrs_list PySem.F.slot_list_append PySem.F.type_list_append (zam) zak (yaM rfl Z.cf_Shelf (yaa 0)) (zaa (r_ix rfl hu (yaM rfl Z.cf_Shelf (yaa 0)) (yaa 2)) yac)))
  (yag (yaJ (r_bm rfl PySem.F.plainAttrs_list PySem.F.slot_list_append PySem.F.type_list_append (zam) zak (yaM rfl Z.cf_Shelf (yaa 0)) (zaa (r_ix rfl hu (yaM rfl Z.cf_Shelf (yaa 0)) (yaa 3)) yac))))))))))))
theorem zci:FnScope ["self", "one", "other", "made"] ["self", "one", "other"] (yad ycr):=⟨rfl,rfl,rfl,by decide +kernel,rfl,by decide +kernel,by decide +kernel⟩
theorem zah {P:Program} {w:World} {K:PySem.W.Frag} {cls exc:Nat->Option Addr} {mg:Str->Option Value} {base:Heap} (Z:Facts P w K cls exc mg base):GM P w (mkT K cls exc) mg base 5 0 "fork" yah:=by
 obtain ⟨C0,f,fd,h0,hc,h1,h3,h4⟩:=Z.d_Shelf_fork
 refine ⟨⟨C0,f,fd,_,h0,hc,h1,h3,okA h4 rfl zci fun cdv A outer s H E hr C=>?_⟩,(show ("fork" : Str)∉flds 0 from by decide +kernel)⟩
 have hu:=hu64 hr
 exact (zab (yaJ (yao rfl C (zcz Z) (hr.mono (show 4<=4 by decide)) (yaa 0) (zaa (yaa 1) (zaa (yaa 2) yac))))
  (zab (yaq (i:=3) zci.nd (ycu (zaa yaK (zaa (yaa 1) (zaa (yaa 2) yac)))))
  (zab (r_if (yar (zfO rfl hu) (yaa 3) (yaM rfl Z.cf_Shelf (yaa 0)) rfl) (yag (yaJ (yao rfl C (zdo Z) (hr.mono (show 2<=4 by decide)) (yaa 0) (zaa (yaa 3) yac)))) yas)
  (yag (yai (r_ix rfl hu (yaM rfl Z.cf_Shelf (yaa 0)) (yaa 3)))))))
theorem zbD:FnScope ["shelf", "text", "leaf", "piece"] ["shelf", "text", "leaf"] (yad ycI):=⟨rfl,rfl,rfl,by decide +kernel,rfl,by decide +kernel,by decide +kernel⟩
theorem zc2 {P:Program} {w:World} {K:PySem.W.Frag} {cls exc:Nat->Option Addr} {mg:Str->Option Value} {base:Heap} (Z:Facts P w K cls exc mg base):∀ d,GF P w (mkT K cls exc) mg base (5+d+1) "with_last" (ybf d)
 | 0=>by
  obtain ⟨f,fd,h1,h2,h3,h4⟩:=Z.d_with_last
  refine ⟨f,fd,_,h1,h2,h3,okA h4 rfl zbD fun cdv A outer s H E hr C=>?_⟩
  exact yd3
 | d+1=>by
  obtain ⟨f,fd,h1,h2,h3,h4⟩:=Z.d_with_last
  refine ⟨f,fd,_,h1,h2,h3,okA h4 rfl zbD fun cdv A outer s H E hr C=>?_⟩
  have hu:=hu64 hr
  exact (zab (yaq (i:=3) zbD.nd (yao rfl C (zag Z) (hr.mono (show 4<=5+(d+1) by lia)) (yaa 0) (zaa (yaa 1) yac)))
  (zab (r_if (yar (o_eq rfl hu) (r_ix rfl hu (yaa 3) yaf) yaK (yak _)) (yag (yai (yaa 2))) yas)
  (yag (yai (yao rfl C (zah Z) (hr.mono (show 5<=5+(d+1) by lia)) (yaa 0) (zaa (r_ix rfl hu (yaa 3) yaf) (zaa (yaj rfl C (zc2 Z d) (hr.mono (by lia)) rfl (zaa (yaa 0) (zaa (r_ix rfl hu (yaa 3) yaf) (zaa (yaa 2) yac)))) yac)))))))
theorem zdC:FnScope ["self", "text"] ["self", "text"] (yad ybU):=⟨rfl,rfl,rfl,by decide +kernel,rfl,by decide +kernel,by decide +kernel⟩
theorem zaq {P:Program} {w:World} {K:PySem.W.Frag} {cls exc:Nat->Option Addr} {mg:Str->Option Value} {base:Heap} (Z:Facts P w K cls exc mg base):GM P w (mkT K cls exc) mg base 5 0 "height" yaW:=by
 obtain ⟨C0,f,fd,h0,hc,h1,h3,h4⟩:=Z.d_Shelf_height
 refine ⟨⟨C0,f,fd,_,h0,hc,h1,h3,okA h4 rfl zdC fun cdv A outer s H E hr C=>?_⟩,(show ("height" : Str)∉flds 0 from by decide +kernel)⟩
 have hu:=hu64 hr
 exact (zab (yaJ (yao rfl C (zaA Z) (hr.mono (show 4<=4 by decide)) (yaa 0) (zaa (yaa 1) yac)))
  (yag (yai (r_ix rfl hu (yaM rfl Z.cf_Shelf (yaa 0)) (yaa 1)))))
theorem zaR:FnScope ["shelf", "one", "other", "piece", "near", "far", "inner"] ["shelf", "one", "other"] (yad yb7):=⟨rfl,rfl,rfl,by decide +kernel,rfl,by decide +kernel,by decide +kernel⟩
theorem zcj {P:Program} {w:World} {K:PySem.W.Frag} {cls exc:Nat->Option Addr} {mg:Str->Option Value} {base:Heap} (Z:Facts P w K cls exc mg base):GF P w (mkT K cls exc) mg base 6 "turned_left" yaX:=by
 obtain ⟨f,fd,h1,h2,h3,h4⟩:=Z.d_turned_left
 refine ⟨f,fd,_,h1,h2,h3,okA h4 rfl zaR fun cdv A outer s H E hr C=>?_⟩
 have hu:=hu64 hr
 exact (zab (r_if (yar o_lt (yat yeu (yao rfl C (zaq Z) (hr.mono (show 5<=5 by decide)) (yaa 0) (zaa (yaa 2) yac)) (yao rfl C (zaq Z) (hr.mono (show 5<=5 by decide)) (yaa 0) (zaa (yaa 1) yac))) yaf (yak _)) (yag (yai (yao rfl C (zah Z) (hr.mono (show 5<=5 by decide)) (yaa 0) (zaa (yaa 1) (zaa (yaa 2) yac))))) yas)
  (zab (yaq (i:=3) zaR.nd (yao rfl C (zag Z) (hr.mono (show 4<=5 by decide)) (yaa 0) (zaa (yaa 2) yac)))
  (zab (yaq (i:=4) zaR.nd (r_ix rfl hu (yaa 3) yaf))
  (zab (yaq (i:=5) zaR.nd (r_ix rfl hu (yaa 3) yaf))
  (zab (r_if (yar o_le (yao rfl C (zaq Z) (hr.mono (show 5<=5 by decide)) (yaa 0) (zaa (yaa 4) yac)) (yao rfl C (zaq Z) (hr.mono (show 5<=5 by decide)) (yaa 0) (zaa (yaa 5) yac)) (yak _)) (yag (yai (yao rfl C (zah Z) (hr.mono (show 5<=5 by decide)) (yaa 0) (zaa (yao rfl C (zah Z) (hr.mono (show 5<=5 by decide)) (yaa 0) (zaa (yaa 1) (zaa (yaa 4) yac))) (zaa (yaa 5) yac))))) yas)
  (zab (yaq (i:=6) zaR.nd (yao rfl C (zag Z) (hr.mono (show 4<=5 by decide)) (yaa 0) (zaa (yaa 4) yac)))
  (yag (yai (yao rfl C (zah Z) (hr.mono (show 5<=5 by decide)) (yaa 0) (zaa (yao rfl C (zah Z) (hr.mono (show 5<=5 by decide)) (yaa 0) (zaa (yaa 1) (zaa (r_ix rfl hu (yaa 6) yaf) yac))) (zaa (yao rfl C (zah Z) (hr.mono (show 5<=5 by decide)) (yaa 0) (zaa (r_ix rfl hu (yaa 6) yaf) (zaa (yaa 5) yac))) yac)))))))))))
theorem zaV:FnScope ["shelf", "text", "piece", "rest"] ["shelf", "text"] (yad ybI):=⟨rfl,rfl,rfl,by decide +kernel,rfl,by decide +kernel,by decide +kernel⟩
theorem zbP {P:Program} {w:World} {K:PySem.W.Frag} {cls exc:Nat->Option Addr} {mg:Str->Option Value} {base:Heap} (Z:Facts P w K cls exc mg base):∀ d,GF P w (mkT K cls exc) mg base (6+d+1) "without_first" (yaE d)
 | 0=>by
  obtain ⟨f,fd,h1,h2,h3,h4⟩:=Z.d_without_first
  refine ⟨f,fd,_,h1,h2,h3,okA h4 rfl zaV fun cdv A outer s H E hr C=>?_⟩
  exact yd3
 | d+1=>by
  obtain ⟨f,fd,h1,h2,h3,h4⟩:=Z.d_without_first
  refine ⟨f,fd,_,h1,h2,h3,okA h4 rfl zaV fun cdv A outer s H E hr C=>?_⟩
  have hu:=hu64 hr
  exact (zab (yaq (i:=2) zaV.nd (yao rfl C (zag Z) (hr.mono (show 4<=6+(d+1) by lia)) (yaa 0) (zaa (yaa 1) yac)))
  (zab (r_if (yar (o_eq rfl hu) (r_ix rfl hu (yaa 2) yaf) yaK (yak _)) (yag (yai yaf)) yas)
  (zab (yaq (i:=3) zaV.nd (yaj rfl C (zbP Z d) (hr.mono (by lia)) rfl (zaa (yaa 0) (zaa (r_ix rfl hu (yaa 2) yaf) yac))))
  (zab (r_if (yar (o_eq rfl hu) (yaa 3) yaf (yak _)) (yag (yai (r_ix rfl hu (yaa 2) yaf))) yas)
  (yag (yai (yaj rfl C (zcj Z) (hr.mono (show 6<=6+(d+1) by lia)) rfl (zaa (yaa 0) (zaa (yaa 3) (zaa (r_ix rfl hu (yaa 2) yaf) yac))))))))))
theorem zaO:FnScope ["shelf", "one", "other", "piece", "far", "near", "inner"] ["shelf", "one", "other"] (yad ybV):=⟨rfl,rfl,rfl,by decide +kernel,rfl,by decide +kernel,by decide +kernel⟩
theorem zd2 {P:Program} {w:World} {K:PySem.W.Frag} {cls exc:Nat->Option Addr} {mg:Str->Option Value} {base:Heap} (Z:Facts P w K cls exc mg base):GF P w (mkT K cls exc) mg base 6 "turned_right" ya4:=by
 obtain ⟨f,fd,h1,h2,h3,h4⟩:=Z.d_turned_right
 refine ⟨f,fd,_,h1,h2,h3,okA h4 rfl zaO fun cdv A outer s H E hr C=>?_⟩
 have hu:=hu64 hr
 exact (zab (r_if (yar o_lt (yat yeu (yao rfl C (zaq Z) (hr.mono (show 5<=5 by decide)) (yaa 0) (zaa (yaa 1) yac)) (yao rfl C (zaq Z) (hr.mono (show 5<=5 by decide)) (yaa 0) (zaa (yaa 2) yac))) yaf (yak _)) (yag (yai (yao rfl C (zah Z) (hr.mono (show 5<=5 by decide)) (yaa 0) (zaa (yaa 1) (zaa (yaa 2) yac))))) yas)
  (zab (yaq (i:=3) zaO.nd (yao rfl C (zag Z) (hr.mono (show 4<=5 by decide)) (yaa 0) (zaa (yaa 1) yac)))
  (zab (yaq (i:=4) zaO.nd (r_ix rfl hu (yaa 3) yaf))
  (zab (yaq (i:=5) zaO.nd (r_ix rfl hu (yaa 3) yaf))
  (zab (r_if (yar o_le (yao rfl C (zaq Z) (hr.mono (show 5<=5 by decide)) (yaa 0) (zaa (yaa 5) yac)) (yao rfl C (zaq Z) (hr.mono (show 5<=5 by decide)) (yaa 0) (zaa (yaa 4) yac)) (yak _)) (yag (yai (yao rfl C (zah Z) (hr.mono (show 5<=5 by decide)) (yaa 0) (zaa (yaa 4) (zaa (yao rfl C (zah Z) (hr.mono (show 5<=5 by decide)) (yaa 0) (zaa (yaa 5) (zaa (yaa 2) yac))) yac))))) yas)
  (zab (yaq (i:=6) zaO.nd (yao rfl C (zag Z) (hr.mono (show 4<=5 by decide)) (yaa 0) (zaa (yaa 5) yac)))
  (yag (yai (yao rfl C (zah Z) (hr.mono (show 5<=5 by decide)) (yaa 0) (zaa (yao rfl C (zah Z) (hr.mono (show 5<=5 by decide)) (yaa 0) (zaa (yaa 4) (zaa (r_ix rfl hu (yaa 6) yaf) yac))) (zaa (yao rfl C (zah Z) (hr.mono (show 5<=5 by decide)) (yaa 0) (zaa (r_ix rfl hu (yaa 6) yaf) (zaa (yaa 2) yac))) yac)))))))))))
theorem zbl:FnScope ["shelf", "one", "other", "tilt", "piece"] ["shelf", "one", "other"] (yad ydp):=⟨rfl,rfl,rfl,by decide +kernel,rfl,by decide +kernel,by decide +kernel⟩
theorem zcd {P:Program} {w:World} {K:PySem.W.Frag} {cls exc:Nat->Option Addr} {mg:Str->Option Value} {base:Heap} (Z:Facts P w K cls exc mg base):∀ d,GF P w (mkT K cls exc) mg base (6+d+1) "linked" (ybe d)
 | 0=>by
  obtain ⟨f,fd,h1,h2,h3,h4⟩:=Z.d_linked
  refine ⟨f,fd,_,h1,h2,h3,okA h4 rfl zbl fun cdv A outer s H E hr C=>?_⟩
  exact yd3
 | d+1=>by
  obtain ⟨f,fd,h1,h2,h3,h4⟩:=Z.d_linked
  refine ⟨f,fd,_,h1,h2,h3,okA h4 rfl zbl fun cdv A outer s H E hr C=>?_⟩
  have hu:=hu64 hr
  exact (zab (yaq (i:=3) zbl.nd (yat yeu (yao rfl C (zaq Z) (hr.mono (show 5<=6+(d+1) by lia)) (yaa 0) (zaa (yaa 1) yac)) (yao rfl C (zaq Z) (hr.mono (show 5<=6+(d+1) by lia)) (yaa 0) (zaa (yaa 2) yac))))
  (zab (r_if (yar o_gt (yaa 3) yaf (yak _)) (zab (yaq (i:=4) zbl.nd (yao rfl C (zag Z) (hr.mono (show 4<=6+(d+1) by lia)) (yaa 0) (zaa (yaa 1) yac)))
  (yag (yai (yaj rfl C (zcj Z) (hr.mono (show 6<=6+(d+1) by lia)) rfl (zaa (yaa 0) (zaa (r_ix rfl hu (yaa 4) yaf) (zaa (yaj rfl C (zcd Z d) (hr.mono (by lia)) rfl (zaa (yaa 0) (zaa (r_ix rfl hu (yaa 4) yaf) (zaa (yaa 2) yac)))) yac))))))) yas)
  (zab (r_if (yar o_lt (yaa 3) (ydT yaf) (yak _)) (zab (yaq (i:=4) zbl.nd (yao rfl C (zag Z) (hr.mono (show 4<=6+(d+1) by lia)) (yaa 0) (zaa (yaa 2) yac)))
  (yag (yai (yaj rfl C (zd2 Z) (hr.mono (show 6<=6+(d+1) by lia)) rfl (zaa (yaa 0) (zaa (yaj rfl C (zcd Z d) (hr.mono (by lia)) rfl (zaa (yaa 0) (zaa (yaa 1) (zaa (r_ix rfl hu (yaa 4) yaf) yac)))) (zaa (r_ix rfl hu (yaa 4) yaf) yac))))))) yas)
  (yag (yai (yao rfl C (zah Z) (hr.mono (show 5<=6+(d+1) by lia)) (yaa 0) (zaa (yaa 1) (zaa (yaa 2) yac))))))))
theorem zbQ:FnScope ["shelf", "one", "other", "seam", "front", "back"] ["shelf", "one", "other"] (yad ydq):=⟨rfl,rfl,rfl,by decide +kernel,rfl,by decide +kernel,by decide +kernel⟩
theorem ziB {P:Program} {w:World} {K:PySem.W.Frag} {cls exc:Nat->Option Addr} {mg:Str->Option Value} {base:Heap} (Z:Facts P w K cls exc mg base):GF P w (mkT K cls exc) mg base 98 "welded" yda:=by
 obtain ⟨f,fd,h1,h2,h3,h4⟩:=Z.d_welded
 refine ⟨f,fd,_,h1,h2,h3,okA h4 rfl zbQ fun cdv A outer s H E hr C=>?_⟩
 have hu:=hu64 hr
 exact (zab (yaq (i:=3) zbQ.nd (yat (yaV rfl) (r_ix rfl hu (yao rfl C (zag Z) (hr.mono (show 4<=97 by decide)) (yaa 0) (zaa (yao rfl C (zbn Z) (hr.mono (show 5<=97 by decide)) (yaa 0) (zaa (yaa 1) yac)) yac)) yaf) (r_ix rfl hu (yao rfl C (zag Z) (hr.mono (show 4<=97 by decide)) (yaa 0) (zaa (yao rfl C (zbk Z) (hr.mono (show 5<=97 by decide)) (yaa 0) (zaa (yaa 2) yac)) yac)) yaf)))
  (zab (yaq (i:=4) zbQ.nd (yaj rfl C (zc2 Z 90) (hr.mono (show 96<=97 by decide)) rfl (zaa (yaa 0) (zaa (yaa 1) (zaa (yao rfl C (zbC Z) (hr.mono (show 4<=97 by decide)) (yaa 0) (zaa (yaa 3) yac)) yac)))))
  (zab (yaq (i:=5) zbQ.nd (yaj rfl C (zbP Z 90) (hr.mono (show 97<=97 by decide)) rfl (zaa (yaa 0) (zaa (yaa 2) yac))))
  (zab (r_if (yar (o_eq rfl hu) (yaa 5) yaf (yak _)) (yag (yai (yaa 4))) yas)
  (yag (yai (yaj rfl C (zcd Z 90) (hr.mono (show 97<=97 by decide)) rfl (zaa (yaa 0) (zaa (yaa 4) (zaa (yaa 5) yac))))))))))
theorem zhH:FnScope ["shelf", "one", "other"] ["shelf", "one", "other"] (yad ydr):=⟨rfl,rfl,rfl,by decide +kernel,rfl,by decide +kernel,by decide +kernel⟩
theorem ze3 {P:Program} {w:World} {K:PySem.W.Frag} {cls exc:Nat->Option Addr} {mg:Str->Option Value} {base:Heap} (Z:Facts P w K cls exc mg base):GF P w (mkT K cls exc) mg base 99 "joined" yby:=by
 obtain ⟨f,fd,h1,h2,h3,h4⟩:=Z.d_joined
 refine ⟨f,fd,_,h1,h2,h3,okA h4 rfl zhH fun cdv A outer s H E hr C=>?_⟩
 have hu:=hu64 hr
 exact (zab (yaJ (yaj rfl C (zd1 Z) (hr.mono (show 1<=98 by decide)) rfl (zaa (yat (yaV rfl) (yao rfl C (zaD Z) (hr.mono (show 5<=98 by decide)) (yaa 0) (zaa (yaa 1) yac)) (yao rfl C (zaD Z) (hr.mono (show 5<=98 by decide)) (yaa 0) (zaa (yaa 2) yac))) yac)))
  (zab (r_if (yar (o_eq rfl hu) (yaa 1) yaf (yak _)) (yag (yai (yaa 2))) yas)
  (zab (r_if (yar (o_eq rfl hu) (yaa 2) yaf (yak _)) (yag (yai (yaa 1))) yas)
  (zab (r_if (zal rfl (yaj rfl C (zfl Z) (hr.mono (show 6<=98 by decide)) rfl (zaa (yaa 0) (zaa (yaa 1) (zaa (yaa 2) yac))))) (yag (yai (yaj rfl C (zcd Z 90) (hr.mono (show 97<=98 by decide)) rfl (zaa (yaa 0) (zaa (yaa 1) (zaa (yaa 2) yac)))))) yas)
  (yag (yai (yaj rfl C (ziB Z) (hr.mono (show 98<=98 by decide)) rfl (zaa (yaa 0) (zaa (yaa 1) (zaa (yaa 2) yac))))))))))
theorem zcA:FnScope ["shelf", "leaves", "middle"] ["shelf", "leaves"] (yad yds):=⟨rfl,rfl,rfl,by decide +kernel,rfl,by decide +kernel,by decide +kernel⟩
theorem zdp {P:Program} {w:World} {K:PySem.W.Frag} {cls exc:Nat->Option Addr} {mg:Str->Option Value} {base:Heap} (Z:Facts P w K cls exc mg base):∀ d,GF P w (mkT K cls exc) mg base (5+d+1) "halved" (yb0 d)
 | 0=>by
  obtain ⟨f,fd,h1,h2,h3,h4⟩:=Z.d_halved
  refine ⟨f,fd,_,h1,h2,h3,okA h4 rfl zcA fun cdv A outer s H E hr C=>?_⟩
  exact yd3
 | d+1=>by
  obtain ⟨f,fd,h1,h2,h3,h4⟩:=Z.d_halved
  refine ⟨f,fd,_,h1,h2,h3,okA h4 rfl zcA fun cdv A outer s H E hr C=>?_⟩
  have hu:=hu64 hr
  exact (zab (r_if (yar (o_eq rfl hu) (r_bi (b_len rfl) rfl Z.b_len PySem.boot_len (zaa (yaa 1) yac)) yaf (yak _)) (yag (yai (r_ix rfl hu (yaa 1) yaf))) yas)
  (zab (yaq (i:=2) zcA.nd (yat ygp (r_bi (b_len rfl) rfl Z.b_len PySem.boot_len (zaa (yaa 1) yac)) yaf))
  (yag (yai (yao rfl C (zah Z) (hr.mono (show 5<=5+(d+1) by lia)) (yaa 0) (zaa (yaj rfl C (zdp Z d) (hr.mono (by lia)) rfl (zaa (yaa 0) (zaa (zaw rfl (yaa 1) zaB (zas (yaa 2))) yac))) (zaa (yaj rfl C (zdp Z d) (hr.mono (by lia)) rfl (zaa (yaa 0) (zaa (zaw rfl (yaa 1) (zas (yaa 2)) zaB) yac))) yac)))))))
theorem ze4:FnScope ["shelf", "plain", "leaves"] ["shelf", "plain"] (yad ydt):=⟨rfl,rfl,rfl,by decide +kernel,rfl,by decide +kernel,by decide +kernel⟩
theorem zgw {P:Program} {w:World} {K:PySem.W.Frag} {cls exc:Nat->Option Addr} {mg:Str->Option Value} {base:Heap} (Z:Facts P w K cls exc mg base):GF P w (mkT K cls exc) mg base 27 "built" ydn:=by
 obtain ⟨f,fd,h1,h2,h3,h4⟩:=Z.d_built
 refine ⟨f,fd,_,h1,h2,h3,okA h4 rfl ze4 fun cdv A outer s H E hr C=>?_⟩
 have hu:=hu64 hr
 exact (zab (r_if (ych (zal rfl (yaj rfl C (zdA Z) (hr.mono (show 2<=26 by decide)) rfl (zaa (yaa 1) yac)))) (yag (za1 Z.x_NoText za0 rfl (zaa yaK yac))) yas)
  (zab (r_if (yar o_gt (r_bi (b_len rfl) rfl Z.b_len PySem.boot_len (zaa (yaa 1) yac)) (r_gI rfl Z.c_MOST_PLAIN) (yak _)) (yag (za1 Z.x_TooLong za0 rfl (zaa yaK yac))) yas)
  (zab (r_if (yar (o_eq rfl hu) (yaa 1) yaK (yak _)) (yag (yai yaf)) yas)
  (zab (zcF (jf:=[(0, "shelf"),(1, "plain")]) (zaT (N:=["shelf", "plain", "leaves"]) (sc:=yad ydt) rfl (fun _=>rfl) (by decide +kernel)) rfl (zeg (E:=(fun _=>E)) rfl Z.b_range yaf (r_bi (b_len rfl) rfl Z.b_len PySem.boot_len (zaa (yaa 1) yac)) (r_gI rfl Z.c_LEAF_SIGNS)) (fun _ _ _ _ _=>zba) (fun _ _ _ _ _=>(yao rfl (CA.never rfl) (zbC Z) (hr.mono (show 4<=26 by decide)) (yaa 1) (zaa (zaw rfl (yaa 2) (zas (yaa 0)) (zas (yat (yaV rfl) (yaa 0) (r_gI rfl Z.c_LEAF_SIGNS)))) yac))) ze4.nd (i:=2))
  (yag (yai (yaj rfl C (zdp Z 20) (hr.mono (show 26<=26 by decide)) rfl (zaa (yaa 0) (zaa (yaa 2) yac)))))))))
theorem zaH:FnScope ["shelf", "plain", "stream", "found", "rest", "k", "at"] ["shelf", "plain", "stream"] (yad ycJ):=⟨rfl,rfl,rfl,by decide +kernel,rfl,by decide +kernel,by decide +kernel⟩
theorem zfm {P:Program} {w:World} {K:PySem.W.Frag} {cls exc:Nat->Option Addr} {mg:Str->Option Value} {base:Heap} (Z:Facts P w K cls exc mg base):GF P w (mkT K cls exc) mg base 100 "_law_grown" ycB:=by
 obtain ⟨f,fd,h1,h2,h3,h4⟩:=Z.d_law_grown
 refine ⟨f,fd,_,h1,h2,h3,okA h4 rfl zaH fun cdv A outer s H E hr C=>?_⟩
 have hu:=hu64 hr
 exact (zab (yaq (i:=3) zaH.nd yaf)
  (zab (yaq (i:=4) zaH.nd (yaa 1))
  (zab (yd7 rfl (zbI (E:=EN) rfl Z.b_range (yaj rfl (C.nox) (zaM Z) (hr.mono (show 1<=99 by decide)) rfl (zaa (yaa 2) (zaa yaf yac)))) (zbt (i:=5) zaH.nd) (zab (yaq (i:=6) zaH.nd (yaj rfl (C.nox) (zaM Z) (hr.mono (show 1<=99 by decide)) rfl (zaa (yaa 2) (zaa (yat (yaV rfl) (r_bi (b_len rfl) rfl Z.b_len PySem.boot_len (zaa (yaa 4) yac)) yaf) yac))))
  (zab (yaq (i:=3) zaH.nd (yaj rfl (C.nox) (ze3 Z) (hr.mono (show 99<=99 by decide)) rfl (zaa (yaa 0) (zaa (yaa 3) (zaa (yaj rfl (C.nox) (zgw Z) (hr.mono (show 27<=99 by decide)) rfl (zaa (yaa 0) (zaa (zaw rfl (yaa 4) zaB (zas (yaa 6))) yac))) yac)))))
  (yag (yaq (i:=4) zaH.nd (zaw rfl (yaa 4) (zas (yaa 6)) zaB))))))
  (yag (yai (yaj rfl C (ze3 Z) (hr.mono (show 99<=99 by decide)) rfl (zaa (yaa 0) (zaa (yaa 3) (zaa (yaj rfl C (zgw Z) (hr.mono (show 27<=99 by decide)) rfl (zaa (yaa 0) (zaa (yaa 4) yac))) yac)))))))))
theorem zbm:FnScope ["one", "other", "many"] ["one", "other"] (yad ycs):=⟨rfl,rfl,rfl,by decide +kernel,rfl,by decide +kernel,by decide +kernel⟩
theorem ze5 {P:Program} {w:World} {K:PySem.W.Frag} {cls exc:Nat->Option Addr} {mg:Str->Option Value} {base:Heap} (Z:Facts P w K cls exc mg base):GF P w (mkT K cls exc) mg base 1 "_law_common" ydk:=by
 obtain ⟨f,fd,h1,h2,h3,h4⟩:=Z.d_law_common
 refine ⟨f,fd,_,h1,h2,h3,okA h4 rfl zbm fun cdv A outer s H E hr C=>?_⟩
 have hu:=hu64 hr
 exact (zab (yaq (i:=2) zbm.nd yaf)
  (zab (zbU yaH (rt_w (yd2 (yar o_lt (yaa 2) (r_bi (yfO) rfl Z.b_min PyProof.Rows.boot_min (zaa (r_bi (b_len rfl) rfl Z.b_len PySem.boot_len (zaa (yaa 0) yac)) (zaa (r_bi (b_len rfl) rfl Z.b_len PySem.boot_len (zaa (yaa 1) yac)) yac))) (yak _)) (zbs (yar (o_eq rfl hu) (r_ix rfl hu (yaa 0) (yaa 2)) (r_ix rfl hu (yaa 1) (yaa 2)) (yak _))))) (yag (yaq (i:=2) zbm.nd (yat (yaV rfl) (yaa 2) yaf))))
  (yag (yai (yaa 2)))))
theorem ze6:FnScope ["found"] ["found"] (yad ycK):=⟨rfl,rfl,rfl,by decide +kernel,rfl,by decide +kernel,by decide +kernel⟩
theorem zfn {P:Program} {w:World} {K:PySem.W.Frag} {cls exc:Nat->Option Addr} {mg:Str->Option Value} {base:Heap} (Z:Facts P w K cls exc mg base):GF P w (mkT K cls exc) mg base 1 "_law_whole" ydA:=by
 obtain ⟨f,fd,h1,h2,h3,h4⟩:=Z.d_law_whole
 refine ⟨f,fd,_,h1,h2,h3,okA h4 rfl ze6 fun cdv A outer s H E hr C=>?_⟩
 have hu:=hu64 hr
 exact (yag (yai (ydV (yc9 rfl rfl Z.b_isinstance (yaa 0) rfl Z.b_int yfy (by decide)) (ydU (ygs (yc9 rfl rfl Z.b_isinstance (yaa 0) rfl Z.b_bool zfx (by decide)))))))
theorem za5:FnScope ["shelf", "items", "found", "item", "plain"] ["shelf", "items"] (yad ycx):=⟨rfl,rfl,rfl,by decide +kernel,rfl,by decide +kernel,by decide +kernel⟩
theorem zg0 {P:Program} {w:World} {K:PySem.W.Frag} {cls exc:Nat->Option Addr} {mg:Str->Option Value} {base:Heap} (Z:Facts P w K cls exc mg base):GF P w (mkT K cls exc) mg base 2 "_law_flat" ydM:=by
 obtain ⟨f,fd,h1,h2,h3,h4⟩:=Z.d_law_flat
 refine ⟨f,fd,_,h1,h2,h3,okA h4 rfl za5 fun cdv A outer s H E hr C=>?_⟩
 have hu:=hu64 hr
 exact (zab (yaq (i:=2) za5.nd (ycz yac))
  (zab (yd7 rfl (ydD (E:=EN) rfl (yaa 1)) (zbt (i:=3) za5.nd) (yag (r_if (zal rfl (yc9 rfl rfl Z.b_isinstance (yaa 3) rfl Z.b_str ydZ (by decide))) (zab (zcF (jf:=[]) (zaT (N:=["shelf", "items", "found", "item", "plain"]) (sc:=yad ycx) rfl (fun _=>rfl) (by decide +kernel)) rfl (ydD (E:=EN) rfl (yaa 3)) (fun _ _ _ _ _=>zjf (rt_w (ydw (zdb o_le o_le yaK (yaa 0) yaK) (ydQ (yar (o_eq rfl hu) (yaa 0) yaK (yak _)))))) (fun _ _ _ _ _=>(yaa 0)) za5.nd (i:=4))
  (zab (r_if (rt_w (ydw (ych (zdb o_lt o_lt yaf (r_bi (b_len rfl) rfl Z.b_len PySem.boot_len (zaa (yaa 3) yac)) yaf)) (ydQ (yar o_lt (r_bi (b_len rfl) rfl Z.b_len PySem.boot_len (zaa (yaa 4) yac)) (r_bi (b_len rfl) rfl Z.b_len PySem.boot_len (zaa (yaa 3) yac)) (yak _))))) (yag (yai yej)) yas)
  (yag (yaq (i:=2) za5.nd (yat (yhI rfl) (yaa 2) (yaa 4)))))) (yag (r_if (rt_w (yd2 (zal rfl (yaj rfl (C.nox) (zfn Z) (hr.mono (show 1<=1 by decide)) rfl (zaa (yaa 3) yac))) (zbs (zdb o_lt o_le yaf (yaa 3) (zdG rfl (C.nox) (zbA Z) (hr.mono (show 1<=1 by decide)) (yaa 0)))))) (yag (yaJ (r_bm rfl PySem.F.plainAttrs_list PySem.F.slot_list_append PySem.F.type_list_append (zam) zak (yaa 2) (zaa (yaa 3) yac)))) (yag (yai yej)))))))
  (yag (yai (yaa 2)))))
theorem zaS:FnScope ["shelf", "text", "flat", "at", "piece", "k", "sign", "behind"] ["shelf", "text", "flat", "at"] (yad ycL):=⟨rfl,rfl,rfl,by decide +kernel,rfl,by decide +kernel,by decide +kernel⟩
theorem zbR {P:Program} {w:World} {K:PySem.W.Frag} {cls exc:Nat->Option Addr} {mg:Str->Option Value} {base:Heap} (Z:Facts P w K cls exc mg base):∀ d,GF P w (mkT K cls exc) mg base (4+d+1) "_law_match" (yay d)
 | 0=>by
  obtain ⟨f,fd,h1,h2,h3,h4⟩:=Z.d_law_match
  refine ⟨f,fd,_,h1,h2,h3,okA h4 rfl zaS fun cdv A outer s H E hr C=>?_⟩
  exact yd3
 | d+1=>by
  obtain ⟨f,fd,h1,h2,h3,h4⟩:=Z.d_law_match
  refine ⟨f,fd,_,h1,h2,h3,okA h4 rfl zaS fun cdv A outer s H E hr C=>?_⟩
  have hu:=hu64 hr
  exact (zab (r_if (yar o_ge (yaa 3) (r_bi (b_len rfl) rfl Z.b_len PySem.boot_len (zaa (yaa 2) yac)) (yak _)) (yag (yai (yat (yaV rfl) (r_bi (b_len rfl) rfl Z.b_len PySem.boot_len (zaa (yaa 2) yac)) yaf))) yas)
  (zab (r_if (yar (o_eq rfl hu) (r_ix rfl hu (yaa 2) (yaa 3)) (yaa 1) (yak _)) (yag (yai (yat (yaV rfl) (yaa 3) yaf))) yas)
  (zab (yaq (i:=4) zaS.nd (yao rfl C (zag Z) (hr.mono (show 4<=4+(d+1) by lia)) (yaa 0) (zaa (yaa 1) yac)))
  (zab (r_if (yar (o_eq rfl hu) (r_ix rfl hu (yaa 4) yaf) yaK (yak _)) (zab (yd7 rfl (zij (E:=EN) rfl rfl Z.b_enumerate (r_ix rfl hu (yaa 4) yaf)) (yfI rfl rfl (zbZ (i:=5) zaS.nd (zbZ (i:=6) zaS.nd zfI))) (zab (r_if (yar o_ge (yat (yaV rfl) (yaa 3) (yaa 5)) (r_bi (b_len rfl) rfl Z.b_len PySem.boot_len (zaa (yaa 2) yac)) (yak _)) (yag (yai (yat (yaV rfl) (r_bi (b_len rfl) rfl Z.b_len PySem.boot_len (zaa (yaa 2) yac)) yaf))) yas)
  (yag (r_if (yar (o_ne rfl hu) (r_ix rfl hu (yaa 2) (yat (yaV rfl) (yaa 3) (yaa 5))) (yaa 6) (yak _)) (yag (yai yej)) yas))))
  (yag (yai (yat (yaV rfl) (yaa 3) (r_bi (b_len rfl) rfl Z.b_len PySem.boot_len (zaa (r_ix rfl hu (yaa 4) yaf) yac)))))) yas)
  (zab (yaq (i:=7) zaS.nd (yaj rfl C (zbR Z d) (hr.mono (by lia)) rfl (zaa (yaa 0) (zaa (r_ix rfl hu (yaa 4) yaf) (zaa (yaa 2) (zaa (yaa 3) yac))))))
  (zab (r_if (rt_w (ydw (yar ygq (yaa 7) yej (yak _)) (ydQ (yar o_gt (yaa 7) (r_bi (b_len rfl) rfl Z.b_len PySem.boot_len (zaa (yaa 2) yac)) (yak _))))) (yag (yai (yaa 7))) yas)
  (yag (yai (yaj rfl C (zbR Z d) (hr.mono (by lia)) rfl (zaa (yaa 0) (zaa (r_ix rfl hu (yaa 4) yaf) (zaa (yaa 2) (zaa (yaa 7) yac)))))))))))))
theorem zbE:FnScope ["shelf", "text", "items", "flat", "behind"] ["shelf", "text", "items"] (yad ycM):=⟨rfl,rfl,rfl,by decide +kernel,rfl,by decide +kernel,by decide +kernel⟩
theorem zfo {P:Program} {w:World} {K:PySem.W.Frag} {cls exc:Nat->Option Addr} {mg:Str->Option Value} {base:Heap} (Z:Facts P w K cls exc mg base):GF P w (mkT K cls exc) mg base 96 "_law_spelt" ybC:=by
 obtain ⟨f,fd,h1,h2,h3,h4⟩:=Z.d_law_spelt
 refine ⟨f,fd,_,h1,h2,h3,okA h4 rfl zbE fun cdv A outer s H E hr C=>?_⟩
 have hu:=hu64 hr
 exact (zab (yaq (i:=3) zbE.nd (yaj rfl C (zg0 Z) (hr.mono (show 2<=95 by decide)) rfl (zaa (yaa 0) (zaa (yaa 2) yac))))
  (zab (r_if (rt_w (ydw (yar ygq (yaa 3) yej (yak _)) (ydQ (yar (o_eq rfl hu) (yaa 1) yaf (yak _))))) (yag (yai (ycu (zaa (ycO (o_eq rfl hu) (yaa 3) (ydi yac) (yak _)) (zaa (ycO (o_eq rfl hu) (yaa 3) (ydi yac) (yak _)) yac))))) yas)
  (zab (yaq (i:=4) zbE.nd (yaj rfl C (zbR Z 90) (hr.mono (show 95<=95 by decide)) rfl (zaa (yaa 0) (zaa (yaa 1) (zaa (yaa 3) (zaa yaf yac))))))
  (yag (yai (ycu (zaa (ydV (ycO yhC (yaa 4) yej (yak _)) (ydU (ycO o_ge (yaa 4) (r_bi (b_len rfl) rfl Z.b_len PySem.boot_len (zaa (yaa 3) yac)) (yak _)))) (zaa (ycO (o_eq rfl hu) (yaa 4) (r_bi (b_len rfl) rfl Z.b_len PySem.boot_len (zaa (yaa 3) yac)) (yak _)) yac))))))))
theorem zbF:FnScope ["shelf", "text", "piece"] ["shelf", "text"] (yad ycN):=⟨rfl,rfl,rfl,by decide +kernel,rfl,by decide +kernel,by decide +kernel⟩
theorem zbi {P:Program} {w:World} {K:PySem.W.Frag} {cls exc:Nat->Option Addr} {mg:Str->Option Value} {base:Heap} (Z:Facts P w K cls exc mg base):∀ d,GF P w (mkT K cls exc) mg base (4+d+1) "_law_reads" (yaF d)
 | 0=>by
  obtain ⟨f,fd,h1,h2,h3,h4⟩:=Z.d_law_reads
  refine ⟨f,fd,_,h1,h2,h3,okA h4 rfl zbF fun cdv A outer s H E hr C=>?_⟩
  exact yd3
 | d+1=>by
  obtain ⟨f,fd,h1,h2,h3,h4⟩:=Z.d_law_reads
  refine ⟨f,fd,_,h1,h2,h3,okA h4 rfl zbF fun cdv A outer s H E hr C=>?_⟩
  have hu:=hu64 hr
  exact (zab (r_if (yar (o_eq rfl hu) (yaa 1) yaf (yak _)) (yag (yai yaK)) yas)
  (zab (yaq (i:=2) zbF.nd (yao rfl C (zag Z) (hr.mono (show 4<=4+(d+1) by lia)) (yaa 0) (zaa (yaa 1) yac)))
  (zab (r_if (yar (o_eq rfl hu) (r_ix rfl hu (yaa 2) yaf) yaK (yak _)) (yag (yai (r_ix rfl hu (yaa 2) yaf))) yas)
  (yag (yai (yat (yaV rfl) (yaj rfl C (zbi Z d) (hr.mono (by lia)) rfl (zaa (yaa 0) (zaa (r_ix rfl hu (yaa 2) yaf) yac))) (yaj rfl C (zbi Z d) (hr.mono (by lia)) rfl (zaa (yaa 0) (zaa (r_ix rfl hu (yaa 2) yaf) yac)))))))))
theorem ze7:FnScope ["shelf", "items"] ["shelf", "items"] (yad ycc):=⟨rfl,rfl,rfl,by decide +kernel,rfl,by decide +kernel,by decide +kernel⟩
theorem zfp {P:Program} {w:World} {K:PySem.W.Frag} {cls exc:Nat->Option Addr} {mg:Str->Option Value} {base:Heap} (Z:Facts P w K cls exc mg base):GF P w (mkT K cls exc) mg base 96 "_law_signs" ydB:=by
 obtain ⟨f,fd,h1,h2,h3,h4⟩:=Z.d_law_signs
 refine ⟨f,fd,_,h1,h2,h3,okA h4 rfl ze7 fun cdv A outer s H E hr C=>?_⟩
 have hu:=hu64 hr
 exact (yag (yai (r_bm rfl PySem.F.plainAttrs_str PySem.F.slot_str_join PySem.F.type_str_join (yhG rfl) zdI yaK (zaa (yew (jf:=[(0, "shelf")]) (zaT (N:=["shelf", "items"]) (sc:=yad ycc) rfl (fun _=>rfl) (by decide +kernel)) rfl (ydD (E:=(fun _=>E)) rfl (yaa 1)) (fun _ _ _ _ _=>zba) (fun _ _ _ _ _=>(yfj (zal rfl (yc9 rfl rfl Z.b_isinstance (yaa 0) rfl Z.b_str ydZ (by decide))) (yaa 0) (yaj rfl (CA.never rfl) (zbi Z 90) (hr.mono (show 95<=95 by decide)) rfl (zaa (yaa 1) (zaa (yaa 0) yac)))))) yac))))
theorem zaY:FnScope ["shelf", "texts", "plains", "told", "one", "other", "spelt", "many"] ["shelf", "texts", "plains", "told"] (yad ycd):=⟨rfl,rfl,rfl,by decide +kernel,rfl,by decide +kernel,by decide +kernel⟩
theorem zc3 {P:Program} {w:World} {K:PySem.W.Frag} {cls exc:Nat->Option Addr} {mg:Str->Option Value} {base:Heap} (Z:Facts P w K cls exc mg base):GF P w (mkT K cls exc) mg base 97 "_law_right" ybO:=by
 obtain ⟨f,fd,h1,h2,h3,h4⟩:=Z.d_law_right
 refine ⟨f,fd,_,h1,h2,h3,okA h4 rfl zaY fun cdv A outer s H E hr C=>?_⟩
 have hu:=hu64 hr
 exact (zab (yhE (yaa 2) (yfI rfl rfl (zbZ (i:=4) zaY.nd (zbZ (i:=5) zaY.nd zfI))))
  (zab (r_if (rt_w (ydw (ych (zal rfl (yc9 rfl rfl Z.b_isinstance (yaa 3) rfl Z.b_tuple zih (by decide)))) (ydw (yar o_lt (r_bi (b_len rfl) rfl Z.b_len PySem.boot_len (zaa (yaa 3) yac)) yaf (yak _)) (ydQ (ych (zal rfl (yc9 rfl rfl Z.b_isinstance (r_ix rfl hu (yaa 3) yaf) rfl Z.b_list zdW (by decide)))))))) (yag (yai r_bl)) yas)
  (zab (zcF (jf:=[(0, "shelf"),(3, "told")]) (zaT (N:=["shelf", "texts", "plains", "told", "one", "other", "spelt", "many"]) (sc:=yad ycd) rfl (fun _=>rfl) (by decide +kernel)) rfl (ydD (E:=(fun _=>E)) rfl (yaa 1)) (fun _ _ _ _ _=>zba) (fun _ _ _ _ _=>(yaj rfl (CA.never rfl) (zfo Z) (hr.mono (show 96<=96 by decide)) rfl (zaa (yaa 1) (zaa (yaa 0) (zaa (r_ix rfl hu (yaa 2) yaf) yac))))) zaY.nd (i:=6))
  (zab (r_if (yar (o_eq rfl hu) (yaa 4) (yaa 5) (yak _)) (yag (yai (ydV (ycO (o_eq rfl hu) (r_ix rfl hu (yaa 3) yaf) yaK (yak _)) (ydV (ycO (o_eq rfl hu) (r_bi (b_len rfl) rfl Z.b_len PySem.boot_len (zaa (yaa 3) yac)) yaf (yak _)) (ydU (ycO (o_eq rfl hu) (yaa 6) (ydi (zaa (ycu (zaa r_bl (zaa r_bl yac))) (zaa (ycu (zaa r_bl (zaa r_bl yac))) yac))) (yak _))))))) yas)
  (zab (yaq (i:=7) zaY.nd (yaj rfl C (ze5 Z) (hr.mono (show 1<=96 by decide)) rfl (zaa (yaa 4) (zaa (yaa 5) yac))))
  (zab (r_if (rt_w (ydw (yar (o_ne rfl hu) (r_ix rfl hu (yaa 3) yaf) yaK (yak _)) (ydw (yar (o_ne rfl hu) (r_bi (b_len rfl) rfl Z.b_len PySem.boot_len (zaa (yaa 3) yac)) yaf (yak _)) (ydw (ych (zal rfl (r_ix rfl hu (r_ix rfl hu (yaa 6) yaf) yaf))) (ydQ (ych (zal rfl (r_ix rfl hu (r_ix rfl hu (yaa 6) yaf) yaf)))))))) (yag (yai r_bl)) yas)
  (yag (yai (ydV (ycO (o_eq rfl hu) (yaj rfl C (zfp Z) (hr.mono (show 96<=96 by decide)) rfl (zaa (yaa 0) (zaa (r_ix rfl hu (yaa 3) yaf) yac))) (zaw rfl (yaa 4) zaB (zas (yaa 7))) (yak _)) (ydU (ycO (o_eq rfl hu) (zaw rfl (yaa 3) (zas yaf) zaB) (ycu (zaa (zaw rfl (yaa 4) (zas (yaa 7)) (zas (yat (yaV rfl) (yaa 7) yaf))) (zaa (zaw rfl (yaa 5) (zas (yaa 7)) (zas (yat (yaV rfl) (yaa 7) yaf))) yac))) (yak _))))))))))))
theorem sc_law:FnScope ["script", "shelf", "k", "stream", "plains", "texts", "many", "told", "kept", "turned"] ["script"] (yad ydO):=⟨rfl,rfl,rfl,by decide +kernel,rfl,by decide +kernel,by decide +kernel⟩
theorem yi6 {P:Program} {w:World} {K:PySem.W.Frag} {cls exc:Nat->Option Addr} {mg:Str->Option Value} {base:Heap} (Z:Facts P w K cls exc mg base) {f:Addr} {fd:FuncData} (h4:Fun K "law" "law" ydO f fd):FnOk P w K mg base (CXE P w) 101 f fd ["script"] (spA (mkT K cls exc) yfn):=by
 refine okA h4 rfl sc_law fun cdv A outer s H E hr C=>?_
 have hu:=hu64 hr
 exact (zab (yaq (i:=1) sc_law.nd (zjh rfl C (zeY Z) (hr.mono (show 2<=100 by decide)) rfl))
  (zab (yd7 rfl (zbI (E:=EN) rfl Z.b_range yaf) (zbt (i:=2) sc_law.nd) (zab (yaq (i:=3) sc_law.nd (yaj rfl (C.nox) (zeZ Z) (hr.mono (show 2<=100 by decide)) rfl (zaa (yaa 0) (zaa (yaa 2) yac))))
  (zab (yaq (i:=4) sc_law.nd (yaj rfl (C.nox) (zgV Z) (hr.mono (show 3<=100 by decide)) rfl (zaa (yaa 3) (zaa yaf yac))))
  (zab (zcF (jf:=[(1, "shelf"),(3, "stream")]) (zaT (N:=["script", "shelf", "k", "stream", "plains", "texts", "many", "told", "kept", "turned"]) (sc:=yad ydO) rfl (fun _=>rfl) (by decide +kernel)) rfl (ydD (E:=EN) rfl (yaa 4)) (fun _ _ _ _ _=>zba) (fun _ _ _ _ _=>(yaj rfl (CA.never rfl) (zfm Z) (hr.mono (show 100<=100 by decide)) rfl (zaa (yaa 1) (zaa (yaa 0) (zaa (yaa 2) yac))))) sc_law.nd (i:=5))
  (zab (r_if (yar (o_ne rfl hu) (yew (jf:=[(1, "shelf")]) (zaT (N:=["script", "shelf", "k", "stream", "plains", "texts", "many", "told", "kept", "turned"]) (sc:=yad ydO) rfl (fun _=>rfl) (by decide +kernel)) rfl (ydD (E:=EN) rfl (yaa 5)) (fun _ _ _ _ _=>zba) (fun _ _ _ _ _=>(yaj rfl (CA.never rfl) (zbi Z 90) (hr.mono (show 95<=100 by decide)) rfl (zaa (yaa 1) (zaa (yaa 0) yac))))) (r_ty (zfS rfl) rfl Z.b_list zdW (zaa (yaa 4) yac)) (yak _)) (yag (yai r_bl)) yas)
  (zab (yaq (i:=6) sc_law.nd (zdG rfl (C.nox) (zbA Z) (hr.mono (show 1<=100 by decide)) (yaa 1)))
  (zab (yaq (i:=7) sc_law.nd (yaj rfl (C.nox) (zaC Z) (hr.mono (show 10<=100 by decide)) rfl (zaa (yaa 1) (zaa (r_ix rfl hu (yaa 5) yaf) (zaa (r_ix rfl hu (yaa 5) yaf) yac)))))
  (zab (r_if (ych (zal rfl (yaj rfl (C.nox) (zc3 Z) (hr.mono (show 97<=100 by decide)) rfl (zaa (yaa 1) (zaa (yaa 5) (zaa (yaa 4) (zaa (yaa 7) yac))))))) (yag (yai r_bl)) yas)
  (zab (yaq (i:=8) sc_law.nd (yat (yaV rfl) (ycu (zaa (r_ix rfl hu (yaa 7) yaf) (zaa (r_ty (zfS rfl) rfl Z.b_list zdW (zaa (r_ix rfl hu (yaa 7) yaf) yac)) yac))) (zaw rfl (yaa 7) (zas yaf) zaB)))
  (zab (r_if (yar (o_ne rfl hu) (yaj rfl (C.nox) (zaC Z) (hr.mono (show 10<=100 by decide)) rfl (zaa (yaa 1) (zaa (r_ix rfl hu (yaa 5) yaf) (zaa (r_ix rfl hu (yaa 5) yaf) yac)))) (yaa 8) (yak _)) (yag (yai r_bl)) yas)
  (zab (yaJ (r_bm rfl PySem.F.plainAttrs_list PySem.F.slot_list_append PySem.F.type_list_append (zam) zak (r_ix rfl hu (yaa 7) yaf) (zaa yaK yac)))
  (zab (r_if (rt_w (ydw (yar (o_ne rfl hu) (yaj rfl (C.nox) (zaC Z) (hr.mono (show 10<=100 by decide)) rfl (zaa (yaa 1) (zaa (r_ix rfl hu (yaa 5) yaf) (zaa (r_ix rfl hu (yaa 5) yaf) yac)))) (yaa 8) (yak _)) (ydQ (yar (o_ne rfl hu) (zdG rfl (C.nox) (zbA Z) (hr.mono (show 1<=100 by decide)) (yaa 1)) (yaa 6) (yak _))))) (yag (yai r_bl)) yas)
  (zab (yaJ (yao rfl (C.nox) (zbC Z) (hr.mono (show 4<=100 by decide)) (yaa 1) (zaa (yat (yaV rfl) yaK (r_ix rfl hu yaK (yaa 2))) yac)))
  (zab (r_if (yar (o_ne rfl hu) (yaj rfl (C.nox) (zaC Z) (hr.mono (show 10<=100 by decide)) rfl (zaa (yaa 1) (zaa (r_ix rfl hu (yaa 5) yaf) (zaa (r_ix rfl hu (yaa 5) yaf) yac)))) (yaa 8) (yak _)) (yag (yai r_bl)) yas)
  (zab (yaq (i:=9) sc_law.nd (yaj rfl (C.nox) (zaC Z) (hr.mono (show 10<=100 by decide)) rfl (zaa (yaa 1) (zaa (r_ix rfl hu (yaa 5) yaf) (zaa (r_ix rfl hu (yaa 5) yaf) yac)))))
  (yag (r_if (ych (zal rfl (yaj rfl (C.nox) (zc3 Z) (hr.mono (show 97<=100 by decide)) rfl (zaa (yaa 1) (zaa (yhJ rfl (yaa 5) (ydT yaf)) (zaa (yhK rfl (yaa 4) (ydT yaf)) (zaa (yaa 9) yac))))))) (yag (yai r_bl)) yas)))))))))))))))))
  (yag (yai (ycO (o_eq rfl hu) (yaj rfl C (zaC Z) (hr.mono (show 10<=100 by decide)) rfl (zaa (yaa 1) (zaa yaf (zaa yaf yac)))) (ycu (zaa yaK (zaa (ydi yac) yac))) (yak _))))))
end Sk
namespace Sk
open PySem PySem.Spec L2 Sm
theorem all_mk {l:PySem.W.OpenLaw} {w:World} {K:PySem.W.Frag} {h:Heap} {mg:Str->Option Value} {fa f0 f1 f2 f3 f4 f5 f6 f7 f8 f9 f10 f11 f12 f13 f14 f15 f16 f17 f18 f19 f20 f21 f22 f23 f24 f25 f26 f27 f28 f29 f30 f31 f32 f33 f34 f35 f36 f37 f38 f39 f40 f41 f42 f43 f44 f45 f46 f47 f48 f49 f50 f51 f52 f53 f54 f55 f56 C0 X0 X1 X2 X3 X4 X5:Addr} {tk_LEAF_SIGNS tk_MOST_PLAIN tk_MOST_SIGNS:Tok} (X:K.In h) (G:h.Ns mainGlobals mg) (hfa:mg "law" = some (.ref fa))
  {od0 an0 od1 an1 od2 an2 od3 an3 od4 an4 od5 an5 od6 an6 od7 an7 od8 an8 od9 an9 od10 an10 od11 an11 od12 an12 od13 an13 od14 an14 od15 an15 od16 an16 od17 an17 od18 an18 od19 an19 od20 an20 od21 an21 od22 an22 od23 an23 od24 an24 od25 an25 od26 an26 od27 an27 od28 an28 od29 an29 od30 an30 od31 an31 od32 an32 od33 an33 od34 an34 od35 an35 od36 an36 od37 an37 od38 an38 od39 an39 od40 an40 od41 an41 od42 an42 od43 an43 od44 an44 od45 an45 od46 an46 od47 an47 od48 an48 od49 an49 od50 an50 od51 an51 od52 an52 od53 an53 od54 an54 od55 an55 od56 an56:Option Addr} {sl0 sl1 sl2 sl3 sl4 sl5 sl6 sl7 sl8 sl9 sl10 sl11 sl12 sl13 sl14 sl15 sl16 sl17 sl18 sl19 sl20 sl21 sl22 sl23 sl24 sl25 sl26 sl27 sl28 sl29 sl30 sl31 sl32 sl33 sl34 sl35 sl36 sl37 sl38 sl39 sl40 sl41 sl42 sl43 sl44 sl45 sl46 sl47 sl48 sl49 sl50 sl51 sl52 sl53 sl54 sl55 sl56:Array (Option Value)} {oc0 kV0 dc0 pm0 cd0 ct0 oc1 kV1 dc1 pm1 cd1 ct1 oc2 kV2 dc2 pm2 cd2 ct2 oc3 kV3 dc3 pm3 cd3 ct3 oc4 kV4 dc4 pm4 cd4 ct4 oc5 kV5 dc5 pm5 cd5 ct5 oc6 kV6 dc6 pm6 cd6 ct6 oc7 kV7 dc7 pm7 cd7 ct7 oc8 kV8 dc8 pm8 cd8 ct8 oc9 kV9 dc9 pm9 cd9 ct9 oc10 kV10 dc10 pm10 cd10 ct10 oc11 kV11 dc11 pm11 cd11 ct11 oc12 kV12 dc12 pm12 cd12 ct12 oc13 kV13 dc13 pm13 cd13 ct13 oc14 kV14 dc14 pm14 cd14 ct14 oc15 kV15 dc15 pm15 cd15 ct15 oc16 kV16 dc16 pm16 cd16 ct16 oc17 kV17 dc17 pm17 cd17 ct17 oc18 kV18 dc18 pm18 cd18 ct18 oc19 kV19 dc19 pm19 cd19 ct19 oc20 kV20 dc20 pm20 cd20 ct20 oc21 kV21 dc21 pm21 cd21 ct21 oc22 kV22 dc22 pm22 cd22 ct22 oc23 kV23 dc23 pm23 cd23 ct23 oc24 kV24 dc24 pm24 cd24 ct24 oc25 kV25 dc25 pm25 cd25 ct25 oc26 kV26 dc26 pm26 cd26 ct26 oc27 kV27 dc27 pm27 cd27 ct27 oc28 kV28 dc28 pm28 cd28 ct28 oc29 kV29 dc29 pm29 cd29 ct29 oc30 kV30 dc30 pm30 cd30 ct30 oc31 kV31 dc31 pm31 cd31 ct31 oc32 kV32 dc32 pm32 cd32 ct32 oc33 kV33 dc33 pm33 cd33 ct33 oc34 kV34 dc34 pm34 cd34 ct34 oc35 kV35 dc35 pm35 cd35 ct35 oc36 kV36 dc36 pm36 cd36 ct36 oc37 kV37 dc37 pm37 cd37 ct37 oc38 kV38 dc38 pm38 cd38 ct38 oc39 kV39 dc39 pm39 cd39 ct39 oc40 kV40 dc40 pm40 cd40 ct40 oc41 kV41 dc41 pm41 cd41 ct41 oc42 kV42 dc42 pm42 cd42 ct42 oc43 kV43 dc43 pm43 cd43 ct43 oc44 kV44 dc44 pm44 cd44 ct44 oc45 kV45 dc45 pm45 cd45 ct45 oc46 kV46 dc46 pm46 cd46 ct46 oc47 kV47 dc47 pm47 cd47 ct47 oc48 kV48 dc48 pm48 cd48 ct48 oc49 kV49 dc49 pm49 cd49 ct49 oc50 kV50 dc50 pm50 cd50 ct50 oc51 kV51 dc51 pm51 cd51 ct51 oc52 kV52 dc52 pm52 cd52 ct52 oc53 kV53 dc53 pm53 cd53 ct53 oc54 kV54 dc54 pm54 cd54 ct54 oc55 kV55 dc55 pm55 cd55 ct55 oc56 kV56 dc56 pm56 cd56 ct56:Value}
  (aC0:PySem.W.nsIn K mainGlobals "Shelf" = some (some (.ref C0)))
  (a0:PySem.W.findIn K (.ref C0) "__init__" = some (some (.ref f0)))
  (i0:PySem.W.isFn K (.ref f0)=true)
  (l0:K.lookup f0=some ⟨oc0,od0,.func (PySem.W.fnOf "__init__" "Shelf.__init__" (yan ycl) (yal ycl) (yad ycl) .none kV0 dc0 pm0 an0 cd0 ct0),sl0⟩)
  (c0:PySem.W.codeIn K cd0 "Shelf.__init__" = true)
  (k0:PySem.W.keepIn K (.ref f0)=true)
  (a6:PySem.W.findIn K (.ref C0) "many" = some (some (.ref f6)))
  (i6:PySem.W.isFn K (.ref f6)=true)
  (l6:K.lookup f6=some ⟨oc6,od6,.func (PySem.W.fnOf "many" "Shelf.many" (yan ycm) (yal ycm) (yad ycm) .none kV6 dc6 pm6 an6 cd6 ct6),sl6⟩)
  (c6:PySem.W.codeIn K cd6 "Shelf.many" = true)
  (k6:PySem.W.keepIn K (.ref f6)=true)
  (a8:PySem.W.findIn K (.ref C0) "has_piece" = some (some (.ref f8)))
  (i8:PySem.W.isFn K (.ref f8)=true)
  (l8:K.lookup f8=some ⟨oc8,od8,.func (PySem.W.fnOf "has_piece" "Shelf.has_piece" (yan ybt) (yal ybt) (yad ybt) .none kV8 dc8 pm8 an8 cd8 ct8),sl8⟩)
  (c8:PySem.W.codeIn K cd8 "Shelf.has_piece" = true)
  (k8:PySem.W.keepIn K (.ref f8)=true)
  (a9:PySem.W.findIn K (.ref C0) "check_piece" = some (some (.ref f9)))
  (i9:PySem.W.isFn K (.ref f9)=true)
  (l9:K.lookup f9=some ⟨oc9,od9,.func (PySem.W.fnOf "check_piece" "Shelf.check_piece" (yan ybk) (yal ybk) (yad ybk) .none kV9 dc9 pm9 an9 cd9 ct9),sl9⟩)
  (c9:PySem.W.codeIn K cd9 "Shelf.check_piece" = true)
  (k9:PySem.W.keepIn K (.ref f9)=true)
  (a10:PySem.W.findIn K (.ref C0) "check_text" = some (some (.ref f10)))
  (i10:PySem.W.isFn K (.ref f10)=true)
  (l10:K.lookup f10=some ⟨oc10,od10,.func (PySem.W.fnOf "check_text" "Shelf.check_text" (yan ybm) (yal ybm) (yad ybm) .none kV10 dc10 pm10 an10 cd10 ct10),sl10⟩)
  (c10:PySem.W.codeIn K cd10 "Shelf.check_text" = true)
  (k10:PySem.W.keepIn K (.ref f10)=true)
  (a12:PySem.W.findIn K (.ref C0) "signs" = some (some (.ref f12)))
  (i12:PySem.W.isFn K (.ref f12)=true)
  (l12:K.lookup f12=some ⟨oc12,od12,.func (PySem.W.fnOf "signs" "Shelf.signs" (yan yb4) (yal yb4) (yad yb4) .none kV12 dc12 pm12 an12 cd12 ct12),sl12⟩)
  (c12:PySem.W.codeIn K cd12 "Shelf.signs" = true)
  (k12:PySem.W.keepIn K (.ref f12)=true)
  (a14:PySem.W.findIn K (.ref C0) "piece" = some (some (.ref f14)))
  (i14:PySem.W.isFn K (.ref f14)=true)
  (l14:K.lookup f14=some ⟨oc14,od14,.func (PySem.W.fnOf "piece" "Shelf.piece" (yan yb5) (yal yb5) (yad yb5) .none kV14 dc14 pm14 an14 cd14 ct14),sl14⟩)
  (c14:PySem.W.codeIn K cd14 "Shelf.piece" = true)
  (k14:PySem.W.keepIn K (.ref f14)=true)
  (a26:PySem.W.findIn K (.ref C0) "lay" = some (some (.ref f26)))
  (i26:PySem.W.isFn K (.ref f26)=true)
  (l26:K.lookup f26=some ⟨oc26,od26,.func (PySem.W.fnOf "lay" "Shelf.lay" (yan ycG) (yal ycG) (yad ycG) .none kV26 dc26 pm26 an26 cd26 ct26),sl26⟩)
  (c26:PySem.W.codeIn K cd26 "Shelf.lay" = true)
  (k26:PySem.W.keepIn K (.ref f26)=true)
  (a28:PySem.W.findIn K (.ref C0) "lay_leaf" = some (some (.ref f28)))
  (i28:PySem.W.isFn K (.ref f28)=true)
  (l28:K.lookup f28=some ⟨oc28,od28,.func (PySem.W.fnOf "lay_leaf" "Shelf.lay_leaf" (yan ybA) (yal ybA) (yad ybA) .none kV28 dc28 pm28 an28 cd28 ct28),sl28⟩)
  (c28:PySem.W.codeIn K cd28 "Shelf.lay_leaf" = true)
  (k28:PySem.W.keepIn K (.ref f28)=true)
  (a29:PySem.W.findIn K (.ref C0) "leaf" = some (some (.ref f29)))
  (i29:PySem.W.isFn K (.ref f29)=true)
  (l29:K.lookup f29=some ⟨oc29,od29,.func (PySem.W.fnOf "leaf" "Shelf.leaf" (yan ycq) (yal ycq) (yad ycq) .none kV29 dc29 pm29 an29 cd29 ct29),sl29⟩)
  (c29:PySem.W.codeIn K cd29 "Shelf.leaf" = true)
  (k29:PySem.W.keepIn K (.ref f29)=true)
  (a31:PySem.W.findIn K (.ref C0) "last_leaf" = some (some (.ref f31)))
  (i31:PySem.W.isFn K (.ref f31)=true)
  (l31:K.lookup f31=some ⟨oc31,od31,.func (PySem.W.fnOf "last_leaf" "Shelf.last_leaf" (yan ybu) (yal ybu) (yad ybu) .none kV31 dc31 pm31 an31 cd31 ct31),sl31⟩)
  (c31:PySem.W.codeIn K cd31 "Shelf.last_leaf" = true)
  (k31:PySem.W.keepIn K (.ref f31)=true)
  (a32:PySem.W.findIn K (.ref C0) "first_leaf" = some (some (.ref f32)))
  (i32:PySem.W.isFn K (.ref f32)=true)
  (l32:K.lookup f32=some ⟨oc32,od32,.func (PySem.W.fnOf "first_leaf" "Shelf.first_leaf" (yan ybn) (yal ybn) (yad ybn) .none kV32 dc32 pm32 an32 cd32 ct32),sl32⟩)
  (c32:PySem.W.codeIn K cd32 "Shelf.first_leaf" = true)
  (k32:PySem.W.keepIn K (.ref f32)=true)
  (a34:PySem.W.findIn K (.ref C0) "check_fork" = some (some (.ref f34)))
  (i34:PySem.W.isFn K (.ref f34)=true)
  (l34:K.lookup f34=some ⟨oc34,od34,.func (PySem.W.fnOf "check_fork" "Shelf.check_fork" (yan ybo) (yal ybo) (yad ybo) .none kV34 dc34 pm34 an34 cd34 ct34),sl34⟩)
  (c34:PySem.W.codeIn K cd34 "Shelf.check_fork" = true)
  (k34:PySem.W.keepIn K (.ref f34)=true)
  (a35:PySem.W.findIn K (.ref C0) "lay_fork" = some (some (.ref f35)))
  (i35:PySem.W.isFn K (.ref f35)=true)
  (l35:K.lookup f35=some ⟨oc35,od35,.func (PySem.W.fnOf "lay_fork" "Shelf.lay_fork" (yan ybB) (yal ybB) (yad ybB) .none kV35 dc35 pm35 an35 cd35 ct35),sl35⟩)
  (c35:PySem.W.codeIn K cd35 "Shelf.lay_fork" = true)
  (k35:PySem.W.keepIn K (.ref f35)=true)
  (a36:PySem.W.findIn K (.ref C0) "fork" = some (some (.ref f36)))
  (i36:PySem.W.isFn K (.ref f36)=true)
  (l36:K.lookup f36=some ⟨oc36,od36,.func (PySem.W.fnOf "fork" "Shelf.fork" (yan ycr) (yal ycr) (yad ycr) .none kV36 dc36 pm36 an36 cd36 ct36),sl36⟩)
  (c36:PySem.W.codeIn K cd36 "Shelf.fork" = true)
  (k36:PySem.W.keepIn K (.ref f36)=true)
  (a38:PySem.W.findIn K (.ref C0) "height" = some (some (.ref f38)))
  (i38:PySem.W.isFn K (.ref f38)=true)
  (l38:K.lookup f38=some ⟨oc38,od38,.func (PySem.W.fnOf "height" "Shelf.height" (yan ybU) (yal ybU) (yad ybU) .none kV38 dc38 pm38 an38 cd38 ct38),sl38⟩)
  (c38:PySem.W.codeIn K cd38 "Shelf.height" = true)
  (k38:PySem.W.keepIn K (.ref f38)=true)
  (a1:PySem.W.nsIn K mainGlobals "_law_mixed" = some (some (.ref f1)))
  (l1:K.lookup f1=some ⟨oc1,od1,.func (PySem.W.fnOf "_law_mixed" "_law_mixed" (yan ycC) (yal ycC) (yad ycC) .none kV1 dc1 pm1 an1 cd1 ct1),sl1⟩)
  (c1:PySem.W.codeIn K cd1 "_law_mixed" = true)
  (k1:PySem.W.keepIn K (.ref f1)=true)
  (a2:PySem.W.nsIn K mainGlobals "_law_stream" = some (some (.ref f2)))
  (l2:K.lookup f2=some ⟨oc2,od2,.func (PySem.W.fnOf "_law_stream" "_law_stream" (yan yb1) (yal yb1) (yad yb1) .none kV2 dc2 pm2 an2 cd2 ct2),sl2⟩)
  (c2:PySem.W.codeIn K cd2 "_law_stream" = true)
  (k2:PySem.W.keepIn K (.ref f2)=true)
  (a3:PySem.W.nsIn K mainGlobals "_law_take" = some (some (.ref f3)))
  (l3:K.lookup f3=some ⟨oc3,od3,.func (PySem.W.fnOf "_law_take" "_law_take" (yan yc1) (yal yc1) (yad yc1) .none kV3 dc3 pm3 an3 cd3 ct3),sl3⟩)
  (c3:PySem.W.codeIn K cd3 "_law_take" = true)
  (k3:PySem.W.keepIn K (.ref f3)=true)
  (a4:PySem.W.nsIn K mainGlobals "_law_plain" = some (some (.ref f4)))
  (l4:K.lookup f4=some ⟨oc4,od4,.func (PySem.W.fnOf "_law_plain" "_law_plain" (yan ycD) (yal ycD) (yad ycD) .none kV4 dc4 pm4 an4 cd4 ct4),sl4⟩)
  (c4:PySem.W.codeIn K cd4 "_law_plain" = true)
  (k4:PySem.W.keepIn K (.ref f4)=true)
  (a5:PySem.W.nsIn K mainGlobals "_law_pair" = some (some (.ref f5)))
  (l5:K.lookup f5=some ⟨oc5,od5,.func (PySem.W.fnOf "_law_pair" "_law_pair" (yan yc2) (yal yc2) (yad yc2) .none kV5 dc5 pm5 an5 cd5 ct5),sl5⟩)
  (c5:PySem.W.codeIn K cd5 "_law_pair" = true)
  (k5:PySem.W.keepIn K (.ref f5)=true)
  (a7:PySem.W.nsIn K mainGlobals "is_whole" = some (some (.ref f7)))
  (l7:K.lookup f7=some ⟨oc7,od7,.func (PySem.W.fnOf "is_whole" "is_whole" (yan yc3) (yal yc3) (yad yc3) .none kV7 dc7 pm7 an7 cd7 ct7),sl7⟩)
  (c7:PySem.W.codeIn K cd7 "is_whole" = true)
  (k7:PySem.W.keepIn K (.ref f7)=true)
  (a11:PySem.W.nsIn K mainGlobals "whole_left" = some (some (.ref f11)))
  (l11:K.lookup f11=some ⟨oc11,od11,.func (PySem.W.fnOf "whole_left" "whole_left" (yan ycn) (yal ycn) (yad ycn) .none kV11 dc11 pm11 an11 cd11 ct11),sl11⟩)
  (c11:PySem.W.codeIn K cd11 "whole_left" = true)
  (k11:PySem.W.keepIn K (.ref f11)=true)
  (a13:PySem.W.nsIn K mainGlobals "size_of" = some (some (.ref f13)))
  (l13:K.lookup f13=some ⟨oc13,od13,.func (PySem.W.fnOf "size_of" "size_of" (yan ydb) (yal ydb) (yad ydb) .none kV13 dc13 pm13 an13 cd13 ct13),sl13⟩)
  (c13:PySem.W.codeIn K cd13 "size_of" = true)
  (k13:PySem.W.keepIn K (.ref f13)=true)
  (a15:PySem.W.nsIn K mainGlobals "opens_fork" = some (some (.ref f15)))
  (l15:K.lookup f15=some ⟨oc15,od15,.func (PySem.W.fnOf "opens_fork" "opens_fork" (yan yco) (yal yco) (yad yco) .none kV15 dc15 pm15 an15 cd15 ct15),sl15⟩)
  (c15:PySem.W.codeIn K cd15 "opens_fork" = true)
  (k15:PySem.W.keepIn K (.ref f15)=true)
  (a16:PySem.W.nsIn K mainGlobals "next_signs" = some (some (.ref f16)))
  (l16:K.lookup f16=some ⟨oc16,od16,.func (PySem.W.fnOf "next_signs" "next_signs" (yan ycp) (yal ycp) (yad ycp) .none kV16 dc16 pm16 an16 cd16 ct16),sl16⟩)
  (c16:PySem.W.codeIn K cd16 "next_signs" = true)
  (k16:PySem.W.keepIn K (.ref f16)=true)
  (a17:PySem.W.nsIn K mainGlobals "puts_back" = some (some (.ref f17)))
  (l17:K.lookup f17=some ⟨oc17,od17,.func (PySem.W.fnOf "puts_back" "puts_back" (yan ycE) (yal ycE) (yad ycE) .none kV17 dc17 pm17 an17 cd17 ct17),sl17⟩)
  (c17:PySem.W.codeIn K cd17 "puts_back" = true)
  (k17:PySem.W.keepIn K (.ref f17)=true)
  (a18:PySem.W.nsIn K mainGlobals "common_signs" = some (some (.ref f18)))
  (l18:K.lookup f18=some ⟨oc18,od18,.func (PySem.W.fnOf "common_signs" "common_signs" (yan ybR) (yal ybR) (yad ybR) .none kV18 dc18 pm18 an18 cd18 ct18),sl18⟩)
  (c18:PySem.W.codeIn K cd18 "common_signs" = true)
  (k18:PySem.W.keepIn K (.ref f18)=true)
  (a19:PySem.W.nsIn K mainGlobals "common_item" = some (some (.ref f19)))
  (l19:K.lookup f19=some ⟨oc19,od19,.func (PySem.W.fnOf "common_item" "common_item" (yan yb6) (yal yb6) (yad yb6) .none kV19 dc19 pm19 an19 cd19 ct19),sl19⟩)
  (c19:PySem.W.codeIn K cd19 "common_item" = true)
  (k19:PySem.W.keepIn K (.ref f19)=true)
  (a20:PySem.W.nsIn K mainGlobals "common_items" = some (some (.ref f20)))
  (l20:K.lookup f20=some ⟨oc20,od20,.func (PySem.W.fnOf "common_items" "common_items" (yan ybS) (yal ybS) (yad ybS) .none kV20 dc20 pm20 an20 cd20 ct20),sl20⟩)
  (c20:PySem.W.codeIn K cd20 "common_items" = true)
  (k20:PySem.W.keepIn K (.ref f20)=true)
  (a21:PySem.W.nsIn K mainGlobals "next_sign" = some (some (.ref f21)))
  (l21:K.lookup f21=some ⟨oc21,od21,.func (PySem.W.fnOf "next_sign" "next_sign" (yan ycF) (yal ycF) (yad ycF) .none kV21 dc21 pm21 an21 cd21 ct21),sl21⟩)
  (c21:PySem.W.codeIn K cd21 "next_sign" = true)
  (k21:PySem.W.keepIn K (.ref f21)=true)
  (a22:PySem.W.nsIn K mainGlobals "held_together" = some (some (.ref f22)))
  (l22:K.lookup f22=some ⟨oc22,od22,.func (PySem.W.fnOf "held_together" "held_together" (yan ybG) (yal ybG) (yad ybG) .none kV22 dc22 pm22 an22 cd22 ct22),sl22⟩)
  (c22:PySem.W.codeIn K cd22 "held_together" = true)
  (k22:PySem.W.keepIn K (.ref f22)=true)
  (a23:PySem.W.nsIn K mainGlobals "is_plain_sign" = some (some (.ref f23)))
  (l23:K.lookup f23=some ⟨oc23,od23,.func (PySem.W.fnOf "is_plain_sign" "is_plain_sign" (yan ybH) (yal ybH) (yad ybH) .none kV23 dc23 pm23 an23 cd23 ct23),sl23⟩)
  (c23:PySem.W.codeIn K cd23 "is_plain_sign" = true)
  (k23:PySem.W.keepIn K (.ref f23)=true)
  (a24:PySem.W.nsIn K mainGlobals "is_plain" = some (some (.ref f24)))
  (l24:K.lookup f24=some ⟨oc24,od24,.func (PySem.W.fnOf "is_plain" "is_plain" (yan ycw) (yal ycw) (yad ycw) .none kV24 dc24 pm24 an24 cd24 ct24),sl24⟩)
  (c24:PySem.W.codeIn K cd24 "is_plain" = true)
  (k24:PySem.W.keepIn K (.ref f24)=true)
  (a25:PySem.W.nsIn K mainGlobals "is_short" = some (some (.ref f25)))
  (l25:K.lookup f25=some ⟨oc25,od25,.func (PySem.W.fnOf "is_short" "is_short" (yan yc4) (yal yc4) (yad yc4) .none kV25 dc25 pm25 an25 cd25 ct25),sl25⟩)
  (c25:PySem.W.codeIn K cd25 "is_short" = true)
  (k25:PySem.W.keepIn K (.ref f25)=true)
  (a27:PySem.W.nsIn K mainGlobals "ends_in" = some (some (.ref f27)))
  (l27:K.lookup f27=some ⟨oc27,od27,.func (PySem.W.fnOf "ends_in" "ends_in" (yan ydc) (yal ydc) (yad ydc) .none kV27 dc27 pm27 an27 cd27 ct27),sl27⟩)
  (c27:PySem.W.codeIn K cd27 "ends_in" = true)
  (k27:PySem.W.keepIn K (.ref f27)=true)
  (a30:PySem.W.nsIn K mainGlobals "check_length" = some (some (.ref f30)))
  (l30:K.lookup f30=some ⟨oc30,od30,.func (PySem.W.fnOf "check_length" "check_length" (yan ybT) (yal ybT) (yad ybT) .none kV30 dc30 pm30 an30 cd30 ct30),sl30⟩)
  (c30:PySem.W.codeIn K cd30 "check_length" = true)
  (k30:PySem.W.keepIn K (.ref f30)=true)
  (a33:PySem.W.nsIn K mainGlobals "are_close" = some (some (.ref f33)))
  (l33:K.lookup f33=some ⟨oc33,od33,.func (PySem.W.fnOf "are_close" "are_close" (yan ycH) (yal ycH) (yad ycH) .none kV33 dc33 pm33 an33 cd33 ct33),sl33⟩)
  (c33:PySem.W.codeIn K cd33 "are_close" = true)
  (k33:PySem.W.keepIn K (.ref f33)=true)
  (a37:PySem.W.nsIn K mainGlobals "with_last" = some (some (.ref f37)))
  (l37:K.lookup f37=some ⟨oc37,od37,.func (PySem.W.fnOf "with_last" "with_last" (yan ycI) (yal ycI) (yad ycI) .none kV37 dc37 pm37 an37 cd37 ct37),sl37⟩)
  (c37:PySem.W.codeIn K cd37 "with_last" = true)
  (k37:PySem.W.keepIn K (.ref f37)=true)
  (a39:PySem.W.nsIn K mainGlobals "turned_left" = some (some (.ref f39)))
  (l39:K.lookup f39=some ⟨oc39,od39,.func (PySem.W.fnOf "turned_left" "turned_left" (yan yb7) (yal yb7) (yad yb7) .none kV39 dc39 pm39 an39 cd39 ct39),sl39⟩)
  (c39:PySem.W.codeIn K cd39 "turned_left" = true)
  (k39:PySem.W.keepIn K (.ref f39)=true)
  (a40:PySem.W.nsIn K mainGlobals "without_first" = some (some (.ref f40)))
  (l40:K.lookup f40=some ⟨oc40,od40,.func (PySem.W.fnOf "without_first" "without_first" (yan ybI) (yal ybI) (yad ybI) .none kV40 dc40 pm40 an40 cd40 ct40),sl40⟩)
  (c40:PySem.W.codeIn K cd40 "without_first" = true)
  (k40:PySem.W.keepIn K (.ref f40)=true)
  (a41:PySem.W.nsIn K mainGlobals "turned_right" = some (some (.ref f41)))
  (l41:K.lookup f41=some ⟨oc41,od41,.func (PySem.W.fnOf "turned_right" "turned_right" (yan ybV) (yal ybV) (yad ybV) .none kV41 dc41 pm41 an41 cd41 ct41),sl41⟩)
  (c41:PySem.W.codeIn K cd41 "turned_right" = true)
  (k41:PySem.W.keepIn K (.ref f41)=true)
  (a42:PySem.W.nsIn K mainGlobals "linked" = some (some (.ref f42)))
  (l42:K.lookup f42=some ⟨oc42,od42,.func (PySem.W.fnOf "linked" "linked" (yan ydp) (yal ydp) (yad ydp) .none kV42 dc42 pm42 an42 cd42 ct42),sl42⟩)
  (c42:PySem.W.codeIn K cd42 "linked" = true)
  (k42:PySem.W.keepIn K (.ref f42)=true)
  (a43:PySem.W.nsIn K mainGlobals "welded" = some (some (.ref f43)))
  (l43:K.lookup f43=some ⟨oc43,od43,.func (PySem.W.fnOf "welded" "welded" (yan ydq) (yal ydq) (yad ydq) .none kV43 dc43 pm43 an43 cd43 ct43),sl43⟩)
  (c43:PySem.W.codeIn K cd43 "welded" = true)
  (k43:PySem.W.keepIn K (.ref f43)=true)
  (a44:PySem.W.nsIn K mainGlobals "joined" = some (some (.ref f44)))
  (l44:K.lookup f44=some ⟨oc44,od44,.func (PySem.W.fnOf "joined" "joined" (yan ydr) (yal ydr) (yad ydr) .none kV44 dc44 pm44 an44 cd44 ct44),sl44⟩)
  (c44:PySem.W.codeIn K cd44 "joined" = true)
  (k44:PySem.W.keepIn K (.ref f44)=true)
  (a45:PySem.W.nsIn K mainGlobals "halved" = some (some (.ref f45)))
  (l45:K.lookup f45=some ⟨oc45,od45,.func (PySem.W.fnOf "halved" "halved" (yan yds) (yal yds) (yad yds) .none kV45 dc45 pm45 an45 cd45 ct45),sl45⟩)
  (c45:PySem.W.codeIn K cd45 "halved" = true)
  (k45:PySem.W.keepIn K (.ref f45)=true)
  (a46:PySem.W.nsIn K mainGlobals "built" = some (some (.ref f46)))
  (l46:K.lookup f46=some ⟨oc46,od46,.func (PySem.W.fnOf "built" "built" (yan ydt) (yal ydt) (yad ydt) .none kV46 dc46 pm46 an46 cd46 ct46),sl46⟩)
  (c46:PySem.W.codeIn K cd46 "built" = true)
  (k46:PySem.W.keepIn K (.ref f46)=true)
  (a47:PySem.W.nsIn K mainGlobals "_law_grown" = some (some (.ref f47)))
  (l47:K.lookup f47=some ⟨oc47,od47,.func (PySem.W.fnOf "_law_grown" "_law_grown" (yan ycJ) (yal ycJ) (yad ycJ) .none kV47 dc47 pm47 an47 cd47 ct47),sl47⟩)
  (c47:PySem.W.codeIn K cd47 "_law_grown" = true)
  (k47:PySem.W.keepIn K (.ref f47)=true)
  (a48:PySem.W.nsIn K mainGlobals "_law_common" = some (some (.ref f48)))
  (l48:K.lookup f48=some ⟨oc48,od48,.func (PySem.W.fnOf "_law_common" "_law_common" (yan ycs) (yal ycs) (yad ycs) .none kV48 dc48 pm48 an48 cd48 ct48),sl48⟩)
  (c48:PySem.W.codeIn K cd48 "_law_common" = true)
  (k48:PySem.W.keepIn K (.ref f48)=true)
  (a49:PySem.W.nsIn K mainGlobals "_law_whole" = some (some (.ref f49)))
  (l49:K.lookup f49=some ⟨oc49,od49,.func (PySem.W.fnOf "_law_whole" "_law_whole" (yan ycK) (yal ycK) (yad ycK) .none kV49 dc49 pm49 an49 cd49 ct49),sl49⟩)
  (c49:PySem.W.codeIn K cd49 "_law_whole" = true)
  (k49:PySem.W.keepIn K (.ref f49)=true)
  (a50:PySem.W.nsIn K mainGlobals "_law_flat" = some (some (.ref f50)))
  (l50:K.lookup f50=some ⟨oc50,od50,.func (PySem.W.fnOf "_law_flat" "_law_flat" (yan ycx) (yal ycx) (yad ycx) .none kV50 dc50 pm50 an50 cd50 ct50),sl50⟩)
  (c50:PySem.W.codeIn K cd50 "_law_flat" = true)
  (k50:PySem.W.keepIn K (.ref f50)=true)
  (a51:PySem.W.nsIn K mainGlobals "_law_match" = some (some (.ref f51)))
  (l51:K.lookup f51=some ⟨oc51,od51,.func (PySem.W.fnOf "_law_match" "_law_match" (yan ycL) (yal ycL) (yad ycL) .none kV51 dc51 pm51 an51 cd51 ct51),sl51⟩)
  (c51:PySem.W.codeIn K cd51 "_law_match" = true)
  (k51:PySem.W.keepIn K (.ref f51)=true)
  (a52:PySem.W.nsIn K mainGlobals "_law_spelt" = some (some (.ref f52)))
  (l52:K.lookup f52=some ⟨oc52,od52,.func (PySem.W.fnOf "_law_spelt" "_law_spelt" (yan ycM) (yal ycM) (yad ycM) .none kV52 dc52 pm52 an52 cd52 ct52),sl52⟩)
  (c52:PySem.W.codeIn K cd52 "_law_spelt" = true)
  (k52:PySem.W.keepIn K (.ref f52)=true)
  (a53:PySem.W.nsIn K mainGlobals "_law_reads" = some (some (.ref f53)))
  (l53:K.lookup f53=some ⟨oc53,od53,.func (PySem.W.fnOf "_law_reads" "_law_reads" (yan ycN) (yal ycN) (yad ycN) .none kV53 dc53 pm53 an53 cd53 ct53),sl53⟩)
  (c53:PySem.W.codeIn K cd53 "_law_reads" = true)
  (k53:PySem.W.keepIn K (.ref f53)=true)
  (a54:PySem.W.nsIn K mainGlobals "_law_signs" = some (some (.ref f54)))
  (l54:K.lookup f54=some ⟨oc54,od54,.func (PySem.W.fnOf "_law_signs" "_law_signs" (yan ycc) (yal ycc) (yad ycc) .none kV54 dc54 pm54 an54 cd54 ct54),sl54⟩)
  (c54:PySem.W.codeIn K cd54 "_law_signs" = true)
  (k54:PySem.W.keepIn K (.ref f54)=true)
  (a55:PySem.W.nsIn K mainGlobals "_law_right" = some (some (.ref f55)))
  (l55:K.lookup f55=some ⟨oc55,od55,.func (PySem.W.fnOf "_law_right" "_law_right" (yan ycd) (yal ycd) (yad ycd) .none kV55 dc55 pm55 an55 cd55 ct55),sl55⟩)
  (c55:PySem.W.codeIn K cd55 "_law_right" = true)
  (k55:PySem.W.keepIn K (.ref f55)=true)
  (a56:PySem.W.nsIn K mainGlobals "law" = some (some (.ref f56)))
  (l56:K.lookup f56=some ⟨oc56,od56,.func (PySem.W.fnOf "law" "law" (yan ydO) (yal ydO) (yad ydO) .none kV56 dc56 pm56 an56 cd56 ct56),sl56⟩)
  (c56:PySem.W.codeIn K cd56 "law" = true)
  (k56:PySem.W.keepIn K (.ref f56)=true)
  (pg0:PySem.W.plainGet K C0 Str.empty=true)
  (hd0:PySem.W.hasDictIn K C0=true)
  (po0:PySem.W.plainOver K C0=true)
  (sa0:PySem.W.findIn K (.ref C0) "__setattr__" = some (some (.builtin "object.__setattr__")))
  (mk0:PySem.W.makesIn K C0=true)
  (kc0:PySem.W.keepIn K (.ref C0)=true)
  (nf0_0:PySem.W.findIn K (.ref C0) "pieces" = some none)
  (nf0_1:PySem.W.findIn K (.ref C0) "numbers" = some none)
  (nf0_2:PySem.W.findIn K (.ref C0) "sign_counts" = some none)
  (nf0_3:PySem.W.findIn K (.ref C0) "end_counts" = some none)
  (nf0_4:PySem.W.findIn K (.ref C0) "leaf_counts" = some none)
  (nf0_5:PySem.W.findIn K (.ref C0) "heights" = some none)
  (nf0_6:PySem.W.findIn K (.ref C0) "first_leaves" = some none)
  (nf0_7:PySem.W.findIn K (.ref C0) "last_leaves" = some none)
  (z_abs:PySem.W.nsIn K mainGlobals "abs" = some none)
  (z_all:PySem.W.nsIn K mainGlobals "all" = some none)
  (z_bool:PySem.W.nsIn K mainGlobals "bool" = some none)
  (z_enumerate:PySem.W.nsIn K mainGlobals "enumerate" = some none)
  (z_int:PySem.W.nsIn K mainGlobals "int" = some none)
  (z_isinstance:PySem.W.nsIn K mainGlobals "isinstance" = some none)
  (z_len:PySem.W.nsIn K mainGlobals "len" = some none)
  (z_list:PySem.W.nsIn K mainGlobals "list" = some none)
  (z_max:PySem.W.nsIn K mainGlobals "max" = some none)
  (z_min:PySem.W.nsIn K mainGlobals "min" = some none)
  (z_range:PySem.W.nsIn K mainGlobals "range" = some none)
  (z_str:PySem.W.nsIn K mainGlobals "str" = some none)
  (z_sum:PySem.W.nsIn K mainGlobals "sum" = some none)
  (z_tuple:PySem.W.nsIn K mainGlobals "tuple" = some none)
  (e_SkeinError:PySem.W.nsIn K mainGlobals "SkeinError" = some (some (.ref X0)))
  (e_NoText:PySem.W.nsIn K mainGlobals "NoText" = some (some (.ref X1)))
  (x_NoText:PySem.W.excIn K X1 [.type "ValueError",.type "Exception",.type "BaseException",.type "object"] "ValueError.__new__" = true)
  (e_NoPiece:PySem.W.nsIn K mainGlobals "NoPiece" = some (some (.ref X2)))
  (x_NoPiece:PySem.W.excIn K X2 [.type "ValueError",.type "Exception",.type "BaseException",.type "object"] "ValueError.__new__" = true)
  (e_Loose:PySem.W.nsIn K mainGlobals "Loose" = some (some (.ref X3)))
  (x_Loose:PySem.W.excIn K X3 [.type "ValueError",.type "Exception",.type "BaseException",.type "object"] "ValueError.__new__" = true)
  (e_Unlevel:PySem.W.nsIn K mainGlobals "Unlevel" = some (some (.ref X4)))
  (x_Unlevel:PySem.W.excIn K X4 [.type "ValueError",.type "Exception",.type "BaseException",.type "object"] "ValueError.__new__" = true)
  (e_TooLong:PySem.W.nsIn K mainGlobals "TooLong" = some (some (.ref X5)))
  (x_TooLong:PySem.W.excIn K X5 [.type "ValueError",.type "Exception",.type "BaseException",.type "object"] "ValueError.__new__" = true)
  (m_LEAF_SIGNS:PySem.W.nsIn K mainGlobals "LEAF_SIGNS" = some (some (.int 8 tk_LEAF_SIGNS)))
  (m_MOST_PLAIN:PySem.W.nsIn K mainGlobals "MOST_PLAIN" = some (some (.int 10000 tk_MOST_PLAIN)))
  (m_MOST_SIGNS:PySem.W.nsIn K mainGlobals "MOST_SIGNS" = some (some (.int 1000000000000000000 tk_MOST_SIGNS)))
  : ∃ fd:FuncData,(∀ (s:Shared) (v:Value),BindsTo s fd ⟨[v],[]⟩ [("script",v)])/\∀ base:Heap,K.In base->base.Ns mainGlobals mg->FnOk l.prog w K mg base (CXE l.prog w) 101 fa fd ["script"] (spL K):=by
 have e:=hfa.symm.trans (PySem.W.mg_of X G a56)
 cases e
 have F0:=yau (st:=ycl) l0 c0 k0
 have b0:=F0.binds (ps:=["self"]) fun _ _ _ _ _ _ us hl=>by obtain ⟨_,rfl⟩:=el1 hl;rfl
 have F1:=yau (st:=ycC) l1 c1 k1
 have b1:=F1.binds (ps:=["cell", "k"]) fun _ _ _ _ _ _ us hl=>by obtain ⟨_,_,rfl⟩:=el2 hl;rfl
 have F2:=yau (st:=yb1) l2 c2 k2
 have b2:=F2.binds (ps:=["script", "k"]) fun _ _ _ _ _ _ us hl=>by obtain ⟨_,_,rfl⟩:=el2 hl;rfl
 have F3:=yau (st:=yc1) l3 c3 k3
 have b3:=F3.binds (ps:=["stream", "many"]) fun _ _ _ _ _ _ us hl=>by obtain ⟨_,_,rfl⟩:=el2 hl;rfl
 have F4:=yau (st:=ycD) l4 c4 k4
 have b4:=F4.binds (ps:=["stream", "most"]) fun _ _ _ _ _ _ us hl=>by obtain ⟨_,_,rfl⟩:=el2 hl;rfl
 have F5:=yau (st:=yc2) l5 c5 k5
 have b5:=F5.binds (ps:=["stream", "most"]) fun _ _ _ _ _ _ us hl=>by obtain ⟨_,_,rfl⟩:=el2 hl;rfl
 have F6:=yau (st:=ycm) l6 c6 k6
 have b6:=F6.binds (ps:=["self"]) fun _ _ _ _ _ _ us hl=>by obtain ⟨_,rfl⟩:=el1 hl;rfl
 have F7:=yau (st:=yc3) l7 c7 k7
 have b7:=F7.binds (ps:=["thing"]) fun _ _ _ _ _ _ us hl=>by obtain ⟨_,rfl⟩:=el1 hl;rfl
 have F8:=yau (st:=ybt) l8 c8 k8
 have b8:=F8.binds (ps:=["self", "number"]) fun _ _ _ _ _ _ us hl=>by obtain ⟨_,_,rfl⟩:=el2 hl;rfl
 have F9:=yau (st:=ybk) l9 c9 k9
 have b9:=F9.binds (ps:=["self", "number"]) fun _ _ _ _ _ _ us hl=>by obtain ⟨_,_,rfl⟩:=el2 hl;rfl
 have F10:=yau (st:=ybm) l10 c10 k10
 have b10:=F10.binds (ps:=["self", "text"]) fun _ _ _ _ _ _ us hl=>by obtain ⟨_,_,rfl⟩:=el2 hl;rfl
 have F11:=yau (st:=ycn) l11 c11 k11
 have b11:=F11.binds (ps:=["shelf", "text"]) fun _ _ _ _ _ _ us hl=>by obtain ⟨_,_,rfl⟩:=el2 hl;rfl
 have F12:=yau (st:=yb4) l12 c12 k12
 have b12:=F12.binds (ps:=["self", "text"]) fun _ _ _ _ _ _ us hl=>by obtain ⟨_,_,rfl⟩:=el2 hl;rfl
 have F13:=yau (st:=ydb) l13 c13 k13
 have b13:=F13.binds (ps:=["shelf", "thing"]) fun _ _ _ _ _ _ us hl=>by obtain ⟨_,_,rfl⟩:=el2 hl;rfl
 have F14:=yau (st:=yb5) l14 c14 k14
 have b14:=F14.binds (ps:=["self", "number"]) fun _ _ _ _ _ _ us hl=>by obtain ⟨_,_,rfl⟩:=el2 hl;rfl
 have F15:=yau (st:=yco) l15 c15 k15
 have b15:=F15.binds (ps:=["shelf", "left", "first"]) fun _ _ _ _ _ _ us hl=>by obtain ⟨_,_,_,rfl⟩:=el3 hl;rfl
 have F16:=yau (st:=ycp) l16 c16 k16
 have b16:=F16.binds (ps:=["shelf", "left"]) fun _ _ _ _ _ _ us hl=>by obtain ⟨_,_,rfl⟩:=el2 hl;rfl
 have F17:=yau (st:=ycE) l17 c17 k17
 have b17:=F17.binds (ps:=["left", "signs"]) fun _ _ _ _ _ _ us hl=>by obtain ⟨_,_,rfl⟩:=el2 hl;rfl
 have F18:=yau (st:=ybR) l18 c18 k18
 have b18:=F18.binds (ps:=["shelf", "left", "other_left"]) fun _ _ _ _ _ _ us hl=>by obtain ⟨_,_,_,rfl⟩:=el3 hl;rfl
 have F19:=yau (st:=yb6) l19 c19 k19
 have b19:=F19.binds (ps:=["shelf", "left", "other_left"]) fun _ _ _ _ _ _ us hl=>by obtain ⟨_,_,_,rfl⟩:=el3 hl;rfl
 have F20:=yau (st:=ybS) l20 c20 k20
 have b20:=F20.binds (ps:=["shelf", "left", "other_left"]) fun _ _ _ _ _ _ us hl=>by obtain ⟨_,_,_,rfl⟩:=el3 hl;rfl
 have F21:=yau (st:=ycF) l21 c21 k21
 have b21:=F21.binds (ps:=["shelf", "left"]) fun _ _ _ _ _ _ us hl=>by obtain ⟨_,_,rfl⟩:=el2 hl;rfl
 have F22:=yau (st:=ybG) l22 c22 k22
 have b22:=F22.binds (ps:=["shelf", "one", "other"]) fun _ _ _ _ _ _ us hl=>by obtain ⟨_,_,_,rfl⟩:=el3 hl;rfl
 have F23:=yau (st:=ybH) l23 c23 k23
 have b23:=F23.binds (ps:=["sign"]) fun _ _ _ _ _ _ us hl=>by obtain ⟨_,rfl⟩:=el1 hl;rfl
 have F24:=yau (st:=ycw) l24 c24 k24
 have b24:=F24.binds (ps:=["thing"]) fun _ _ _ _ _ _ us hl=>by obtain ⟨_,rfl⟩:=el1 hl;rfl
 have F25:=yau (st:=yc4) l25 c25 k25
 have b25:=F25.binds (ps:=["thing"]) fun _ _ _ _ _ _ us hl=>by obtain ⟨_,rfl⟩:=el1 hl;rfl
 have F26:=yau (st:=ycG) l26 c26 k26
 have b26:=F26.binds (ps:=["self", "made"]) fun _ _ _ _ _ _ us hl=>by obtain ⟨_,_,rfl⟩:=el2 hl;rfl
 have F27:=yau (st:=ydc) l27 c27 k27
 have b27:=F27.binds (ps:=["plain"]) fun _ _ _ _ _ _ us hl=>by obtain ⟨_,rfl⟩:=el1 hl;rfl
 have F28:=yau (st:=ybA) l28 c28 k28
 have b28:=F28.binds (ps:=["self", "made"]) fun _ _ _ _ _ _ us hl=>by obtain ⟨_,_,rfl⟩:=el2 hl;rfl
 have F29:=yau (st:=ycq) l29 c29 k29
 have b29:=F29.binds (ps:=["self", "plain"]) fun _ _ _ _ _ _ us hl=>by obtain ⟨_,_,rfl⟩:=el2 hl;rfl
 have F30:=yau (st:=ybT) l30 c30 k30
 have b30:=F30.binds (ps:=["signs"]) fun _ _ _ _ _ _ us hl=>by obtain ⟨_,rfl⟩:=el1 hl;rfl
 have F31:=yau (st:=ybu) l31 c31 k31
 have b31:=F31.binds (ps:=["self", "text"]) fun _ _ _ _ _ _ us hl=>by obtain ⟨_,_,rfl⟩:=el2 hl;rfl
 have F32:=yau (st:=ybn) l32 c32 k32
 have b32:=F32.binds (ps:=["self", "text"]) fun _ _ _ _ _ _ us hl=>by obtain ⟨_,_,rfl⟩:=el2 hl;rfl
 have F33:=yau (st:=ycH) l33 c33 k33
 have b33:=F33.binds (ps:=["shelf", "one", "other"]) fun _ _ _ _ _ _ us hl=>by obtain ⟨_,_,_,rfl⟩:=el3 hl;rfl
 have F34:=yau (st:=ybo) l34 c34 k34
 have b34:=F34.binds (ps:=["self", "one", "other"]) fun _ _ _ _ _ _ us hl=>by obtain ⟨_,_,_,rfl⟩:=el3 hl;rfl
 have F35:=yau (st:=ybB) l35 c35 k35
 have b35:=F35.binds (ps:=["self", "made"]) fun _ _ _ _ _ _ us hl=>by obtain ⟨_,_,rfl⟩:=el2 hl;rfl
 have F36:=yau (st:=ycr) l36 c36 k36
 have b36:=F36.binds (ps:=["self", "one", "other"]) fun _ _ _ _ _ _ us hl=>by obtain ⟨_,_,_,rfl⟩:=el3 hl;rfl
 have F37:=yau (st:=ycI) l37 c37 k37
 have b37:=F37.binds (ps:=["shelf", "text", "leaf"]) fun _ _ _ _ _ _ us hl=>by obtain ⟨_,_,_,rfl⟩:=el3 hl;rfl
 have F38:=yau (st:=ybU) l38 c38 k38
 have b38:=F38.binds (ps:=["self", "text"]) fun _ _ _ _ _ _ us hl=>by obtain ⟨_,_,rfl⟩:=el2 hl;rfl
 have F39:=yau (st:=yb7) l39 c39 k39
 have b39:=F39.binds (ps:=["shelf", "one", "other"]) fun _ _ _ _ _ _ us hl=>by obtain ⟨_,_,_,rfl⟩:=el3 hl;rfl
 have F40:=yau (st:=ybI) l40 c40 k40
 have b40:=F40.binds (ps:=["shelf", "text"]) fun _ _ _ _ _ _ us hl=>by obtain ⟨_,_,rfl⟩:=el2 hl;rfl
 have F41:=yau (st:=ybV) l41 c41 k41
 have b41:=F41.binds (ps:=["shelf", "one", "other"]) fun _ _ _ _ _ _ us hl=>by obtain ⟨_,_,_,rfl⟩:=el3 hl;rfl
 have F42:=yau (st:=ydp) l42 c42 k42
 have b42:=F42.binds (ps:=["shelf", "one", "other"]) fun _ _ _ _ _ _ us hl=>by obtain ⟨_,_,_,rfl⟩:=el3 hl;rfl
 have F43:=yau (st:=ydq) l43 c43 k43
 have b43:=F43.binds (ps:=["shelf", "one", "other"]) fun _ _ _ _ _ _ us hl=>by obtain ⟨_,_,_,rfl⟩:=el3 hl;rfl
 have F44:=yau (st:=ydr) l44 c44 k44
 have b44:=F44.binds (ps:=["shelf", "one", "other"]) fun _ _ _ _ _ _ us hl=>by obtain ⟨_,_,_,rfl⟩:=el3 hl;rfl
 have F45:=yau (st:=yds) l45 c45 k45
 have b45:=F45.binds (ps:=["shelf", "leaves"]) fun _ _ _ _ _ _ us hl=>by obtain ⟨_,_,rfl⟩:=el2 hl;rfl
 have F46:=yau (st:=ydt) l46 c46 k46
 have b46:=F46.binds (ps:=["shelf", "plain"]) fun _ _ _ _ _ _ us hl=>by obtain ⟨_,_,rfl⟩:=el2 hl;rfl
 have F47:=yau (st:=ycJ) l47 c47 k47
 have b47:=F47.binds (ps:=["shelf", "plain", "stream"]) fun _ _ _ _ _ _ us hl=>by obtain ⟨_,_,_,rfl⟩:=el3 hl;rfl
 have F48:=yau (st:=ycs) l48 c48 k48
 have b48:=F48.binds (ps:=["one", "other"]) fun _ _ _ _ _ _ us hl=>by obtain ⟨_,_,rfl⟩:=el2 hl;rfl
 have F49:=yau (st:=ycK) l49 c49 k49
 have b49:=F49.binds (ps:=["found"]) fun _ _ _ _ _ _ us hl=>by obtain ⟨_,rfl⟩:=el1 hl;rfl
 have F50:=yau (st:=ycx) l50 c50 k50
 have b50:=F50.binds (ps:=["shelf", "items"]) fun _ _ _ _ _ _ us hl=>by obtain ⟨_,_,rfl⟩:=el2 hl;rfl
 have F51:=yau (st:=ycL) l51 c51 k51
 have b51:=F51.binds (ps:=["shelf", "text", "flat", "at"]) fun _ _ _ _ _ _ us hl=>by obtain ⟨_,_,_,_,rfl⟩:=el4 hl;rfl
 have F52:=yau (st:=ycM) l52 c52 k52
 have b52:=F52.binds (ps:=["shelf", "text", "items"]) fun _ _ _ _ _ _ us hl=>by obtain ⟨_,_,_,rfl⟩:=el3 hl;rfl
 have F53:=yau (st:=ycN) l53 c53 k53
 have b53:=F53.binds (ps:=["shelf", "text"]) fun _ _ _ _ _ _ us hl=>by obtain ⟨_,_,rfl⟩:=el2 hl;rfl
 have F54:=yau (st:=ycc) l54 c54 k54
 have b54:=F54.binds (ps:=["shelf", "items"]) fun _ _ _ _ _ _ us hl=>by obtain ⟨_,_,rfl⟩:=el2 hl;rfl
 have F55:=yau (st:=ycd) l55 c55 k55
 have b55:=F55.binds (ps:=["shelf", "texts", "plains", "told"]) fun _ _ _ _ _ _ us hl=>by obtain ⟨_,_,_,_,rfl⟩:=el4 hl;rfl
 have F56:=yau (st:=ydO) l56 c56 k56
 have b56:=F56.binds (ps:=["script"]) fun _ _ _ _ _ _ us hl=>by obtain ⟨_,rfl⟩:=el1 hl;rfl
 have Z:∀ base:Heap,K.In base->Facts l.prog w K (fun n=>[C0][n]?) (fun n=>[X0,X1,X2,X3,X4,X5][n]?) mg base:=fun base KB=>{
   b_abs:=PySem.W.mg_none_of X G z_abs,
   b_all:=PySem.W.mg_none_of X G z_all,
   b_bool:=PySem.W.mg_none_of X G z_bool,
   b_enumerate:=PySem.W.mg_none_of X G z_enumerate,
   b_int:=PySem.W.mg_none_of X G z_int,
   b_isinstance:=PySem.W.mg_none_of X G z_isinstance,
   b_len:=PySem.W.mg_none_of X G z_len,
   b_list:=PySem.W.mg_none_of X G z_list,
   b_max:=PySem.W.mg_none_of X G z_max,
   b_min:=PySem.W.mg_none_of X G z_min,
   b_range:=PySem.W.mg_none_of X G z_range,
   b_str:=PySem.W.mg_none_of X G z_str,
   b_sum:=PySem.W.mg_none_of X G z_sum,
   b_tuple:=PySem.W.mg_none_of X G z_tuple,
   c_LEAF_SIGNS:=⟨_,PySem.W.mg_of X G m_LEAF_SIGNS⟩,
   c_MOST_PLAIN:=⟨_,PySem.W.mg_of X G m_MOST_PLAIN⟩,
   c_MOST_SIGNS:=⟨_,PySem.W.mg_of X G m_MOST_SIGNS⟩,
   cf_Shelf:=⟨C0,rfl,⟨pg0,hd0,po0,sa0⟩,fun f hf=>by
   have hf2:f∈flds 0:=hf
   simp only [flds,List.mem_cons,List.not_mem_nil,or_false] at hf2
   rcases hf2 with rfl | rfl | rfl | rfl | rfl | rfl | rfl | rfl
   ·exact nf0_0
   ·exact nf0_1
   ·exact nf0_2
   ·exact nf0_3
   ·exact nf0_4
   ·exact nf0_5
   ·exact nf0_6
   ·exact nf0_7⟩,
   x_NoText:=⟨X1,rfl,zbw KB (PySem.W.mg_of X G e_NoText) x_NoText⟩,
   x_NoPiece:=⟨X2,rfl,zbw KB (PySem.W.mg_of X G e_NoPiece) x_NoPiece⟩,
   x_Loose:=⟨X3,rfl,zbw KB (PySem.W.mg_of X G e_Loose) x_Loose⟩,
   x_Unlevel:=⟨X4,rfl,zbw KB (PySem.W.mg_of X G e_Unlevel) x_Unlevel⟩,
   x_TooLong:=⟨X5,rfl,zbw KB (PySem.W.mg_of X G e_TooLong) x_TooLong⟩,
   d_Shelf_init:=⟨C0,f0,_,rfl,PySem.W.mg_of X G aC0,⟨mk0,a0,i0,kc0⟩,b0,F0⟩,
   d_law_mixed:=⟨_,_,PySem.W.mg_of X G a1,k1,b1,F1⟩,
   d_law_stream:=⟨_,_,PySem.W.mg_of X G a2,k2,b2,F2⟩,
   d_law_take:=⟨_,_,PySem.W.mg_of X G a3,k3,b3,F3⟩,
   d_law_plain:=⟨_,_,PySem.W.mg_of X G a4,k4,b4,F4⟩,
   d_law_pair:=⟨_,_,PySem.W.mg_of X G a5,k5,b5,F5⟩,
   d_Shelf_many:=⟨C0,f6,_,rfl,⟨pg0,hd0,po0,sa0⟩,⟨a6,i6,k6⟩,b6,F6⟩,
   d_is_whole:=⟨_,_,PySem.W.mg_of X G a7,k7,b7,F7⟩,
   d_Shelf_has_piece:=⟨C0,f8,_,rfl,⟨pg0,hd0,po0,sa0⟩,⟨a8,i8,k8⟩,b8,F8⟩,
   d_Shelf_check_piece:=⟨C0,f9,_,rfl,⟨pg0,hd0,po0,sa0⟩,⟨a9,i9,k9⟩,b9,F9⟩,
   d_Shelf_check_text:=⟨C0,f10,_,rfl,⟨pg0,hd0,po0,sa0⟩,⟨a10,i10,k10⟩,b10,F10⟩,
   d_whole_left:=⟨_,_,PySem.W.mg_of X G a11,k11,b11,F11⟩,
   d_Shelf_signs:=⟨C0,f12,_,rfl,⟨pg0,hd0,po0,sa0⟩,⟨a12,i12,k12⟩,b12,F12⟩,
   d_size_of:=⟨_,_,PySem.W.mg_of X G a13,k13,b13,F13⟩,
   d_Shelf_piece:=⟨C0,f14,_,rfl,⟨pg0,hd0,po0,sa0⟩,⟨a14,i14,k14⟩,b14,F14⟩,
   d_opens_fork:=⟨_,_,PySem.W.mg_of X G a15,k15,b15,F15⟩,
   d_next_signs:=⟨_,_,PySem.W.mg_of X G a16,k16,b16,F16⟩,
   d_puts_back:=⟨_,_,PySem.W.mg_of X G a17,k17,b17,F17⟩,
   d_common_signs:=⟨_,_,PySem.W.mg_of X G a18,k18,b18,F18⟩,
   d_common_item:=⟨_,_,PySem.W.mg_of X G a19,k19,b19,F19⟩,
   d_common_items:=⟨_,_,PySem.W.mg_of X G a20,k20,b20,F20⟩,
   d_next_sign:=⟨_,_,PySem.W.mg_of X G a21,k21,b21,F21⟩,
   d_held_together:=⟨_,_,PySem.W.mg_of X G a22,k22,b22,F22⟩,
   d_is_plain_sign:=⟨_,_,PySem.W.mg_of X G a23,k23,b23,F23⟩,
   d_is_plain:=⟨_,_,PySem.W.mg_of X G a24,k24,b24,F24⟩,
   d_is_short:=⟨_,_,PySem.W.mg_of X G a25,k25,b25,F25⟩,
   d_Shelf_lay:=⟨C0,f26,_,rfl,⟨pg0,hd0,po0,sa0⟩,⟨a26,i26,k26⟩,b26,F26⟩,
   d_ends_in:=⟨_,_,PySem.W.mg_of X G a27,k27,b27,F27⟩,
   d_Shelf_lay_leaf:=⟨C0,f28,_,rfl,⟨pg0,hd0,po0,sa0⟩,⟨a28,i28,k28⟩,b28,F28⟩,
   d_Shelf_leaf:=⟨C0,f29,_,rfl,⟨pg0,hd0,po0,sa0⟩,⟨a29,i29,k29⟩,b29,F29⟩,
   d_check_length:=⟨_,_,PySem.W.mg_of X G a30,k30,b30,F30⟩,
   d_Shelf_last_leaf:=⟨C0,f31,_,rfl,⟨pg0,hd0,po0,sa0⟩,⟨a31,i31,k31⟩,b31,F31⟩,
   d_Shelf_first_leaf:=⟨C0,f32,_,rfl,⟨pg0,hd0,po0,sa0⟩,⟨a32,i32,k32⟩,b32,F32⟩,
   d_are_close:=⟨_,_,PySem.W.mg_of X G a33,k33,b33,F33⟩,
   d_Shelf_check_fork:=⟨C0,f34,_,rfl,⟨pg0,hd0,po0,sa0⟩,⟨a34,i34,k34⟩,b34,F34⟩,
   d_Shelf_lay_fork:=⟨C0,f35,_,rfl,⟨pg0,hd0,po0,sa0⟩,⟨a35,i35,k35⟩,b35,F35⟩,
   d_Shelf_fork:=⟨C0,f36,_,rfl,⟨pg0,hd0,po0,sa0⟩,⟨a36,i36,k36⟩,b36,F36⟩,
   d_with_last:=⟨_,_,PySem.W.mg_of X G a37,k37,b37,F37⟩,
   d_Shelf_height:=⟨C0,f38,_,rfl,⟨pg0,hd0,po0,sa0⟩,⟨a38,i38,k38⟩,b38,F38⟩,
   d_turned_left:=⟨_,_,PySem.W.mg_of X G a39,k39,b39,F39⟩,
   d_without_first:=⟨_,_,PySem.W.mg_of X G a40,k40,b40,F40⟩,
   d_turned_right:=⟨_,_,PySem.W.mg_of X G a41,k41,b41,F41⟩,
   d_linked:=⟨_,_,PySem.W.mg_of X G a42,k42,b42,F42⟩,
   d_welded:=⟨_,_,PySem.W.mg_of X G a43,k43,b43,F43⟩,
   d_joined:=⟨_,_,PySem.W.mg_of X G a44,k44,b44,F44⟩,
   d_halved:=⟨_,_,PySem.W.mg_of X G a45,k45,b45,F45⟩,
   d_built:=⟨_,_,PySem.W.mg_of X G a46,k46,b46,F46⟩,
   d_law_grown:=⟨_,_,PySem.W.mg_of X G a47,k47,b47,F47⟩,
   d_law_common:=⟨_,_,PySem.W.mg_of X G a48,k48,b48,F48⟩,
   d_law_whole:=⟨_,_,PySem.W.mg_of X G a49,k49,b49,F49⟩,
   d_law_flat:=⟨_,_,PySem.W.mg_of X G a50,k50,b50,F50⟩,
   d_law_match:=⟨_,_,PySem.W.mg_of X G a51,k51,b51,F51⟩,
   d_law_spelt:=⟨_,_,PySem.W.mg_of X G a52,k52,b52,F52⟩,
   d_law_reads:=⟨_,_,PySem.W.mg_of X G a53,k53,b53,F53⟩,
   d_law_signs:=⟨_,_,PySem.W.mg_of X G a54,k54,b54,F54⟩,
   d_law_right:=⟨_,_,PySem.W.mg_of X G a55,k55,b55,F55⟩,
   d_law:=⟨_,_,PySem.W.mg_of X G a56,k56,b56,F56⟩ }
 refine ⟨_,fun s v=>.of_eq rfl,fun base KB _=>FnOk.imp (yi6 (Z base KB) F56) (zjk (T:=mkT K (fun n=>[C0][n]?) (fun n=>[X0,X1,X2,X3,X4,X5][n]?)) law_true)⟩
theorem walk {l:PySem.W.OpenLaw} {q:Program} {loose:List Str} {XP:(Str->Option Value)->Heap->Prop} {YP:World->Heap->Prop} {d:DefRec} {K:Params->PySem.W.Frag} (hn:l.most=some 63) (hdf:d.params.defaults=[])
  (hY:∀ (w:World) (h:Heap),YP w h->(K w.params).In h)
  (F:∀ (w:World) (mg:Str->Option Value) (fa:Addr) (h:Heap),(K w.params).In h->h.Ns mainGlobals mg->mg d.name=some (.ref fa) ->
   ∃ fd:FuncData,(∀ (s:Shared) (u:Value),BindsTo s fd ⟨[u],[]⟩ [("script",u)])/\∀ base:Heap,(K w.params).In base->base.Ns mainGlobals mg->FnOk l.prog w (K w.params) mg base (CXE l.prog w) 101 fa fd ["script"] (spL (K w.params))) :
  PySem.W.WalkO q loose XP YP l.row.toRowW d [] (fun f vs=>PySem.call f vs) :=
 L2.walk_of (n:=63) (k:=101) (x := "script") (CX:=fun w=>CXE l.prog w) (sp:=fun w=>spL (K w.params)) hn (by decide) hdf ⟨rfl,by decide,by decide⟩ hY F (fun _ _ a ns hl _ hS=>⟨a,ns,rfl,hS,hl,fun _=>rfl⟩) fun _ _ _ _ _ z=>zhv z
end Sk
open PySem PySem.W PyProof.Rows
section
namespace PySem.W.Fast
def tw3363444195662156734:=0
def tw12689654682949850163:=0
def tw16080029514365908895:=0
def tw10148179593986934623:=0
def tw9787954428360292127:=0
def tw14480761413405765375:=0
def tw1431510011030178463:=0
def tw10733052402895260255:=0
def tw16558389681385732671:=0
def tw9312112294409025023:=0
def tw11054276046891605471:=0
def tw4630440251455510943:=0
def tw17549774858440272287:=0
def tw10121084057764997503:=0
def tw4413104302779341087:=0
def tw4736914321484611582:=0
def tw4044744645250527230:=0
def tw17390355047437345790:=0
def tw13354566201297309502:=0
def tw17944393954128659038:=0
def tw16233948658809141534:=0
def tw1148051465541805214:=0
def tw6439302799433586782:=0
def tw3275698594005596222:=0
def tw18022421768885771229:=0
def tw6184735829111408509:=0
def tw14366470731691353885:=0
def tw5912008903347908381:=0
def tw12442400725589578429:=0
def tw10576304371114201725:=0
def tw8100354856874767901:=0
def tw10893328431289193629:=0
def tw13742207104985461724:=0
def tw2486299733195781980:=0
def tw12733442606162659100:=0
def tw15820453195031015964:=0
def tw5796240371550264636:=0
def tw2937176785863703836:=0
def tw12216571609598963996:=0
def tw16292291581712031996:=0
def tw15529327060894257244:=0
def tw2289671140594789404:=0
def tw15108943340655397819:=0
def tw1760942050739155643:=0
def tw5878511470933661307:=0
def tw3901608215869488731:=0
def tw13538199775952982587:=0
def tw67250193968708091:=0
def tw3863337838608834011:=0
def tw12284214518492372379:=0
def tw13439010060829306267:=0
def tw6633524387103676795:=0
def tw5682927663381677435:=0
def tw5728828785232994619:=0
def tw3171782337706167611:=0
def tw17293866352599260443:=0
def tw4401044884226178203:=0
def tw9194136428076638299:=0
def tw866798605794442234:=0
def tw5214717311543150554:=0
def tw17176675903516722074:=0
def tw10377328227321251738:=0
def tw6616433952519968570:=0
def tw9077517329764998842:=0
def tw15923761848975481370:=0
def tw8411947642143202778:=0
def tw16457088598042478842:=0
def tw10137353887648924794:=0
def tw16716046676368467034:=0
def tw6431958902219658266:=0
def tw18167822572429244281:=0
def tw1003650534947218297:=0
def tw5886142639300071289:=0
def tw4369784754359029625:=0
def tw12789032609402702681:=0
def tw5477020709890858617:=0
def tw18220336597505566265:=0
def tw3897358442504161753:=0
def tw3560495604932349337:=0
def tw17473167403397201273:=0
def tw13612301939251238233:=0
def tw5093081389696074041:=0
def tw15231196440815810841:=0
def tw486911615838056665:=0
def tw1422564087307512792:=0
def tw14204791800442886008:=0
def tw15668760769120494424:=0
def tw11065165835001732888:=0
def tw17312431069719353848:=0
def tw6342196268361048472:=0
def tw3802708340123114840:=0
def tw13903174010657778904:=0
def tw816021571640794296:=0
def tw7930292464225501304:=0
def tw9742789879370077208:=0
def tw11651701198919964567:=0
def tw17609656318162283415:=0
def tw15793238744820347767:=0
def tw17444623372650377015:=0
def tw15417697557956138711:=0
def tw12478846775677024887:=0
def tw10885600169898564695:=0
def tw55617065623256087:=0
def tw9835216317850224310:=0
def tw5907617945076483510:=0
def tw8330257773335342422:=0
def tw11533764108467454294:=0
def tw11939791571371098454:=0
def tw5150598458140812598:=0
def tw8799911260466878774:=0
def tw4773604236287644758:=0
def tw11997069924041559957:=0
def tw10582846026524848789:=0
def tw15017834258699133301:=0
def tw16503272196513613877:=0
def tw7892745662456182805:=0
def tw15654183269453929428:=0
def tw10221576247328711476:=0
def tw1574753684399769396:=0
def tw13087842875417254676:=0
def tw17475557529974678004:=0
def tw12232008300491298196:=0
def tw3851477002953390452:=0
def tw15624828535488761204:=0
def tw17547586070086199668:=0
def tw11585520684006802804:=0
def tw8408203568365431028:=0
def tw17144409694694418516:=0
def tw16615283060617229332:=0
def tw77885410896444243:=0
def tw16751180811185381107:=0
def tw785184168060541651:=0
def tw11810272342225475123:=0
def tw9590815241094536723:=0
def tw15043965498956067283:=0
def tw17674961395935458675:=0
def tw6199244392303529107:=0
def tw3216398366740580467:=0
def tw17935630862922590227:=0
def tw17712248047160103730:=0
def tw17441320306819835634:=0
def tw7704878725500014002:=0
def tw9666126470244519282:=0
def tw1250530265717490034:=0
def tw6371717006497065234:=0
def tw3133118733535992050:=0
def tw11349597082094822546:=0
def tw17093863419641969553:=0
def tw1706048353119040369:=0
def tw12910068470854269745:=0
def tw14626087704649626417:=0
def tw13469504962311309073:=0
def tw2812208335404143217:=0
def tw6249117336170160721:=0
def tw14690034270333809201:=0
def tw10754209104938749425:=0
def tw9017193959533160913:=0
def tw9893489980434202001:=0
def tw17735182813274681521:=0
def tw8318972683849461841:=0
def tw13524940063366987728:=0
def tw17457879906707659536:=0
def tw4637871481593299664:=0
def tw17991217038563727984:=0
def tw8842938371566077456:=0
def tw2007705195870601584:=0
def tw9135532320462382448:=0
def tw8923808001503553840:=0
def tw10908349262179577872:=0
def tw10530693942254558191:=0
def tw9366133631315034831:=0
def tw3628201435418124943:=0
def tw18080742402781570607:=0
def tw9980118595780339247:=0
def tw15683541657027209743:=0
def tw765620246300535279:=0
def tw9752270043876069743:=0
def tw5420285316041112879:=0
def tw12103607739249318991:=0
def tw5276341147528581998:=0
def tw5523550869382014766:=0
def tw16096265930734761550:=0
def tw1226188323006192206:=0
def tw200105186955630062:=0
def tw1728454533275516302:=0
def tw2607700311471457454:=0
def tw7816857143334033518:=0
def tw7835273913412052046:=0
def tw5021731175874801742:=0
def tw11481839165332258733:=0
def tw12230117970071801709:=0
def tw1268243997761789773:=0
def tw16580861274457554765:=0
def tw12399221273715525421:=0
def tw5489530600588993293:=0
def tw1827881080675728109:=0
def tw2017412264670147117:=0
def tw6054329377036717421:=0
def tw6443231200085270733:=0
def tw13263121479842091149:=0
def tw13280232824433179693:=0
def tw6189106844584856492:=0
def tw17871132945357687500:=0
def tw14416509825312268:=0
def tw16680096200768457164:=0
def tw17524625762981176716:=0
def tw15067804916180866252:=0
def tw11272528176326131916:=0
def tw5534953821031838892:=0
def tw12488665905145165996:=0
def tw606473412972632140:=0
def tw11974628321932573740:=0
def tw8277915206154501099:=0
def tw4468513657960328075:=0
def tw11954098768803096363:=0
def tw15587728081036005099:=0
def tw12184209072823891659:=0
def tw13005655867142941355:=0
def tw16149214827860016587:=0
def tw12396300553310976459:=0
def tw14763253446599288235:=0
def tw9393434795716094379:=0
def tw12994724015407082763:=0
def tw5239595467915556907:=0
def tw3079932123606072074:=0
def tw14472827622818491146:=0
def tw12459990770294429418:=0
def tw9039994427711066538:=0
def tw11367663692404560298:=0
def tw17250128629588587914:=0
def tw15884284928870262090:=0
def tw5192534625800836362:=0
def tw6936087275127163114:=0
def tw710286190473245738:=0
def tw11524484114933900298:=0
def tw90541717914938345:=0
def tw6839961101971767113:=0
def tw15462791538603318761:=0
def tw14277693589734026665:=0
def tw4935397884236249481:=0
def tw2084482531430116681:=0
def tw3728111224944024905:=0
def tw7075033678918760681:=0
def tw1736684313135393736:=0
def tw5485145444192126760:=0
def tw14491135251226843848:=0
def tw977577355353045544:=0
def tw7227820692865791528:=0
def tw15193922656906215848:=0
def tw3614206135498555656:=0
def tw13543291634970904744:=0
def tw4694671802181151848:=0
def tw2745009206504217672:=0
def tw10377559728223640616:=0
def tw13041750725540969415:=0
def tw16431425884923902855:=0
def tw13403302584682008295:=0
def tw10471895496708444583:=0
def tw15326644119727644039:=0
def tw9808670612412385543:=0
def tw13313335266089589991:=0
def tw14228297577032260679:=0
def tw17953070004037734471:=0
def tw12780710633497543494:=0
def tw15910150156288036646:=0
def tw11166086616012074726:=0
def tw17066048444336483046:=0
def tw9547097755270813222:=0
def tw12485826745617563014:=0
def tw16540592604714177574:=0
def tw1846161043076960262:=0
def tw13552734743874511878:=0
def tw6794578381460132805:=0
def tw10295989259738151813:=0
def tw2911117786407613317:=0
def tw2811918165339001637:=0
def tw17960534827276618501:=0
def tw14926273599114886917:=0
def tw15220802709762336485:=0
def tw17321701599983000293:=0
def tw16362277052926335685:=0
def tw4654132873764224645:=0
def tw13980218578366591205:=0
def tw10551579425718918341:=0
def tw17133792664478497989:=0
def tw5351067202423000229:=0
def tw2077490487242338276:=0
def tw14151535153885542340:=0
def tw8687293494305065924:=0
def tw5764999576580816804:=0
def tw10400487989128498020:=0
def tw15683003070519945028:=0
def tw3704255389915822916:=0
def tw2000039217281026724:=0
def tw13587275143080723940:=0
def tw6119896088791807460:=0
def tw9099062993880567140:=0
def tw5533867854774573380:=0
def tw162110244633532708:=0
def tw16239075293629917476:=0
def tw4282687380773352612:=0
def tw9956290712881170596:=0
def tw16422595370311591044:=0
def tw526749044004100100:=0
def tw14559130482481542115:=0
def tw10186163910600811459:=0
def tw15432347537062269859:=0
def tw638176933085128515:=0
def tw8889834791560350499:=0
def tw15503854459173403363:=0
def tw15533953414855794179:=0
def tw13677213872414737859:=0
def tw13928492551582561635:=0
def tw529802585297305699:=0
def tw17326439300067849283:=0
def tw11447770286459457474:=0
def tw13884026869804464002:=0
def tw18317408218093894402:=0
def tw18422701962408399586:=0
def tw10682612250594942658:=0
def tw17468745054658148002:=0
def tw12855658011189279330:=0
def tw14094810268968094146:=0
def tw14455255667644980514:=0
def tw16369465140698184802:=0
def tw11391019464218798114:=0
def tw7817625177695440801:=0
def tw14468647989103843105:=0
def tw7185349644403602049:=0
def tw15540956168985341537:=0
def tw14793807109590222401:=0
def tw310217680044129729:=0
def tw1332803404186422689:=0
def tw13809211830458167553:=0
def tw16381662293693637857:=0
def tw3667756026478526625:=0
def tw10784649861124480097:=0
def tw14720890774215167041:=0
def tw15740090199518118880:=0
def tw7700543390824695712:=0
def tw4395564095912847232:=0
def tw71899962478261024:=0
def tw324063650142538464:=0
def tw17102826136060436160:=0
def tw8004094968590368416:=0
def tw4863957838150778400:=0
def tw4954979337197349216:=0
def tw4658332156262601056:=0
def tw3618405724082265376:=0
def tw5765543146571348224:=0
def tw16457725170635703488:=0
def tw2958872313564222528:=0
end PySem.W.Fast
end
set_option maxRecDepth 100000 in
set_option maxHeartbeats 0 in
theorem PySem.Challenge.cw_skeinwood_k62_held_together_holds : PySem.Challenge.rw_skeinwood_k62_held_together.Holds := by
 w_on; o_law; k_head; (case hw => w_witness2)
 k_fill
 refine Sk.walk (l := PySem.Challenge.rw_skeinwood_k62_held_together) rfl rfl (fun w h Y => PySem.W.kIn_of Y) ?F
 case F =>
  intro w mg fa h KX G hmg
  refine' Sk.all_mk KX G hmg ?aC0 ?a0 ?i0 ?l0 ?c0 ?k0 ?a6 ?i6 ?l6 ?c6 ?k6 ?a8 ?i8 ?l8 ?c8 ?k8 ?a9 ?i9 ?l9 ?c9 ?k9 ?a10 ?i10 ?l10 ?c10 ?k10 ?a12 ?i12 ?l12 ?c12 ?k12 ?a14 ?i14 ?l14 ?c14 ?k14 ?a26 ?i26 ?l26 ?c26 ?k26 ?a28 ?i28 ?l28 ?c28 ?k28 ?a29 ?i29 ?l29 ?c29 ?k29 ?a31 ?i31 ?l31 ?c31 ?k31 ?a32 ?i32 ?l32 ?c32 ?k32 ?a34 ?i34 ?l34 ?c34 ?k34 ?a35 ?i35 ?l35 ?c35 ?k35 ?a36 ?i36 ?l36 ?c36 ?k36 ?a38 ?i38 ?l38 ?c38 ?k38 ?a1 ?l1 ?c1 ?k1 ?a2 ?l2 ?c2 ?k2 ?a3 ?l3 ?c3 ?k3 ?a4 ?l4 ?c4 ?k4 ?a5 ?l5 ?c5 ?k5 ?a7 ?l7 ?c7 ?k7 ?a11 ?l11 ?c11 ?k11 ?a13 ?l13 ?c13 ?k13 ?a15 ?l15 ?c15 ?k15 ?a16 ?l16 ?c16 ?k16 ?a17 ?l17 ?c17 ?k17 ?a18 ?l18 ?c18 ?k18 ?a19 ?l19 ?c19 ?k19 ?a20 ?l20 ?c20 ?k20 ?a21 ?l21 ?c21 ?k21 ?a22 ?l22 ?c22 ?k22 ?a23 ?l23 ?c23 ?k23 ?a24 ?l24 ?c24 ?k24 ?a25 ?l25 ?c25 ?k25 ?a27 ?l27 ?c27 ?k27 ?a30 ?l30 ?c30 ?k30 ?a33 ?l33 ?c33 ?k33 ?a37 ?l37 ?c37 ?k37 ?a39 ?l39 ?c39 ?k39 ?a40 ?l40 ?c40 ?k40 ?a41 ?l41 ?c41 ?k41 ?a42 ?l42 ?c42 ?k42 ?a43 ?l43 ?c43 ?k43 ?a44 ?l44 ?c44 ?k44 ?a45 ?l45 ?c45 ?k45 ?a46 ?l46 ?c46 ?k46 ?a47 ?l47 ?c47 ?k47 ?a48 ?l48 ?c48 ?k48 ?a49 ?l49 ?c49 ?k49 ?a50 ?l50 ?c50 ?k50 ?a51 ?l51 ?c51 ?k51 ?a52 ?l52 ?c52 ?k52 ?a53 ?l53 ?c53 ?k53 ?a54 ?l54 ?c54 ?k54 ?a55 ?l55 ?c55 ?k55 ?a56 ?l56 ?c56 ?k56 ?pg0 ?hd0 ?po0 ?sa0 ?mk0 ?kc0 ?nf0_0 ?nf0_1 ?nf0_2 ?nf0_3 ?nf0_4 ?nf0_5 ?nf0_6 ?nf0_7 ?z_abs ?z_all ?z_bool ?z_enumerate ?z_int ?z_isinstance ?z_len ?z_list ?z_max ?z_min ?z_range ?z_str ?z_sum ?z_tuple ?e_SkeinError ?e_NoText ?x_NoText ?e_NoPiece ?x_NoPiece ?e_Loose ?x_Loose ?e_Unlevel ?x_Unlevel ?e_TooLong ?x_TooLong ?m_LEAF_SIGNS ?m_MOST_PLAIN ?m_MOST_SIGNS
  (case aC0 => k_is)
  (case a0 => k_is)
  (case i0 => k_is)
  (case l0 => k_is)
  (case c0 => k_is)
  (case k0 => k_is)
  (case a6 => k_is)
  (case i6 => k_is)
  (case l6 => k_is)
  (case c6 => k_is)
  (case k6 => k_is)
  (case a8 => k_is)
  (case i8 => k_is)
  (case l8 => k_is)
  (case c8 => k_is)
  (case k8 => k_is)
  (case a9 => k_is)
  (case i9 => k_is)
  (case l9 => k_is)
  (case c9 => k_is)
  (case k9 => k_is)
  (case a10 => k_is)
  (case i10 => k_is)
  (case l10 => k_is)
  (case c10 => k_is)
  (case k10 => k_is)
  (case a12 => k_is)
  (case i12 => k_is)
  (case l12 => k_is)
  (case c12 => k_is)
  (case k12 => k_is)
  (case a14 => k_is)
  (case i14 => k_is)
  (case l14 => k_is)
  (case c14 => k_is)
  (case k14 => k_is)
  (case a26 => k_is)
  (case i26 => k_is)
  (case l26 => k_is)
  (case c26 => k_is)
  (case k26 => k_is)
  (case a28 => k_is)
  (case i28 => k_is)
  (case l28 => k_is)
  (case c28 => k_is)
  (case k28 => k_is)
  (case a29 => k_is)
  (case i29 => k_is)
  (case l29 => k_is)
  (case c29 => k_is)
  (case k29 => k_is)
  (case a31 => k_is)
  (case i31 => k_is)
  (case l31 => k_is)
  (case c31 => k_is)
  (case k31 => k_is)
  (case a32 => k_is)
  (case i32 => k_is)
  (case l32 => k_is)
  (case c32 => k_is)
  (case k32 => k_is)
  (case a34 => k_is)
  (case i34 => k_is)
  (case l34 => k_is)
  (case c34 => k_is)
  (case k34 => k_is)
  (case a35 => k_is)
  (case i35 => k_is)
  (case l35 => k_is)
  (case c35 => k_is)
  (case k35 => k_is)
  (case a36 => k_is)
  (case i36 => k_is)
  (case l36 => k_is)
  (case c36 => k_is)
  (case k36 => k_is)
  (case a38 => k_is)
  (case i38 => k_is)
  (case l38 => k_is)
  (case c38 => k_is)
  (case k38 => k_is)
  (case a1 => k_is)
  (case l1 => k_is)
  (case c1 => k_is)
  (case k1 => k_is)
  (case a2 => k_is)
  (case l2 => k_is)
  (case c2 => k_is)
  (case k2 => k_is)
  (case a3 => k_is)
  (case l3 => k_is)
  (case c3 => k_is)
  (case k3 => k_is)
  (case a4 => k_is)
  (case l4 => k_is)
  (case c4 => k_is)
  (case k4 => k_is)
  (case a5 => k_is)
  (case l5 => k_is)
  (case c5 => k_is)
  (case k5 => k_is)
  (case a7 => k_is)
  (case l7 => k_is)
  (case c7 => k_is)
  (case k7 => k_is)
  (case a11 => k_is)
  (case l11 => k_is)
  (case c11 => k_is)
  (case k11 => k_is)
  (case a13 => k_is)
  (case l13 => k_is)
  (case c13 => k_is)
  (case k13 => k_is)
  (case a15 => k_is)
  (case l15 => k_is)
  (case c15 => k_is)
  (case k15 => k_is)
  (case a16 => k_is)
  (case l16 => k_is)
  (case c16 => k_is)
  (case k16 => k_is)
  (case a17 => k_is)
  (case l17 => k_is)
  (case c17 => k_is)
  (case k17 => k_is)
  (case a18 => k_is)
  (case l18 => k_is)
  (case c18 => k_is)
  (case k18 => k_is)
  (case a19 => k_is)
  (case l19 => k_is)
  (case c19 => k_is)
  (case k19 => k_is)
  (case a20 => k_is)
  (case l20 => k_is)
  (case c20 => k_is)
  (case k20 => k_is)
  (case a21 => k_is)
  (case l21 => k_is)
  (case c21 => k_is)
  (case k21 => k_is)
  (case a22 => k_is)
  (case l22 => k_is)
  (case c22 => k_is)
  (case k22 => k_is)
  (case a23 => k_is)
  (case l23 => k_is)
  (case c23 => k_is)
  (case k23 => k_is)
  (case a24 => k_is)
  (case l24 => k_is)
  (case c24 => k_is)
  (case k24 => k_is)
  (case a25 => k_is)
  (case l25 => k_is)
  (case c25 => k_is)
  (case k25 => k_is)
  (case a27 => k_is)
  (case l27 => k_is)
  (case c27 => k_is)
  (case k27 => k_is)
  (case a30 => k_is)
  (case l30 => k_is)
  (case c30 => k_is)
  (case k30 => k_is)
  (case a33 => k_is)
  (case l33 => k_is)
  (case c33 => k_is)
  (case k33 => k_is)
  (case a37 => k_is)
  (case l37 => k_is)
  (case c37 => k_is)
  (case k37 => k_is)
  (case a39 => k_is)
  (case l39 => k_is)
  (case c39 => k_is)
  (case k39 => k_is)
  (case a40 => k_is)
  (case l40 => k_is)
  (case c40 => k_is)
  (case k40 => k_is)
  (case a41 => k_is)
  (case l41 => k_is)
  (case c41 => k_is)
  (case k41 => k_is)
  (case a42 => k_is)
  (case l42 => k_is)
  (case c42 => k_is)
  (case k42 => k_is)
  (case a43 => k_is)
  (case l43 => k_is)
  (case c43 => k_is)
  (case k43 => k_is)
  (case a44 => k_is)
  (case l44 => k_is)
  (case c44 => k_is)
  (case k44 => k_is)
  (case a45 => k_is)
  (case l45 => k_is)
  (case c45 => k_is)
  (case k45 => k_is)
  (case a46 => k_is)
  (case l46 => k_is)
  (case c46 => k_is)
  (case k46 => k_is)
  (case a47 => k_is)
  (case l47 => k_is)
  (case c47 => k_is)
  (case k47 => k_is)
  (case a48 => k_is)
  (case l48 => k_is)
  (case c48 => k_is)
  (case k48 => k_is)
  (case a49 => k_is)
  (case l49 => k_is)
  (case c49 => k_is)
  (case k49 => k_is)
  (case a50 => k_is)
  (case l50 => k_is)
  (case c50 => k_is)
  (case k50 => k_is)
  (case a51 => k_is)
  (case l51 => k_is)
  (case c51 => k_is)
  (case k51 => k_is)
  (case a52 => k_is)
  (case l52 => k_is)
  (case c52 => k_is)
  (case k52 => k_is)
  (case a53 => k_is)
  (case l53 => k_is)
  (case c53 => k_is)
  (case k53 => k_is)
  (case a54 => k_is)
  (case l54 => k_is)
  (case c54 => k_is)
  (case k54 => k_is)
  (case a55 => k_is)
  (case l55 => k_is)
  (case c55 => k_is)
  (case k55 => k_is)
  (case a56 => k_is)
  (case l56 => k_is)
  (case c56 => k_is)
  (case k56 => k_is)
  (case pg0 => k_is)
  (case hd0 => k_is)
  (case po0 => k_is)
  (case sa0 => k_is)
  (case mk0 => k_is)
  (case kc0 => k_is)
  (case nf0_0 => k_is)
  (case nf0_1 => k_is)
  (case nf0_2 => k_is)
  (case nf0_3 => k_is)
  (case nf0_4 => k_is)
  (case nf0_5 => k_is)
  (case nf0_6 => k_is)
  (case nf0_7 => k_is)
  (case z_abs => k_is)
  (case z_all => k_is)
  (case z_bool => k_is)
  (case z_enumerate => k_is)
  (case z_int => k_is)
  (case z_isinstance => k_is)
  (case z_len => k_is)
  (case z_list => k_is)
  (case z_max => k_is)
  (case z_min => k_is)
  (case z_range => k_is)
  (case z_str => k_is)
  (case z_sum => k_is)
  (case z_tuple => k_is)
  (case e_SkeinError => k_is)
  (case e_NoText => k_is)
  (case x_NoText => k_exc)
  (case e_NoPiece => k_is)
  (case x_NoPiece => k_exc)
  (case e_Loose => k_is)
  (case x_Loose => k_exc)
  (case e_Unlevel => k_is)
  (case x_Unlevel => k_exc)
  (case e_TooLong => k_is)
  (case x_TooLong => k_exc)
  (case m_LEAF_SIGNS => k_is)
  (case m_MOST_PLAIN => k_is)
  (case m_MOST_SIGNS => k_is)
