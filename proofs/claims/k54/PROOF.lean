import PyProof.Rows.All
import Wide.All
import OpenK.AllK
import Wide.FinOn
import Lean
import PyProof.EqAt
import PyProof.EqKinds
import PyProof.TupleCall
import PyProof.StrCalls2
import PyProof.SumAny
import PyProof.Rows.Range3
import PyProof.StrBlockI
import PyProof.SliceStr2
import PyProof.IsRules
import PyProof.StrBlock2
import KE.KRevIter
import PyProof.StrBlock
import PyProof.StrLawsIn
import PySem.Challenge.RW_skeinwood_k54_no_items_and_no_pieces
set_option Elab.async false
set_option linter.all false
set_option maxRecDepth 100000
noncomputable section
namespace L2
open PySem PySem.Spec PyProof.Rows
abbrev Key:=Sum Int Str
abbrev b01 (b:Bool):Int:=if b then 1 else 0
def ydO:Key->Value->Bool
 | .inl k,.bool b=>decide (k=b01 b)
 | .inl k,v=>Value.isInt k v
 | .inr x,v=>Value.isStrOf x v
def keyH (w:World):Key->Int
 | .inl k=>hashInt k
 | .inr x=>hashStr w x
theorem zau:∀ {k:Key} {v:Value},ydO k v=true->(∃ i t,k=Sum.inl i/\v=Value.int i t)\/(∃ b,k=Sum.inl (b01 b)/\v=Value.bool b)\/(∃ x t,k=Sum.inr x/\v=Value.str x t)
 | .inl i,v,h=>by
  cases v with
  | bool b=>exact .inr (.inl ⟨b,by rw [of_decide_eq_true (show decide (i=b01 b)=true from h)],rfl⟩)
  | int j t =>
   obtain ⟨t,e⟩:=Value.isInt_shape (k:=i) (v:=.int j t) h
   exact .inl ⟨i,t,rfl,e⟩
  | _=>exact absurd h (by simp [ydO,Value.isInt])
 | .inr x,v,h=>by
  obtain ⟨t,e⟩:=Value.isStrOf_shape (x:=x) (v:=v) h
  exact .inr (.inr ⟨x,t,rfl,e⟩)
theorem zgm (i:Int) (t:Tok):ydO (.inl i) (.int i t)=true:=by simp [ydO,Value.isInt]
theorem zgn (x:Str) (t:Tok):ydO (.inr x) (.str x t)=true:=by simp [ydO,Value.isStrOf]
theorem yeY (a b:Int):decide ((Sum.inl a:Key)=Sum.inl b)=(a == b):=by
 by_cases e:a=b
 ·subst e;simp
 ·have h : ¬ (Sum.inl a:Key)=Sum.inl b:=fun q=>e (Sum.inl.inj q)
  rw [decide_eq_false h]
  exact (beq_eq_false_iff_ne.mpr e).symm
theorem ygn (a b:Str):decide ((Sum.inr a:Key)=Sum.inr b)=decide (a=b):=by
 by_cases e:a=b
 ·subst e;simp
 ·have h : ¬ (Sum.inr a:Key)=Sum.inr b:=fun q=>e (Sum.inr.inj q)
  rw [decide_eq_false h,decide_eq_false e]
theorem yfq (a:Int) (b:Str):decide ((Sum.inl a:Key)=Sum.inr b)=false:=decide_eq_false (fun q=>nomatch q)
theorem yfr (a:Str) (b:Int):decide ((Sum.inr a:Key)=Sum.inl b)=false:=decide_eq_false (fun q=>nomatch q)
theorem zcj {prog:Program} {w:World} {A:Around} {E:Value->Shared->Prop} {s:Shared} {b:Bool} {Q:Int->Shared->Prop} (h:Q (hashInt (b01 b)) { s with toks:=s.toks+1 }) :
  wpAny (model prog w) A (pyHash (.bool b)) Q E s:=by
 unfold pyHash
 unfold pyHashByItsType
 have hv:[Value.bool b].any Value.onHeap=false:=rfl
 refine wpAny_bind ?_
 rw [cRoomFor,if_neg (by rw [hv];exact Bool.false_ne_true)];refine wpAny_pure ?_
 refine wpAny_bind (wpAny_specialOf (PySem.typeIs_bool s b) PySem.F.slot_bool_hash.lookup ?_)
 show wpAny _ _ (if (some (Value.builtin "int.__hash__") == some Value.none)=true then _ else _) Q E s
 rw [if_neg (by rw [beq_builtin_none];exact Bool.false_ne_true)]
 refine wpAny_bind (wpAny_specialOf (PySem.typeIs_bool s b) PySem.F.slot_bool_hash.lookup ?_)
 show wpAny _ _ (callSpecialIfBoundUnlessNone? (.bool b) "__hash__" _ >>= _) Q E s
 cases b with
 | false =>
  refine wpAny_bind (wpAny_callSpecialIfBoundUnlessNone?_slot (PySem.typeIs_bool s false) PySem.F.slot_bool_hash
   (wpAny_call_entry PySem.F.slot_bool_hash (PySem.typeIs_bool s false) entry_int_hash
    (show wpAny _ _ (do ret (<- mkInt 0)) _ _ s from wpAny_ret_mkInt ?_) (args_int_hash _)))
  exact wpAny_pure h
 | true =>
  refine wpAny_bind (wpAny_callSpecialIfBoundUnlessNone?_slot (PySem.typeIs_bool s true) PySem.F.slot_bool_hash
   (wpAny_call_entry PySem.F.slot_bool_hash (PySem.typeIs_bool s true) entry_int_hash
    (show wpAny _ _ (do ret (<- mkInt 1)) _ _ s from wpAny_ret_mkInt ?_) (args_int_hash _)))
  exact wpAny_pure h
theorem zie (a b:Bool):(a == b)=decide ((Sum.inl (b01 a):Key)=Sum.inl (b01 b)):=by cases a<;>cases b<;>decide
def ybp (prog:Program) (w:World):PySem.KeyKind prog w Key where
 is:=ydO
 hash:=keyH w
 inj:=fun v a b ha hb=>by
  rcases zau ha with ⟨i,t,rfl,rfl⟩ | ⟨c,rfl,rfl⟩ | ⟨x,t,rfl,rfl⟩
  ·rcases zau hb with ⟨j,u,rfl,e⟩ | ⟨d,rfl,e⟩ | ⟨y,u,rfl,e⟩
   ·injection e with e1 _;rw [e1]
   ·exact nomatch e
   ·exact nomatch e
  ·rcases zau hb with ⟨j,u,rfl,e⟩ | ⟨d,rfl,e⟩ | ⟨y,u,rfl,e⟩
   ·exact nomatch e
   ·injection e with e1;rw [e1]
   ·exact nomatch e
  ·rcases zau hb with ⟨j,u,rfl,e⟩ | ⟨d,rfl,e⟩ | ⟨y,u,rfl,e⟩
   ·exact nomatch e
   ·exact nomatch e
   ·injection e with e1 _;rw [e1]
 byValue:=fun k v h=>by
  rcases zau h with ⟨i,t,rfl,rfl⟩ | ⟨c,rfl,rfl⟩ | ⟨x,t,rfl,rfl⟩<;>rfl
 pyHash:=fun hv h=>by
  rcases zau hv with ⟨i,t,rfl,rfl⟩ | ⟨c,rfl,rfl⟩ | ⟨x,t,rfl,rfl⟩
  ·exact wpAny_pyHash_int h
  ·exact zcj h
  ·exact wpAny_pyHash_str h
 eqBool:=fun hu hv h=>by
  rcases zau hu with ⟨i,t,rfl,rfl⟩ | ⟨c,rfl,rfl⟩ | ⟨x,t,rfl,rfl⟩
  ·rcases zau hv with ⟨j,u,rfl,rfl⟩ | ⟨d,rfl,rfl⟩ | ⟨y,u,rfl,rfl⟩
   ·rw [yeY] at h;exact wpAny_eqBool_int h
   ·rw [yeY] at h;exact SeqAt.EqAt.int_bool i t d _ _ _ _ h
   ·rw [yfq] at h;exact SeqAt.EqAt.int_str i t y u _ _ _ _ h
  ·rcases zau hv with ⟨j,u,rfl,rfl⟩ | ⟨d,rfl,rfl⟩ | ⟨y,u,rfl,rfl⟩
   ·rw [yeY] at h;exact SeqAt.EqAt.bool_int c j u _ _ _ _ h
   ·rw [<- zie] at h;exact SeqAt.EqAt.bool_bool c d _ _ _ _ h
   ·rw [yfq] at h;exact SeqAt.EqAt.bool_str c y u _ _ _ _ h
  ·rcases zau hv with ⟨j,u,rfl,rfl⟩ | ⟨d,rfl,rfl⟩ | ⟨y,u,rfl,rfl⟩
   ·rw [yfr] at h;exact SeqAt.EqAt.str_int x t j u _ _ _ _ h
   ·rw [yfr] at h;exact SeqAt.EqAt.str_bool x t d _ _ _ _ h
   ·rw [ygn] at h;exact wpAny_eqBool_str h
 «strs» := fun k x t v h=>by
  rcases zau h with ⟨i,u,rfl,e⟩ | ⟨d,rfl,e⟩ | ⟨y,u,rfl,e⟩
  ·exact nomatch e
  ·exact nomatch e
  ·injection e with e1 _
   subst e1
   cases v<;>rfl
theorem zcm (prog:Program) (w:World) (i:Int) (t:Tok):(ybp prog w).is (.inl i) (.int i t)=true:=zgm i t
theorem zcn (prog:Program) (w:World) (x:Str) (t:Tok):(ybp prog w).is (.inr x) (.str x t)=true:=zgn x t
end L2
namespace L2
open PySem PySem.Spec PyProof.Rows
inductive V where
 | non | bl (b:Bool) | int (i:Int) | str (x:Str) | byt (b:Array UInt8) | flt (b:UInt64) | ref (a:Addr) | ty (n:String)
 deriving DecidableEq
def RelV:V->Value->Prop
 | .non,u=>u=Value.none
 | .bl b,u=>u=Value.bool b
 | .int i,u=>∃ t,u=Value.int i t
 | .str x,u=>∃ t,u=Value.str x t
 | .byt b,u=>∃ t,u=Value.bytes b t
 | .flt b,u=>∃ t,u=Value.float b t
 | .ref a,u=>u=Value.ref a
 | .ty n,u=>u=Value.type n
abbrev Vals:List V->List Value->Prop:=Paired RelV
theorem Vals.length {xs:List V} {us:List Value} (r:Vals xs us):xs.length=us.length:=Paired.length r
theorem Vals.get:∀ {xs:List V} {us:List Value} {i:Nat} {x:V},Vals xs us->xs[i]? = some x->∃ u,us[i]? = some u/\RelV x u
 | _,_,_,_,.nil,e=>by simp at e
 | _,_,0,_,.cons r _,e=>by simp at e;subst e;exact ⟨_,rfl,r⟩
 | _,_,i+1,x,.cons _ t,e=>by
  obtain ⟨u,h1,h2⟩:=Vals.get (i:=i) (x:=x) t (by simpa using e)
  exact ⟨u,by simpa using h1,h2⟩
theorem Vals.set {x:V} {u:Value} (r:RelV x u):∀ {xs:List V} {us:List Value} (i:Nat),Vals xs us->Vals (xs.set i x) (us.set i u)
 | _,_,_,.nil=>.nil
 | _,_,0,.cons _ t=>.cons r t
 | _,_,i+1,.cons q t=>.cons q (Vals.set r i t)
theorem Vals.append:∀ {xs ys:List V} {us ws:List Value},Vals xs us->Vals ys ws->Vals (xs++ys) (us++ws)
 | _,_,_,_,.nil,s=>s
 | _,_,_,_,.cons r t,s=>.cons r (Vals.append t s)
theorem Vals.take:∀ {xs:List V} {us:List Value} (n:Nat),Vals xs us->Vals (xs.take n) (us.take n)
 | _,_,0,_=>.nil
 | _,_,_+1,.nil=>.nil
 | _,_,n+1,.cons r t=>.cons r (Vals.take n t)
theorem Vals.drop:∀ {xs:List V} {us:List Value} (n:Nat),Vals xs us->Vals (xs.drop n) (us.drop n)
 | _,_,0,r=>r
 | _,_,_+1,.nil=>.nil
 | _,_,n+1,.cons _ t=>Vals.drop n t
def RelO:Option V->Option Value->Prop
 | some v,some u=>RelV v u
 | none,none=>True
 | _,_=>False
def KV {κ:Type}:List (κ×V)->List (κ×Value)->Prop:=Paired fun (p:κ×V) (q:κ×Value)=>p.1=q.1/\RelV p.2 q.2
def kV:Key->V
 | .inl i=>.int i
 | .inr x=>.str x
def kOf:V->Option Key
 | .int i=>some (.inl i)
 | .bl b=>some (.inl (b01 b))
 | .str x=>some (.inr x)
 | _=>none
theorem ygo (k:Key):kOf (kV k)=some k:=by cases k<;>rfl
inductive HO where
 | lst (xs:List V)
 | tup (xs:List V)
 | dK (kvs:List (Key×V)) | dT (kvs:List (List Key×V))
 | set (S:Int->Bool) (n:Nat)
 | ins (C dx:Addr) (fs:List (Str×V))
 | own (x:Addr)
 | xd (fs:List (Str×V))
 | met (f x:Addr)
 | rng (lo hi:Int)
 | frz (o:Obj) (u:HO)
 | tbl (ps:Array Value)
 | ext (φ:Heap->Prop)
abbrev Hp:=Addr->Option HO
def upd (H:Hp) (a:Addr) (o:HO):Hp:=fun b=>if b=a then some o else H b
theorem zao {H:Hp} {a:Addr} {o:HO}:upd H a o a=some o:=by unfold upd;rw [if_pos rfl]
theorem yax {H:Hp} {a b:Addr} {o:HO} (h:b≠a):upd H a o b=H b:=by unfold upd;rw [if_neg h]
theorem yhQ {H:Hp} {a b:Addr} {o u:HO} (h:H a=some o) (h':H b=some u) (d:o≠u):a≠b:=by
 intro e;subst e;rw [h] at h';exact d (Option.some.inj h')
theorem zam {H:Hp} {a b:Addr} {o:HO} (h:H a=some o) (h':H b=none):a≠b:=by
 intro e;subst e;rw [h] at h';cases h'
section
variable (P:Program) (w:World)
def ObjOk (H:Hp) (h:Heap) (a:Addr):HO->Prop
 | .lst xs=>xs.length<=sizeLine/\∃ (its:List Value) (n:Nat),Vals xs its/\h.get? a=some { cls:=.type "list",data:=.seq its.toArray n }
 | .tup xs=>xs.length<=sizeLine/\∃ its:List Value,Vals xs its/\IsTup h a its.toArray
 | .dK kvs=>kvs.length<=sizeLine/\(a == sysModules)=false/\∃ vs,KV kvs vs/\h.DictOf (ybp P w) a vs
 | .dT kvs=>kvs.length<=sizeLine/\(a == sysModules)=false/\∃ xs:List (List Key×Addr×Value),
   Paired (fun (p:List Key×V) (q:List Key×Addr×Value)=>p.1=q.1/\(∃ ys,H q.2.1=some (.tup ys)/\ys.map kOf=p.1.map some)/\RelV p.2 q.2.2) kvs xs /\
   ∃ o es ep,h.get? a=some o/\o.ExactDict/\o.data = .dict es ep/\es.toList=xs.map (entryOfKey (tupleKind (ybp P w)))/\(xs.map (·.1)).Nodup
 | .set S n=>h.SetOf (intKind P w) a S n
 | .ins C dx fs=>H dx=some (.own a)/\fs.length<=1000/\dx≠a/\h.get? a=some (PySem.W.instObj C dx) /\
   ∃ mA,h.Ns1 dx mA/\(∀ f,RelO (fs.lookup f) (mA f))/\PySem.Within mA (fs.map (·.1))
 | .own _=>∃ o,h.get? a=some o
 | .xd fs=>∃ mA,h.Ns1 a mA/\∀ f,RelO (fs.lookup f) (mA f)
 | .rng lo hi=>∃ t u v,h.get? a=some { cls:=.type "range",data:=.fields #[.int lo t,.int hi u,.int 1 v] }
 | .frz o u=>h.get? a=some o/\ObjOk H h a u
 | .tbl ps=>h.get? a=some { cls:=.none,data:=.fields ps }
 | .met f x=>h.get? a=some (PySem.W.methodObj (.ref f) (.ref x))
 | .ext φ=>φ h/\(∃ o,h.get? a=some o)/\∀ h1 h2:Heap,φ h1->(∀ o,h1.get? a=some o->h2.get? a=some o)->φ h2
def HOk (H:Hp) (h:Heap):Prop:=∀ a o,H a=some o->ObjOk P w H h a o
end
section
variable {P:Program} {w:World} {H H':Hp} {h h':Heap} {a:Addr} {o:HO}
theorem ObjOk.lt (x:ObjOk P w H h a o):a<h.objs.size:=by
 cases o with
 | lst xs=>obtain ⟨_,_,_,_,e⟩:=x;exact Heap.lt_size e
 | tup xs=>obtain ⟨_,_,_,p⟩:=x;exact p.lt
 | dK kvs=>obtain ⟨_,_,_,_,o,_,_,e,_⟩:=x;exact Heap.lt_size e
 | dT kvs=>obtain ⟨_,_,_,_,o,_,_,e,_⟩:=x;exact Heap.lt_size e
 | set S n=>obtain ⟨o,_,_,_,e,_⟩:=x;exact Heap.lt_size e
 | ins C dx fs=>obtain ⟨_,_,_,e,_⟩:=x;exact Heap.lt_size e
 | own y=>obtain ⟨_,e⟩:=x;exact Heap.lt_size e
 | xd fs=>obtain ⟨_,⟨_,_,_,e,_⟩,_⟩:=x;exact Heap.lt_size e
 | rng lo hi=>obtain ⟨_,_,_,e⟩:=x;exact Heap.lt_size e
 | frz ob u=>obtain ⟨e,_⟩:=x;exact Heap.lt_size e
 | tbl ps=>exact Heap.lt_size (show h.get? a=some _ from x)
 | met f y=>exact Heap.lt_size (show h.get? a=some _ from x)
 | ext φ=>obtain ⟨_,⟨_,e⟩,_⟩:=x;exact Heap.lt_size e
theorem Paired.mapP {α β:Type} {F G:α->β->Prop}:∀ {l₁:List α} {l₂:List β},Paired F l₁ l₂->(∀ a b,F a b->G a b)->Paired G l₁ l₂
 | _,_,.nil,_=>.nil
 | _,_,.cons r t,f=>.cons (f _ _ r) (Paired.mapP t f)
theorem ObjOk.stay (x:ObjOk P w H h a o) (k:∀ b u,(b=a\/H b=some (.own a))->h.get? b=some u->h'.get? b=some u)
  (ho:∀ b,H b=some (.own a)->H' b=some (.own a)) (ht:∀ b xs,H b=some (.tup xs)->H' b=some (.tup xs)):ObjOk P w H' h' a o:=by
 induction o with
 | lst xs=>obtain ⟨z,its,n,r,e⟩:=x;exact ⟨z,its,n,r,k _ _ (.inl rfl) e⟩
 | tup xs=>obtain ⟨z,its,r,ob,e,c⟩:=x;exact ⟨z,its,r,ob,k _ _ (.inl rfl) e,c⟩
 | dK kvs=>obtain ⟨z,y,vs,r,ob,es,ep,e,c⟩:=x;exact ⟨z,y,vs,r,ob,es,ep,k _ _ (.inl rfl) e,c⟩
 | dT kvs =>
  obtain ⟨z,y,xs,r,ob,es,ep,e,c⟩:=x
  exact ⟨z,y,xs,Paired.mapP r fun p q z=>⟨z.1,z.2.1.imp fun _ e=>⟨ht _ _ e.1,e.2⟩,z.2.2⟩,ob,es,ep,k _ _ (.inl rfl) e,c⟩
 | set S n=>obtain ⟨ob,es,ep,t,e,c⟩:=x;exact ⟨ob,es,ep,t,k _ _ (.inl rfl) e,c⟩
 | ins C dx fs =>
  obtain ⟨d,z,ne,e,mA,⟨od,es,ep,e2,c⟩,r⟩:=x
  exact ⟨ho _ d,z,ne,k _ _ (.inl rfl) e,mA,⟨od,es,ep,k _ _ (.inr d) e2,c⟩,r⟩
 | own y=>obtain ⟨ob,e⟩:=x;exact ⟨ob,k _ _ (.inl rfl) e⟩
 | xd fs=>obtain ⟨mA,⟨od,es,ep,e,c⟩,r⟩:=x;exact ⟨mA,⟨od,es,ep,k _ _ (.inl rfl) e,c⟩,r⟩
 | rng lo hi=>obtain ⟨t,u,v,e⟩:=x;exact ⟨t,u,v,k _ _ (.inl rfl) e⟩
 | frz ob u ih=>obtain ⟨e,q⟩:=x;exact ⟨k _ _ (.inl rfl) e,ih q⟩
 | tbl ps =>
  have e:h.get? a=some { cls:=.none,data:=.fields ps }:=x
  show h'.get? a=some { cls:=.none,data:=.fields ps }
  exact k a _ (.inl rfl) e
 | met f y =>
  have e:h.get? a=some (PySem.W.methodObj (.ref f) (.ref y)):=x
  show h'.get? a=some (PySem.W.methodObj (.ref f) (.ref y))
  exact k a _ (.inl rfl) e
 | ext φ=>obtain ⟨p,⟨o,e⟩,st⟩:=x;exact ⟨st _ _ p fun o q=>k _ _ (.inl rfl) q,⟨o,k _ _ (.inl rfl) e⟩,st⟩
theorem HOk.lt (x:HOk P w H h) (e:H a=some o):a<h.objs.size:=(x a o e).lt
theorem HOk.fresh (x:HOk P w H h) (e:h.objs.size<=a):H a=none:=by
 cases q:H a with
 | none=>rfl
 | some u=>exact absurd (Nat.lt_of_lt_of_le (x.lt q) e) (Nat.lt_irrefl _)
theorem HOk.kept (x:HOk P w H h) (k:∀ b u,h.get? b=some u->h'.get? b=some u):HOk P w H h' := fun a o e =>
 (x a o e).stay (fun b u _ q=>k b u q) (fun _ q=>q) fun _ _ q=>q
theorem HOk.laid (x:HOk P w H h) (k:∀ b u,h.get? b=some u->h'.get? b=some u) (hp:h.objs.size<=a) (new:ObjOk P w (upd H a o) h' a o):HOk P w (upd H a o) h' := fun b u e=>by
 have hn:=x.fresh hp
 by_cases hb:b=a
 ·subst hb;rw [zao] at e;cases e;exact new
 ·rw [yax hb] at e
  exact (x b u e).stay (fun c v _ q=>k c v q) (fun c q=>by rw [yax (zam q hn)];exact q) fun c xs q=>by rw [yax (zam q hn)];exact q
end
def Rd (H:Hp) (a:Addr) (u:HO):Prop:=H a=some u\/∃ o,H a=some (.frz o u)
theorem Rd.of {H:Hp} {a:Addr} {u:HO} (h:H a=some u):Rd H a u:=.inl h
theorem Rd.ok {P:Program} {w:World} {H:Hp} {h:Heap} {a:Addr} {u:HO} (r:Rd H a u) (x:HOk P w H h):ObjOk P w H h a u:=by
 rcases r with r | ⟨o,r⟩
 ·exact x a u r
 ·obtain ⟨_,q⟩:=x a _ r
  exact q
def Mut:Option HO->Prop
 | some (.lst _)=>True
 | some (.dK _)=>True
 | some (.dT _)=>True
 | some (.set _ _)=>True
 | some (.ins _ _ _)=>True
 | some (.ext _)=>True
 | _=>False
section
variable {P:Program} {w:World} {H:Hp} {h h':Heap} {x e:Addr} {o':HO}
theorem HOk.write (ok:HOk P w H h) (mu:Mut (H x)) (he:e=x\/H e=some (.own x)) (k:∀ b u,b≠e->h.get? b=some u->h'.get? b=some u) (heo:∃ u,h'.get? e=some u)
  (new:ObjOk P w (upd H x o') h' x o'):HOk P w (upd H x o') h' := fun b u q=>by
 have nown:∀ c y,H c=some (.own y)->c≠x:=fun c y r z=>by subst z;rw [r] at mu;exact mu
 have ntup:∀ c xs,H c=some (.tup xs)->c≠x:=fun c xs r z=>by subst z;rw [r] at mu;exact mu
 by_cases hb:b=x
 ·subst hb;rw [zao] at q;cases q;exact new
 ·rw [yax hb] at q
  by_cases hbe:b=e
  ·have q':H b=some (.own x):=by
    rcases he with z | z
    ·exact absurd (hbe.trans z) hb
    ·rw [hbe];exact z
   rw [q] at q';cases q'
   obtain ⟨v,hv⟩:=heo
   exact ⟨v,by rw [hbe];exact hv⟩
  ·refine (ok b u q).stay (fun c v hc r=>k c v ?_ r) (fun c r=>by rw [yax (nown c b r)];exact r) fun c xs r=>by rw [yax (ntup c xs r)];exact r
   rcases hc with rfl | hc
   ·exact hbe
   ·rintro rfl
    rcases he with z | z
    ·exact nown c b hc z
    ·rw [hc] at z;cases z;exact hb rfl
end
structure Un (fs ex:List Addr) (H H':Hp) (h h':Heap):Prop where
 keep:∀ b o,h.get? b=some o->H b=none->b∉fs->b∉ex->h'.get? b=some o
 slot:∀ b o,h.get? b=some o->H b=none->b∈fs->b∉ex->∃ sl,h'.get? b=some { o with slots:=sl }
 free:∀ b o,h.get? b=some o->H b=none->b∉ex->H' b=none
 there:∀ b o,h.get? b=some o->b∉ex->∃ o',h'.get? b=some o'
 tups:∀ b xs,H b=some (.tup xs)->H' b=some (.tup xs)
 frzs:∀ b o u,H b=some (.frz o u)->H' b=some (.frz o u)
 tbls:∀ b ps,H b=some (.tbl ps)->∃ more,H' b=some (.tbl (ps++more))
section
variable {fs fs' ex ex':List Addr} {H H1 H2:Hp} {h h1 h2 h':Heap} {a x e:Addr} {o:HO}
theorem Un.any (u:Un fs ex H H1 h h1) {b:Addr} {ob:Obj} (q:h.get? b=some ob) (n:H b=none) (hx:b∉ex):∃ sl,h1.get? b=some { ob with slots:=sl }:=by
 by_cases hb:b∈fs
 ·exact u.slot b ob q n hb hx
 ·exact ⟨ob.slots,u.keep b ob q n hb hx⟩
theorem Un.kept (k:∀ b u,h.get? b=some u->h'.get? b=some u):Un fs ex H H h h' :=
 ⟨fun b ob q _ _ _=>k b ob q,fun b ob q _ _ _=>⟨ob.slots,k b ob q⟩,fun _ _ _ n _=>n,fun b ob q _=>⟨ob,k b ob q⟩,fun _ _ q=>q,fun _ _ _ q=>q,fun _ ps q=>⟨#[],by rw [q];simp⟩⟩
theorem Un.refl:Un fs ex H H h h:=Un.kept fun _ _ q=>q
theorem Un.laid (k:∀ b u,h.get? b=some u->h'.get? b=some u) (hp:h.objs.size<=a) (hn:H a=none):Un fs ex H (upd H a o) h h' where
 keep:=fun b u q _ _ _=>k b u q
 slot:=fun b u q _ _ _=>⟨u.slots,k b u q⟩
 free:=fun b u q n _=>by rw [yax (Nat.ne_of_lt (Nat.lt_of_lt_of_le (Heap.lt_size q) hp))];exact n
 there:=fun b u q _=>⟨u,k b u q⟩
 tups:=fun b xs q=>by rw [yax (zam q hn)];exact q
 frzs:=fun b u xs q=>by rw [yax (zam q hn)];exact q
 tbls:=fun b ps q=>⟨#[],by rw [yax (zam q hn),q];simp⟩
theorem Un.write (mu:Mut (H x)) (he:e=x\/H e=some (.own x)) (k:∀ b u,b≠e->h.get? b=some u->h'.get? b=some u) (heo:∃ u,h'.get? e=some u):Un fs ex H (upd H x o) h h' := by
 have hx:∀ b,H b=none->b≠x:=fun b n z=>by subst z;rw [n] at mu;exact mu
 have hb:∀ b,H b=none->b≠e:=fun b n z=>by
  subst z
  rcases he with r | r
  ·exact hx b n r
  ·rw [n] at r;cases r
 have hm:∀ b u,H b=some u -> ¬ Mut (some u)->b≠x:=fun b u q nm z=>by subst z;rw [q] at mu;exact nm mu
 refine ⟨fun b u q n _ _=>k b u (hb b n) q,fun b u q n _ _=>⟨u.slots,k b u (hb b n) q⟩,fun b u q n _=>by rw [yax (hx b n)];exact n,fun b u q _=>?_,
  fun b xs q=>by rw [yax (hm b _ q fun z=>z)];exact q,fun b u xs q=>by rw [yax (hm b _ q fun z=>z)];exact q,fun b ps q=>⟨#[],by rw [yax (hm b _ q fun z=>z),q];simp⟩⟩
 by_cases hbe:b=e
 ·subst hbe;exact heo
 ·exact ⟨u,k b u hbe q⟩
end
def trk (h:Heap) (H:Hp):List Addr:=(List.range h.objs.size).filter fun a=>(H a).isSome
def hidT (h:Heap) (H:Hp):Heap:=PySem.W.hideAll h (trk h H)
theorem zgo (h:Heap) (H:Hp):(hidT h H).objs.size=h.objs.size:=PySem.W.hideAll_size _ _
theorem zg8 {h:Heap} {H:Hp} {b:Addr} {o:Obj} (e:h.get? b=some o) (n:H b=none):(hidT h H).get? b=some o :=
 PySem.W.hideAll_get _ e fun hm=>by
  have q:(H b).isSome=true:=(List.mem_filter.mp hm).2
  rw [n] at q;simp at q
theorem zif {h:Heap} {H:Hp} {b:Addr} {o:Obj} (e:(hidT h H).get? b=some o):h.get? b=some o/\H b=none:=by
 have e':h.get? b=some o:=PySem.W.of_hideAll (trk h H) e
 refine ⟨e',?_⟩
 cases q:H b with
 | none=>rfl
 | some x =>
  have hm:b∈trk h H:=List.mem_filter.mpr ⟨List.mem_range.mpr (Heap.lt_size e'),by simp [q]⟩
  have z:(hidT h H).get? b=none:=PySem.W.hideAll_none (trk h H) hm
  rw [z] at e;cases e
end L2
namespace L2
open PySem PySem.Spec PyProof.Rows
structure Mod (K:PySem.W.Frag) (mg:Str->Option Value) (base:Heap):Prop where
 kin:K.In base
 glob:base.Ns mainGlobals mg
 blt:∃ mb,base.Ns builtinsNs mb/\∀ x:Str,x ≠ "__name__" -> mb x=bootBuiltins x
 nolimit:base.NoLimit
structure Cx where
 prog:Program
 w:World
 K:PySem.W.Frag
 mg:Str->Option Value
 base:Heap
 A:Around
 N:List Str
 s₀:Shared
 H₀:Hp
 env:Env
 outer:List Env
 stack:List Env
 ex:List Addr
 fn:Str->Bool
 calm:Bool
 pn:List (Addr×Obj)
 xe:Value->Shared->Prop
def frs (l:List Env):List Addr:=l.filterMap (·.frame)
abbrev Cx.fs (X:Cx):List Addr:=frs X.outer
def Vis (sc:Scope) (x:Str):Prop:=sc.names.lookup x=some .local\/sc.names.lookup x=some .cell\/sc.names.lookup x=some .free
def Loc (sc:Scope) (x:Str):Prop:=sc.names.lookup x=some .local\/sc.names.lookup x=some .cell
def Look (env:Env) (h:Heap) (m:Str->Option Value) (x:Str) (u:Value):Prop :=
 (env.kindOf x=some .local/\m x=some u)\/((env.kindOf x=some .cell\/env.kindOf x=some .free)/\∃ c,env.cells.lookup x=some c/\h.IsCell c (some u))
structure Cx.Ok (X:Cx):Prop where
 mod:Mod X.K X.mg X.base
 kind:X.env.scope.kind = .function
 glob:X.env.globals=mainGlobals
 blt:X.env.builtins=builtinsNs
 above:X.s₀.heap.objs.size<=X.env.locals
 inj:∀ x y c,X.env.cells.lookup x=some c->X.env.cells.lookup y=some c->x=y
 has:∀ x,(X.env.kindOf x=some .cell\/X.env.kindOf x=some .free)->∃ c,X.env.cells.lookup x=some c
 cab:∀ x c,X.fn x=true->X.env.cells.lookup x=some c->X.s₀.heap.objs.size<=c
 hd:X.calm=true->X.A.handled=none
 frames:X.A.frames=some X.stack
 stk:X.stack=X.outer\/(X.stack=X.env::X.outer/\X.env.frame=some X.env.locals)
 exf:∀ b∈X.ex,b≠X.env.locals/\∀ x c,X.env.cells.lookup x=some c->c≠b
 bs:∀ b o,X.base.get? b=some o->X.s₀.heap.get? b=some o/\X.H₀ b=none
 bsz:X.base.objs.size<=X.s₀.heap.objs.size
 noex:∀ b o,X.base.get? b=some o->b∉X.ex
 exfs:∀ b∈X.ex,b∉X.fs
 funs:X.s₀.heap.FunFrames X.base X.outer
 frf:∀ b∈X.fs,X.H₀ b=none
structure Inv (X:Cx) (pins:List (Addr×Obj)) (σ:List (Option V)) (H:Hp) (s:Shared):Prop where
 ok:X.Ok
 os:s.os=X.s₀.os
 bare:AllBare s.gens
 base:Un X.fs X.ex X.H₀ H X.s₀.heap s.heap
 loc:∃ m,s.heap.Ns X.env.locals m/\∀ (i:Nat) (x:Str) (v:V),X.N[i]? = some x->σ[i]? = some (some v)->Vis X.env.scope x->∃ u,RelV v u/\Look X.env s.heap m x u
 cell:∀ x c,X.env.cells.lookup x=some c->∃ v,s.heap.IsCell c v
 free:H X.env.locals=none
 freeC:∀ x c,X.env.cells.lookup x=some c->H c=none
 pin:∀ p∈X.pn++pins,s.heap.get? p.1=some p.2/\H p.1=none/\p.1≠X.env.locals/\p.1∉X.fs/\∀ v,p.2.data ≠ .cell v
 hok:HOk X.prog X.w H s.heap
 len:σ.length=X.N.length
section
variable {X:Cx} {pins:List (Addr×Obj)} {σ:List (Option V)} {H H':Hp} {s:Shared} {h':Heap}
theorem Cx.Ok.nofr (ok:X.Ok) {b:Addr} {o:Obj} (e:X.base.get? b=some o):b∉X.fs:=fun hb=>by
 have:=(ok.funs.mem hb).1
 rw [e] at this;cases this
theorem Inv.bs (I:Inv X pins σ H s):∀ b o,X.base.get? b=some o->s.heap.get? b=some o/\H b=none:=fun b o e =>
 ⟨I.base.keep b o (I.ok.bs b o e).1 (I.ok.bs b o e).2 (I.ok.nofr e) (I.ok.noex b o e),I.base.free b o (I.ok.bs b o e).1 (I.ok.bs b o e).2 (I.ok.noex b o e)⟩
theorem Inv.bk (I:Inv X pins σ H s):∀ b o,X.base.get? b=some o->s.heap.get? b=some o:=fun b o e=>(I.bs b o e).1
theorem Inv.mod (I:Inv X pins σ H s):Mod X.K X.mg X.base:=I.ok.mod
theorem Inv.kIn (I:Inv X pins σ H s):X.K.In s.heap:=I.ok.mod.kin.keeps I.bk
theorem Inv.fr (I:Inv X pins σ H s):∃ m,Fr X.base X.env.locals s.heap m :=
 let ⟨m,hn,_⟩:=I.loc
 ⟨m,hn,I.bk,Nat.le_trans I.ok.bsz I.ok.above⟩
theorem Inv.lt (I:Inv X pins σ H s):X.env.locals<s.heap.objs.size:=let ⟨_,hn,_⟩:=I.loc;hn.lt
theorem Inv.sz (I:Inv X pins σ H s):X.s₀.heap.objs.size<=s.heap.objs.size:=Nat.le_trans I.ok.above (Nat.le_of_lt I.lt)
theorem Inv.nofs (I:Inv X pins σ H s) {a:Addr} (h:s.heap.objs.size<=a):a∉X.fs:=fun hb=>by
 obtain ⟨_,o,ho,_⟩:=I.ok.funs.mem hb
 exact absurd (Nat.lt_of_lt_of_le (Heap.lt_size ho) (Nat.le_trans I.sz h)) (Nat.lt_irrefl _)
theorem Inv.cne (I:Inv X pins σ H s):∀ x c,X.env.cells.lookup x=some c->c≠X.env.locals:=fun x c e z=>by
 obtain ⟨v,o,ho,hd⟩:=I.cell x c e
 obtain ⟨m,⟨o',es,ep,ho',hd',_⟩,_⟩:=I.loc
 rw [z,ho'] at ho;cases ho;rw [hd'] at hd;cases hd
theorem Inv.funs (I:Inv X pins σ H s):s.heap.FunFrames X.base X.outer:=by
 have all:∀ (l:List Env),(∀ b∈frs l,b∈X.fs)->X.s₀.heap.FunFrames X.base l->s.heap.FunFrames X.base l:=by
  intro l
  induction l with
  | nil=>intro _ _;trivial
  | cons env r ih =>
   intro hs hl
   obtain ⟨hk,⟨L,o,hf,hn,ho,hd⟩,hr⟩:=hl
   have hL:L∈X.fs:=hs L (by unfold frs;rw [List.filterMap_cons,hf];exact List.mem_cons_self)
   obtain ⟨sl,e⟩:=I.base.slot L o ho (I.ok.frf L hL) hL fun z=>I.ok.exfs L z hL
   exact ⟨hk,⟨L,_,hf,hn,e,hd⟩,ih (fun b hb=>hs b (by unfold frs;rw [List.filterMap_cons,hf];exact List.mem_cons_of_mem _ hb)) hr⟩
 exact all X.outer (fun _ hb=>hb) I.ok.funs
theorem Inv.stack (I:Inv X pins σ H s):s.heap.FunFrames X.base X.stack:=by
 rcases I.ok.stk with e | ⟨e,hf⟩
 ·rw [e];exact I.funs
 ·rw [e]
  obtain ⟨m,hn,_⟩:=I.loc
  refine .cons (by rw [I.ok.kind];decide) hf hn ?_ I.funs
  exact Heap.get?_none_of_le (Nat.le_trans I.ok.bsz I.ok.above)
theorem Inv.stkSub (I:Inv X pins σ H s):∀ b∈frs X.stack,b∈X.env.locals::X.fs:=fun b hb=>by
 rcases I.ok.stk with e | ⟨e,hf⟩
 ·rw [e] at hb;exact List.mem_cons_of_mem _ hb
 ·rw [e] at hb
  unfold frs at hb
  rw [List.filterMap_cons,hf] at hb
  exact hb
theorem Inv.stkFree (I:Inv X pins σ H s):∀ b∈frs X.stack,H b=none:=fun b hb=>by
 rcases List.mem_cons.mp (I.stkSub b hb) with e | hb
 ·rw [e];exact I.free
 ·obtain ⟨_,o,ho,_⟩:=I.ok.funs.mem hb
  exact I.base.free b o ho (I.ok.frf b hb) fun z=>I.ok.exfs b z hb
theorem Inv.step {g':Array GenState} {t':Nat} {d':Drawn} {ch:List Addr} (I:Inv X pins σ H s)
  (hch:∀ b∈ch,(b∈X.ex\/X.s₀.heap.objs.size<=b)/\b≠X.env.locals/\(∀ x c,X.env.cells.lookup x=some c->c≠b)/\∀ p∈X.pn++pins,p.1≠b)
  (keep:∀ b o,b≠X.env.locals->b∉X.fs->b∉ch->s.heap.get? b=some o->H b=none->h'.get? b=some o)
  (slot:∀ b o,b≠X.env.locals->b∈X.fs->b∉ch->s.heap.get? b=some o->H b=none->∃ sl,h'.get? b=some { o with slots:=sl }) (free:∀ b o,b∉ch->s.heap.get? b=some o->H b=none->H' b=none)
  (there:∀ b o,b∉ch->s.heap.get? b=some o->∃ o',h'.get? b=some o')
  (tups:∀ b xs,H b=some (.tup xs)->H' b=some (.tup xs)) (frzs:∀ b o u,H b=some (.frz o u)->H' b=some (.frz o u)) (tbls:∀ b ps,H b=some (.tbl ps)->∃ more,H' b=some (.tbl (ps++more)))
  (ns:∀ m,s.heap.Ns X.env.locals m->h'.Ns X.env.locals m) (hok:HOk X.prog X.w H' h') (hg:AllBare g') :
  Inv X pins σ H' { s with heap:=h',gens:=g',drawn:=d',toks:=t' }:=by
 have neL:∀ b o,X.s₀.heap.get? b=some o->b≠X.env.locals:=fun b o e=>Nat.ne_of_lt (Nat.lt_of_lt_of_le (Heap.lt_size e) I.ok.above)
 have neC:∀ b o,X.s₀.heap.get? b=some o->b∉X.ex->b∉ch:=fun b o e hx hb=>by
  rcases (hch b hb).1 with z | z
  ·exact hx z
  ·exact absurd (Nat.lt_of_lt_of_le (Heap.lt_size e) z) (Nat.lt_irrefl _)
 have cellK:∀ x c,X.env.cells.lookup x=some c->∀ v,s.heap.IsCell c v->h'.IsCell c v:=fun x c e v ⟨o,ho,hd⟩=>by
  have nch:c∉ch:=fun z=>(hch c z).2.2.1 x c e rfl
  by_cases hc:c∈X.fs
  ·obtain ⟨sl,q⟩:=slot c o (I.cne x c e) hc nch ho (I.freeC x c e)
   exact ⟨_,q,hd⟩
  ·exact ⟨o,keep c o (I.cne x c e) hc nch ho (I.freeC x c e),hd⟩
 refine ⟨I.ok,I.os,hg,⟨fun b o e n hb hx=>?_,fun b o e n hb hx=>?_,fun b o e n hx=>?_,fun b o e hx=>?_,fun b xs e=>tups b xs (I.base.tups b xs e),fun b o xs e=>frzs b o xs (I.base.frzs b o xs e),fun b ps e=>?_⟩,?_,fun x c e=>?_,?_,fun x c e=>?_,fun p hp=>?_,hok,I.len⟩
 ·exact keep b o (neL b o e) hb (neC b o e hx) (I.base.keep b o e n hb hx) (I.base.free b o e n hx)
 ·obtain ⟨sl,e1⟩:=I.base.slot b o e n hb hx
  obtain ⟨sl',e2⟩:=slot b _ (neL b o e) hb (neC b o e hx) e1 (I.base.free b o e n hx)
  exact ⟨sl',e2⟩
 ·obtain ⟨o',e1⟩:=I.base.there b o e hx
  exact free b o' (neC b o e hx) e1 (I.base.free b o e n hx)
 ·obtain ⟨o',e1⟩:=I.base.there b o e hx
  exact there b o' (neC b o e hx) e1
 ·obtain ⟨m1,e1⟩:=I.base.tbls b ps e
  obtain ⟨m2,e2⟩:=tbls b _ e1
  exact ⟨m1++m2,by rw [e2,Array.append_assoc]⟩
 ·obtain ⟨m,hn,hl⟩:=I.loc
  refine ⟨m,ns m hn,fun i x v e1 e2 e3=>?_⟩
  obtain ⟨u,r,l⟩:=hl i x v e1 e2 e3
  refine ⟨u,r,?_⟩
  rcases l with l | ⟨k,c,e,z⟩
  ·exact .inl l
  ·exact .inr ⟨k,c,e,cellK x c e _ z⟩
 ·obtain ⟨v,z⟩:=I.cell x c e
  exact ⟨v,cellK x c e v z⟩
 ·obtain ⟨m,⟨o,_,_,ho,_⟩,_⟩:=I.loc
  exact free _ o (fun z=>(hch _ z).2.1 rfl) ho I.free
 ·obtain ⟨v,o,ho,hd⟩:=I.cell x c e
  exact free c o (fun z=>(hch c z).2.2.1 x c e rfl) ho (I.freeC x c e)
 ·obtain ⟨e,n,ne,nf,d⟩:=I.pin p hp
  have nch:p.1∉ch:=fun z=>(hch p.1 z).2.2.2 p hp rfl
  exact ⟨keep p.1 p.2 ne nf nch e n,free p.1 p.2 nch e n,ne,nf,d⟩
theorem Inv.un {t':Nat} (I:Inv X pins σ H s) (u:Un X.fs [] H H' s.heap h') (hok:HOk X.prog X.w H' h'):Inv X pins σ H' { s with heap:=h',toks:=t' }:=by
 obtain ⟨m,⟨o,es,ep,ho,r⟩,_⟩:=id I.loc
 obtain ⟨sl,hL⟩:=u.any ho I.free (by simp)
 exact I.step (g' := s.gens) (d' := s.drawn) (ch:=[]) (fun _ z=>nomatch z) (fun b o _ hb _ e n=>u.keep b o e n hb (by simp)) (fun b o _ hb _ e n=>u.slot b o e n hb (by simp)) (fun b o _ e n=>u.free b o e n (by simp)) (fun b o _ e=>u.there b o e (by simp)) u.tups u.frzs u.tbls (fun m' hm=>by
  obtain ⟨o',es',ep',ho',r'⟩:=hm
  rw [ho] at ho';cases ho'
  exact ⟨_,es',ep',hL,r'⟩) hok I.bare
theorem Inv.call {g':Array GenState} {t':Nat} {d':Drawn} {ch:List Addr} (I:Inv X pins σ H s) (u:Un (frs X.stack) ch H H' s.heap h') (hok:HOk X.prog X.w H' h') (hg:AllBare g')
  (hch:∀ b∈ch,(b∈X.ex\/X.s₀.heap.objs.size<=b)/\b≠X.env.locals/\(∀ x c,X.env.cells.lookup x=some c->c≠b)/\∀ p∈X.pn++pins,p.1≠b) :
  Inv X pins σ H' { s with heap:=h',gens:=g',drawn:=d',toks:=t' }:=by
 obtain ⟨m,⟨o,es,ep,ho,r⟩,_⟩:=id I.loc
 obtain ⟨sl,hL⟩:=u.any ho I.free fun z=>(hch _ z).2.1 rfl
 exact I.step (ch:=ch) hch (fun b o hL hb hc e n=>u.keep b o e n (fun z=>(List.mem_cons.mp (I.stkSub b z)).elim hL hb) hc) (fun b o _ _ hc e n=>u.any e n hc) (fun b o hc e n=>u.free b o e n hc) (fun b o hc e=>u.there b o e hc) u.tups u.frzs u.tbls (fun m' hm=>by
  obtain ⟨o',es',ep',ho',r'⟩:=hm
  rw [ho] at ho';cases ho'
  exact ⟨_,es',ep',hL,r'⟩) hok hg
theorem Inv.turned {t':Nat} {it:Addr} (I:Inv X pins σ H s) (k:∀ b o,b≠it->s.heap.get? b=some o->h'.get? b=some o) (hn:H it=none) (hL:it≠X.env.locals)
  (h1:it∈X.ex\/X.s₀.heap.objs.size<=it) (h2:∀ x c,X.env.cells.lookup x=some c->c≠it) (h3:∀ p∈X.pn++pins,p.1≠it):Inv X pins σ H { s with heap:=h',toks:=t' }:=by
 have nit:∀ b u,H b=some u->b≠it:=fun b u e z=>by rw [z,hn] at e;cases e
 refine I.step (g' := s.gens) (d' := s.drawn) (ch:=[it]) (fun b hb=>?_) (fun b o _ _ hc e _=>k b o (fun z=>hc (by simp [z])) e) (fun b o _ _ hc e _=>⟨o.slots,k b o (fun z=>hc (by simp [z])) e⟩) (fun _ _ _ _ n=>n)
  (fun b o hc e=>⟨o,k b o (fun z=>hc (by simp [z])) e⟩) (fun _ _ e=>e) (fun _ _ _ e=>e) (fun b ps e=>⟨#[],by rw [e];simp⟩) (fun m hm=>?_) (fun b u e=>?_) I.bare
 ·have e:b=it:=by simpa using hb
  subst e
  exact ⟨h1,hL,h2,h3⟩
 ·obtain ⟨o,es,ep,ho,r⟩:=hm
  exact ⟨o,es,ep,k _ o (Ne.symm hL) ho,r⟩
 ·refine (I.hok b u e).stay (fun c v hc q=>k c v ?_ q) (fun _ q=>q) fun _ _ q=>q
  rcases hc with z | z
  ·rw [z];exact nit b u e
  ·exact nit c _ z
theorem Inv.tok (I:Inv X pins σ H s) (t:Nat):Inv X pins σ H { s with toks:=t }:=I.un (h' := s.heap) (t' := t) Un.refl I.hok
theorem Inv.kept {t':Nat} (I:Inv X pins σ H s) (k:∀ b u,s.heap.get? b=some u->h'.get? b=some u):Inv X pins σ H { s with heap:=h',toks:=t' }:=I.un (Un.kept k) (I.hok.kept k)
theorem Inv.laid {a:Addr} {o:HO} {t':Nat} (I:Inv X pins σ H s) (k:∀ b u,s.heap.get? b=some u->h'.get? b=some u) (hp:s.heap.objs.size<=a) (new:ObjOk X.prog X.w (upd H a o) h' a o) :
  Inv X pins σ (upd H a o) { s with heap:=h',toks:=t' }:=I.un (Un.laid k hp (I.hok.fresh hp)) (I.hok.laid k hp new)
theorem Inv.write {x e:Addr} {o:HO} {t':Nat} (I:Inv X pins σ H s) (mu:Mut (H x)) (he:e=x\/H e=some (.own x)) (k:∀ b u,b≠e->s.heap.get? b=some u->h'.get? b=some u) (heo:∃ u,h'.get? e=some u)
  (new:ObjOk X.prog X.w (upd H x o) h' x o):Inv X pins σ (upd H x o) { s with heap:=h',toks:=t' }:=I.un (Un.write mu he k heo) (I.hok.write mu he k heo new)
theorem Inv.weak {σ':List (Option V)} (I:Inv X pins σ H s) (hl:σ'.length=σ.length) (w:∀ (i:Nat) v,σ'[i]? = some (some v)->σ[i]? = some (some v)):Inv X pins σ' H s :=
 ⟨I.ok,I.os,I.bare,I.base,let ⟨m,hn,hl'⟩:=I.loc;⟨m,hn,fun i x v e1 e2 e3=>hl' i x v e1 (w i v e2) e3⟩,I.cell,I.free,I.freeC,I.pin,I.hok,hl.trans I.len⟩
theorem Inv.pins_of {pins':List (Addr×Obj)} (I:Inv X pins σ H s) (h:∀ p∈pins',s.heap.get? p.1=some p.2/\H p.1=none/\p.1≠X.env.locals/\p.1∉X.fs/\∀ v,p.2.data ≠ .cell v):Inv X pins' σ H s :=
 ⟨I.ok,I.os,I.bare,I.base,I.loc,I.cell,I.free,I.freeC,fun p hp=>(List.mem_append.mp hp).elim (fun z=>I.pin p (List.mem_append_left _ z)) (h p),I.hok,I.len⟩
theorem zbz {N:List Str} (hN:N.Nodup) {i j:Nat} {x:Str} (a:N[i]? = some x) (b:N[j]? = some x):i=j:=by
 obtain ⟨h1,e1⟩:=List.getElem?_eq_some_iff.mp a
 obtain ⟨h2,e2⟩:=List.getElem?_eq_some_iff.mp b
 exact (List.getElem_inj hN).mp (e1.trans e2.symm)
theorem zdo {M:Model} {A:Around} {E:Value->Shared->Prop} {i:Nat} {x:Str} {v:V} {u:Value} {Q:Unit->Shared->Prop} (I:Inv X pins σ H s) (hN:X.N.Nodup) (hi:X.N[i]? = some x) (hx:Loc X.env.scope x) (r:RelV v u)
  (h:∀ s',Inv X pins (σ.set i (some v)) H s'->(∃ a,Heap.SameBut a s.heap s'.heap/\(a=X.env.locals\/X.env.cells.lookup x=some a))->Q () s') (hf:X.fn x=true\/X.env.scope.names.lookup x=some .local:=by first | exact .inl rfl | exact .inr rfl | assumption):wpAny M A (storeName X.env x u) Q E s:=by
 obtain ⟨m,hn,hl⟩:=id I.loc
 have hcls:(X.env.scope.kind == .class || (X.env.scope.kind == .module && X.env.locals != X.env.globals))=false:=by rw [I.ok.kind];rfl
 have hiσ:i<σ.length:=by rw [I.len];exact (List.getElem?_eq_some_iff.mp hi).1
 have cne:=I.cne
 have tracked:∀ {a:Addr} {h':Heap},(∃ o,s.heap.get? a=some o/\H a=none)->Heap.SameBut a s.heap h'->HOk X.prog X.w H h' := fun {a h'} ha hs b ob e=>by
  obtain ⟨_,_,hfree⟩:=ha
  refine (I.hok b ob e).stay (fun c w' hc q=>(hs.2 c ?_).trans q) (fun _ q=>q) fun _ _ q=>q
  rintro rfl
  rcases hc with rfl | hc
  ·rw [hfree] at e;cases e
  ·rw [hfree] at hc;cases hc
 rcases hx with hk | hk
 ·refine wpAny_storeName_local hk hn (fun h' hn' hs=>?_) hcls
  obtain ⟨oL,_,_,hoL,_⟩:=id hn
  refine h _ ⟨I.ok,I.os,I.bare,⟨fun b o e n hb hx=>?_,fun b o e n hb hx=>?_,I.base.free,fun b o e hx=>?_,I.base.tups,I.base.frzs,I.base.tbls⟩,⟨_,hn',fun j y v' e1 e2 e3=>?_⟩,fun y c e=>?_,I.free,I.freeC,fun p hp=>?_,tracked ⟨oL,hoL,I.free⟩ hs,by simpa using I.len⟩ ⟨_,hs,.inl rfl⟩
  ·exact (hs.2 b (Nat.ne_of_lt (Nat.lt_of_lt_of_le (Heap.lt_size e) I.ok.above))).trans (I.base.keep b o e n hb hx)
  ·obtain ⟨sl,e1⟩:=I.base.slot b o e n hb hx
   exact ⟨sl,(hs.2 b (Nat.ne_of_lt (Nat.lt_of_lt_of_le (Heap.lt_size e) I.ok.above))).trans e1⟩
  ·obtain ⟨o',e1⟩:=I.base.there b o e hx
   exact ⟨o',(hs.2 b (Nat.ne_of_lt (Nat.lt_of_lt_of_le (Heap.lt_size e) I.ok.above))).trans e1⟩
  ·by_cases hj:j=i
   ·subst hj
    rw [hi] at e1;cases e1
    rw [List.getElem?_set_self hiσ] at e2
    cases e2
    exact ⟨u,r,.inl ⟨hk,by simp⟩⟩
   ·rw [List.getElem?_set_ne (Ne.symm hj)] at e2
    obtain ⟨u',r',q⟩:=hl j y v' e1 e2 e3
    refine ⟨u',r',?_⟩
    rcases q with ⟨k,e⟩ | ⟨k,c,e,z⟩
    ·refine .inl ⟨k,?_⟩
     have:y≠x:=fun e=>hj (zbz hN e1 (e▸hi))
     simp [this,e]
    ·exact .inr ⟨k,c,e,z.sameBut hs (cne y c e)⟩
  ·obtain ⟨w',z⟩:=I.cell y c e
   exact ⟨w',z.sameBut hs (cne y c e)⟩
  ·obtain ⟨e,n,ne,nf,d⟩:=I.pin p hp
   exact ⟨(hs.2 p.1 ne).trans e,n,ne,nf,d⟩
 ·have hfn:X.fn x=true:=by
   rcases hf with z | z
   ·exact z
   ·rw [z] at hk;cases hk
  obtain ⟨c,hc⟩:=I.ok.has x (.inl hk)
  obtain ⟨w',z⟩:=I.cell x c hc
  refine wpAny_storeName_cell I.ok.kind hk hc z (fun h' hc' hs=>?_)
  obtain ⟨oc,hoc,hocd⟩:=id z
  refine h { s with heap:=h' } ⟨I.ok,I.os,I.bare,⟨fun b o e n hb hx=>?_,fun b o e n hb hx=>?_,I.base.free,fun b o e hx=>?_,I.base.tups,I.base.frzs,I.base.tbls⟩,⟨m,hn.sameBut hs (Ne.symm (cne x c hc)),fun j y v' e1 e2 e3=>?_⟩,fun y c' e=>?_,I.free,I.freeC,fun p hp=>?_,tracked ⟨oc,hoc,I.freeC x c hc⟩ hs,by simpa using I.len⟩ ⟨c,hs,.inr hc⟩
  ·exact (hs.2 b (Nat.ne_of_lt (Nat.lt_of_lt_of_le (Heap.lt_size e) (I.ok.cab x c hfn hc)))).trans (I.base.keep b o e n hb hx)
  ·obtain ⟨sl,e1⟩:=I.base.slot b o e n hb hx
   exact ⟨sl,(hs.2 b (Nat.ne_of_lt (Nat.lt_of_lt_of_le (Heap.lt_size e) (I.ok.cab x c hfn hc)))).trans e1⟩
  ·obtain ⟨o',e1⟩:=I.base.there b o e hx
   exact ⟨o',(hs.2 b (Nat.ne_of_lt (Nat.lt_of_lt_of_le (Heap.lt_size e) (I.ok.cab x c hfn hc)))).trans e1⟩
  ·by_cases hj:j=i
   ·subst hj
    rw [hi] at e1;cases e1
    rw [List.getElem?_set_self hiσ] at e2
    cases e2
    exact ⟨u,r,.inr ⟨.inl hk,c,hc,hc'⟩⟩
   ·rw [List.getElem?_set_ne (Ne.symm hj)] at e2
    obtain ⟨u',r',q⟩:=hl j y v' e1 e2 e3
    refine ⟨u',r',?_⟩
    rcases q with q | ⟨k,c',e,z'⟩
    ·exact .inl q
    ·refine .inr ⟨k,c',e,z'.sameBut hs ?_⟩
     rintro rfl
     exact hj (zbz hN e1 (I.ok.inj _ _ _ e hc▸hi))
  ·by_cases hcc:c'=c
   ·subst hcc;exact ⟨_,hc'⟩
   ·obtain ⟨w2,z2⟩:=I.cell y c' e
    exact ⟨w2,z2.sameBut hs hcc⟩
  ·obtain ⟨e,n,ne,nf,d⟩:=I.pin p hp
   refine ⟨(hs.2 p.1 ?_).trans e,n,ne,nf,d⟩
   intro q
   rw [q,hoc] at e
   have q':oc=p.2:=Option.some.inj e
   exact d w' (by rw [<- q'];exact hocd)
theorem za9 {M:Model} {A:Around} {E:Value->Shared->Prop} {i:Nat} {x:Str} {v:V} {u:Value} {Q:Unit->Shared->Prop} (I:Inv X pins σ H s) (hN:X.N.Nodup) (hi:X.N[i]? = some x) (hx:Loc X.env.scope x) (r:RelV v u)
  (h:∀ s',Inv X pins (σ.set i (some v)) H s'->Q () s') (hf:X.fn x=true\/X.env.scope.names.lookup x=some .local:=by first | exact .inl rfl | exact .inr rfl | assumption):wpAny M A (storeName X.env x u) Q E s :=
 zdo I hN hi hx r (fun s' I' _=>h s' I') hf
theorem Inv.call' {s':Shared} {ch:List Addr} (I:Inv X pins σ H s) (ho:s'.os=s.os) (u:Un (frs X.stack) ch H H' s.heap s'.heap) (hok:HOk X.prog X.w H' s'.heap) (hg:AllBare s'.gens)
  (hch:∀ b∈ch,(b∈X.ex\/X.s₀.heap.objs.size<=b)/\b≠X.env.locals/\(∀ x c,X.env.cells.lookup x=some c->c≠b)/\∀ p∈X.pn++pins,p.1≠b):Inv X pins σ H' s' := by
 obtain ⟨h',g',d',t',o'⟩:=s'
 have e:o'=s.os:=ho
 subst e
 exact I.call (g' := g') (t' := t') (d' := d') u hok hg hch
end
abbrev XK:=Value->Option Addr->Hp->Prop
abbrev St:=List (Option V)
abbrev VK:=V->Hp->Prop
abbrev TE:=St->Hp->VK->Prop
abbrev TT:=St->Hp->(Bool->Hp->Prop)->Prop
abbrev TA:=St->Hp->(List V->Hp->Prop)->Prop
structure Ends where
 nx:St->Hp->Prop
 rt:VK
 bk:St->Hp->Prop:=fun _ _=>False
 ct:St->Hp->Prop:=fun _ _=>False
abbrev TS:=Ends->St->Hp->Prop
def EP (X:Cx) (pins:List (Addr×Obj)) (σ:St) (Q:VK) (u:Value) (s':Shared):Prop:=∃ v H',Inv X pins σ H' s'/\RelV v u/\Q v H'
def TP (X:Cx) (pins:List (Addr×Obj)) (σ:St) (Q:Bool->Hp->Prop) (b:Bool) (s':Shared):Prop:=∃ H',Inv X pins σ H' s'/\Q b H'
def AP (X:Cx) (pins:List (Addr×Obj)) (σ:St) (Q:List V->Hp->Prop) (us:List Value) (s':Shared):Prop:=∃ vs H',Inv X pins σ H' s'/\Vals vs us/\Q vs H'
def SP (X:Cx) (pins:List (Addr×Obj)) (D:Ends) (f:Flow) (s':Shared):Prop :=
 match f with
 | .next=>∃ σ' H',Inv X pins σ' H' s'/\D.nx σ' H'
 | .brk=>∃ σ' H',Inv X pins σ' H' s'/\D.bk σ' H'
 | .cont=>∃ σ' H',Inv X pins σ' H' s'/\D.ct σ' H'
 | .ret u=>∃ v σ' H',Inv X pins σ' H' s'/\RelV v u/\D.rt v H'
def PE (X:Cx) (e:Expr) (t:TE):Prop :=
 ∀ (pins:List (Addr×Obj)) (s:Shared) (σ:St) (H:Hp) (Q:VK),Inv X pins σ H s->t σ H Q->wpAny (model X.prog X.w) X.A (eval e X.env) (EP X pins σ Q) X.xe s
def PT (X:Cx) (e:Expr) (t:TT):Prop :=
 ∀ (pins:List (Addr×Obj)) (s:Shared) (σ:St) (H:Hp) (Q:Bool->Hp->Prop),Inv X pins σ H s->t σ H Q->wpAny (model X.prog X.w) X.A (isTrue e X.env (eval e X.env)) (TP X pins σ Q) X.xe s
def PW (X:Cx) (e:Expr) (t:TT):Prop :=
 ∀ (whole:Sem Value) (pins:List (Addr×Obj)) (s:Shared) (σ:St) (H:Hp) (Q:Bool->Hp->Prop),Inv X pins σ H s->t σ H Q->wpAny (model X.prog X.w) X.A (isTrue e X.env whole) (TP X pins σ Q) X.xe s
theorem PW.pt {X:Cx} {e:Expr} {t:TT} (h:PW X e t):PT X e t:=h _
def PA (X:Cx) (es:List Expr) (t:TA):Prop :=
 ∀ (pos:Pos) (pins:List (Addr×Obj)) (s:Shared) (σ:St) (H:Hp) (Q:List V->Hp->Prop),Inv X pins σ H s->t σ H Q->wpAny (model X.prog X.w) X.A (spliced (backTo pos (starEach es X.env))) (AP X pins σ Q) X.xe s
def PS (X:Cx) (st:Stmt) (t:TS):Prop :=
 ∀ (pins:List (Addr×Obj)) (s:Shared) (σ:St) (H:Hp) (D:Ends),Inv X pins σ H s->t D σ H->wpAny (model X.prog X.w) X.A (exec st X.env) (SP X pins D) X.xe s
def PSs (X:Cx) (st:List Stmt) (t:TS):Prop :=
 ∀ (pins:List (Addr×Obj)) (s:Shared) (σ:St) (H:Hp) (D:Ends),Inv X pins σ H s->t D σ H->wpAny (model X.prog X.w) X.A (execs st X.env) (SP X pins D) X.xe s
theorem thn {α:Type} {t:Sem α} {Q Q':α->Shared->Prop} {M:Model} {A:Around} {E:Value->Shared->Prop} {s:Shared} (h:wpAny M A t Q E s) (hQ:∀ a s,Q a s->Q' a s):wpAny M A t Q' E s:=wpAny_mono h hQ fun _ _ x=>x
end L2
namespace L2
open PySem PySem.Spec PyProof.Rows
section
variable {X:Cx}
theorem bin {a b:Expr} {ta tb:TE} (ha:PE X a ta) (hb:PE X b tb) {pins:List (Addr×Obj)} {s:Shared} {σ:St} {H:Hp} {R:V->V->Hp->Prop} (I:Inv X pins σ H s) (h:ta σ H fun x H1=>tb σ H1 fun y H2=>R x y H2)
  {α:Type} {Q:α->Shared->Prop} {f:Value->Value->Sem α}
  (hf:∀ v u s2 x y H2,Inv X pins σ H2 s2->RelV x v->RelV y u->R x y H2->wpAny (model X.prog X.w) X.A (f v u) Q X.xe s2) :
  wpAny (model X.prog X.w) X.A (eval a X.env) (fun v s₁=>wpAny (model X.prog X.w) X.A (eval b X.env) (fun u s₂=>wpAny (model X.prog X.w) X.A (f v u) Q X.xe s₂) X.xe s₁) X.xe s:=by
 refine thn (ha pins s σ H _ I h) fun v s1 ⟨x,H1,I1,r1,q1⟩=>?_
 refine thn (hb pins s1 σ H1 _ I1 q1) fun u s2 ⟨y,H2,I2,r2,q2⟩=>?_
 exact hf v u s2 x y H2 I2 r1 r2 q2
def tVar (i:Nat):TE:=fun σ H Q=>∃ v,σ[i]? = some (some v)/\Q v H
def tC (v:V):TE:=fun _ H Q=>Q v H
theorem ygp {i:Nat} {x:Str} {pos:Pos} (hN:X.N[i]? = some x) (hv:Vis X.env.scope x) (hd:(x == ("__debug__" : Str))=false:=by decide) (hcd:(x == ("__classdict__" : Str))=false:=by decide):PE X (.Name x pos) (tVar i):=by
 intro pins s σ H Q I h
 obtain ⟨v,e,h⟩:=h
 obtain ⟨m,hn,hl⟩:=I.loc
 obtain ⟨u,r,l⟩:=hl i x v hN e hv
 have fin:EP X pins σ Q u s:=⟨v,H,I,r,h⟩
 rcases l with ⟨hk,hm⟩ | ⟨hk,c,hc,hcell⟩
 ·exact wpAny_Name (wpAny_loadName_local I.ok.kind hk hn hm fin) hd
 ·rcases hk with hk | hk
  ·exact wpAny_Name (wpAny_loadName_cell I.ok.kind hk hc hcell fin) hd
  ·exact wpAny_Name (wpAny_loadName_free I.ok.kind hk hc hcell fin hcd) hd
theorem ygq {i j pos}:PE X (.Constant (.int i) j pos) (tC (.int i)):=fun _ _ _ H _ I h=>wpAny_Constant_int ⟨.int i,H,I.tok _,⟨_,rfl⟩,h⟩
theorem yhR {b j pos}:PE X (.Constant (.bool b) j pos) (tC (.bl b)):=fun _ _ _ H _ I h=>Constant_bool ⟨.bl b,H,I,rfl,h⟩
theorem ygr {j pos}:PE X (.Constant .none j pos) (tC .non):=fun _ _ _ H _ I h=>Constant_none ⟨.non,H,I,rfl,h⟩
theorem ygs {x j pos}:PE X (.Constant (.str x) j pos) (tC (.str x)):=fun _ _ _ H _ I h=>Calls.Constant_str ⟨.str x,H,I.tok _,⟨_,rfl⟩,h⟩
def Gl (X:Cx) (x:Str):Prop:=X.env.kindOf x=some .globalImplicit
theorem zbp {E:Value->Shared->Prop} {pins:List (Addr×Obj)} {s:Shared} {σ:St} {H:Hp} {x:Str} {u:Value} {pos:Pos} {Q:Value->Shared->Prop} (I:Inv X pins σ H s) (hg:Gl X x) (hm:X.mg x=some u) (h:Q u s)
  (hd:(x == ("__debug__" : Str))=false:=by decide):wpAny (model X.prog X.w) X.A (eval (.Name x pos) X.env) Q E s :=
 Calls.Name_function_global I.ok.kind hg (Calls.loadGlobal_global (by rw [I.ok.glob];exact I.mod.glob.keeps I.bk) hm h) hd
theorem yd1 {E:Value->Shared->Prop} {pins:List (Addr×Obj)} {s:Shared} {σ:St} {H:Hp} {x:Str} {u:Value} {pos:Pos} {Q:Value->Shared->Prop} (I:Inv X pins σ H s) (hg:Gl X x) (hm:X.mg x=none) (hv:bootBuiltins x=some u) (h:Q u s)
  (hn:x ≠ "__name__" := by decide) (hd:(x == ("__debug__" : Str))=false:=by decide):wpAny (model X.prog X.w) X.A (eval (.Name x pos) X.env) Q E s:=by
 obtain ⟨mb,h1,h2⟩:=I.mod.blt
 exact Calls.Name_function_global I.ok.kind hg (Calls.loadGlobal_builtin (by rw [I.ok.glob];exact I.mod.glob.keeps I.bk) hm (by rw [I.ok.blt];exact h1.keeps I.bk) ((h2 x hn).trans hv) h) hd
theorem zcc {x:Str} {v:V} {u:Value} {pos:Pos} (hg:Gl X x) (hm:X.mg x=some u) (r:RelV v u) (hd:(x == ("__debug__" : Str))=false:=by decide):PE X (.Name x pos) (tC v) :=
 fun _ _ _ H _ I h=>zbp I hg hm ⟨v,H,I,r,h⟩ hd
theorem ze5 {x:Str} {v:V} {u:Value} {pos:Pos} (hg:Gl X x) (hm:X.mg x=none) (hv:bootBuiltins x=some u) (r:RelV v u) (hn:x ≠ "__name__" := by decide) (hd:(x == ("__debug__" : Str))=false:=by decide):PE X (.Name x pos) (tC v) :=
 fun _ _ _ H _ I h=>yd1 I hg hm hv ⟨v,H,I,r,h⟩ hn hd
variable {a b:Expr} {ta tb:TE} {pos:Pos}
variable {tA tB':TT} {rest:List Expr}
def tAnd (t u:TT):TT:=fun σ H Q=>t σ H fun c H1=>if c=true then u σ H1 Q else Q false H1
def tOr (t u:TT):TT:=fun σ H Q=>t σ H fun c H1=>if c=true then Q true H1 else u σ H1 Q
def tNot (t:TT):TT:=fun σ H Q=>t σ H fun c H1=>Q (!c) H1
theorem zig (ha:PT X a tA):PW X (.BoolOp .And [a] pos) tA:=by
 intro wh pins s σ H Q I h
 refine isTrue_and (thn (ha pins s σ H Q I h) fun c s1 e=>?_)
 cases c with
 | true=>exact isTrue_and_nil e
 | false=>exact e
theorem ygt (ha:PT X a tA):PW X (.BoolOp .Or [a] pos) tA:=by
 intro wh pins s σ H Q I h
 refine isTrue_or (thn (ha pins s σ H Q I h) fun c s1 e=>?_)
 cases c with
 | false=>exact isTrue_or_nil e
 | true=>exact e
theorem ygu (ha:PT X a tA) (hb:PW X (.BoolOp .And (b::rest) pos) tB'):PW X (.BoolOp .And (a::b::rest) pos) (tAnd tA tB'):=by
 intro wh pins s σ H Q I h
 refine isTrue_and (thn (ha pins s σ H _ I h) fun c s1 ⟨H1,I1,q1⟩=>?_)
 cases c with
 | true=>exact hb wh pins s1 σ H1 Q I1 q1
 | false=>exact ⟨H1,I1,q1⟩
theorem yhS (ha:PT X a tA) (hb:PW X (.BoolOp .Or (b::rest) pos) tB'):PW X (.BoolOp .Or (a::b::rest) pos) (tOr tA tB'):=by
 intro wh pins s σ H Q I h
 refine isTrue_or (thn (ha pins s σ H _ I h) fun c s1 ⟨H1,I1,q1⟩=>?_)
 cases c with
 | true=>exact ⟨H1,I1,q1⟩
 | false=>exact hb wh pins s1 σ H1 Q I1 q1
theorem ygv (ha:PT X a tA):PT X (.UnaryOp .Not a pos) (tNot tA):=by
 intro pins s σ H Q I h
 exact isTrue_not (ha pins s σ H (fun c H1=>Q (!c) H1) I h)
def yhT (ta tb:TE):TE:=fun σ H Q=>ta σ H fun x H1=>∃ c,x = .bl c/\if c=true then tb σ H1 Q else Q (.bl false) H1
def tOrV (ta tb:TE):TE:=fun σ H Q=>ta σ H fun x H1=>∃ c,x = .bl c/\if c=true then Q (.bl true) H1 else tb σ H1 Q
def yhU (ta:TE):TE:=fun σ H Q=>ta σ H fun x H1=>∃ c,x = .bl c/\Q (.bl (!c)) H1
theorem ygw {op} {t:TE} (h:PE X a t):PE X (.BoolOp op [a] pos) t:=fun pins s σ H Q I hw=>BoolOp_one (h pins s σ H Q I hw)
theorem ygx (ha:PE X a ta) (hb:PE X (.BoolOp .And (b::rest) pos) tb):PE X (.BoolOp .And (a::b::rest) pos) (yhT ta tb):=by
 intro pins s σ H Q I h
 refine BoolOp_and (thn (ha pins s σ H _ I h) fun v s1 ⟨x,H1,I1,r1,q1⟩=>?_)
 obtain ⟨c,rfl,q1⟩:=q1
 cases r1
 refine wpAny_truthy_bool ?_
 cases c with
 | true=>exact hb pins s1 σ H1 Q I1 q1
 | false=>exact ⟨.bl false,H1,I1,rfl,q1⟩
theorem yhV (ha:PE X a ta) (hb:PE X (.BoolOp .Or (b::rest) pos) tb):PE X (.BoolOp .Or (a::b::rest) pos) (tOrV ta tb):=by
 intro pins s σ H Q I h
 refine BoolOp_or (thn (ha pins s σ H _ I h) fun v s1 ⟨x,H1,I1,r1,q1⟩=>?_)
 obtain ⟨c,rfl,q1⟩:=q1
 cases r1
 refine wpAny_truthy_bool ?_
 cases c with
 | false=>exact hb pins s1 σ H1 Q I1 q1
 | true=>exact ⟨.bl true,H1,I1,rfl,q1⟩
theorem ygy (ha:PE X a ta):PE X (.UnaryOp .Not a pos) (yhU ta):=by
 intro pins s σ H Q I h
 refine UnaryOp_ (thn (ha pins s σ H _ I h) fun v s1 ⟨x,H1,I1,r1,q1⟩=>?_)
 obtain ⟨c,rfl,q1⟩:=q1
 cases r1
 exact not_of (wpAny_truthy_bool ⟨.bl (!c),H1,I1,rfl,q1⟩)
def tIf (t:TT) (ta tb:TE):TE:=fun σ H Q=>t σ H fun c H1=>if c=true then ta σ H1 Q else tb σ H1 Q
theorem zg9 {c:Expr} (hc:PT X c tA) (ha:PE X a ta) (hb:PE X b tb):PE X (.IfExp c a b pos) (tIf tA ta tb):=by
 intro pins s σ H Q I h
 refine wpAny_IfExp (thn (hc pins s σ H _ I h) fun d s1 ⟨H1,I1,q1⟩=>?_)
 cases d with
 | true=>exact ha pins s1 σ H1 Q I1 q1
 | false=>exact hb pins s1 σ H1 Q I1 q1
end
end L2
namespace L2
open PySem PySem.Spec PyProof.Rows
def SqL (K:PySem.W.Frag) (H:Hp) (a:Addr) (xs:List V):Prop :=
 Rd H a (.lst xs) \/
  ∃ (o:Obj) (its:Array Value) (n:Nat),K.lookup a=some o/\o.cls = .type "list" /\ o.dict=none/\o.data = .seq its n/\its.size<=sizeLine/\Vals xs its.toList
def SqT (K:PySem.W.Frag) (H:Hp) (a:Addr) (xs:List V):Prop :=
 Rd H a (.tup xs) \/
  ∃ (o:Obj) (its:Array Value) (n:Nat),K.lookup a=some o/\o.cls = .type "tuple" /\ o.data = .seq its n/\its.size<=sizeLine/\Vals xs its.toList
def absV:Value->Option V
 | .none=>some .non
 | .bool b=>some (.bl b)
 | .int i _=>some (.int i)
 | .str x _=>some (.str x)
 | .bytes b _=>some (.byt b)
 | .float b _=>some (.flt b)
 | .ref a=>some (.ref a)
 | .type n=>some (.ty n)
 | _=>none
theorem RelV.abs {x:V} {u:Value} (r:RelV x u):absV u=some x:=by
 cases x with
 | non=>cases r;rfl
 | bl _=>cases r;rfl
 | int _=>obtain ⟨t,rfl⟩:=r;rfl
 | str _=>obtain ⟨t,rfl⟩:=r;rfl
 | byt _=>obtain ⟨t,rfl⟩:=r;rfl
 | flt _=>obtain ⟨t,rfl⟩:=r;rfl
 | ref _=>cases r;rfl
 | ty _=>cases r;rfl
theorem RelV.inj {x y:V} {u:Value} (r:RelV x u) (q:RelV y u):x=y:=Option.some.inj (r.abs.symm.trans q.abs)
theorem Vals.inj:∀ {xs ys:List V} {us:List Value},Vals xs us->Vals ys us->xs=ys
 | _,_,_,.nil,.nil=>rfl
 | _,_,_,.cons r t,.cons r' t' => by rw [r.inj r',Vals.inj t t']
section
variable {X:Cx} {pins:List (Addr×Obj)} {σ:St} {H:Hp} {s:Shared} {a:Addr} {xs ys:List V}
theorem SqL.of {K:PySem.W.Frag} (h:H a=some (.lst xs)):SqL K H a xs:=.inl (.inl h)
theorem SqT.of {K:PySem.W.Frag} (h:H a=some (.tup xs)):SqT K H a xs:=.inl (.inl h)
theorem Inv.list (I:Inv X pins σ H s) (h:SqL X.K H a xs):∃ its:List Value,Vals xs its/\PlainL s.heap a its.toArray/\xs.length<=sizeLine:=by
 rcases h with h | ⟨o,its,n,hk,hc,hd,hs,hz,r⟩
 ·obtain ⟨z,its,n,r,e⟩:=h.ok I.hok
  exact ⟨its,r,⟨_,n,e,rfl,rfl,rfl⟩,z⟩
 ·refine ⟨its.toList,r,⟨o,n,I.kIn a o hk,hc,hd,by simpa using hs⟩,?_⟩
  have e:=r.length
  simp only [Array.length_toList] at e
  omega
theorem Inv.tuple (I:Inv X pins σ H s) (h:SqT X.K H a xs):∃ its:List Value,Vals xs its/\IsTup s.heap a its.toArray/\xs.length<=sizeLine:=by
 rcases h with h | ⟨o,its,n,hk,hc,hs,hz,r⟩
 ·obtain ⟨z,its,r,p⟩:=h.ok I.hok
  exact ⟨its,r,p,z⟩
 ·refine ⟨its.toList,r,⟨o,I.kIn a o hk,hc,n,by simpa using hs⟩,?_⟩
  have e:=r.length
  simp only [Array.length_toList] at e
  omega
theorem Inv.list_inj (I:Inv X pins σ H s) (h:SqL X.K H a xs) (h':SqL X.K H a ys):xs=ys:=by
 obtain ⟨its,r,⟨o,n,e,_,_,d⟩,_⟩:=I.list h
 obtain ⟨its',r',⟨o',n',e',_,_,d'⟩,_⟩:=I.list h'
 rw [e] at e';cases e'
 rw [d] at d'
 injection d' with d1 _
 have:its=its' := by simpa using congrArg Array.toList d1
 subst this
 exact r.inj r'
theorem Inv.tuple_inj (I:Inv X pins σ H s) (h:SqT X.K H a xs) (h':SqT X.K H a ys):xs=ys:=by
 obtain ⟨its,r,⟨o,e,_,n,d⟩,_⟩:=I.tuple h
 obtain ⟨its',r',⟨o',e',_,n',d'⟩,_⟩:=I.tuple h'
 rw [e] at e';cases e'
 rw [d] at d'
 injection d' with d1 _
 have:its=its' := by simpa using congrArg Array.toList d1
 subst this
 exact r.inj r'
end
abbrev Cx.wish (X:Cx) (E:Value->Shared->Prop):Cx:={ X with xe:=E }
abbrev Cx.nox (X:Cx):Cx:=X.wish fun _ _=>False
theorem Cx.Ok.wish {X:Cx} (ok:X.Ok) (E:Value->Shared->Prop):(X.wish E).Ok :=
 ⟨ok.mod,ok.kind,ok.glob,ok.blt,ok.above,ok.inj,ok.has,ok.cab,ok.hd,ok.frames,ok.stk,ok.exf,ok.bs,ok.bsz,ok.noex,ok.exfs,ok.funs,ok.frf⟩
theorem Cx.Ok.unwish {X:Cx} {E:Value->Shared->Prop} (ok:(X.wish E).Ok):X.Ok :=
 ⟨ok.mod,ok.kind,ok.glob,ok.blt,ok.above,ok.inj,ok.has,ok.cab,ok.hd,ok.frames,ok.stk,ok.exf,ok.bs,ok.bsz,ok.noex,ok.exfs,ok.funs,ok.frf⟩
section
variable {X:Cx} {pins:List (Addr×Obj)} {σ:St} {H:Hp} {s:Shared} {E:Value->Shared->Prop}
theorem Inv.wish (I:Inv X pins σ H s) (E:Value->Shared->Prop):Inv (X.wish E) pins σ H s:=⟨I.ok.wish E,I.os,I.bare,I.base,I.loc,I.cell,I.free,I.freeC,I.pin,I.hok,I.len⟩
theorem Inv.unwish (I:Inv (X.wish E) pins σ H s):Inv X pins σ H s:=⟨I.ok.unwish,I.os,I.bare,I.base,I.loc,I.cell,I.free,I.freeC,I.pin,I.hok,I.len⟩
theorem SP.unwish {D:Ends} {f:Flow} {s':Shared} (h:SP (X.wish E) pins D f s'):SP X pins D f s' := by
 cases f with
 | next=>obtain ⟨σ',H',I,q⟩:=h;exact ⟨σ',H',I.unwish,q⟩
 | brk=>obtain ⟨σ',H',I,q⟩:=h;exact ⟨σ',H',I.unwish,q⟩
 | cont=>obtain ⟨σ',H',I,q⟩:=h;exact ⟨σ',H',I.unwish,q⟩
 | ret u=>obtain ⟨v,σ',H',I,r,q⟩:=h;exact ⟨v,σ',H',I.unwish,r,q⟩
end
section
variable {X:Cx} {st:Stmt} {rest:List Stmt} {t u:TS} {e:Expr} {te:TE} {pos:Pos}
def yhW:TS:=fun D σ H=>D.nx σ H
def tSeq (t u:TS):TS:=fun D σ H=>t { D with nx:=u D } σ H
theorem zih:PSs X [] yhW:=fun _ _ σ H _ I h=>wpAny_execs_nil ⟨σ,H,I,h⟩
theorem zha (h1:PS X st t) (h2:PSs X rest u):PSs X (st::rest) (tSeq t u):=by
 intro pins s σ H D I h
 refine wpAny_execs_cons (thn (h1 pins s σ H { D with nx:=u D } I h) fun f s1 q=>?_)
 cases f with
 | next =>
  obtain ⟨σ',H',I',q⟩:=q
  exact h2 pins s1 σ' H' D I' q
 | ret v=>exact q
 | brk=>exact q
 | cont=>exact q
theorem zii (h1:PS X st t):PSs X [st] t:=by
 intro pins s σ H D I h
 refine wpAny_execs_cons (thn (h1 pins s σ H D I h) fun f s1 q=>?_)
 cases f with
 | next=>exact wpAny_execs_nil q
 | ret v=>exact q
 | brk=>exact q
 | cont=>exact q
theorem Inv.quiet {pins:List (Addr×Obj)} {σ:St} {H:Hp} {s:Shared} (I:Inv X pins σ H s):interactive X.env=false:=by simp [interactive,I.ok.kind]
def yhX (te:TE):TS:=fun D σ H=>te σ H fun _ H1=>D.nx σ H1
theorem zij (he:PE X e te) (hs:swapsWith e none pos.line X.env=pure false:=by rfl):PS X (.Expr e pos) (yhX te):=by
 intro pins s σ H D I h
 exact wpAny_Expr_any (thn (he pins s σ H _ I h) fun v s1 ⟨x,H1,I1,r1,q1⟩=>⟨σ,H1,I1,q1⟩) I.quiet hs
def tRet (te:TE):TS:=fun D σ H=>te σ H D.rt
theorem ygz (he:PE X e te):PS X (.Return (some e) pos) (tRet te):=by
 intro pins s σ H D I h
 exact wpAny_Return_some (thn (he pins s σ H _ I h) fun v s1 ⟨x,H1,I1,r1,q1⟩=>⟨x,σ,H1,I1,r1,q1⟩)
def tIfS (c:TT) (t u:TS):TS:=fun D σ H=>c σ H fun b H1=>if b=true then t D σ H1 else u D σ H1
theorem yhY {c:Expr} {a b:List Stmt} {tc:TT} (hc:PT X c tc) (ha:PSs X a t) (hb:PSs X b u):PS X (.If c a b pos) (tIfS tc t u):=by
 intro pins s σ H D I h
 refine wpAny_If (thn (hc pins s σ H _ I h) fun d s1 ⟨H1,I1,q1⟩=>?_)
 cases d with
 | true=>exact ha pins s1 σ H1 D I1 q1
 | false=>exact hb pins s1 σ H1 D I1 q1
end
abbrev TG:=V->St->Hp->(St->Hp->Prop)->Prop
def PG (X:Cx) (target:Expr) (t:TG):Prop :=
 ∀ (pins:List (Addr×Obj)) (s:Shared) (σ:St) (H:Hp) (v:V) (u:Value) (Q:St->Hp->Prop),Inv X pins σ H s->RelV v u->t v σ H Q ->
  wpAny (model X.prog X.w) X.A (assign target X.env u) (fun _ s' => ∃ σ' H',Inv X pins σ' H' s'/\Q σ' H') X.xe s
abbrev TSet:=V->V->V->Hp->(Hp->Prop)->Prop
def PSet (X:Cx) (t:TSet):Prop :=
 ∀ (pins:List (Addr×Obj)) (s:Shared) (σ:St) (H:Hp) (o i v:V) (ov iv u:Value) (Q:Hp->Prop),Inv X pins σ H s->RelV o ov->RelV i iv->RelV v u->t o i v H Q ->
  wpAny (model X.prog X.w) X.A (setItem ov iv u) (fun _ s' => ∃ H',Inv X pins σ H' s'/\Q H') X.xe s
section
variable {X:Cx} {pos:Pos}
def yeK (i:Nat):TG:=fun v σ H Q=>Q (σ.set i (some v)) H
theorem zik {i:Nat} {x:Str} (hN:X.N.Nodup) (hi:X.N[i]? = some x) (hx:Loc X.env.scope x) (hf:X.fn x=true\/X.env.scope.names.lookup x=some .local:=by first | exact .inl rfl | exact .inr rfl | assumption):PG X (.Name x pos) (yeK i):=by
 intro pins s σ H v u Q I r h
 exact wpAny_assign_Name (za9 I hN hi hx r (fun s' I' => ⟨_,H,I',h⟩) hf)
def gSub (to ti:TE) (t:TSet):TG:=fun v σ H Q=>to σ H fun o H1=>ti σ H1 fun i H2=>t o i v H2 fun H3=>Q σ H3
theorem ygA {o i:Expr} {to ti:TE} {t:TSet} (ho:PE X o to) (hi:PE X i ti) (hs:PSet X t)
  (ha:∀ v,assign (.Subscript o i pos) X.env v=(do
   let ov <- holding [v] (eval o X.env)
   let iv <- holding [v,ov] (eval i X.env)
   standAt pos
   holding [v,ov,iv] (setItem ov iv v)
   release [v,ov,iv] []):=by intro _;rfl):PG X (.Subscript o i pos) (gSub to ti t):=by
 intro pins s σ H v u Q I r h
 rw [ha]
 refine wpAny_bind (wpAny_holding (thn (ho pins s σ H _ I h) fun ov s1 ⟨x,H1,I1,r1,q1⟩=>?_))
 refine wpAny_bind (wpAny_holding (thn (hi pins s1 σ H1 _ I1 q1) fun iv s2 ⟨y,H2,I2,r2,q2⟩=>?_))
 refine wpAny_bind (wpAny_standAt (wpAny_bind (wpAny_holding (thn (hs pins s2 σ H2 x y v ov iv u _ I2 r1 r2 r q2) fun _ s3 ⟨H3,I3,q3⟩=>?_))))
 exact wpAny_release ⟨σ,H3,I3,q3⟩
def tAsg (te:TE) (g:TG):TS:=fun D σ H=>te σ H fun x H1=>g x σ H1 D.nx
theorem ygB {tg e:Expr} {te:TE} {g:TG} (he:PE X e te) (hg:PG X tg g) (hs:swapsWithSole [tg] e pos.line X.env=pure false:=by rfl) (hw:swappedStores [tg] e X.env=pure none:=by rfl)
  (h1:(assignEach [tg] X.env).map (·.2)=[assign tg X.env]:=by rfl):PS X (.Assign [tg] e pos) (tAsg te g):=by
 intro pins s σ H D I h
 refine wpAny_Assign_stores (thn (he pins s σ H _ I h) fun v s1 ⟨x,H1,I1,r1,q1⟩=>?_) hs hw
 rw [h1]
 exact thn (hg pins s1 σ H1 x v _ I1 r1 q1) fun _ s2 q=>q
theorem ygC {i:Nat} {x:Str} {e:Expr} {te:TE} {pos':Pos} (hN:X.N.Nodup) (hi:X.N[i]? = some x) (hx:Loc X.env.scope x) (he:PE X e te) (hs:swapsWith e (some (.Name x pos')) pos.line X.env=pure false:=by rfl) (hf:X.fn x=true\/X.env.scope.names.lookup x=some .local:=by first | exact .inl rfl | exact .inr rfl | assumption) :
  PS X (.Assign [.Name x pos'] e pos) (tAsg te (yeK i)):=by
 intro pins s σ H D I h
 refine wpAny_Assign_Name (thn (he pins s σ H _ I h) fun v s1 ⟨y,H1,I1,r1,q1⟩=>?_) hs
 exact za9 I1 hN hi hx r1 (fun s2 I2=>⟨_,H1,I2,q1⟩) hf
end
section
variable {X:Cx} {pos:Pos}
def ygD (c:TT) (tb:TS):TS:=fun D σ H=>∃ W:Nat->St->Hp->Prop,(∃ m,W m σ H)/\∀ m σ H,W m σ H ->
 c σ H fun b H1=>if b=true then ∃ N:St->Hp->Prop,(∀ σ' H',N σ' H'->∃ m',m'<m/\W m' σ' H')/\tb { D with nx:=N,ct:=N,bk:=D.nx } σ H1 else D.nx σ H1
theorem zhb {c:Expr} {body:List Stmt} {tc:TT} {tb:TS} (hp:PassesOwn (model X.prog X.w) X.A X.env X.xe) (hc:PT X c tc) (hb:PSs X body tb):PS X (.While c body [] pos) (ygD tc tb):=by
 intro pins s σ H D I h
 obtain ⟨W,⟨m0,w0⟩,turn⟩:=h
 refine wpAny_While (codeAny_whileLoop (fun n s' => ∃ σ' H',Inv X pins σ' H' s'/\W n σ' H') ?_ m0 ⟨σ,H,I,w0⟩)
 rintro n s1 ⟨σ1,H1,I1,w1⟩
 refine wpAny_passesOwn hp (thn (hc pins s1 σ1 H1 _ I1 (turn n σ1 H1 w1)) fun b s2 ⟨H2,I2,q2⟩=>?_)
 cases b with
 | true =>
  obtain ⟨N,hN,q2⟩:=q2
  rw [if_pos rfl]
  refine wpAny_passesOwn hp (thn (hb pins s2 σ1 H2 _ I2 q2) fun f s3 q3=>?_)
  cases f with
  | next =>
   obtain ⟨σ3,H3,I3,n3⟩:=q3
   obtain ⟨m',hm,w3⟩:=hN σ3 H3 n3
   exact ⟨m',hm,σ3,H3,I3,w3⟩
  | cont =>
   obtain ⟨σ3,H3,I3,n3⟩:=q3
   obtain ⟨m',hm,w3⟩:=hN σ3 H3 n3
   exact ⟨m',hm,σ3,H3,I3,w3⟩
  | brk=>exact q3
  | ret v=>exact q3
 | false =>
  rw [if_neg Bool.false_ne_true]
  exact wpAny_execs_nil ⟨σ1,H2,I2,q2⟩
end
structure It where
 go:Nat->Hp->Prop
 yld:Nat->Hp->V->Hp->Prop
 stop:Nat->Hp->Prop
def FpOk (X:Cx) (pins:List (Addr×Obj)) (H:Hp) (b:Addr):Prop :=
 H b=none/\b≠X.env.locals/\b∉X.fs/\(b∈X.ex\/X.s₀.heap.objs.size<=b)/\(∀ x c,X.env.cells.lookup x=some c->c≠b)/\∀ p∈X.pn++pins,p.1≠b
theorem Inv.fpOk {X:Cx} {pins:List (Addr×Obj)} {σ:St} {H H':Hp} {s:Shared} {b:Addr} (I:Inv X pins σ H s) (hb:s.heap.objs.size<=b) (hn:H' b=none):FpOk X pins H' b:=by
 refine ⟨hn,Nat.ne_of_gt (Nat.lt_of_lt_of_le I.lt hb),I.nofs hb,.inr (Nat.le_trans I.sz hb),fun x c e z=>?_,fun p hp z=>?_⟩
 ·obtain ⟨v,q⟩:=I.cell x c e
  exact absurd (Nat.lt_of_lt_of_le q.lt (by rw [z];exact hb)) (Nat.lt_irrefl _)
 ·exact absurd (Nat.lt_of_lt_of_le (Heap.lt_size (I.pin p hp).1) (by rw [z];exact hb)) (Nat.lt_irrefl _)
structure Turn (P:Program) (w:World) (K:PySem.W.Frag) (tg:Expr) (J:It) (fp:List Addr) (it:Addr) (tn:Nat->Heap->Prop):Prop where
 mem:it∈fp
 obj:∀ i h,tn i h->∀ b∈fp,∃ o,h.get? b=some o/\∀ v,o.data ≠ .cell v
 keep:∀ i h h',tn i h->(∀ b∈fp,∀ o,h.get? b=some o->h'.get? b=some o)->tn i h'
 item:∀ (X:Cx),X.prog=P->X.w=w->X.K=K->X.calm=true->∀ (i:Nat) (pins:List (Addr×Obj)) (s:Shared) (σ:St) (H:Hp) (E:Value->Shared->Prop),Inv X pins σ H s->(∀ b∈fp,FpOk X pins H b)->tn i s.heap->J.go i H ->
  wpAny (model P w) X.A (pyNext (.ref it)) (fun r s1=>∃ u,r=some u /\
   wpAny (model P w) X.A (letOwnedTupleGo tg (.ref it) u) (fun _ s2=>∃ x H',Inv X pins σ H' s2/\RelV x u/\J.yld i H x H'/\tn (i+1) s2.heap/\∀ b∈fp,H' b=none) E s1) E s
 done:∀ (X:Cx),X.prog=P->X.w=w->X.K=K->X.calm=true->∀ (i:Nat) (pins:List (Addr×Obj)) (s:Shared) (σ:St) (H:Hp) (E:Value->Shared->Prop),Inv X pins σ H s->(∀ b∈fp,FpOk X pins H b)->tn i s.heap->J.stop i H ->
  wpAny (model P w) X.A (pyNext (.ref it)) (fun r s1=>r=none/\Inv X pins σ H s1) E s
 self:∀ (A:Around) (i:Nat) (s:Shared) (Q:Value->Shared->Prop) (E:Value->Shared->Prop),tn i s.heap->Q (.ref it) s->wpAny (model P w) A (pyIter (.ref it)) Q E s
abbrev TI:=St->Hp->(It->Hp->Prop)->Prop
def PIE (X:Cx) (pins:List (Addr×Obj)) (σ:St) (tg:Expr) (R:It->Hp->Prop) (itv:Value) (s2:Shared):Prop :=
 ∃ (it:Addr) (fp:List Addr) (tn:Nat->Heap->Prop) (J:It) (H':Hp),itv = .ref it/\Inv X pins σ H' s2/\Turn X.prog X.w X.K tg J fp it tn/\tn 0 s2.heap/\(∀ b∈fp,FpOk X pins H' b)/\R J H'
def PI (X:Cx) (tg iter:Expr) (wi:TI):Prop :=
 ∀ (pins:List (Addr×Obj)) (s:Shared) (σ:St) (H:Hp) (R:It->Hp->Prop),Inv X pins σ H s->wi σ H R ->
  wpAny (model X.prog X.w) X.A (eval iter X.env) (fun v s1=>wpAny (model X.prog X.w) X.A (pyIter v) (PIE X pins σ tg R) X.xe s1) X.xe s
theorem yeq {M:Model} {A:Around} {E:Value->Shared->Prop} {s:Shared} {tg:Expr} {it:Addr} {u:Value} {o:Obj} {n:String} {vs:Array Value} {Q:Unit->Shared->Prop} (ho:s.heap.get? it=some o) (hc:o.cls = .type n) (hd:o.data = .fields vs)
  (hn:["enumerate", "zip", "dict_itemiterator", "dict_reverseitemiterator", "odict_iterator", "itertools.zip_longest", "itertools.pairwise"].contains n=false) (hQ:Q () s):wpAny M A (letOwnedTupleGo tg (.ref it) u) Q E s:=by
 unfold letOwnedTupleGo
 cases tg<;>first
  | exact wpAny_pure hQ
  | (cases u<;>first
    | exact wpAny_pure hQ
    | (refine wpAny_bind (wpAny_load ho ?_)
       rw [hc,hd]
       show wpAny M A (if (["enumerate", "zip", "dict_itemiterator", "dict_reverseitemiterator", "odict_iterator", "itertools.zip_longest", "itertools.pairwise"].contains n && vs[0]? == some (rawInt _))=true then _ else _) Q E s
       rw [if_neg (by intro h;rw [hn,Bool.false_and] at h;cases h)]
       exact wpAny_pure hQ))
def Itl (K:PySem.W.Frag) (a:Addr):It :=
 ⟨fun i H=>∃ xs x,SqL K H a xs/\xs[i]? = some x,fun i H x H' => H'=H/\∀ xs,SqL K H a xs->xs[i]? = some x,fun i H=>∃ xs,SqL K H a xs/\xs.length<=i⟩
def Itt (K:PySem.W.Frag) (a:Addr):It :=
 ⟨fun i H=>∃ xs x,SqT K H a xs/\xs[i]? = some x,fun i H x H' => H'=H/\∀ xs,SqT K H a xs->xs[i]? = some x,fun i H=>∃ xs,SqT K H a xs/\xs.length<=i⟩
def Itr (lo:Int) (n:Nat):It:=⟨fun i _=>i<n,fun i H x H' => H'=H/\x = .int (lo+i),fun i _=>n<=i⟩
theorem zgp {P:Program} {w:World} {K:PySem.W.Frag} {tg:Expr} (a it:Addr):Turn P w K tg (Itl K a) [it] it (fun i h=>h.IsListIter it a i) where
 mem:=by simp
 obj:=fun i h st b hb=>by
  have e:b=it:=by simpa using hb
  subst e
  obtain ⟨o,e,c,d⟩:=st
  exact ⟨o,e,fun v z=>by rw [d] at z;cases z⟩
 keep:=fun i h h' st k=>st.at fun o e=>k it (by simp) o e
 item:=by
  intro X hP hw hK hc i pins s σ H E I hf st hg
  subst hP hw hK
  obtain ⟨xs,x,hq,hx⟩:=hg
  obtain ⟨its,rv,p,hz⟩:=I.list hq
  obtain ⟨u,hu,ru⟩:=rv.get hx
  obtain ⟨f0,f1,f2,f3,f4,f5⟩:=hf it (by simp)
  refine wpAny_pyNext_list_item st p.isList (x:=u) (by simpa using hu) fun h' st' sb=>?_
  have I1:Inv X pins σ H { s with heap:=h' }:=I.turned (t' := s.toks) (fun b o hb e=>(sb.2 b hb).trans e) f0 f1 f3 f4 f5
  obtain ⟨o,e,c,d⟩:=id st'
  exact ⟨u,rfl,yeq (s:={ s with heap:=h' }) e c d (by decide) ⟨x,H,I1,ru,⟨rfl,fun ys hy=>by rw [I.list_inj hy hq];exact hx⟩,st',fun b hb=>(hf b hb).1⟩⟩
 done:=by
  intro X hP hw hK hc i pins s σ H E I hf st hg
  subst hP hw hK
  obtain ⟨xs,hq,hx⟩:=hg
  obtain ⟨its,rv,p,hz⟩:=I.list hq
  obtain ⟨f0,f1,f2,f3,f4,f5⟩:=hf it (by simp)
  have hl:=rv.length
  exact wpAny_pyNext_list_end (I.ok.hd hc) st p.isList (by simp;omega) fun h' eb=>⟨rfl,I.turned (t' := s.toks) (fun b o hb e=>eb b o hb e) f0 f1 f3 f4 f5⟩
 self:=fun _ _ _ _ _ st h=>wpAny_pyIter_listiter st h
theorem zfY {P:Program} {w:World} {K:PySem.W.Frag} {tg:Expr} (a it:Addr):Turn P w K tg (Itt K a) [it] it (fun i h=>h.IsTupleIter it a i) where
 mem:=by simp
 obj:=fun i h st b hb=>by
  have e:b=it:=by simpa using hb
  subst e
  obtain ⟨o,e,c,d⟩:=st
  exact ⟨o,e,fun v z=>by rw [d] at z;cases z⟩
 keep:=fun i h h' st k=>st.at fun o e=>k it (by simp) o e
 item:=by
  intro X hP hw hK hc i pins s σ H E I hf st hg
  subst hP hw hK
  obtain ⟨xs,x,hq,hx⟩:=hg
  obtain ⟨its,rv,p,hz⟩:=I.tuple hq
  obtain ⟨u,hu,ru⟩:=rv.get hx
  obtain ⟨f0,f1,f2,f3,f4,f5⟩:=hf it (by simp)
  refine wpAny_pyNext_tuple_item st (show s.heap.IsTuple a its.toArray from p) (x:=u) (by simpa using hu) fun h' st' sb=>?_
  have I1:Inv X pins σ H { s with heap:=h' }:=I.turned (t' := s.toks) (fun b o hb e=>(sb.2 b hb).trans e) f0 f1 f3 f4 f5
  obtain ⟨o,e,c,d⟩:=id st'
  exact ⟨u,rfl,yeq (s:={ s with heap:=h' }) e c d (by decide) ⟨x,H,I1,ru,⟨rfl,fun ys hy=>by rw [I.tuple_inj hy hq];exact hx⟩,st',fun b hb=>(hf b hb).1⟩⟩
 done:=by
  intro X hP hw hK hc i pins s σ H E I hf st hg
  subst hP hw hK
  obtain ⟨xs,hq,hx⟩:=hg
  obtain ⟨its,rv,p,hz⟩:=I.tuple hq
  obtain ⟨f0,f1,f2,f3,f4,f5⟩:=hf it (by simp)
  have hl:=rv.length
  exact wpAny_pyNext_tuple_end (I.ok.hd hc) st (show s.heap.IsTuple a its.toArray from p) (by simp;omega) fun h' eb=>⟨rfl,I.turned (t' := s.toks) (fun b o hb e=>eb b o hb e) f0 f1 f3 f4 f5⟩
 self:=fun _ _ _ _ _ st h=>wpAny_pyIter_tupleiter st h
theorem zfZ {P:Program} {w:World} {K:PySem.W.Frag} {tg:Expr} (it:Addr) (lo:Int) (n:Nat):Turn P w K tg (Itr lo n) [it] it (fun i h=>IsRangeIter h it (lo+(i:Nat)*1) ((n:Int)-(i:Nat)) 1) where
 mem:=by simp
 obj:=fun i h st b hb=>by
  have e:b=it:=by simpa using hb
  subst e
  exact ⟨_,st,fun v z=>by
   have z':Data.fields _=Data.cell v:=z
   cases z'⟩
 keep:=fun i h h' st k=>k it (by simp) _ st
 item:=by
  intro X hP hw hK hc i pins s σ H E I hf st hg
  subst hP hw hK
  obtain ⟨f0,f1,f2,f3,f4,f5⟩:=hf it (by simp)
  have W:=Walks.range (prog:=X.prog) (w:=X.w) (I.ok.hd hc) it lo 1 n
  refine W.item i s _ _ hg st fun v h' tk hv st' kk=>?_
  obtain ⟨t,rfl⟩:=hv
  have I1:Inv X pins σ H { s with heap:=h',toks:=tk }:=I.turned (fun b o hb e=>kk b o (by simpa using hb) e) f0 f1 f3 f4 f5
  refine ⟨_,rfl,yeq (s:={ s with heap:=h',toks:=tk }) (n := "range_iterator") st' rfl rfl (by decide) ⟨.int (lo+i),H,I1,⟨t,?_⟩,⟨rfl,rfl⟩,st',fun b hb=>(hf b hb).1⟩⟩
  rw [Int.mul_one]
 done:=by
  intro X hP hw hK hc i pins s σ H E I hf st hg
  subst hP hw hK
  obtain ⟨f0,f1,f2,f3,f4,f5⟩:=hf it (by simp)
  exact wpAny_pyNext_range_end (I.ok.hd hc) st (by have:n<=i:=hg;omega) fun h' eb=>⟨rfl,I.turned (t' := s.toks) (fun b o hb e=>eb b o hb e) f0 f1 f3 f4 f5⟩
 self:=fun _ _ _ _ _ st h=>wpAny_pyIter_rangeiter st h
end L2
namespace L2
open PySem PySem.Spec PyProof.Rows
section
variable {X:Cx} {tg:Expr}
def yf4 (K:PySem.W.Frag) (tl:TE):TI:=fun σ H R=>tl σ H fun x H1=>∃ a,x = .ref a/\(∃ xs,SqL K H1 a xs)/\R (Itl K a) H1
def iTup (K:PySem.W.Frag) (tl:TE):TI:=fun σ H R=>tl σ H fun x H1=>∃ a,x = .ref a/\(∃ xs,SqT K H1 a xs)/\R (Itt K a) H1
theorem zil {l:Expr} {tl:TE} (hl:PE X l tl):PI X tg l (yf4 X.K tl):=by
 intro pins s σ H R I h
 refine thn (hl pins s σ H _ I h) fun v s1 ⟨x,H1,I1,r1,q1⟩=>?_
 obtain ⟨a,e,⟨xs,hq⟩,q⟩:=q1
 subst e
 cases r1
 obtain ⟨its,rv,p,hz⟩:=I1.list hq
 refine wpAny_pyIter_list p.isList ?_
 refine ⟨s1.heap.objs.size,[s1.heap.objs.size],_,_,H1,rfl,I1.kept (t' := s1.toks) fun b o e=>Heap.get?_push_of_some _ e,zgp a _,⟨_,Heap.get?_push_size _ rfl,rfl,rfl⟩,fun b hb=>?_,q⟩
 have e:b=s1.heap.objs.size:=by simpa using hb
 subst e
 exact I1.fpOk (Nat.le_refl _) (I1.hok.fresh (Nat.le_refl _))
theorem ygE {l:Expr} {tl:TE} (hl:PE X l tl):PI X tg l (iTup X.K tl):=by
 intro pins s σ H R I h
 refine thn (hl pins s σ H _ I h) fun v s1 ⟨x,H1,I1,r1,q1⟩=>?_
 obtain ⟨a,e,⟨xs,hq⟩,q⟩:=q1
 subst e
 cases r1
 obtain ⟨its,rv,p,hz⟩:=I1.tuple hq
 refine wpAny_pyIter_tuple (show s1.heap.IsTuple a its.toArray from p) ?_
 refine ⟨s1.heap.objs.size,[s1.heap.objs.size],_,_,H1,rfl,I1.kept (t' := s1.toks) fun b o e=>Heap.get?_push_of_some _ e,zfY a _,⟨_,Heap.get?_push_size _ rfl,rfl,rfl⟩,fun b hb=>?_,q⟩
 have e:b=s1.heap.objs.size:=by simpa using hb
 subst e
 exact I1.fpOk (Nat.le_refl _) (I1.hok.fresh (Nat.le_refl _))
theorem zhc {pins:List (Addr×Obj)} {σ:St} {H:Hp} {s:Shared} {R:It->Hp->Prop} {E:Value->Shared->Prop} {lo hi:Int} {t u v:Tok} {tk:Nat} (I:Inv X pins σ H s) (h1 : -(2 ^ 62)<=lo) (h2:lo<2 ^ 62) (h3 : -(2 ^ 62)<=hi) (h4:hi<2 ^ 62)
  (q:R (Itr lo (hi-lo).toNat) H):wpAny (model X.prog X.w) X.A (pyIter (.ref s.heap.objs.size)) (PIE X pins σ tg R) E { s with heap:=s.heap.push { cls:=.type "range",data:=.fields #[.int lo t,.int hi u,.int 1 v] },toks:=tk }:=by
 refine wpAny_pyIter_range (IsRange.new ..) (small_one h1 h2 h3 h4) ?_
 have I1:Inv X pins σ H { s with heap:=s.heap.push { cls:=.type "range",data:=.fields #[.int lo t,.int hi u,.int 1 v] },toks:=tk }:=I.kept fun b o e=>Heap.get?_push_of_some _ e
 refine ⟨(s.heap.push { cls:=.type "range",data:=.fields #[.int lo t,.int hi u,.int 1 v] }).objs.size,[(s.heap.push { cls:=.type "range",data:=.fields #[.int lo t,.int hi u,.int 1 v] }).objs.size],_,_,H,rfl,
  I1.kept (t' := tk) fun b o e=>Heap.get?_push_of_some _ e,zfZ _ lo (hi-lo).toNat,?_,fun b hb=>?_,q⟩
 ·have e1:lo+((0:Nat):Int)*1=lo:=by simp
  have e2:(((hi-lo).toNat:Nat):Int)-((0:Nat):Int)=Builtin.Range.rangeSize lo hi 1:=by rw [rangeSize_one];split<;>omega
  show IsRangeIter _ _ (lo+((0:Nat):Int)*1) ((((hi-lo).toNat:Nat):Int)-((0:Nat):Int)) 1
  rw [e1,e2]
  exact Heap.get?_push_size _ rfl
 ·have e:b=(s.heap.push { cls:=.type "range",data:=.fields #[.int lo t,.int hi u,.int 1 v] }).objs.size:=by simpa using hb
  subst e
  exact I1.fpOk (Nat.le_refl _) (I1.hok.fresh (Nat.le_refl _))
def yhZ (ta:TA):TI:=fun σ H R=>ta σ H fun vs H1=>∃ j:Int,vs=[.int j] /\ -(2 ^ 62)<=j/\j<2 ^ 62/\R (Itr 0 j.toNat) H1
theorem zgq {a:Expr} {ta:TA} {p pos:Pos} (hg:Gl X "range") (hm:X.mg "range" = none) (ha:PA X [a] ta) (hs:starEach [a] X.env=[(false,eval a X.env)]:=by rfl):PI X tg (.Call (.Name "range" p) [a] [] pos) (yhZ ta):=by
 intro pins s σ H R I h
 refine Call_ (yd1 I hg hm boot_range (PyProof.Rows.callWith_type1 (thn (ha pos pins s σ H _ I h) fun us s1 ⟨vs,H1,I1,r1,q1⟩=>?_) hs rfl))
 obtain ⟨j,e,q1,q2,q⟩:=q1
 subst e
 cases r1 with
 | cons r rr =>
  cases rr
  obtain ⟨t,rfl⟩:=r
  exact call_range_1 (zhc I1 (by omega) (by omega) q1 q2 (by simpa using q))
def tFor (wi:TI) (g:TG) (tb:TS):TS:=fun D σ H=>wi σ H fun J H1=>∃ W:Nat->Nat->St->Hp->Prop,(∃ m,W 0 m σ H1)/\∀ i m σ H,W i m σ H ->
 (J.stop i H/\D.nx σ H)\/(J.go i H/\∃ N:St->Hp->Prop,(∀ σ' H',N σ' H'->∃ m',m'<m/\W (i+1) m' σ' H')/\∀ x H',J.yld i H x H'->g x σ H' fun σ2 H2=>tb { D with nx:=N,ct:=N,bk:=D.nx } σ2 H2)
def ybQ (fp:List Addr) (h:Heap):List (Addr×Obj):=fp.filterMap fun b=>(h.get? b).map fun o=>(b,o)
theorem zaM {fp:List Addr} {h:Heap} {b:Addr} {o:Obj} (hb:b∈fp) (e:h.get? b=some o):(b,o)∈ybQ fp h:=List.mem_filterMap.mpr ⟨b,hb,by rw [e];rfl⟩
theorem zgr {fp:List Addr} {h:Heap} {p:Addr×Obj} (hp:p∈ybQ fp h):p.1∈fp/\h.get? p.1=some p.2:=by
 obtain ⟨b,hb,e⟩:=List.mem_filterMap.mp hp
 cases q:h.get? b with
 | none=>rw [q] at e;cases e
 | some o =>
  rw [q] at e
  have e':(b,o)=p:=Option.some.inj e
  subst e'
  exact ⟨hb,q⟩
theorem Inv.pinned {pins:List (Addr×Obj)} {σ:St} {H:Hp} {s:Shared} {fp:List Addr} (I:Inv X pins σ H s) (hf:∀ b∈fp,FpOk X pins H b) (ho:∀ b∈fp,∃ o,s.heap.get? b=some o/\∀ v,o.data ≠ .cell v):Inv X (pins++ybQ fp s.heap) σ H s :=
 I.pins_of fun p hp=>(List.mem_append.mp hp).elim (fun z=>I.pin p (List.mem_append_right _ z)) fun z=>by
  obtain ⟨hb,e⟩:=zgr z
  obtain ⟨f0,f1,f2,_⟩:=hf p.1 hb
  obtain ⟨o,e',d⟩:=ho p.1 hb
  rw [e] at e';cases e'
  exact ⟨e,f0,f1,f2,d⟩
theorem Inv.unpinned {pins pl:List (Addr×Obj)} {σ:St} {H:Hp} {s:Shared} (I:Inv X (pins++pl) σ H s):Inv X pins σ H s:=I.pins_of fun p hp=>I.pin p (List.mem_append_right _ (List.mem_append_left _ hp))
theorem yfs {iter:Expr} {body:List Stmt} {wi:TI} {g:TG} {tb:TS} {pos:Pos} (hp:PassesOwn (model X.prog X.w) X.A X.env X.xe) (hc:X.calm=true) (hi:PI X tg iter wi) (hg:PG X tg g) (hb:PSs X body tb)
  (hs:∀ x,foldedSetIterable iter X.env x=pure x:=by intro _;rfl):PS X (.For tg iter body [] pos) (tFor wi g tb):=by
 intro pins s σ H D I h
 refine wpAny_For (thn (hi pins s σ H _ I h) fun v s1 h1=>thn h1 fun itv s2 h2=>?_) hs
 obtain ⟨it,fp,tn,J,H2,e,I2,T,st2,f2,W,⟨m0,w0⟩,turn⟩:=h2
 subst e
 have stat:∀ {H':Hp},(∀ b∈fp,H' b=none)->∀ b∈fp,FpOk X pins H' b:=fun hn b hb=>⟨hn b hb,(f2 b hb).2⟩
 refine codeAny_forLoop_any (fun n s' => ∃ i σ' H',Inv X pins σ' H' s'/\tn i s'.heap/\(∀ b∈fp,H' b=none)/\W i n σ' H') ?_ m0 ⟨0,σ,H2,I2,st2,fun b hb=>(f2 b hb).1,w0⟩
 rintro n s3 ⟨i,σ3,H3,I3,st3,fr3,w3⟩
 rcases turn i n σ3 H3 w3 with ⟨stop,qn⟩ | ⟨go,N,hN,step⟩
 ·refine wpAny_passesOwn hp (thn (T.done X rfl rfl rfl hc i pins s3 σ3 H3 X.xe I3 (stat fr3) st3 stop) fun r s4 ⟨hr,I4⟩=>?_)
  subst hr
  exact wpAny_execs_nil ⟨σ3,H3,I4,qn⟩
 ·refine wpAny_passesOwn hp (thn (T.item X rfl rfl rfl hc i pins s3 σ3 H3 X.xe I3 (stat fr3) st3 go) fun r s4 ⟨u,hr,h4⟩=>?_)
  subst hr
  refine wpAny_passesOwn hp (thn h4 fun _ s5 ⟨x,H5,I5,r5,y5,st5,fr5⟩=>?_)
  have I5' := I5.pinned (stat fr5) (T.obj _ _ st5)
  refine wpAny_passesOwn hp (thn (hg _ s5 σ3 H5 x u _ I5' r5 (step x H5 y5)) fun _ s6 ⟨σ6,H6,I6,q6⟩=>?_)
  refine wpAny_passesOwn hp (thn (hb _ s6 σ6 H6 _ I6 q6) fun f s7 q7=>?_)
  have again:∀ {σ7:St} {H7:Hp},Inv X (pins++ybQ fp s5.heap) σ7 H7 s7->N σ7 H7->∃ m,m<n/\∃ i σ' H',Inv X pins σ' H' s7/\tn i s7.heap/\(∀ b∈fp,H' b=none)/\W i m σ' H' := fun {σ7 H7} I7 n7=>by
   obtain ⟨m',hm,w7⟩:=hN σ7 H7 n7
   refine ⟨m',hm,i+1,σ7,H7,I7.unpinned,T.keep _ _ _ st5 fun b hb o e=>(I7.pin (b,o) (List.mem_append_right _ (List.mem_append_right _ (zaM hb e)))).1,fun b hb=>?_,w7⟩
   obtain ⟨o,e,d⟩:=T.obj _ _ st5 b hb
   exact (I7.pin (b,o) (List.mem_append_right _ (List.mem_append_right _ (zaM hb e)))).2.1
  cases f with
  | next=>obtain ⟨σ7,H7,I7,n7⟩:=q7;exact again I7 n7
  | cont=>obtain ⟨σ7,H7,I7,n7⟩:=q7;exact again I7 n7
  | brk=>obtain ⟨σ7,H7,I7,q7⟩:=q7;exact ⟨σ7,H7,I7.unpinned,q7⟩
  | ret v=>obtain ⟨x7,σ7,H7,I7,r7,q7⟩:=q7;exact ⟨x7,σ7,H7,I7.unpinned,r7,q7⟩
end
end L2
namespace L2
open PySem PySem.Spec PyProof.Rows
abbrev R2:=V->V->Hp->VK->Prop
def OpR (X:Cx) (f:Value->Value->Sem Value) (r:R2):Prop :=
 ∀ (pins:List (Addr×Obj)) (s:Shared) (σ:St) (H:Hp) (x y:V) (v u:Value) (Q:VK),Inv X pins σ H s->RelV x v->RelV y u->r x y H Q ->
  wpAny (model X.prog X.w) X.A (f v u) (EP X pins σ Q) X.xe s
def UnR (X:Cx) (f:Value->Sem Value) (r:V->Hp->VK->Prop):Prop :=
 ∀ (pins:List (Addr×Obj)) (s:Shared) (σ:St) (H:Hp) (x:V) (v:Value) (Q:VK),Inv X pins σ H s->RelV x v->r x H Q ->
  wpAny (model X.prog X.w) X.A (f v) (EP X pins σ Q) X.xe s
def CallR (X:Cx) (f:Value) (r:List V->Hp->VK->Prop):Prop :=
 ∀ (pins:List (Addr×Obj)) (s:Shared) (σ:St) (H:Hp) (xs:List V) (us:List Value) (Q:VK),Inv X pins σ H s->Vals xs us->r xs H Q ->
  wpAny (model X.prog X.w) X.A (call f us) (EP X pins σ Q) X.xe s
def TruR (X:Cx) (r:V->Hp->(Bool->Hp->Prop)->Prop):Prop :=
 ∀ (pins:List (Addr×Obj)) (s:Shared) (σ:St) (H:Hp) (x:V) (v:Value) (Q:Bool->Hp->Prop),Inv X pins σ H s->RelV x v->r x H Q ->
  wpAny (model X.prog X.w) X.A (truthy v) (TP X pins σ Q) X.xe s
def tOp (r:R2) (ta tb:TE):TE:=fun σ H Q=>ta σ H fun x H1=>tb σ H1 fun y H2=>r x y H2 Q
def tUn (r:V->Hp->VK->Prop) (ta:TE):TE:=fun σ H Q=>ta σ H fun x H1=>r x H1 Q
def rI (C:Int->Int->Prop) (g:Int->Int->V):R2:=fun x y H Q=>∃ i j,x = .int i/\y = .int j/\C i j/\Q (g i j) H
def rI0 (g:Int->Int->V):R2:=fun x y H Q=>∃ i j,x = .int i/\y = .int j/\Q (g i j) H
def rU (g:Int->V):V->Hp->VK->Prop:=fun x H Q=>∃ i,x = .int i/\Q (g i) H
section
variable {X:Cx} {a b c:Expr} {ta tb tc:TE} {pos:Pos}
theorem binT (ha:PE X a ta) (hb:PE X b tb) {pins:List (Addr×Obj)} {s:Shared} {σ:St} {H:Hp} {R:V->V->Hp->Prop} (I:Inv X pins σ H s)
  (h:ta σ H fun x H1=>tb σ H1 fun y H2=>R x y H2) {Q:Value->Shared->Prop} {f:Value->Value->Sem Value}
  (hf:∀ v u s2 x y H2,Inv X pins σ H2 s2->RelV x v->RelV y u->R x y H2->wpAny (model X.prog X.w) X.A (f v u) Q X.xe s2) :
  wpAny (model X.prog X.w) X.A (eval a X.env) (fun v s₁=>wpAny (model X.prog X.w) X.A (eval b X.env) (fun u s₂=>wpAny (model X.prog X.w) X.A (f v u) Q X.xe s₂) X.xe s₁) X.xe s:=by
 refine thn (ha pins s σ H _ I h) fun v s1 ⟨x,H1,I1,r1,q1⟩=>?_
 refine thn (hb pins s1 σ H1 _ I1 q1) fun u s2 ⟨y,H2,I2,r2,q2⟩=>?_
 exact hf v u s2 x y H2 I2 r1 r2 q2
theorem yh0 {op:Operator} {r:R2} (ho:OpR X (binaryOp op) r) (ha:PE X a ta) (hb:PE X b tb):PE X (.BinOp a op b pos) (tOp r ta tb):=by
 intro pins s σ H Q I h
 exact wpAny_BinOp (binT ha hb I h fun v u s2 x y H2 I2 rx ry q=>ho pins s2 σ H2 x y v u Q I2 rx ry q)
theorem yh1 {op:UnaryOp} {r:V->Hp->VK->Prop} (ho:UnR X (unaryOp op) r) (ha:PE X a ta):PE X (.UnaryOp op a pos) (tUn r ta):=by
 intro pins s σ H Q I h
 exact UnaryOp_ (thn (ha pins s σ H _ I h) fun v s1 ⟨x,H1,I1,r1,q1⟩=>ho pins s1 σ H1 x v Q I1 r1 q1)
theorem opI {f:Value->Value->Sem Value} {C:Int->Int->Prop} {g:Int->Int->Int}
  (rule:∀ (i j:Int) (t u:Tok) (s:Shared) (Q:Value->Shared->Prop) (E:Value->Shared->Prop),C i j->Q (.int (g i j) s.toks) { s with toks:=s.toks+1 }->wpAny (model X.prog X.w) X.A (f (.int i t) (.int j u)) Q E s) :
  OpR X f (rI C fun i j=>.int (g i j)):=by
 intro pins s σ H x y v u Q I rx ry h
 obtain ⟨i,j,rfl,rfl,hc,q⟩:=h
 obtain ⟨t,rfl⟩:=rx
 obtain ⟨t',rfl⟩:=ry
 exact rule i j t t' s _ _ hc ⟨.int (g i j),H,I.tok _,⟨_,rfl⟩,q⟩
theorem opI0 {f:Value->Value->Sem Value} {g:Int->Int->Int}
  (rule:∀ (i j:Int) (t u:Tok) (s:Shared) (Q:Value->Shared->Prop) (E:Value->Shared->Prop),Q (.int (g i j) s.toks) { s with toks:=s.toks+1 }->wpAny (model X.prog X.w) X.A (f (.int i t) (.int j u)) Q E s) :
  OpR X f (rI0 fun i j=>.int (g i j)):=by
 intro pins s σ H x y v u Q I rx ry h
 obtain ⟨i,j,rfl,rfl,q⟩:=h
 obtain ⟨t,rfl⟩:=rx
 obtain ⟨t',rfl⟩:=ry
 exact rule i j t t' s _ _ ⟨.int (g i j),H,I.tok _,⟨_,rfl⟩,q⟩
theorem opB0 {f:Value->Value->Sem Value} {g:Int->Int->Bool}
  (rule:∀ (i j:Int) (t u:Tok) (s:Shared) (Q:Value->Shared->Prop) (E:Value->Shared->Prop),Q (.bool (g i j)) s->wpAny (model X.prog X.w) X.A (f (.int i t) (.int j u)) Q E s) :
  OpR X f (rI0 fun i j=>.bl (g i j)):=by
 intro pins s σ H x y v u Q I rx ry h
 obtain ⟨i,j,rfl,rfl,q⟩:=h
 obtain ⟨t,rfl⟩:=rx
 obtain ⟨t',rfl⟩:=ry
 exact rule i j t t' s _ _ ⟨.bl (g i j),H,I,rfl,q⟩
def CPow (i j:Int):Prop:=0<=j/\j<=1000000/\i.natAbs<2 ^ 64
def CMul (i j:Int):Prop:=(-(2 ^ 64)<i/\i<2 ^ 64)\/(-(2 ^ 64)<j/\j<2 ^ 64)
theorem CMul.ok {i j:Int} (h:CMul i j):IntMulOk i j:=by
 rcases h with ⟨h1,h2⟩ | ⟨h1,h2⟩
 ·exact .of_left (intBits_le_64 h1 h2)
 ·exact .of_right (intBits_le_64 h1 h2)
theorem op_add:OpR X (binaryOp .Add) (rI0 fun i j=>.int (i+j)):=opI0 fun _ _ _ _ _ _ _ q=>add_int q
theorem ygF:OpR X (binaryOp .Sub) (rI0 fun i j=>.int (i-j)):=opI0 fun _ _ _ _ _ _ _ q=>sub_int q
theorem ygG:OpR X (binaryOp .Mod) (rI (fun _ j=>0<j) fun i j=>.int (i % j)):=opI fun i j _ _ _ _ _ hc q=>by
 have h1:(0:Int)<j:=hc
 exact mod_int' (by omega) (by rw [Int.fmod_eq_emod_of_nonneg i (by omega)];exact q)
theorem ygH:OpR X (binaryOp .Pow) (rI CPow fun i j=>.int (i ^ j.toNat)):=opI fun _ _ _ _ _ _ _ hc q=>pow_int_small hc.1 hc.2.1 hc.2.2 q
theorem unI {f:Value->Sem Value} {g:Int->Int}
  (rule:∀ (i:Int) (t:Tok) (s:Shared) (Q:Value->Shared->Prop) (E:Value->Shared->Prop),Q (.int (g i) s.toks) { s with toks:=s.toks+1 }->wpAny (model X.prog X.w) X.A (f (.int i t)) Q E s) :
  UnR X f (rU fun i=>.int (g i)):=by
 intro pins s σ H x v Q I rx h
 obtain ⟨i,rfl,q⟩:=h
 obtain ⟨t,rfl⟩:=rx
 exact rule i t s _ _ ⟨.int (g i),H,I.tok _,⟨_,rfl⟩,q⟩
theorem ygI:UnR X (unaryOp .USub) (rU fun i=>.int (-i)):=unI fun _ _ _ _ _ q=>neg_int q
end
def scal:V->V->Bool
 | .non,.non=>true | .non,.int _=>true | .int _,.non=>true | .non,.bl _=>true | .bl _,.non=>true | .non,.str _=>true | .str _,.non=>true
 | .int _,.int _=>true | .bl _,.bl _=>true | .str _,.str _=>true | .byt _,.byt _=>true
 | .int _,.str _=>true | .str _,.int _=>true | .bl _,.str _=>true | .str _,.bl _=>true
 | _,_=>false
def rEq:R2:=fun x y H Q=>scal x y=true/\Q (.bl (decide (x=y))) H
def rNe:R2:=fun x y H Q=>scal x y=true/\Q (.bl (!decide (x=y))) H
theorem ze6 {i j:Int}:decide (V.int i=V.int j)=(i == j):=by
 rw [Bool.eq_iff_iff]
 simp
theorem yft {i j:Bool}:decide (V.bl i=V.bl j)=(i == j):=by
 rw [Bool.eq_iff_iff]
 simp
theorem ze7 {i j:Str}:decide (V.str i=V.str j)=(i == j):=by
 rw [Bool.eq_iff_iff]
 simp
theorem ze8 {i j:Array UInt8}:decide (V.byt i=V.byt j)=(i.toList == j.toList):=by
 rw [Bool.eq_iff_iff]
 cases i
 cases j
 simp
section
variable {X:Cx} {a b c:Expr} {ta tb tc:TE} {pos:Pos}
theorem yaP {pins:List (Addr×Obj)} {σ:St} {H:Hp} {s:Shared} {Q:VK} {k k':Bool} (I:Inv X pins σ H s) (q:Q (.bl k) H) (e:k=k'):EP X pins σ Q (.bool k') s:=by
 subst e
 exact ⟨.bl k,H,I,rfl,q⟩
theorem op_eq:OpR X (compareOp .Eq) rEq:=by
 intro pins s σ H x y v u Q I rx ry h
 obtain ⟨hs,q⟩:=h
 cases x with
 | non =>
  cases rx
  cases y with
  | non=>cases ry;exact PySem.EqNone.eq_none_none (yaP I q (by simp))
  | bl j=>cases ry;exact PySem.EqNone.eq_none_bool (yaP I q (by simp))
  | int j=>obtain ⟨t',rfl⟩:=ry;exact PySem.EqNone.eq_none_int (yaP I q (by simp))
  | str j=>obtain ⟨t',rfl⟩:=ry;exact PySem.EqNone.eq_none_str (yaP I q (by simp))
  | _=>exact absurd (show false=true from hs) Bool.false_ne_true
 | bl i =>
  cases rx
  cases y with
  | non=>cases ry;exact PySem.EqNone.eq_bool_none (yaP I q (by simp))
  | bl j=>cases ry;exact eq_bool (yaP I q yft)
  | str j=>obtain ⟨t',rfl⟩:=ry;exact PySem.EqMixed.eq_bool_str (yaP I q (by simp))
  | _=>exact absurd (show false=true from hs) Bool.false_ne_true
 | int i =>
  obtain ⟨t,rfl⟩:=rx
  cases y with
  | non=>cases ry;exact PySem.EqNone.eq_int_none (yaP I q (by simp))
  | int j=>obtain ⟨t',rfl⟩:=ry;exact eq_int (yaP I q ze6)
  | str j=>obtain ⟨t',rfl⟩:=ry;exact PySem.EqMixed.eq_int_str (yaP I q (by simp))
  | _=>exact absurd (show false=true from hs) Bool.false_ne_true
 | str i =>
  obtain ⟨t,rfl⟩:=rx
  cases y with
  | non=>cases ry;exact PySem.EqNone.eq_str_none (yaP I q (by simp))
  | bl j=>cases ry;exact PySem.EqMixed.eq_str_bool (yaP I q (by simp))
  | int j=>obtain ⟨t',rfl⟩:=ry;exact PySem.EqMixed.eq_str_int (yaP I q (by simp))
  | str j=>obtain ⟨t',rfl⟩:=ry;exact eq_str (yaP I q ze7)
  | _=>exact absurd (show false=true from hs) Bool.false_ne_true
 | byt i =>
  obtain ⟨t,rfl⟩:=rx
  cases y with
  | byt j=>obtain ⟨t',rfl⟩:=ry;exact PySem.W.eq_bytes (yaP I q ze8)
  | _=>exact absurd (show false=true from hs) Bool.false_ne_true
 | _=>cases y<;>exact absurd (show false=true from hs) Bool.false_ne_true
theorem op_ne:OpR X (compareOp .NotEq) rNe:=by
 intro pins s σ H x y v u Q I rx ry h
 obtain ⟨hs,q⟩:=h
 cases x with
 | non =>
  cases rx
  cases y with
  | non=>cases ry;exact PySem.EqNone.ne_none_none (yaP I q (by simp))
  | bl j=>cases ry;exact PySem.EqNone.ne_none_bool (yaP I q (by simp))
  | int j=>obtain ⟨t',rfl⟩:=ry;exact PySem.EqNone.ne_none_int (yaP I q (by simp))
  | str j=>obtain ⟨t',rfl⟩:=ry;exact PySem.EqNone.ne_none_str (yaP I q (by simp))
  | _=>exact absurd (show false=true from hs) Bool.false_ne_true
 | bl i =>
  cases rx
  cases y with
  | non=>cases ry;exact PySem.EqNone.ne_bool_none (yaP I q (by simp))
  | bl j=>cases ry;exact ne_bool (yaP I q (congrArg not yft))
  | str j=>obtain ⟨t',rfl⟩:=ry;exact PySem.EqMixed.ne_bool_str (yaP I q (by simp))
  | _=>exact absurd (show false=true from hs) Bool.false_ne_true
 | int i =>
  obtain ⟨t,rfl⟩:=rx
  cases y with
  | non=>cases ry;exact PySem.EqNone.ne_int_none (yaP I q (by simp))
  | int j=>obtain ⟨t',rfl⟩:=ry;exact ne_int (yaP I q (congrArg not ze6))
  | str j=>obtain ⟨t',rfl⟩:=ry;exact PySem.EqMixed.ne_int_str (yaP I q (by simp))
  | _=>exact absurd (show false=true from hs) Bool.false_ne_true
 | str i =>
  obtain ⟨t,rfl⟩:=rx
  cases y with
  | non=>cases ry;exact PySem.EqNone.ne_str_none (yaP I q (by simp))
  | bl j=>cases ry;exact PySem.EqMixed.ne_str_bool (yaP I q (by simp))
  | int j=>obtain ⟨t',rfl⟩:=ry;exact PySem.EqMixed.ne_str_int (yaP I q (by simp))
  | str j=>obtain ⟨t',rfl⟩:=ry;exact ne_str (yaP I q (congrArg not ze7))
  | _=>exact absurd (show false=true from hs) Bool.false_ne_true
 | byt i =>
  obtain ⟨t,rfl⟩:=rx
  cases y with
  | byt j=>obtain ⟨t',rfl⟩:=ry;exact PySem.W.ne_bytes (yaP I q (congrArg not ze8))
  | _=>exact absurd (show false=true from hs) Bool.false_ne_true
 | _=>cases y<;>exact absurd (show false=true from hs) Bool.false_ne_true
theorem op_lt:OpR X (compareOp .Lt) (rI0 fun i j=>.bl (decide (i<j))):=opB0 fun _ _ _ _ _ _ _ q=>lt_int q
theorem op_le:OpR X (compareOp .LtE) (rI0 fun i j=>.bl (decide (i<=j))):=opB0 fun _ _ _ _ _ _ _ q=>le_int q
theorem yh2:OpR X (compareOp .Gt) (rI0 fun i j=>.bl (decide (j<i))):=opB0 fun _ _ _ _ _ _ _ q=>gt_int q
theorem yh3:OpR X (compareOp .GtE) (rI0 fun i j=>.bl (decide (j<=i))):=opB0 fun _ _ _ _ _ _ _ q=>ge_int q
theorem zgs:OpR X (compareOp .Lt) (fun x y H Q=>∃ i j,x = .str i/\y = .str j/\Q (.bl (decide (i.cps.toList<j.cps.toList))) H):=by
 intro pins s σ H x y v u Q I rx ry h
 obtain ⟨i,j,rfl,rfl,q⟩:=h
 obtain ⟨t,rfl⟩:=rx
 obtain ⟨t',rfl⟩:=ry
 exact lt_str (yaP I q rfl)
theorem ygJ:OpR X (compareOp .Is) (fun x y H Q=>y = .non/\Q (.bl (decide (x = .non))) H):=by
 intro pins s σ H x y v u Q I rx ry h
 obtain ⟨rfl,q⟩:=h
 cases ry
 refine is_none_gen (yaP I q ?_)
 cases x<;>first
  | (cases rx;rfl)
  | (obtain ⟨t,rfl⟩:=rx;rfl)
theorem zim:OpR X (compareOp .IsNot) (fun x y H Q=>y = .non/\Q (.bl (!decide (x = .non))) H):=by
 intro pins s σ H x y v u Q I rx ry h
 obtain ⟨rfl,q⟩:=h
 cases ry
 refine isnot_none_gen (yaP I q ?_)
 cases x<;>first
  | (cases rx;rfl)
  | (obtain ⟨t,rfl⟩:=rx;rfl)
theorem OpR.or {f:Value->Value->Sem Value} {r r':R2} (h:OpR X f r) (h':OpR X f r'):OpR X f (fun x y H Q=>r x y H Q\/r' x y H Q):=by
 intro pins s σ H x y v u Q I rx ry q
 rcases q with q | q
 ·exact h pins s σ H x y v u Q I rx ry q
 ·exact h' pins s σ H x y v u Q I rx ry q
theorem yap (b:Expr) {op:CmpOp} (h:op ≠ .In:=by decide) (h2:op ≠ .NotIn:=by decide):behindInMarks op b=false:=by
 have e1:(op == CmpOp.In)=false:=by cases op<;>first | rfl | exact absurd rfl h
 have e2:(op == CmpOp.NotIn)=false:=by cases op<;>first | rfl | exact absurd rfl h2
 cases b<;>simp [behindInMarks,e1,e2]
theorem zin {op:CmpOp} {r:R2} (ho:OpR X (compareOp op) r) (ha:PE X a ta) (hb:PE X b tb) (hm:behindInMarks op b=false):PE X (.Compare a [op] [b] pos) (tOp r ta tb):=by
 intro pins s σ H Q I h
 exact wpAny_Compare1 (binT ha hb I h fun v u s2 x y H2 I2 rx ry q=>ho pins s2 σ H2 x y v u Q I2 rx ry q) hm
def yh4 (t:TE):TT:=fun σ H Q=>t σ H fun x H' => ∃ k,x = .bl k/\Q k H'
theorem zio {op:CmpOp} {r:R2} (ho:OpR X (compareOp op) r) (ha:PE X a ta) (hb:PE X b tb) (hm:behindInMarks op b=false):PT X (.Compare a [op] [b] pos) (yh4 (tOp r ta tb)):=by
 intro pins s σ H Q I h
 refine wpAny_isTrue_Compare1 (thn (ha pins s σ H _ I h) fun v s1 ⟨x,H1,I1,r1,q1⟩=>thn (hb pins s1 σ H1 _ I1 q1) fun u s2 ⟨y,H2,I2,r2,q2⟩ =>
  thn (ho pins s2 σ H2 x y v u _ I2 r1 r2 q2) fun c s3 ⟨z,H3,I3,r3,k,e,q3⟩=>?_) hm
 subst e
 cases r3
 exact wpAny_truthy_bool ⟨H3,I3,q3⟩
def yfu (r r':R2) (ta tb tc:TE):TE:=fun σ H Q=>ta σ H fun x H1=>tb σ H1 fun y H2=>r x y H2 fun z H3=>∃ k,z = .bl k /\
 (if k=true then tc σ H3 fun w' H4=>r' y w' H4 Q else Q (.bl false) H3)
theorem zhd {op op':CmpOp} {r r':R2} (ho:OpR X (compareOp op) r) (ho':OpR X (compareOp op') r') (ha:PE X a ta) (hb:PE X b tb) (hc:PE X c tc)
  (hm:lastMarks [op,op'] [b,c]=false:=by with_unfolding_all rfl):PE X (.Compare a [op,op'] [b,c] pos) (yfu r r' ta tb tc):=by
 intro pins s σ H Q I h
 refine Compare_chain (thn (ha pins s σ H _ I h) fun v s1 ⟨x,H1,I1,r1,q1⟩=>chain_link (thn (hb pins s1 σ H1 _ I1 q1) fun u s2 ⟨y,H2,I2,r2,q2⟩ =>
  thn (ho pins s2 σ H2 x y v u _ I2 r1 r2 q2) fun d s3 ⟨z,H3,I3,r3,k,e,q3⟩=>?_)) hm
 subst e
 cases r3
 refine wpAny_truthy_bool ?_
 cases k with
 | false=>exact ite_ff ⟨.bl false,H3,I3,rfl,q3⟩
 | true=>exact ite_tt (chain_last (thn (hc pins s3 σ H3 _ I3 q3) fun w' s4 ⟨z',H4,I4,r4,q4⟩=>ho' pins s4 σ H4 y z' u w' Q I4 r2 r4 q4))
def TruV (K:PySem.W.Frag) (x:V) (H:Hp) (k:Bool):Prop :=
 match x with
 | .non=>k=false
 | .bl b=>k=b
 | .int i=>k=(i != 0)
 | .str y=>y.length<=sizeLine/\k=((y.length:Int) != 0)
 | .byt y=>y.size<=sizeLine/\k=((y.size:Int) != 0)
 | .ref p=>(∃ xs,SqL K H p xs/\k = !xs.isEmpty)\/(∃ xs,SqT K H p xs/\k = !xs.isEmpty)\/∃ kvs,H p=some (.dK kvs)/\k = !kvs.isEmpty
 | _=>False
theorem zf0 {κ:Type} {kvs:List (κ×V)} {vs:List (κ×Value)} (r:KV kvs vs):(!vs.isEmpty) = !kvs.isEmpty:=by
 cases r<;>rfl
theorem zcJ {xs:List V} {its:List Value} (r:Vals xs its):(!its.toArray.isEmpty) = !xs.isEmpty:=by
 cases r<;>simp
theorem ydg:(sizeLine:Nat)<2 ^ 63:=by rw [sizeLine_eq];decide
theorem ygK:TruR X (fun x H Q=>∃ k,TruV X.K x H k/\Q k H):=by
 intro pins s σ H x v Q I rx h
 obtain ⟨k,e,q⟩:=h
 have hl:=ydg
 have hs:sizeLine=16777216:=sizeLine_eq
 cases x with
 | non =>
  cases rx
  have e':k=false:=e
  subst e'
  exact truthy_none ⟨H,I,q⟩
 | bl b =>
  cases rx
  have e':k=b:=e
  subst e'
  exact wpAny_truthy_bool ⟨H,I,q⟩
 | int i =>
  obtain ⟨t,rfl⟩:=rx
  have e':k=(i != 0):=e
  subst e'
  exact PySem.P.truthy_int ⟨H,I,q⟩
 | str y =>
  obtain ⟨t,rfl⟩:=rx
  obtain ⟨hy,e'⟩:y.length<=sizeLine/\k=((y.length:Int) != 0):=e
  subst e'
  exact PySem.P.truthy_str (by omega) ⟨H,I.tok _,q⟩
 | byt y =>
  obtain ⟨t,rfl⟩:=rx
  obtain ⟨hy,e'⟩:y.size<=sizeLine/\k=((y.size:Int) != 0):=e
  subst e'
  exact PySem.W.truthy_bytes (by omega) ⟨H,I.tok _,q⟩
 | ref p =>
  cases rx
  have e':(∃ xs,SqL X.K H p xs/\k = !xs.isEmpty)\/(∃ xs,SqT X.K H p xs/\k = !xs.isEmpty)\/∃ kvs,H p=some (.dK kvs)/\k = !kvs.isEmpty:=e
  rcases e' with ⟨xs,hx,e'⟩ | ⟨xs,hx,e'⟩ | ⟨kvs,hx,e'⟩
  ·subst e'
   obtain ⟨its,r,pl,hz⟩:=I.list hx
   have hlen:=r.length
   exact wpAny_truthy_list pl.isList (by simp only [List.size_toArray];omega) ⟨H,I.tok _,by rw [zcJ r];exact q⟩
  ·subst e'
   obtain ⟨its,r,pl,hz⟩:=I.tuple hx
   have hlen:=r.length
   exact truthy_tuple pl (by simp only [List.size_toArray];omega) ⟨H,I.tok _,by rw [zcJ r];exact q⟩
  ·subst e'
   obtain ⟨hz,hS,vs,r,m⟩:kvs.length<=sizeLine/\(p == sysModules)=false/\∃ vs,KV kvs vs/\s.heap.DictOf (ybp X.prog X.w) p vs:=I.hok p _ hx
   have hlen:kvs.length=vs.length:=Paired.length r
   exact wpAny_truthy_dict hS m (by omega) ⟨H,I.tok _,by rw [zf0 r];exact q⟩
 | _=>exact (show False from e).elim
theorem zhe (ha:PE X a ta) (he:∀ whole,isTrue a X.env whole=(do let v <- whole;standAt a.pos;holding [v] (truthy v))) :
  PT X a (fun σ H Q=>ta σ H fun x H' => ∃ k,TruV X.K x H' k/\Q k H'):=by
 intro pins s σ H Q I h
 exact isTrue_plain (thn (ha pins s σ H _ I h) fun v s1 ⟨x,H1,I1,r1,q1⟩=>ygK pins s1 σ H1 x v Q I1 r1 q1) (he _)
theorem zf1:OpR X (binaryOp .Add) (fun x y H Q=>∃ i j,x = .str i/\y = .str j/\i.length+j.length<=sizeLine/\Q (.str (i++j)) H):=by
 intro pins s σ H x y v u Q I rx ry h
 obtain ⟨i,j,rfl,rfl,hz,q⟩:=h
 obtain ⟨t,rfl⟩:=rx
 obtain ⟨t',rfl⟩:=ry
 exact add_str (fun t' tk=>⟨.str (i++j),H,I.tok _,⟨_,rfl⟩,q⟩) hz
theorem ydv {x:V} {us:List Value} (r:Vals [x] us):∃ u,us=[u]/\RelV x u:=by
 cases r with
 | cons r1 r2=>cases r2;exact ⟨_,rfl,r1⟩
theorem ydP {x y:V} {us:List Value} (r:Vals [x,y] us):∃ u w',us=[u,w']/\RelV x u/\RelV y w' := by
 cases r with
 | cons r1 r2 =>
  cases r2 with
  | cons r3 r4=>cases r4;exact ⟨_,_,rfl,r1,r3⟩
theorem zhf:CallR X (.builtin "abs") (fun xs H Q=>∃ i,xs=[.int i]/\Q (.int (if i<0 then -i else i)) H):=by
 intro pins s σ H xs us Q I r h
 obtain ⟨i,rfl,q⟩:=h
 obtain ⟨u,rfl,t,rfl⟩:=ydv r
 exact call_abs_int fun u tk=>⟨.int (if i<0 then -i else i),H,I.tok _,⟨_,rfl⟩,q⟩
theorem zgt (hc:X.calm=true):CallR X (.builtin "max") (fun xs H Q=>∃ i j,xs=[.int i,.int j]/\Q (.int (if j > i then j else i)) H):=by
 intro pins s σ H xs us Q I r h
 obtain ⟨i,j,rfl,q⟩:=h
 obtain ⟨u,w',rfl,⟨t,rfl⟩,⟨t',rfl⟩⟩:=ydP r
 refine max_two_ints (I.ok.hd hc) fun h' tk k=>⟨_,H,I.kept k,?_,q⟩
 by_cases hj:j > i
 ·rw [if_pos hj,if_pos hj];exact ⟨_,rfl⟩
 ·rw [if_neg hj,if_neg hj];exact ⟨_,rfl⟩
theorem zgu (hc:X.calm=true):CallR X (.builtin "min") (fun xs H Q=>∃ i j,xs=[.int i,.int j]/\Q (.int (if j<i then j else i)) H):=by
 intro pins s σ H xs us Q I r h
 obtain ⟨i,j,rfl,q⟩:=h
 obtain ⟨u,w',rfl,⟨t,rfl⟩,⟨t',rfl⟩⟩:=ydP r
 refine min_two_ints (I.ok.hd hc) fun h' tk k=>⟨_,H,I.kept k,?_,q⟩
 by_cases hj:j<i
 ·rw [if_pos hj,if_pos hj];exact ⟨_,rfl⟩
 ·rw [if_neg hj,if_neg hj];exact ⟨_,rfl⟩
end
end L2
namespace L2
open PySem PySem.Spec PyProof.Rows
structure ObjM (h:Heap) (x dx C:Addr) (mA:Str->Option Value):Prop where
 obj:h.get? x=some (PySem.W.instObj C dx)
 ns:h.Ns1 dx mA
 ne:dx≠x
theorem zgv {h:Heap} {dx:Addr} {mA:Str->Option Value} (n:h.Ns1 dx mA):∃ od,h.get? dx=some od/\∀ name,PySem.W.lookIn name od=some (mA name):=by
 obtain ⟨o,es,ep,ho,hd,hk,_,hm⟩:=n
 refine ⟨o,ho,fun name=>?_⟩
 have e:=hm name
 unfold nsFind findBy at e
 rw [<- Array.find?_toList] at e
 unfold PySem.W.lookIn
 rw [hd]
 dsimp only
 split
 ·rename_i y q
  rw [q] at e
  exact congrArg some e
 ·rename_i q
  rw [q] at e
  have a:es.toList.any (·.refKey)=false:=by
   rw [List.any_eq_false]
   intro y hy
   obtain ⟨z,t,hkey⟩:=hk y (Array.mem_toList_iff.mp hy)
   simp [DictEntry.refKey,hkey]
  have a' : ¬ es.toList.any (·.refKey)=true:=by rw [a];exact Bool.false_ne_true
  rw [if_neg a']
  exact congrArg some e
theorem ObjM.look {h:Heap} {x dx C:Addr} {mA:Str->Option Value} (I:ObjM h x dx C mA):∃ od,PySem.W.InstAt h x (PySem.W.instObj C dx) C (some od)/\∀ name,PySem.W.lookIn name od=some (mA name) :=
 let ⟨od,ho,hl⟩:=zgv I.ns
 ⟨od,⟨I.obj,rfl,rfl,ho⟩,hl⟩
section
variable {prog:Program} {w:World} {A:Around} {E:Value->Shared->Prop} {s:Shared} {K:PySem.W.Frag} {x dx C f:Addr} {mA:Str->Option Value} {name:Str} {v:Value}
theorem ziq {expr:Bool} {Q:Value->Shared->Prop} (X:K.In s.heap) (I:ObjM s.heap x dx C mA) (hg:PySem.W.plainGet K C name=true) (hh:PySem.W.hasDictIn K C=true)
  (ha:PySem.W.findIn K (.ref C) name=some none) (hv:mA name=some v) (hv':PySem.W.handedIn v=true) (h:Q v { s with toks:=s.toks+1 }) :
  wpAny (model prog w) A (getAttr (.ref x) name expr) Q E s:=by
 obtain ⟨od,J,hl⟩:=I.look
 exact PySem.W.get_value X J (PySem.W.plainGet_of hg).1 (PySem.W.findObj_own hh ha rfl (by rw [hl,hv])) hv' h
theorem zhg {pl:Sem Bool} {Q:Value×List Value->Shared->Prop} (X:K.In s.heap) (I:ObjM s.heap x dx C mA) (hg:PySem.W.plainGet K C name=true)
  (hf:PySem.W.findIn K (.ref C) name=some (some (.ref f))) (ht:PySem.W.isFn K (.ref f)=true) (hv:mA name=none) (h:Q (.ref f,[.ref x]) s) :
  wpAny (model prog w) A (getMethod (.ref x) name pl) Q E s:=by
 obtain ⟨od,J,hl⟩:=I.look
 exact PySem.W.method_fn X J (PySem.W.plainGet_of hg).1 (PySem.W.plainGet_of hg).2 hf (beq_iff_eq.mp ht) (by show (PySem.W.lookIn name od).map (·.isSome)=some false;rw [hl,hv];rfl) h
theorem zir {ns:List Str} {Q:Unit->Shared->Prop} (X:K.In s.heap) (I:ObjM s.heap x dx C mA)
  (hs:PySem.W.findIn K (.ref C) "__setattr__" = some (some (.builtin "object.__setattr__"))) (hp:PySem.W.plainOver K C=true) (ht:PySem.W.takerIn K C name=some none) (hh:PySem.W.hasDictIn K C=true)
  (hw:PySem.Within mA ns) (hsz:ns.length<=sizeLine)
  (h:∀ h',ObjM h' x dx C (fun y=>if y=name then some v else mA y)->Heap.SameBut dx s.heap h'->Q () { s with heap:=h',toks:=s.toks+2 }) :
  wpAny (model prog w) A (setAttr (.ref x) name v) Q E s:=by
 obtain ⟨od,J,hl⟩:=I.look
 refine PySem.W.set_plain X J hs (PySem.W.osa_open (s:={ s with toks:=s.toks+1 }) (r:=none) X J hp ht fun b=>?_)
 obtain ⟨cd,hc,hd'⟩:=PySem.W.any_some hh
 have hx:s.heap.get? x=some ⟨.ref C,some dx,.plain,#[]⟩:=I.obj
 refine wpAny_bind (wpAny_pure (wpAny_bind (wpAny_bind (wpAny_loadPart hx (wpAny_bind (PySem.W.Looks.here (s:={ s with toks:=s.toks+1 }) (PySem.W.looks_clsIn X hc) ?_))))))
 rw [hd']
 refine wpAny_pure (a:=some dx) (wpAny_bind (wpAny_pure (wpAny_bind ?_)))
 refine wpAny_nsSet1 (s:={ s with toks:=s.toks+1 }) I.ns fun h' hn2 hs2=>?_
 obtain ⟨oD,esD,epD,hoD,hdD,hcD⟩:=hn2.count (PySem.Within.cons name v hw)
 refine wpAny_bind (wpAny_lookBehind hoD (by rw [hdD];exact pastItsLine_dict (Nat.le_trans hcD (by rw [List.length_cons];omega))) ?_)
 exact wpAny_pure (h _ ⟨(hs2.2 _ (Ne.symm I.ne)).trans I.obj,hn2,I.ne⟩ hs2)
theorem zhh {R:Result->Shared->Prop} {vs:List Value} {kw:List (Str×Value)} (X:K.In s.heap) (hm:PySem.W.makesIn K C=true)
  (hi:PySem.W.findIn K (.ref C) "__init__" = some (some (.ref f))) (hf:PySem.W.typeIn K (.ref f)=some (.type "function"))
  (h:codeAny (model prog w) (A.under (.builtin "type.__call__" ⟨.ref C::vs,kw⟩)) (.call (.ref f) ⟨.ref (s.heap.objs.size+1)::vs,kw⟩) (PySem.W.InitBack (s.heap.objs.size+1) R)
   { s with heap:=(s.heap.push PySem.W.emptyDict).push (PySem.W.instObj C s.heap.objs.size) }) :
  codeAny (model prog w) A (.call (.ref C) ⟨vs,kw⟩) R s:=by
 obtain ⟨hh,g,d,t,os⟩:=s
 exact PySem.W.make_core (PySem.W.makes_of X hm) (PySem.W.looks_findIn X hi) (fun self=>PySem.W.bind_fn X self hf) (.inl rfl) h
end
def putF (f:Str) (v:V):List (Str×V)->List (Str×V)
 | []=>[(f,v)]
 | (g,x)::r=>if g=f then (g,v)::r else (g,x)::putF f v r
theorem zaY (f g:Str) (v:V):∀ fs:List (Str×V),(putF f v fs).lookup g=if g=f then some v else fs.lookup g
 | []=>by
  show List.lookup g [(f,v)]=_
  by_cases h:g=f
  ·have hb:(g == f)=true:=beq_iff_eq.mpr h
   simp only [List.lookup,hb,if_pos h]
  ·have hb:(g == f)=false:=beq_eq_false_iff_ne.mpr h
   simp only [List.lookup,hb,if_neg h]
 | (k,x)::r=>by
  have ih:=zaY f g v r
  rw [show putF f v ((k,x)::r)=(if k=f then (k,v)::r else (k,x)::putF f v r) from rfl]
  by_cases hk:k=f
  ·rw [if_pos hk]
   by_cases h:g=k
   ·have hb:(g == k)=true:=beq_iff_eq.mpr h
    simp only [List.lookup,hb,if_pos (h.trans hk)]
   ·have hb:(g == k)=false:=beq_eq_false_iff_ne.mpr h
    simp only [List.lookup,hb,if_neg (fun e:g=f=>h (e.trans hk.symm))]
  ·rw [if_neg hk]
   by_cases h:g=k
   ·have hb:(g == k)=true:=beq_iff_eq.mpr h
    simp only [List.lookup,hb,if_neg (fun e:g=f=>hk (h.symm.trans e))]
   ·have hb:(g == k)=false:=beq_eq_false_iff_ne.mpr h
    simp only [List.lookup,hb]
    exact ih
theorem zbZ (f:Str) (v:V):∀ fs:List (Str×V),f∈(putF f v fs).map (·.1)/\∀ g,g∈fs.map (·.1)->g∈(putF f v fs).map (·.1)
 | []=>⟨by simp [putF],fun g h=>by simp at h⟩
 | (k,x)::r=>by
  obtain ⟨i1,i2⟩:=zbZ f v r
  rw [show putF f v ((k,x)::r)=(if k=f then (k,v)::r else (k,x)::putF f v r) from rfl]
  by_cases hk:k=f
  ·rw [if_pos hk]
   subst hk
   exact ⟨by simp,fun g h=>by simpa using h⟩
  ·rw [if_neg hk]
   refine ⟨?_,fun g h=>?_⟩
   ·rw [List.map_cons]
    exact List.mem_cons_of_mem _ i1
   ·rw [List.map_cons] at h ⊢
    rcases List.mem_cons.mp h with e | e
    ·exact List.mem_cons.mpr (.inl e)
    ·exact List.mem_cons_of_mem _ (i2 g e)
theorem zco (f:Str) (v:V):∀ fs:List (Str×V),(putF f v fs).length<=fs.length+1
 | []=>by simp [putF]
 | (k,x)::r=>by
  have ih:=zco f v r
  rw [show putF f v ((k,x)::r)=(if k=f then (k,v)::r else (k,x)::putF f v r) from rfl]
  by_cases hk:k=f
  ·rw [if_pos hk,List.length_cons,List.length_cons];omega
  ·rw [if_neg hk,List.length_cons,List.length_cons];omega
theorem RelO.some_of {v:V} {o:Option Value} (r:RelO (some v) o):∃ u,o=some u/\RelV v u:=by
 cases o with
 | none=>exact (show False from r).elim
 | some u=>exact ⟨u,rfl,r⟩
theorem RelO.none_of {o:Option Value} (r:RelO none o):o=none:=by
 cases o with
 | none=>rfl
 | some u=>exact (show False from r).elim
theorem zgw {v:V} {u:Value} (r:RelV v u):PySem.W.handedIn u=true:=by
 cases v with
 | non=>cases (show u=Value.none from r);rfl
 | bl b=>cases (show u=Value.bool b from r);rfl
 | int i=>obtain ⟨t,e⟩:=(show ∃ t,u=Value.int i t from r);cases e;rfl
 | str x=>obtain ⟨t,e⟩:=(show ∃ t,u=Value.str x t from r);cases e;rfl
 | byt b=>obtain ⟨t,e⟩:=(show ∃ t,u=Value.bytes b t from r);cases e;rfl
 | flt b=>obtain ⟨t,e⟩:=(show ∃ t,u=Value.float b t from r);cases e;rfl
 | ref a=>cases (show u=Value.ref a from r);rfl
 | ty n=>cases (show u=Value.type n from r);rfl
section
variable {P:Program} {w:World} {H H':Hp} {h h':Heap} {a C dx:Addr} {fs fs':List (Str×V)}
theorem zcd (hok:HOk P w H h) (e:H a=some (.ins C dx fs)):∃ mA,ObjM h a dx C mA/\(∀ f,RelO (fs.lookup f) (mA f))/\PySem.Within mA (fs.map (·.1))/\fs.length<=1000/\H dx=some (.own a):=by
 obtain ⟨d,z,ne,ob,mA,n,r,q⟩:=(show ObjOk P w H h a (.ins C dx fs) from hok a _ e)
 exact ⟨mA,⟨ob,n,ne⟩,r,q,z,d⟩
end
structure Cls (K:PySem.W.Frag) (C:Addr):Prop where
 pg:PySem.W.plainGet K C Str.empty=true
 hd:PySem.W.hasDictIn K C=true
 po:PySem.W.plainOver K C=true
 sa:PySem.W.findIn K (.ref C) "__setattr__" = some (some (.builtin "object.__setattr__"))
theorem Cls.get {K:PySem.W.Frag} {C:Addr} (c:Cls K C) (f:Str):PySem.W.plainGet K C f=true:=c.pg
def NoAttr (K:PySem.W.Frag) (C:Addr) (f:Str):Prop:=PySem.W.findIn K (.ref C) f=some none
theorem NoAttr.taker {K:PySem.W.Frag} {C:Addr} {f:Str} (n:NoAttr K C f):PySem.W.takerIn K C f=some none:=by
 unfold PySem.W.takerIn
 rw [show PySem.W.findIn K (.ref C) f=some none from n]
 rfl
structure Meth (K:PySem.W.Frag) (C:Addr) (m:Str) (f:Addr):Prop where
 at_:PySem.W.findIn K (.ref C) m=some (some (.ref f))
 fn:PySem.W.isFn K (.ref f)=true
 kp:PySem.W.keepIn K (.ref f)=true
section
variable {X:Cx} {pins:List (Addr×Obj)} {σ:St} {H:Hp} {s:Shared} {a C dx:Addr} {fs:List (Str×V)} {f:Str} {v:V} {A:Around} {E:Value->Shared->Prop}
theorem zf2 {b:Bool} {Q:Value->Shared->Prop} (I:Inv X pins σ H s) (e:H a=some (.ins C dx fs)) (c:Cls X.K C) (n:NoAttr X.K C f) (l:fs.lookup f=some v)
  (h:∀ u s',Inv X pins σ H s'->RelV v u->Q u s'):wpAny (model X.prog X.w) A (getAttr (.ref a) f b) Q E s:=by
 obtain ⟨mA,O,r,_,_,_⟩:=zcd I.hok e
 obtain ⟨u,hu,ru⟩:=RelO.some_of (v:=v) (o:=mA f) (by rw [<- l];exact r f)
 exact ziq I.kIn O (c.get f) c.hd n hu (zgw ru) (h u _ (I.tok _) ru)
theorem zcK {m:Str} {g:Addr} {pl:Sem Bool} {Q:Value×List Value->Shared->Prop} (I:Inv X pins σ H s) (e:H a=some (.ins C dx fs)) (c:Cls X.K C) (k:Meth X.K C m g) (l:fs.lookup m=none)
  (h:Q (.ref g,[.ref a]) s):wpAny (model X.prog X.w) A (getMethod (.ref a) m pl) Q E s:=by
 obtain ⟨mA,O,r,_,_,_⟩:=zcd I.hok e
 have hn:mA m=none:=RelO.none_of (by rw [<- l];exact r m)
 exact zhg I.kIn O (c.get m) k.at_ k.fn hn h
theorem zf3 {y:V} {u:Value} {Q:Unit->Shared->Prop} (I:Inv X pins σ H s) (e:H a=some (.ins C dx fs)) (c:Cls X.K C) (n:NoAttr X.K C f) (hl:fs.length<1000) (ry:RelV y u)
  (h:∀ s',Inv X pins σ (upd H a (.ins C dx (putF f y fs))) s'->Q () s'):wpAny (model X.prog X.w) A (setAttr (.ref a) f u) Q E s:=by
 obtain ⟨mA,O,r,wi,_,ho⟩:=zcd I.hok e
 have hz:(fs.map (·.1)).length<=sizeLine:=by rw [List.length_map,sizeLine_eq];omega
 refine zir I.kIn O c.sa c.po n.taker c.hd wi hz fun h' O' sb=>h _ ?_
 have hd:∃ o,h'.get? dx=some o:=let ⟨o,_,_,e',_⟩:=O'.ns;⟨o,e'⟩
 refine I.write (x:=a) (e:=dx) (by rw [e];exact True.intro) (.inr ho) (fun b q hb z=>(sb.2 b hb).trans z) hd ?_
 refine ⟨by rw [yax O.ne];exact ho,?_,O.ne,O'.obj,_,O'.ns,fun g=>?_,fun g hg=>?_⟩
 ·have:=zco f y fs;omega
 ·show RelO ((putF f y fs).lookup g) (if g=f then some u else mA g)
  rw [zaY]
  by_cases q:g=f
  ·rw [if_pos q,if_pos q];exact ry
  ·rw [if_neg q,if_neg q];exact r g
 ·by_cases q:g=f
  ·rw [q];exact (zbZ f y fs).1
  ·refine (zbZ f y fs).2 g (wi g fun z=>hg ?_)
   show (if g=f then some u else mA g)=none
   rw [if_neg q];exact z
theorem Inv.made (I:Inv X pins σ H s):Inv X pins σ (upd (upd H s.heap.objs.size (.own (s.heap.objs.size+1))) (s.heap.objs.size+1) (.ins C s.heap.objs.size []))
  { s with heap:=(s.heap.push PySem.W.emptyDict).push (PySem.W.instObj C s.heap.objs.size) }:=by
 have e1:(s.heap.push PySem.W.emptyDict).get? s.heap.objs.size=some PySem.W.emptyDict:=Heap.get?_push_size s.heap rfl
 have e2:((s.heap.push PySem.W.emptyDict).push (PySem.W.instObj C s.heap.objs.size)).get? (s.heap.objs.size+1)=some (PySem.W.instObj C s.heap.objs.size):=by
  have:=Heap.get?_push_size (s.heap.push PySem.W.emptyDict) (o:=PySem.W.instObj C s.heap.objs.size) rfl
  rwa [Heap.size_push] at this
 have e3:(s.heap.push PySem.W.emptyDict).Ns s.heap.objs.size (fun _=>none):=⟨PySem.W.emptyDict,#[],_,e1,rfl,(fun e he=>absurd he (by simp)),fun _=>rfl⟩
 have I1:=I.laid (a:=s.heap.objs.size) (o:=.own (s.heap.objs.size+1)) (h' := s.heap.push PySem.W.emptyDict) (t' := s.toks) (fun b u q=>Heap.get?_push_of_some _ q) (Nat.le_refl _) ⟨_,e1⟩
 refine I1.laid (a:=s.heap.objs.size+1) (o:=.ins C s.heap.objs.size []) (t' := s.toks) (fun b u q=>Heap.get?_push_of_some _ q) (Nat.le_of_eq (Heap.size_push _ _)) ?_
 have ne:s.heap.objs.size≠s.heap.objs.size+1:=Nat.ne_of_lt (Nat.lt_succ_self _)
 refine ⟨by rw [yax ne,zao],Nat.zero_le _,ne,e2,fun _=>none,(Heap.Ns1.of_empty e3).at fun o q=>Heap.get?_push_of_some _ q,fun _=>True.intro,fun y hy=>absurd rfl hy⟩
theorem zis {prog:Program} {w:World} {env:Env} {e:Expr} {f:Str} {pos:Pos} {s:Shared} {Q:Value->Shared->Prop} (hb:attributeBase e f env (eval e env)=eval e env)
  (h:wpAny (model prog w) A (eval e env) (fun o s₁=>wpAny (model prog w) A (getAttr o f true) Q E s₁) E s):wpAny (model prog w) A (eval (.Attribute e f pos) env) Q E s :=
 Attribute_any_ h (by rw [arm_eval_Attribute,hb])
end
def tFld (K:PySem.W.Frag) (ta:TE) (f:Str):TE:=fun σ H Q=>ta σ H fun x H1=>∃ a C dx fs v,x = .ref a/\H1 a=some (.ins C dx fs)/\Cls K C/\NoAttr K C f/\fs.lookup f=some v/\Q v H1
def sFld (K:PySem.W.Frag) (ta tv:TE) (f:Str):TS:=fun D σ H=>tv σ H fun y H1=>ta σ H1 fun x H2=>∃ a C dx fs,x = .ref a/\H2 a=some (.ins C dx fs)/\Cls K C/\NoAttr K C f/\fs.length<1000 /\
 D.nx σ (upd H2 a (.ins C dx (putF f y fs)))
section
variable {X:Cx} {o e value:Expr} {f:Str} {pos pos' tpos:Pos} {ta tv:TE}
theorem ygL (he:PE X e ta) (hb:attributeBase e f X.env (eval e X.env)=eval e X.env):PE X (.Attribute e f pos) (tFld X.K ta f):=by
 intro pins s σ H Q I h
 refine zis hb (thn (he pins s σ H _ I h) fun u s1 ⟨x,H1,I1,rx,a,C,dx,fs,v,ex,ea,c,n,l,q⟩=>?_)
 subst ex
 obtain rfl:u=Value.ref a:=rx
 exact zf2 I1 ea c n l fun u' s2 I2 ru=>⟨v,H1,I2,ru,q⟩
theorem ygM (ha:PE X o ta) (hv:PE X value tv) (hs:swapsWith value (some (.Attribute o f pos')) pos.line X.env=pure false):PS X (.Assign [.Attribute o f pos'] value pos) (sFld X.K ta tv f):=by
 intro pins s σ H D I h
 refine plainObj_wpAny_Assign_Attribute (thn (hv pins s σ H _ I h) fun u s1 ⟨y,H1,I1,ry,q⟩=>thn (ha pins s1 σ H1 _ I1 q) fun ov s2 ⟨x,H2,I2,rx,a,C,dx,fs,ex,ea,c,n,l,q2⟩=>?_) hs
 subst ex
 obtain rfl:ov=Value.ref a:=rx
 exact zf3 I2 ea c n l ry fun s3 I3=>⟨σ,_,I3,q2⟩
end
section
variable {X:Cx} {pins:List (Addr×Obj)} {σ:St} {H:Hp} {s:Shared} {A:Around} {E:Value->Shared->Prop} {Q:Value->Shared->Prop} {c:Value} {b:Bool}
inductive TyOf (K:PySem.W.Frag) (H:Hp):V->Value->Prop where
 | non:TyOf K H .non (.type "NoneType")
 | bl (x:Bool):TyOf K H (.bl x) (.type "bool")
 | int (i:Int):TyOf K H (.int i) (.type "int")
 | str (x:Str):TyOf K H (.str x) (.type "str")
 | flt (x:UInt64):TyOf K H (.flt x) (.type "float")
 | lst {a:Addr} {xs:List V} (e:H a=some (.lst xs)):TyOf K H (.ref a) (.type "list")
 | frz {a:Addr} {o:Obj} {xs:List V} (e:H a=some (.frz o (.lst xs))):TyOf K H (.ref a) (.type "list")
 | tup {a:Addr} {xs:List V} (e:H a=some (.tup xs)):TyOf K H (.ref a) (.type "tuple")
 | dK {a:Addr} {kvs:List (Key×V)} (e:H a=some (.dK kvs)):TyOf K H (.ref a) (.type "dict")
 | dT {a:Addr} {kvs:List (List Key×V)} (e:H a=some (.dT kvs)):TyOf K H (.ref a) (.type "dict")
 | ins {a C dx:Addr} {fs:List (Str×V)} (e:H a=some (.ins C dx fs)) (cl:Cls K C) (ha:PySem.W.findIn K (.ref C) "__class__" = some (some (.builtin "object.__class__")))
   (hn:PySem.W.specialIn K (.builtin "object.__class__") "__get__" = some (some (.builtin "getset_descriptor.__get__"))) (htk:PySem.W.takesIn K (.builtin "object.__class__")=some true)
   (hm:PySem.W.mroIn K C (.type "object")=some true):TyOf K H (.ref a) (.ref C)
theorem zgx {x:V} {u t:Value} (I:Inv X pins σ H s) (rx:RelV x u) (ty:TyOf X.K H x t) (e:PySem.W.kitOne X.K t c=some b) (h:∀ tk,Q (.bool b) { s with toks:=tk }) :
  wpAny (model X.prog X.w) A (call (.builtin "isinstance") [u,c]) Q E s:=by
 cases ty with
 | non=>cases (show u=Value.none from rx);exact PySem.W.kia_one PySem.W.kitx_none I.kIn True.intro e (fun z=>nomatch z) h
 | bl y=>cases (show u=Value.bool y from rx);exact PySem.W.kia_one PySem.W.kitx_bool I.kIn True.intro e (fun z=>nomatch z) h
 | int i=>obtain ⟨t,q⟩:=(show ∃ t,u=Value.int i t from rx);cases q;exact PySem.W.kia_one PySem.W.kitx_int I.kIn True.intro e (fun z=>nomatch z) h
 | str y=>obtain ⟨t,q⟩:=(show ∃ t,u=Value.str y t from rx);cases q;exact PySem.W.kia_one PySem.W.kitx_str I.kIn True.intro e (fun z=>nomatch z) h
 | flt y=>obtain ⟨t,q⟩:=(show ∃ t,u=Value.float y t from rx);cases q;exact PySem.W.kia_one PySem.W.kitx_float I.kIn True.intro e (fun z=>nomatch z) h
 | @lst a xs ea =>
  cases (show u=Value.ref a from rx)
  obtain ⟨_,_,n,_,h1⟩:=(show ObjOk X.prog X.w H s.heap a (.lst xs) from I.hok a _ ea)
  exact PySem.W.kia_one PySem.W.kitx_list I.kIn ⟨_,h1,rfl⟩ e (fun z=>nomatch z) h
 | @frz a ob xs ea =>
  cases (show u=Value.ref a from rx)
  obtain ⟨_,_,_,n,_,h1⟩:=(show ObjOk X.prog X.w H s.heap a (.frz ob (.lst xs)) from I.hok a _ ea)
  exact PySem.W.kia_one PySem.W.kitx_list I.kIn ⟨_,h1,rfl⟩ e (fun z=>nomatch z) h
 | @tup a xs ea =>
  cases (show u=Value.ref a from rx)
  obtain ⟨_,_,_,p⟩:=(show ObjOk X.prog X.w H s.heap a (.tup xs) from I.hok a _ ea)
  obtain ⟨o,h1,h2,_⟩:=p
  exact PySem.W.kia_one PySem.W.kitx_tuple I.kIn ⟨o,h1,h2⟩ e (fun z=>nomatch z) h
 | @dK a kvs ea =>
  cases (show u=Value.ref a from rx)
  obtain ⟨_,_,vs,_,p⟩:=(show ObjOk X.prog X.w H s.heap a (.dK kvs) from I.hok a _ ea)
  obtain ⟨o,es,ep,h1,h2,_⟩:=p
  exact PySem.W.kia_one PySem.W.kitx_dict I.kIn ⟨o,h1,h2.1⟩ e (fun z=>nomatch z) h
 | @dT a kvs ea =>
  cases (show u=Value.ref a from rx)
  obtain ⟨_,_,xs,_,o,es,ep,h1,h2,_⟩:=(show ObjOk X.prog X.w H s.heap a (.dT kvs) from I.hok a _ ea)
  exact PySem.W.kia_one PySem.W.kitx_dict I.kIn ⟨o,h1,h2.1⟩ e (fun z=>nomatch z) h
 | @ins a C dx fs ea cl ha hn htk hm =>
  cases (show u=Value.ref a from rx)
  obtain ⟨mA,O,_⟩:=zcd I.hok ea
  obtain ⟨od,J,_⟩:=O.look
  exact PySem.W.kia_one (PySem.W.kitx_own (cl.get _) cl.hd ha hn htk hm) I.kIn J e (fun z=>nomatch z) h
end
end L2
namespace L2
open PySem PySem.Spec PyProof.Rows
structure Room (k:Nat) (A:Around):Prop where
 hd:A.handled=none
 dp:A.depth+3*k+5<recursionLimit
 un:A.units+16*k+200<cLine
theorem Room.mono {j k:Nat} {A:Around} (r:Room k A) (h:j<=k):Room j A:=⟨r.hd,by have:=r.dp;omega,by have:=r.un;omega⟩
theorem Room.deeper {k:Nat} {A:Around} (r:Room (k+1) A) (env:Env):Room k (A.deeper env) :=
 ⟨r.hd,by have:=r.dp;show A.depth+1+3*k+5<_;omega,by have:=r.un;show A.units+3+16*k+200<_;omega⟩
theorem zf4 {A:Around} {C:Addr} {us:List Value} {kw:List (Str×Value)}:(A.under (.builtin "type.__call__" ⟨.ref C::us,kw⟩)).depth=A.depth+1:=by
 first | rfl | simp [Around.under,Code.weight,Code.isCreation,Code.isGuard,Code.isCaller,Code.frames,Code.isFrame,guardIds]
theorem zf5 {A:Around} {C:Addr} {us:List Value} {kw:List (Str×Value)}:(A.under (.builtin "type.__call__" ⟨.ref C::us,kw⟩)).units=A.units+1:=by
 first | rfl | simp [Around.under,Code.cUnits,Code.frames,Code.isFrame]
theorem Room.make {k:Nat} {A:Around} (r:Room (k+1) A) (C:Addr) (us:List Value) (kw:List (Str×Value)):Room k (A.under (.builtin "type.__call__" ⟨.ref C::us,kw⟩)) :=
 ⟨r.hd,by have:=r.dp;rw [zf4];omega,by have:=r.un;rw [zf5];omega⟩
theorem Room.depth {k:Nat} {A:Around} (r:Room k A):A.depth<recursionLimit:=by have:=r.dp;omega
def tNil:TA:=fun _ H Q=>Q [] H
def yh5 (ta:TE) (tr:TA):TA:=fun σ H Q=>ta σ H fun x H1=>tr σ H1 fun xs H2=>Q (x::xs) H2
section
variable {X:Cx} {e:Expr} {es:List Expr} {te:TE} {t:TA} {pos:Pos}
theorem yd2:PA X [] tNil:=fun _ _ _ _ H Q I h=>Calls.spliced_nil ⟨[],H,I,.nil,h⟩
theorem zaN (ha:PE X e te) (hr:PA X es t) (hs:starEach (e::es) X.env=(false,eval e X.env)::starEach es X.env:=by rfl):PA X (e::es) (yh5 te t):=by
 intro pos pins s σ H Q I h
 rw [hs]
 show wpAny _ _ (spliced ((false,eval e X.env)::backTo pos (starEach es X.env))) _ _ s
 refine Calls.spliced_cons (thn (ha pins s σ H _ I h) fun u s1 ⟨x,H1,I1,r1,q1⟩=>?_)
 exact thn (hr pos pins s1 σ H1 _ I1 q1) fun us s2 ⟨xs,H2,I2,r2,q2⟩=>⟨x::xs,H2,I2,.cons r1 r2,q2⟩
def tTup (t:TA):TE:=fun σ H Q=>t σ H fun xs H1=>xs.length<=sizeLine/\∀ p,H1 p=none->Q (.ref p) (upd H1 p (.tup xs))
def tLst (t:TA):TE:=fun σ H Q=>t σ H fun xs H1=>xs.length<=sizeLine/\∀ p,H1 p=none->Q (.ref p) (upd H1 p (.lst xs))
theorem yfv {x1} (h:PA X es t):PE X (.Tuple es x1 pos) (tTup t):=by
 intro pins s σ H Q I hq
 refine wpAny_Tuple_spliced (thn (h pos pins s σ H _ I hq) fun us s1 ⟨xs,H1,I1,r,z,q⟩=>⟨by rw [<- r.length];exact z,?_⟩)
 have hf:H1 s1.heap.objs.size=none:=I1.hok.fresh (Nat.le_refl _)
 refine ⟨.ref s1.heap.objs.size,upd H1 s1.heap.objs.size (.tup xs),I1.laid (t' := s1.toks) (fun b u e=>Heap.get?_push_of_some _ e) (Nat.le_refl _) ?_,rfl,q _ hf⟩
 exact ⟨z,us,r,⟨_,Heap.get?_push_size _ rfl,rfl,_,rfl⟩⟩
theorem yfw (h:PA X es t):PE X (.List es pos) (tLst t):=by
 intro pins s σ H Q I hq
 refine wpAny_List_spliced (thn (h pos pins s σ H _ I hq) fun us s1 ⟨xs,H1,I1,r,z,q⟩=>⟨by rw [<- r.length];exact z,?_⟩)
 have hf:H1 s1.heap.objs.size=none:=I1.hok.fresh (Nat.le_refl _)
 refine ⟨.ref s1.heap.objs.size,upd H1 s1.heap.objs.size (.lst xs),I1.laid (t' := s1.toks) (fun b u e=>Heap.get?_push_of_some _ e) (Nat.le_refl _) ?_,rfl,q _ hf⟩
 exact ⟨z,us,0,r,Heap.get?_push_size _ rfl⟩
end
abbrev Sp:=List V->Hp->VK->XK->Prop
abbrev CXT:=List Env->Hp->Shared->XK->Value->Shared->Prop
structure Env0 (P:Program) (w:World) (K:PySem.W.Frag) (mg:Str->Option Value) (base:Heap) (A:Around) (outer:List Env) (s:Shared) (H:Hp):Prop where
 frames:A.frames=some outer
 mod:Mod K mg base
 bs:∀ b o,base.get? b=some o->s.heap.get? b=some o/\H b=none
 bsz:base.objs.size<=s.heap.objs.size
 funs:s.heap.FunFrames base outer
 frf:∀ b∈frs outer,H b=none
 hok:HOk P w H s.heap
 bare:AllBare s.gens
def CE (outer:List Env) (P:Program) (w:World) (H:Hp) (s:Shared) (Q:VK) (u:Value) (s':Shared):Prop :=
 ∃ v H',s'.os=s.os/\AllBare s'.gens/\Un (frs outer) [] H H' s.heap s'.heap/\HOk P w H' s'.heap/\RelV v u/\Q v H'
def CR (CX:CXT) (outer:List Env) (P:Program) (w:World) (H:Hp) (s:Shared) (Q:VK) (E:XK) (r:Result) (s':Shared):Prop :=
 match r with
 | .ok (.ret u)=>CE outer P w H s Q u s'
 | .ok _=>False
 | .error e=>CX outer H s E e s'
structure FnOk (P:Program) (w:World) (K:PySem.W.Frag) (mg:Str->Option Value) (base:Heap) (CX:CXT) (k:Nat) (f:Addr) (fd:FuncData) (ps:List Str) (sp:Sp):Prop where
 len:∀ vs H Q E,sp vs H Q E->vs.length=ps.length
 run:∀ (A:Around) (outer:List Env) (s:Shared) (H:Hp) (args:Args) (us:List Value) (vs:List V) (Q:VK) (E:XK),Room k A->Env0 P w K mg base A outer s H->BindsTo s fd args (ps.zip us)->Vals vs us->sp vs H Q E ->
  codeAny (model P w) A (.call (.ref f) args) (CR CX outer P w H s Q E) s
theorem FnOk.imp {P:Program} {w:World} {K:PySem.W.Frag} {mg:Str->Option Value} {base:Heap} {CX:CXT} {k:Nat} {f:Addr} {fd:FuncData} {ps:List Str} {sp sp':Sp} (F:FnOk P w K mg base CX k f fd ps sp)
  (h:∀ vs H Q E,sp' vs H Q E->sp vs H Q E):FnOk P w K mg base CX k f fd ps sp' :=
 ⟨fun vs H Q E q=>F.len vs H Q E (h _ _ _ _ q),fun A outer s H args us vs Q E hr he hb hv hs=>F.run A outer s H args us vs Q E hr he hb hv (h _ _ _ _ hs)⟩
theorem Env0.make {P:Program} {w:World} {K:PySem.W.Frag} {mg:Str->Option Value} {base:Heap} {A:Around} {outer:List Env} {s:Shared} {H:Hp} (e:Env0 P w K mg base A outer s H) (C:Addr) (us:List Value) (kw:List (Str×Value)) :
  Env0 P w K mg base (A.under (.builtin "type.__call__" ⟨.ref C::us,kw⟩)) outer s H:=⟨by first | exact e.frames | (simpa [Around.under,Code.envs,Code.isFrame,pushEnvs] using e.frames),e.mod,e.bs,e.bsz,e.funs,e.frf,e.hok,e.bare⟩
section
variable {X:Cx} {pins:List (Addr×Obj)} {σ:St} {H:Hp} {s s':Shared}
theorem Inv.env0 (I:Inv X pins σ H s):Env0 X.prog X.w X.K X.mg X.base X.A X.stack s H :=
 ⟨I.ok.frames,I.ok.mod,I.bs,Nat.le_trans I.ok.bsz I.sz,I.stack,I.stkFree,I.hok,I.bare⟩
theorem Inv.after {Q:VK} {u:Value} (I:Inv X pins σ H s) (h:CE X.stack X.prog X.w H s Q u s'):EP X pins σ Q u s' := by
 obtain ⟨v,H',os,bare,un,hok,r,q⟩:=h
 obtain ⟨hh,g,d,t,os'⟩:=s'
 obtain rfl:os'=s.os:=os
 exact ⟨v,H',I.call (h' := hh) (g' := g) (d' := d) (t' := t) (ch:=[]) un hok bare (fun b z=>absurd z (by simp)),r,q⟩
end
def Binds (K:PySem.W.Frag) (fd:FuncData) (ps:List Str) (ds:List Value):Prop :=
 ∀ (s:Shared) (us:List Value),K.In s.heap->(us++ds).length=ps.length->BindsTo s fd ⟨us,[]⟩ (ps.zip (us++ds))
theorem Binds.all {K:PySem.W.Frag} {fd:FuncData} {ps:List Str} (h:∀ us:List Value,us.length=ps.length->bindArgs fd ⟨us,[]⟩=pure (ps.zip us)):Binds K fd ps []:=fun s us _ hl=>by
 rw [List.append_nil] at hl ⊢
 exact .of_eq (h us hl)
def ygN (CX:CXT) (X:Cx) (E:XK):Prop:=∀ (pins:List (Addr×Obj)) (σ:St) (H:Hp) (s:Shared) (e:Value) (s':Shared),Inv X pins σ H s->CX X.stack H s E e s'->X.xe e s'
section
variable {X:Cx} {CX:CXT} {k:Nat} {f C:Addr} {fd:FuncData} {ps:List Str} {sp:Sp} {dvs:List V} {ds:List Value} {E:XK} {x m:Str} {p pos apos:Pos} {e o:Expr} {es:List Expr} {ta:TE} {t:TA}
structure Mk (K:PySem.W.Frag) (C f:Addr):Prop where
 makes:PySem.W.makesIn K C=true
 init:PySem.W.findIn K (.ref C) "__init__" = some (some (.ref f))
 fn:PySem.W.isFn K (.ref f)=true
 kp:PySem.W.keepIn K (.ref C)=true
end
section
variable {X:Cx} {CX:CXT} {k:Nat} {f C:Addr} {fd:FuncData} {ps ks:List Str} {sp:Sp} {E:XK} {x m:Str} {p pos apos kpos:Pos} {e o:Expr} {es:List Expr} {kws:List Keyword} {te ta:TE} {t tk:TA} {nm:Option Str}
variable {g:List Value->List Value->List Value} {gV:List V->List V->List V}
end
structure FnScope (N P:List Str) (sc:Scope):Prop where
 kind:sc.kind = .function
 co:sc.isCoroutine=false
 gen:sc.isGenerator=false
 nd:N.Nodup
 pre:N.take P.length=P
 par:∀ x∈P,sc.names.lookup x=some .local\/sc.names.lookup x=some .cell
 nofree:∀ y∈sc.names,y.2 ≠ .free
theorem zdp {kindOf:Str->Option NameKind} {x:Str}:∀ {binds:List (Str×Value)} {m:Str->Option Value},(∀ v,(x,v)∉binds)->bindL kindOf binds m x=m x
 | [],_,_=>rfl
 | (n,v)::r,m,h=>by
  unfold bindL
  rw [zdp fun w hw=>h w (List.mem_cons_of_mem _ hw)]
  split
  ·have:x≠n:=by rintro rfl;exact h v List.mem_cons_self
   simp [this]
  ·rfl
theorem zdq {kindOf:Str->Option NameKind} {x:Str}:∀ {binds:List (Str×Value)} {m:Str->Option Value},(∀ v,(x,v)∉binds)->bindC kindOf binds m x=m x
 | [],_,_=>rfl
 | (n,v)::r,m,h=>by
  unfold bindC
  rw [zdq fun w hw=>h w (List.mem_cons_of_mem _ hw)]
  split
  ·rfl
  ·have:x≠n:=by rintro rfl;exact h v List.mem_cons_self
   simp [this]
theorem zdr {kindOf:Str->Option NameKind} {x:Str} {v:Value}:∀ {P:List Str} {vs:List Value} {i:Nat} {m:Str->Option Value},P.Nodup->P[i]? = some x->vs[i]? = some v->kindOf x=some .local ->
  bindL kindOf (P.zip vs) m x=some v
 | [],_,_,_,_,h,_,_=>by simp at h
 | _::_,[],_,_,_,_,h,_=>by simp at h
 | p::P,w::vs,0,m,nd,h1,h2,hk=>by
  simp at h1 h2;subst h1;subst h2
  show bindL kindOf ((p,w)::P.zip vs) m p=_
  unfold bindL
  rw [zdp fun v hv=>(List.nodup_cons.mp nd).1 (List.of_mem_zip hv).1,if_pos hk]
  simp
 | p::P,w::vs,i+1,m,nd,h1,h2,hk=>by
  show bindL kindOf ((p,w)::P.zip vs) m x=_
  unfold bindL
  exact zdr (i:=i) (List.nodup_cons.mp nd).2 (by simpa using h1) (by simpa using h2) hk
theorem zds {kindOf:Str->Option NameKind} {x:Str} {v:Value}:∀ {P:List Str} {vs:List Value} {i:Nat} {m:Str->Option Value},P.Nodup->P[i]? = some x->vs[i]? = some v->kindOf x≠some .local ->
  bindC kindOf (P.zip vs) m x=some v
 | [],_,_,_,_,h,_,_=>by simp at h
 | _::_,[],_,_,_,_,h,_=>by simp at h
 | p::P,w::vs,0,m,nd,h1,h2,hk=>by
  simp at h1 h2;subst h1;subst h2
  show bindC kindOf ((p,w)::P.zip vs) m p=_
  unfold bindC
  rw [zdq fun v hv=>(List.nodup_cons.mp nd).1 (List.of_mem_zip hv).1,if_neg hk]
  simp
 | p::P,w::vs,i+1,m,nd,h1,h2,hk=>by
  show bindC kindOf ((p,w)::P.zip vs) m x=_
  unfold bindC
  exact zds (i:=i) (List.nodup_cons.mp nd).2 (by simpa using h1) (by simpa using h2) hk
def start (N:List Str) (vs:List V):St:=vs.map some++List.replicate (N.length-vs.length) none
def cxOf (CX:CXT) (P:Program) (w:World) (K:PySem.W.Frag) (mg:Str->Option Value) (base:Heap) (N:List Str) (qual:Str) (scope:Scope) (f:Addr) (cd:Value) (A:Around) (outer:List Env) (s:Shared) (H:Hp) (E:XK):Cx where
 prog:=P
 w:=w
 K:=K
 mg:=mg
 base:=base
 A:=A.deeper (envOfC qual scope s.heap.objs.size f cd)
 N:=N
 s₀:=s
 H₀:=H
 env:=envOfC qual scope s.heap.objs.size f cd
 outer:=outer
 stack:=envOfC qual scope s.heap.objs.size f cd::outer
 ex:=[]
 calm:=true
 fn:=fun _=>true
 pn:=[]
 xe:=fun e s' => wpAny (model P w) (A.deeper (envOfC qual scope s.heap.objs.size f cd)) (leaving (envOfC qual scope s.heap.objs.size f cd) e) (fun _ s'' => CX outer H s E e s'') (fun e' s'' => CX outer H s E e' s'') s'
theorem zd6 {sc:Scope} {n:Nat} {x:Str} (h:sc.names.lookup x=some .cell):∃ c,(cellsFrom n sc.names []).lookup x=some c:=by
 have q:=PySem.W.cellsFrom_some sc.names n [] (.inl h)
 exact Option.isSome_iff_exists.mp q
theorem zgy {CX:CXT} {P:Program} {w:World} {K:PySem.W.Frag} {mg:Str->Option Value} {base:Heap} {N ps:List Str} {qual:Str} {scope:Scope} {f:Addr} {cd:Value} {A:Around} {outer:List Env} {s s1:Shared} {H:Hp} {E:XK} {us:List Value} {vs:List V}
  (S:FnScope N ps scope) (hd:A.handled=none) (e0:Env0 P w K mg base A outer s H) (hl:vs.length=ps.length) (r:Vals vs us)
  (x:InCallC s s.heap.objs.size (bindL (envOfC qual scope s.heap.objs.size f cd).kindOf (ps.zip us) fun _=>none) (cellsFrom (s.heap.objs.size+1) scope.names []) (bindC (envOfC qual scope s.heap.objs.size f cd).kindOf (ps.zip us) fun _=>none) s1) :
  Inv (cxOf CX P w K mg base N qual scope f cd A outer s H E) [] (start N vs) H s1:=by
 have hpl:ps.length<=N.length:=by have:=congrArg List.length S.pre;rw [List.length_take] at this;omega
 obtain ⟨h1,tk,rfl,hk⟩:=x.done
 have noA:∀ b:Addr,b∉(cxOf CX P w K mg base N qual scope f cd A outer s H E).ex:=fun b z=>absurd (show b∈([]:List Addr) from z) (by simp)
 refine ⟨⟨e0.mod,S.kind,rfl,rfl,Nat.le_refl _,fun y z c h1 h2=>?_,fun y hy=>?_,fun y c _ h=>?_,fun _=>hd,Around.frames_deeper e0.frames,.inr ⟨rfl,rfl⟩,fun b z=>absurd z (noA b),e0.bs,e0.bsz,fun b _ _=>noA b,fun b z=>absurd z (noA b),e0.funs,e0.frf⟩,
  rfl,e0.bare,Un.kept hk,⟨_,x.toInCall.ns,fun i y v h1 h2 h3=>?_⟩,fun y c h=>⟨_,x.cell y c h⟩,e0.hok.fresh (Nat.le_refl _),fun y c h=>?_,fun p hp=>absurd (show p∈([]:List (Addr×Obj)) from hp) (by simp),e0.hok.kept hk,?_⟩
 ·exact name_of_addr x.apart (PySem.mem_of_lookup h1) (PySem.mem_of_lookup h2)
 ·have hy:scope.names.lookup y=some .cell\/scope.names.lookup y=some .free:=hy
  rcases hy with hy | hy
  ·exact zd6 hy
  ·exact absurd rfl (S.nofree _ (PySem.mem_of_lookup hy))
 ·exact Nat.le_of_lt (x.above y c (PySem.mem_of_lookup h))
 ·have hi:i<vs.length:=by
   unfold start at h2
   by_cases hi:i<vs.length
   ·exact hi
   ·rw [List.getElem?_append_right (by simpa using hi)] at h2
    rw [List.getElem?_replicate] at h2
    split at h2<;>cases h2
  have ha:vs[i]? = some v:=by
   unfold start at h2
   rw [List.getElem?_append_left (by simpa using hi),List.getElem?_map] at h2
   cases e:vs[i]? with
   | none=>rw [e] at h2;cases h2
   | some a=>rw [e] at h2;cases h2;rfl
  obtain ⟨u,hu,rv⟩:=r.get ha
  have hp:ps[i]? = some y:=by
   rw [<- S.pre,List.getElem?_take_of_lt (by omega)];exact h1
  have ndP:ps.Nodup:=by rw [<- S.pre];exact S.nd.sublist (List.take_sublist _ _)
  refine ⟨u,rv,?_⟩
  rcases S.par y (List.mem_of_getElem? hp) with k | k
  ·exact .inl ⟨k,zdr ndP hp hu k⟩
  ·obtain ⟨c,e⟩:=zd6 (n:=s.heap.objs.size+1) k
   refine .inr ⟨.inl k,c,e,?_⟩
   have q:=x.cell y c e
   rw [zds ndP hp hu (by show scope.names.lookup y≠_;rw [k];decide)] at q
   exact q
 ·exact e0.hok.fresh (Nat.le_of_lt (x.above y c (PySem.mem_of_lookup h)))
 ·unfold start
  show _=N.length
  rw [List.length_append,List.length_map,List.length_replicate]
  omega
theorem yh6 {CX:CXT} {P:Program} {w:World} {K:PySem.W.Frag} {mg:Str->Option Value} {base:Heap} {k:Nat} {f:Addr} {name qual:Str} {params:Arguments} {body:List Stmt} {scope:Scope} {dV kV doc pm cdv ct oc:Value} {an od:Option Addr}
  {osl:Array (Option Value)} {N ps:List Str} {sp:Sp} (lk:K.lookup f=some ⟨oc,od,.func (PySem.W.fnOf name qual params body scope dV kV doc pm an cdv ct),osl⟩) (hcd:PySem.W.codeIn K cdv qual=true) (S:FnScope N ps scope)
  (len:∀ vs H Q E,sp vs H Q E->vs.length=ps.length)
  (hbody:∀ (A:Around) (outer:List Env) (s:Shared) (H:Hp) (vs:List V) (Q:VK) (E:XK),Room k (A.deeper (envOfC qual scope s.heap.objs.size f cdv))->sp vs H Q E ->
   ∃ t,PSs (cxOf CX P w K mg base N qual scope f cdv A outer s H E) body t/\t { nx:=fun _ H' => Q .non H',rt:=Q } (start N vs) H) :
  FnOk P w K mg base CX (k+1) f (PySem.W.fnOf name qual params body scope dV kV doc pm an cdv ct) ps sp:=by
 refine ⟨len,fun A outer s H args us vs Q E hr e0 hb r hsp=>?_⟩
 have hl:=len _ _ _ _ hsp
 have KX:K.In s.heap:=e0.mod.kin.keeps fun b o e=>(e0.bs b o e).1
 have lim:s.heap.NoLimit:=e0.mod.nolimit.keeps fun b o e=>(e0.bs b o e).1
 have hkind:∀ y∈ps.zip us,scope.names.lookup y.1=some .local\/(scope.names.lookup y.1=some .cell/\((cellsFrom (s.heap.objs.size+1) scope.names []).lookup y.1).isSome=true):=fun ⟨n,v⟩ hy=>by
  rcases S.par n (List.of_mem_zip hy).1 with q | q
  ·exact .inl q
  ·exact .inr ⟨q,PySem.W.cellsFrom_some _ _ _ (.inl q)⟩
 refine codeAny_call_function hr.depth (KX _ _ lk) rfl S.co S.gen rfl (PySem.W.codeRec_of KX hcd) (hb _ _ _ _ ?_)
 refine wpAny_newFunctionEnv_cells S.kind hkind fun env he s1 x=>?_
 subst he
 refine ⟨lim.keeps x.toInCall.keep,codeAny_func ?_⟩
 obtain ⟨t,ht,hq⟩:=hbody A outer s H vs Q E (hr.deeper _) hsp
 have I:Inv (cxOf CX P w K mg base N qual scope f cdv A outer s H E) [] (start N vs) H s1:=zgy S hr.hd e0 hl r x
 refine wpAny_mono (ht [] s1 (start N vs) H _ I hq) (fun fl s' hs=>?_) fun e s' hs=>hs
 have fin:∀ {σ':St} {H':Hp} {v:V} {u:Value},Inv (cxOf CX P w K mg base N qual scope f cdv A outer s H E) [] σ' H' s'->RelV v u->Q v H'->CE outer P w H s Q u s' :=
  fun {σ' H' v u} J rv q=>⟨v,H',J.os,J.bare,J.base,J.hok,rv,q⟩
 cases fl with
 | ret u =>
  obtain ⟨v,σ',H',J,rv,q⟩:=hs
  exact fin J rv q
 | next =>
  obtain ⟨σ',H',J,q⟩:=hs
  exact fin (v:=V.non) (u:=Value.none) J rfl q
 | brk =>
  obtain ⟨_,_,_,q⟩:=hs
  exact False.elim q
 | cont =>
  obtain ⟨_,_,_,q⟩:=hs
  exact False.elim q
end L2
namespace L2
open PySem PySem.Spec PyProof.Rows
section
variable {X:Cx} {x:Str} {p pos:Pos} {e:Expr} {es:List Expr} {t:TA} {id T:String} {r:List V->Hp->VK->Prop}
def tCB (r:List V->Hp->VK->Prop) (t:TA):TE:=fun σ H Q=>t σ H fun vs H1=>r vs H1 Q
theorem zbA (hc:CallR X (.builtin id) r) (hg:Gl X x) (hm:X.mg x=none) (hv:bootBuiltins x=some (.builtin id)) (ha:PA X (e::es) t) (hn:x ≠ "__name__" := by decide) (hdb:(x == ("__debug__" : Str))=false:=by decide)
  (he:starEach (e::es) X.env=(false,eval e X.env)::starEach es X.env:=by rfl) (hpl:(backTo pos (starEach es X.env)).any (·.1)=false:=by rfl):PE X (.Call (.Name x p) (e::es) [] pos) (tCB r t):=by
 intro pins s σ H Q I h
 refine wpAny_Call_Name_kw (yd1 I hg hm hv ?_ hn hdb)
 exact PyProof.Rows.callWith_builtin1 (thn (ha pos pins s σ H _ I h) fun us s1 ⟨vs,H1,I1,r1,q1⟩=>hc pins s1 σ H1 vs us Q I1 r1 q1) he hpl
end
end L2
namespace HT
open PySem PyProof.Rows
section
open PySem.SeqAt
open PySem.AutoSeq1 (wpAny_loadPart')
open PySem.MeetsSeq PySem.MeetsSeq2 PySem.MeetsSeq3
end
section
variable {prog:Program} {w:World} {A:Around} {E:Value->Shared->Prop} {s:Shared}
theorem cat_tup {t b:Addr} {vs ws:List Value} {Q:Value->Shared->Prop} (ht:IsTup s.heap t vs.toArray) (hb:IsTup s.heap b ws.toArray) (hv:vs≠[])
  (h1:ws=[]->Q (.ref t) s) (h2:ws≠[]->Q (.ref s.heap.objs.size) { s with heap:=s.heap.push { cls:=.type "tuple",data:=.seq (vs++ws).toArray } })
  (hsz:vs.length+ws.length<=sizeLine):wpAny (model prog w) A (binaryOp .Add (.ref t) (.ref b)) Q E s:=by
 obtain ⟨⟨cls,dd,data,sl⟩,ho,hc,n,hd⟩:=id ht
 obtain ⟨⟨cls2,dd2,data2,sl2⟩,ho2,hc2,n2,hd2⟩:=id hb
 simp only at hc hd hc2 hd2
 subst hc hd hc2 hd2
 have e:vs.toArray++ws.toArray=(vs++ws).toArray:=by simp
 by_cases hw:ws=[]
 ·exact concat_meets ⟨_,ho,rfl⟩ ⟨_,ho2,rfl⟩ noFill_tuple_add seq_tuple_add PySem.F.slot_tuple_add PySem.F.entry_tuple_add (PySem.F.args_tuple_add_2 _ _)
   (tuple_addW1 t b vs.toArray ws.toArray n n2 dd dd2 sl sl2 (by simpa using hv) (by simp [hw])) ⟨ho,ho2,h1 hw⟩
 ·refine concat_meets ⟨_,ho,rfl⟩ ⟨_,ho2,rfl⟩ noFill_tuple_add seq_tuple_add PySem.F.slot_tuple_add PySem.F.entry_tuple_add (PySem.F.args_tuple_add_2 _ _)
   (tuple_addW2 t b vs.toArray ws.toArray n n2 dd dd2 sl sl2 (by simpa using hv) (by simpa using hw) (by rw [List.size_toArray,List.size_toArray];exact hsz)) ⟨ho,ho2,?_⟩
  rw [e]
  exact h2 hw
def sIx (n d:Nat):Option Int->Nat
 | none=>d
 | some v=>if v<0 then (v+(n:Int)).toNat else min v.toNat n
theorem sIx_none (n d:Nat):sIx n d none=d:=rfl
theorem sIx_nat (n d k:Nat):sIx n d (some (k:Int))=min k n:=by
 show (if (k:Int)<0 then ((k:Int)+(n:Int)).toNat else min (k:Int).toNat n)=min k n
 rw [if_neg (by omega),Int.toNat_natCast]
theorem sIx_le (n d:Nat) (hd:d<=n) (o:Option Int):sIx n d o<=n:=by
 cases o with
 | none=>exact hd
 | some v =>
  show (if v<0 then (v+(n:Int)).toNat else min v.toNat n)<=n
  by_cases hv:v<0
  ·rw [if_pos hv];omega
  ·rw [if_neg hv];exact Nat.min_le_right _ _
theorem ze9 (v:Int) (n d:Nat):(if v<0 then max (v+(n:Int)) 0 else min v (n:Int))=((sIx n d (some v):Nat):Int):=by
 show (if v<0 then max (v+(n:Int)) 0 else min v (n:Int))=(((if v<0 then (v+(n:Int)).toNat else min v.toNat n):Nat):Int)
 by_cases hv:v<0
 ·simp only [if_pos hv];omega
 ·simp only [if_neg hv];omega
theorem zf6 (lo hi:Option Int) (n:Nat):Builtin.Slice.sliceAdjust lo hi 1 (n:Int)=(((sIx n 0 lo:Nat):Int),((sIx n n hi:Nat):Int)):=by
 have h1 : ¬ ((1:Int)<0):=by omega
 unfold Builtin.Slice.sliceAdjust
 simp only [h1,if_false]
 refine Prod.ext ?_ ?_
 ·cases lo with
  | none=>rfl
  | some v=>exact ze9 v n 0
 ·cases hi with
  | none=>rfl
  | some v=>exact ze9 v n n
theorem zf7 (i j:Nat):Builtin.Slice.slicePlaces (i:Int) (j:Int) 1=j-i:=by
 unfold Builtin.Slice.slicePlaces
 have h1:(1:Int) > 0:=by omega
 simp only [h1,if_true,Int.ediv_one]
 split<;>omega
theorem zcL {v:Value} {o:Option Int} {Q:Option Int->Shared->Prop} (p:IsPart v o) (h:Q o s):wpAny (model prog w) A (Builtin.Slice.slicePartIndex v) Q E s:=by
 cases p with
 | none=>exact slicePart_none h
 | int i t=>exact slicePart_int h
theorem zcu {sl:Addr} {vl vu:Value} {lo hi:Option Int} {n:Nat} {Q:Int×Int×Nat->Shared->Prop} (hs:s.heap.IsSliceOf sl vl vu .none) (pl:IsPart vl lo) (pu:IsPart vu hi)
  (h:Q (((sIx n 0 lo:Nat):Int),1,sIx n n hi-sIx n 0 lo) s):wpAny (model prog w) A (Builtin.Slice.sliceApplied (.ref sl) (pure (n:Int))) Q E s:=by
 obtain ⟨os,hos,hcs,hds⟩:=id hs
 unfold Builtin.Slice.sliceApplied Builtin.Slice.sliceFields
 refine wpAny_bind (wpAny_bind (wpAny_field hos hds (x:=vl) rfl (wpAny_bind (wpAny_field hos hds (x:=vu) rfl (wpAny_bind (wpAny_field hos hds (x:=.none) rfl (wpAny_pure ?_)))))))
 refine wpAny_bind (slicePart_none ?_)
 show wpAny _ _ (if ((1:Int) == 0)=true then _ else _) _ _ s
 rw [if_neg (by decide)]
 refine wpAny_bind (zcL pl (wpAny_bind (zcL pu (wpAny_bind (wpAny_pure ?_)))))
 show wpAny _ _ (match Builtin.Slice.sliceAdjust lo hi 1 (n:Int) with | (lo,hi)=>pure (lo,(1:Int),Builtin.Slice.slicePlaces lo hi 1)) _ _ s
 rw [zf6 lo hi n]
 show wpAny _ _ (pure (((sIx n 0 lo:Nat):Int),(1:Int),Builtin.Slice.slicePlaces ((sIx n 0 lo:Nat):Int) ((sIx n n hi:Nat):Int) 1)) _ _ s
 rw [zf7]
 exact wpAny_pure h
theorem zhi (xs:Array Value) (i k:Nat):((List.range k).filterMap fun (m:Nat)=>xs[((i:Int)+(m:Int)*1).toNat]?).toArray=((xs.toList.drop i).take k).toArray:=by
 have e:(fun (m:Nat)=>xs[((i:Int)+(m:Int)*1).toNat]?)=fun m=>xs[i+m]? := by
  funext m
  have:((i:Int)+(m:Int)*1).toNat=i+m:=by omega
  rw [this]
 rw [e]
 have:=pick_run xs i k
 rw [List.filterMap_map] at this
 have e2:((fun x=>xs[x]?) ∘ fun x=>i+x)=fun m=>xs[i+m]? := rfl
 rw [e2] at this
 rw [this]
theorem getItem_tuple_cut {t sl:Addr} {items:Array Value} {vl vu:Value} {lo hi:Option Int} {Q:Value->Shared->Prop} (ht:IsTup s.heap t items) (hs:s.heap.IsSliceOf sl vl vu .none) (pl:IsPart vl lo) (pu:IsPart vu hi)
  (hw : ¬ (sIx items.size 0 lo=0/\sIx items.size items.size hi=items.size))
  (h:Q (.ref s.heap.objs.size) { s with heap:=s.heap.push { cls:=.type "tuple",data:=.seq ((items.toList.drop (sIx items.size 0 lo)).take (sIx items.size items.size hi-sIx items.size 0 lo)).toArray } })
  (hsz:items.size<=sizeLine):wpAny (model prog w) A (getItem (.ref t) (.ref sl)) Q E s:=by
 have htake:sizeOk (.seq ((items.toList.drop (sIx items.size 0 lo)).take (sIx items.size items.size hi-sIx items.size 0 lo)).toArray):=by
  show ((items.toList.drop (sIx items.size 0 lo)).take (sIx items.size items.size hi-sIx items.size 0 lo)).toArray.size<=sizeLine
  rw [List.size_toArray,List.length_take,List.length_drop,Array.length_toList]
  omega
 have hj:sIx items.size items.size hi<=items.size:=sIx_le _ _ (Nat.le_refl _) hi
 obtain ⟨os,hos,hcs,hds⟩:=id hs
 have hTs:s.TypeIs (.ref sl) "slice" := ⟨os,hos,hcs⟩
 unfold getItem
 try with_reducible refine wpAny_holding ?_
 first | refine wpAny_bind (wpAny_pure ?_) | skip
 refine wpAny_bind (wpAny_sequenceKey ht.typeIs (by decide) ?_)
 refine wpAny_bind (wpAny_callSpecial?_slot (name:=Str.ofString "__getitem__") ht.typeIs PyProof.Rows.slot_tuple_getitem
  (wpAny_call_entry PyProof.Rows.slot_tuple_getitem ht.typeIs entry_tuple_getitem ?_ (args_tuple_getitem _ _)))
 show wpAny _ _ (Builtin.Tuple.tupleItemsOf (.ref t) >>= _) _ _ s
 refine wpAny_bind (tupleItemsOf_ ht ?_)
 refine wpAny_bind (wpAny_typeOf hTs ?_)
 rw [if_pos (by decide)]
 refine wpAny_bind (zcu hs pl pu ?_)
 have hno : ¬ ((((sIx items.size 0 lo:Nat):Int) == 0 && (1:Int) == 1 && (sIx items.size items.size hi-sIx items.size 0 lo) == items.size)=true):=by
  intro q
  rw [Bool.and_eq_true,Bool.and_eq_true] at q
  have q1:((sIx items.size 0 lo:Nat):Int)=0:=eq_of_beq q.1.1
  have q2:sIx items.size items.size hi-sIx items.size 0 lo=items.size:=eq_of_beq q.2
  exact hw ⟨by omega,by omega⟩
 show wpAny _ _ (if (((sIx items.size 0 lo:Nat):Int) == 0 && (1:Int) == 1 && (sIx items.size items.size hi-sIx items.size 0 lo) == items.size)=true then _ else _) _ _ s
 rw [if_neg hno,zhi]
 first
  | exact wpAny_bind (m:=Builtin.Tuple.tupleExact _) (wpAny_newObj_type (wpAny_pure ⟨_,rfl,wpAny_pure h⟩) htake)
  | exact wpAny_bind (m:=Builtin.Tuple.tupleExact _) (wpAny_newObj_type (wpAny_bind (wpAny_pure (wpAny_pure ⟨_,rfl,wpAny_pure h⟩))) htake)
  | exact wpAny_bind (wpAny_bind (m:=Builtin.Tuple.tupleExact _) (wpAny_newObj_type (wpAny_pure (wpAny_pure ⟨_,rfl,wpAny_pure h⟩)) htake))
  | exact wpAny_bind (wpAny_bind (m:=Builtin.Tuple.tupleExact _) (wpAny_newObj_type (wpAny_pure ⟨_,rfl,wpAny_pure h⟩) htake))
end
end HT
namespace L2
open PySem PySem.Spec PyProof.Rows
abbrev TO:=St->Hp->(Option Int->Hp->Prop)->Prop
def PO (X:Cx) (e:Option Expr) (t:TO):Prop :=
 ∀ (pins:List (Addr×Obj)) (s:Shared) (σ:St) (H:Hp) (Q:Option Int->Hp->Prop),Inv X pins σ H s->t σ H Q ->
  wpAny (model X.prog X.w) X.A (evalPart e X.env) (fun u s' => ∃ o H',Inv X pins σ H' s'/\IsPart u o/\Q o H') X.xe s
def yfg:TO:=fun _ H Q=>Q none H
def yf5 (t:TE):TO:=fun σ H Q=>t σ H fun x H1=>∃ i,x = .int i/\Q (some i) H1
section
variable {X:Cx} {e:Expr} {te:TE} {lo hi:Option Expr} {tl th:TO} {pos p2:Pos}
theorem zit:PO X none yfg:=by
 intro pins s σ H Q I h
 rw [evalPart_none]
 exact wpAny_pure ⟨none,H,I,.none,h⟩
theorem ziu (h:PE X e te):PO X (some e) (yf5 te):=by
 intro pins s σ H Q I hw
 rw [evalPart_some]
 refine thn (h pins s σ H _ I hw) fun u s1 ⟨x,H1,I1,r1,q1⟩=>?_
 obtain ⟨i,rfl,q⟩:=q1
 obtain ⟨t,rfl⟩:=r1
 exact ⟨some i,H1,I1,.int i t,q⟩
def SlR (X:Cx) (r:V->Option Int->Option Int->Hp->VK->Prop):Prop :=
 ∀ (pins:List (Addr×Obj)) (s:Shared) (σ:St) (H:Hp) (x:V) (v vl vu:Value) (lo hi:Option Int) (sl:Addr) (Q:VK),Inv X pins σ H s->RelV x v->s.heap.IsSliceOf sl vl vu .none->IsPart vl lo->IsPart vu hi->r x lo hi H Q ->
  ∃ T id,typeLookup (.type T) "__getitem__" = pure (some (.builtin id))/\s.TypeIs v T/\wpAny (model X.prog X.w) X.A (getItem v (.ref sl)) (EP X pins σ Q) X.xe s
theorem SlR.or {r r':V->Option Int->Option Int->Hp->VK->Prop} (h:SlR X r) (h':SlR X r'):SlR X (fun x lo hi H Q=>r x lo hi H Q\/r' x lo hi H Q):=by
 intro pins s σ H x v vl vu lo hi sl Q I rx hs pl pu q
 rcases q with q | q
 ·exact h pins s σ H x v vl vu lo hi sl Q I rx hs pl pu q
 ·exact h' pins s σ H x v vl vu lo hi sl Q I rx hs pl pu q
def tSl (r:V->Option Int->Option Int->Hp->VK->Prop) (te:TE) (tl th:TO):TE:=fun σ H Q=>te σ H fun x H1=>tl σ H1 fun l H2=>th σ H2 fun u H3=>r x l u H3 Q
theorem zhj {r:V->Option Int->Option Int->Hp->VK->Prop} (hr:SlR X r) (he:PE X e te) (hl:PO X lo tl) (hu:PO X hi th):PE X (.Subscript e (.Slice lo hi none p2) pos) (tSl r te tl th):=by
 intro pins s σ H Q I h
 refine Subscript_ (thn (he pins s σ H _ I h) fun v s1 ⟨x,H1,I1,r1,q1⟩=>?_)
 refine wpAny_Slice (thn (hl pins s1 σ H1 _ I1 q1) fun vl s2 ⟨l,H2,I2,pl,q2⟩=>thn (hu pins s2 σ H2 _ I2 q2) fun vu s3 ⟨u,H3,I3,pu,q3⟩=>?_)
 rw [evalPart_none]
 refine wpAny_pure ?_
 have I4:Inv X pins σ H3 { s3 with heap:=s3.heap.push { cls:=.type "slice",data:=.fields #[vl,vu,.none] } }:=I3.kept (t' := s3.toks) fun b ob q=>Heap.get?_push_of_some _ q
 obtain ⟨T,id,hT,ht,hg⟩:=hr pins { s3 with heap:=s3.heap.push { cls:=.type "slice",data:=.fields #[vl,vu,.none] } } σ H3 x v vl vu l u s3.heap.objs.size Q I4 r1 (Heap.IsSliceOf.new ..) pl pu q3
 show wpAny (model X.prog X.w) X.A (subscriptTail e (.Slice lo hi none p2) v (.ref s3.heap.objs.size)) (EP X pins σ Q) X.xe { s3 with heap:=s3.heap.push { cls:=.type "slice",data:=.fields #[vl,vu,.none] } }
 exact tail_any (ops:=[.ref s3.heap.objs.size,v]) ht hT hg (by with_unfolding_all rfl)
def cutV (xs:List V) (lo hi:Option Int):List V:=(xs.drop (HT.sIx xs.length 0 lo)).take (HT.sIx xs.length xs.length hi-HT.sIx xs.length 0 lo)
theorem zcp (xs:List V) (lo hi:Option Int):(cutV xs lo hi).length<=xs.length:=by
 unfold cutV
 rw [List.length_take,List.length_drop]
 omega
def rSlT (K:PySem.W.Frag):V->Option Int->Option Int->Hp->VK->Prop:=fun x lo hi H Q=>∃ a xs,x = .ref a/\SqT K H a xs /\
 ¬ (HT.sIx xs.length 0 lo=0/\HT.sIx xs.length xs.length hi=xs.length)/\∀ p,H p=none->Q (.ref p) (upd H p (.tup (cutV xs lo hi)))
theorem sl_tup:SlR X (rSlT X.K):=by
 intro pins s σ H x v vl vu lo hi sl Q I rx hs pl pu h
 obtain ⟨a,xs,rfl,hx,hw,q⟩:=h
 cases rx
 obtain ⟨its,r,ht,hz⟩:=I.tuple hx
 have hlen:its.toArray.size=xs.length:=by rw [List.size_toArray];exact r.length.symm
 refine ⟨"tuple",_,PyProof.Rows.slot_tuple_getitem.lookup,ht.typeIs,?_⟩
 refine HT.getItem_tuple_cut ht hs pl pu (by rw [hlen];exact hw) ?_ (by rw [hlen];exact hz)
 rw [hlen]
 refine ⟨.ref s.heap.objs.size,_,I.laid (t' := s.toks) (o:=.tup (cutV xs lo hi)) (fun b ob q=>Heap.get?_push_of_some _ q) (Nat.le_refl _) ?_,rfl,q _ (I.hok.fresh (Nat.le_refl _))⟩
 exact ⟨Nat.le_trans (zcp xs lo hi) hz,_,(r.drop (HT.sIx xs.length 0 lo)).take (HT.sIx xs.length xs.length hi-HT.sIx xs.length 0 lo),IsTup.new _ _⟩
def yh7 (K:PySem.W.Frag):R2:=fun x y H Q=>∃ a b xs ys,x = .ref a/\y = .ref b/\SqT K H a xs/\SqT K H b ys/\xs≠[]/\xs.length+ys.length<=sizeLine /\
 (ys=[]->Q (.ref a) H)/\(ys≠[]->∀ p,H p=none->Q (.ref p) (upd H p (.tup (xs++ys))))
theorem Vals.nil_iff {xs:List V} {us:List Value} (r:Vals xs us):us=[] ↔ xs=[]:=by
 cases r with
 | nil=>simp
 | cons _ _=>simp
theorem ziv:OpR X (binaryOp .Add) (yh7 X.K):=by
 intro pins s σ H x y v u Q I rx ry h
 obtain ⟨a,b,xs,ys,rfl,rfl,ha,hb,hx,hz,q1,q2⟩:=h
 cases rx
 cases ry
 obtain ⟨its,r1,p1,_⟩:=I.tuple ha
 obtain ⟨its2,r2,p2,_⟩:=I.tuple hb
 refine HT.cat_tup p1 p2 (fun z=>hx (r1.nil_iff.mp z)) (fun z=>⟨.ref a,H,I,rfl,q1 (r2.nil_iff.mp z)⟩) (fun z=>?_) (by rw [<- r1.length,<- r2.length];exact hz)
 refine ⟨.ref s.heap.objs.size,_,I.laid (t' := s.toks) (o:=.tup (xs++ys)) (fun b ob q=>Heap.get?_push_of_some _ q) (Nat.le_refl _) ?_,rfl,q2 (fun w=>z (r2.nil_iff.mpr w)) _ (I.hok.fresh (Nat.le_refl _))⟩
 exact ⟨by rw [List.length_append];exact hz,_,r1.append r2,IsTup.new _ _⟩
end
end L2
namespace L2
open PySem PySem.Spec PyProof.Rows
def ixN (n:Nat) (i:Int):Option Nat:=if 0<=i then (if i<n then some i.toNat else none) else if -(n:Int)<=i then some (i+n).toNat else none
def atI {α:Type} (xs:List α) (i:Int):Option α:=(ixN xs.length i).bind fun j=>xs[j]?
theorem zfa {n:Nat} {i:Int} {j:Nat} (h:ixN n i=some j):seqIndex? i n=some j/\j<n /\ -(n:Int)<=i/\i<n:=by
 unfold ixN at h
 by_cases h0:0<=i
 ·rw [if_pos h0] at h
  by_cases h1:i<n
  ·rw [if_pos h1] at h
   have e:i.toNat=j:=Option.some.inj h
   exact ⟨by rw [seqIndex_of h0 h1,e],by omega,by omega,h1⟩
  ·rw [if_neg h1] at h;cases h
 ·rw [if_neg h0] at h
  by_cases h1 : -(n:Int)<=i
  ·rw [if_pos h1] at h
   have e:(i+n).toNat=j:=Option.some.inj h
   exact ⟨by rw [seqIndex_neg (by omega) h1,e],by omega,h1,by omega⟩
  ·rw [if_neg h1] at h;cases h
theorem zce {α:Type} {xs:List α} {i:Int} {v:α} (h:atI xs i=some v):∃ j,seqIndex? i xs.length=some j/\xs[j]? = some v/\j<xs.length /\ -(xs.length:Int)<=i/\i<xs.length:=by
 unfold atI at h
 cases e:ixN xs.length i with
 | none=>rw [e] at h;cases h
 | some j =>
  rw [e] at h
  obtain ⟨h1,h2,h3,h4⟩:=zfa e
  exact ⟨j,h1,h,h2,h3,h4⟩
theorem zc0 {α:Type} {xs:List α} {j:Nat} {v:α} (h:xs[j]? = some v):atI xs (j:Int)=some v:=by
 have hj:j<xs.length:=(List.getElem?_eq_some_iff.mp h).1
 have e:ixN xs.length (j:Int)=some j:=by
  unfold ixN
  rw [if_pos (by omega),if_pos (by omega)];simp
 unfold atI;rw [e];exact h
theorem zhk {α:Type} (xs:List α) (v:α):atI (xs++[v]) (-1)=some v:=by
 have hl:(xs++[v]).length=xs.length+1:=by simp
 have e:ixN (xs++[v]).length (-1)=some xs.length:=by
  unfold ixN
  rw [hl,if_neg (by decide),if_pos (by omega)]
  congr 1
  omega
 unfold atI
 rw [e]
 show (xs++[v])[xs.length]? = some v
 simp
def yfh (b:Expr):Prop:=∀ o i,subscripted b false o i=operate [o,i] (getItem o i)
def IxR (X:Cx) (r:R2):Prop :=
 ∀ (value slice:Expr) (pins:List (Addr×Obj)) (s:Shared) (σ:St) (H:Hp) (x y:V) (v u:Value) (Q:VK),Inv X pins σ H s->RelV x v->RelV y u->r x y H Q ->
  subscripted slice false v u=operate [v,u] (getItem v u)->wpAny (model X.prog X.w) X.A (subscriptTail value slice v u) (EP X pins σ Q) X.xe s
def MtR (X:Cx) (id:String) (r:V->List V->Hp->VK->Prop):Prop :=
 ∀ (pins:List (Addr×Obj)) (s:Shared) (σ:St) (H:Hp) (x:V) (xs:List V) (v:Value) (us:List Value) (Q:VK),Inv X pins σ H s->RelV x v->Vals xs us->r x xs H Q ->
  wpAny (model X.prog X.w) X.A (call (.builtin id) (v::us)) (EP X pins σ Q) X.xe s
section
variable {X:Cx} {a b:Expr} {ta tb:TE} {pos:Pos}
theorem IxR.or {r r':R2} (h:IxR X r) (h':IxR X r'):IxR X (fun x y H Q=>r x y H Q\/r' x y H Q):=by
 intro value slice pins s σ H x y v u Q I rx ry q hs
 rcases q with q | q
 ·exact h value slice pins s σ H x y v u Q I rx ry q hs
 ·exact h' value slice pins s σ H x y v u Q I rx ry q hs
theorem yh8 {r:R2} (hr:IxR X r) (ha:PE X a ta) (hb:PE X b tb) (hs:yfh b):PE X (.Subscript a b pos) (tOp r ta tb):=by
 intro pins s σ H Q I h
 exact Subscript_ (binT ha hb I h fun v u s2 x y H2 I2 rx ry q=>hr a b pins s2 σ H2 x y v u Q I2 rx ry q (hs _ _))
def rIxL (K:PySem.W.Frag):R2:=fun x y H Q=>∃ p xs i v,x = .ref p/\y = .int i/\SqL K H p xs/\atI xs i=some v/\Q v H
def rIxT (K:PySem.W.Frag):R2:=fun x y H Q=>∃ p xs i v,x = .ref p/\y = .int i/\SqT K H p xs/\atI xs i=some v/\Q v H
def rIxS:R2:=fun x y H Q=>∃ z i c,x = .str z/\y = .int i/\z.length<=sizeLine/\atI z.cps.toList i=some c/\Q (.str ⟨#[c]⟩) H
theorem ziw:IxR X (rIxL X.K):=by
 intro value slice pins s σ H x y v u Q I rx ry h hs
 obtain ⟨p,xs,i,z,rfl,rfl,hq,he,q⟩:=h
 cases rx
 obtain ⟨t,rfl⟩:=ry
 obtain ⟨its,r,pl,hz⟩:=I.list hq
 obtain ⟨j,h1,h2,h3,h4,h5⟩:=zce he
 obtain ⟨w,ew,rw'⟩:=r.get h2
 have hl:=r.length
 have hn:=ydg
 have fin:EP X pins σ Q w s:=⟨z,H,I,rw',q⟩
 by_cases h0:0<=i
 ·have hj:i.toNat=j:=by
   rw [seqIndex_of h0 h5] at h1
   exact Option.some.inj h1
  exact item_listR pl.isList h0 (by omega) (by rw [hj];simpa using ew) fin hs
 ·have hj:(i+(its.toArray.size:Int)).toNat=j:=by
   rw [seqIndex_neg (by omega) h4] at h1
   rw [List.size_toArray,<- hl]
   exact Option.some.inj h1
  exact subscriptTail_builtinR (x:=w) pl.isList.typeIs slot_list_getitem.lookup
   (wpAny_getItem_list_neg (Q:=fun r s' => r=w/\EP X pins σ Q r s') pl.isList (by omega) (by rw [List.size_toArray]<;>omega) (by omega) (by rw [hj];simpa using ew) ⟨rfl,fin⟩) hs
theorem ix_tup:IxR X (rIxT X.K):=by
 intro value slice pins s σ H x y v u Q I rx ry h hs
 obtain ⟨p,xs,i,z,rfl,rfl,hq,he,q⟩:=h
 cases rx
 obtain ⟨t,rfl⟩:=ry
 obtain ⟨its,r,pl,hz⟩:=I.tuple hq
 obtain ⟨j,h1,h2,h3,h4,h5⟩:=zce he
 obtain ⟨w,ew,rw'⟩:=r.get h2
 have hl:=r.length
 have hn:=ydg
 have fin:EP X pins σ Q w s:=⟨z,H,I,rw',q⟩
 exact subscriptTail_builtinR (x:=w) pl.typeIs slot_tuple_getitem.lookup
  (getItem_tuple (j:=j) (Q:=fun r s' => r=w/\EP X pins σ Q r s') pl (by omega) (by omega) (by rw [List.size_toArray,<- hl];exact h1) (by simpa using ew) ⟨rfl,fin⟩) hs
theorem ygO:IxR X rIxS:=by
 intro value slice pins s σ H x y v u Q I rx ry h hs
 obtain ⟨z,i,c,rfl,rfl,hz,he,q⟩:=h
 obtain ⟨t,rfl⟩:=rx
 obtain ⟨t',rfl⟩:=ry
 obtain ⟨j,h1,h2,h3,h4,h5⟩:=zce he
 have hl:z.cps.toList.length=z.length:=by simp [Str.length]
 rw [hl] at h1 h4 h5
 have hn:=ydg
 exact tail_any (typeIs_str s z t) slot_str_getitem.lookup (getItem_str (c:=c) (by
  have e1:decide (i < -(2 ^ 63:Int))=false:=decide_eq_false (by omega)
  have e2:decide (i ≥ 2 ^ 63)=false:=decide_eq_false (by omega)
  rw [e1,e2,Bool.or_false]) (by rw [h1];simpa using h2) ⟨.str ⟨#[c]⟩,H,I.tok _,⟨_,rfl⟩,q⟩) hs
def rIx (K:PySem.W.Frag):R2:=fun x y H Q=>rIxL K x y H Q\/rIxT K x y H Q\/rIxS x y H Q
theorem ygP:IxR X (rIx X.K):=ziw.or (ix_tup.or ygO)
theorem zf8 (its:List Value) (n j:Nat) (u:Value):Obj.mapSeq (·.setIfInBounds j u) { cls:=.type "list",data:=.seq its.toArray n }={ cls:=.type "list",data:=.seq (its.set j u).toArray n }:=by
 simp [Obj.mapSeq]
theorem Inv.lst {pins:List (Addr×Obj)} {σ:St} {H:Hp} {s:Shared} {p:Addr} {xs:List V} (I:Inv X pins σ H s) (h:H p=some (.lst xs)) :
  ∃ (its:List Value) (n:Nat),Vals xs its/\s.heap.get? p=some { cls:=.type "list",data:=.seq its.toArray n }/\xs.length<=sizeLine:=by
 obtain ⟨z,its,n,r,e⟩:=I.hok p _ h
 exact ⟨its,n,r,e,z⟩
theorem Inv.lstUpd {pins:List (Addr×Obj)} {σ:St} {H:Hp} {s:Shared} {p:Addr} {xs ys:List V} {its its':List Value} {n n':Nat} {f:Obj->Obj} (I:Inv X pins σ H s) (h:H p=some (.lst xs))
  (ho:s.heap.get? p=some { cls:=.type "list",data:=.seq its.toArray n }) (hf:f { cls:=.type "list",data:=.seq its.toArray n }={ cls:=.type "list",data:=.seq its'.toArray n' }) (r:Vals ys its') (hz:ys.length<=sizeLine) (t:Nat) :
  Inv X pins σ (upd H p (.lst ys)) { s with heap:=s.heap.update p f,toks:=t }:=by
 have e:(s.heap.update p f).get? p=some { cls:=.type "list",data:=.seq its'.toArray n' }:=by
  rw [Heap.get?_update_self f ho (by rw [hf]<;>rfl),hf]
 refine I.write (x:=p) (e:=p) (by rw [h];trivial) (.inl rfl) (fun b u hb q=>(Heap.get?_update_other _ _ (Ne.symm hb)).trans q) ⟨_,e⟩ ?_
 exact ⟨hz,its',n',r,e⟩
def yh9:V->V->V->Hp->(Hp->Prop)->Prop:=fun o i v H Q=>∃ p xs k j,o = .ref p/\i = .int k/\H p=some (.lst xs)/\ixN xs.length k=some j/\Q (upd H p (.lst (xs.set j v)))
theorem zhl:PSet X yh9:=by
 intro pins s σ H o i v ov iv u Q I ro ri rv h
 obtain ⟨p,xs,k,j,rfl,rfl,hp,hj,q⟩:=h
 cases ro
 obtain ⟨t,rfl⟩:=ri
 obtain ⟨its,n,r,ho,hz⟩:=I.lst hp
 obtain ⟨h1,h2,h3,h4⟩:=zfa hj
 have hl:=r.length
 have hn:=ydg
 have I':Inv X pins σ (upd H p (.lst (xs.set j v))) { s with heap:=s.heap.update p (Obj.mapSeq (·.setIfInBounds j u)) } :=
  I.lstUpd hp ho (zf8 its n j u) (r.set rv j) (by rw [List.length_set];exact hz) s.toks
 by_cases h0:0<=k
 ·have hk:k.toNat=j:=by
   rw [seqIndex_of h0 h4] at h1
   exact Option.some.inj h1
  exact PySem.W.ki_setAt ho h0 (by omega) (by rw [List.size_toArray,<- hl];exact h4) (by rw [hk];exact ⟨_,I',q⟩)
 ·have hk:(k+(its.toArray.size:Int)).toNat=j:=by
   rw [seqIndex_neg (by omega) h3] at h1
   rw [List.size_toArray,<- hl]
   exact Option.some.inj h1
  exact PySem.W.ki_setBack ho (by omega) (by rw [List.size_toArray,<- hl];exact h3) (by omega) (by rw [hk];exact ⟨_,I',q⟩)
theorem zd7 (lo hi:Option Int) (n:Nat):(sliceBounds lo hi none n).1=((HT.sIx n 0 lo:Nat):Int)/\(sliceBounds lo hi none n).2.1=((HT.sIx n n hi:Nat):Int)/\(sliceBounds lo hi none n).2.2=1:=by
 refine ⟨?_,?_,rfl⟩
 ·cases lo with
  | none=>simp [sliceBounds,HT.sIx]
  | some i =>
   simp only [sliceBounds,HT.sIx,Option.getD_none,show (1:Int) > 0 by decide,if_true]
   by_cases h:i<0
   ·simp only [h,if_true]<;>omega
   ·simp only [h,if_false]<;>omega
 ·cases hi with
  | none=>simp [sliceBounds,HT.sIx]
  | some i =>
   simp only [sliceBounds,HT.sIx,Option.getD_none,show (1:Int) > 0 by decide,if_true]
   by_cases h:i<0
   ·simp only [h,if_true]<;>omega
   ·simp only [h,if_false]<;>omega
theorem zdN (its:List Value) (lo hi:Option Int):slicePick its.toArray lo hi none=((its.drop (HT.sIx its.length 0 lo)).take (HT.sIx its.length its.length hi-HT.sIx its.length 0 lo)).toArray:=by
 obtain ⟨h1,h2,h3⟩:=zd7 lo hi its.toArray.size
 unfold slicePick
 rw [h1,h2,h3]
 simp only [sliceRange_one,pick_run,List.size_toArray]<;>rfl
def rSlL (K:PySem.W.Frag):V->Option Int->Option Int->Hp->VK->Prop:=fun x lo hi H Q=>∃ a xs,x = .ref a/\SqL K H a xs/\∀ p,H p=none->Q (.ref p) (upd H p (.lst (cutV xs lo hi)))
theorem zix:SlR X (rSlL X.K):=by
 intro pins s σ H x v vl vu lo hi sl Q I rx hs pl pu h
 obtain ⟨a,xs,rfl,hx,q⟩:=h
 cases rx
 obtain ⟨its,r,ht,hz⟩:=I.list hx
 have hlen:=r.length
 refine ⟨"list",_,slot_list_getitem.lookup,ht.isList.typeIs,?_⟩
 refine wpAny_getItem_list_slice ht.isList hs pl pu .none (by simp) ?_ (by rw [List.size_toArray]<;>omega)
 rw [zdN,<- hlen]
 refine ⟨.ref s.heap.objs.size,_,I.laid (t' := s.toks) (o:=.lst (cutV xs lo hi)) (fun b ob q=>Heap.get?_push_of_some _ q) (Nat.le_refl _) ?_,rfl,q _ (I.hok.fresh (Nat.le_refl _))⟩
 exact ⟨Nat.le_trans (zcp xs lo hi) hz,_,0,(r.drop (HT.sIx xs.length 0 lo)).take (HT.sIx xs.length xs.length hi-HT.sIx xs.length 0 lo),Heap.get?_push_size _ rfl⟩
theorem zd8:OpR X (compareOp .NotIn) (fun x y H Q=>∃ i j,x = .str i/\y = .str j/\Q (.bl (!(!(Builtin.Str.occurrences j i 0 j.length 1).isEmpty))) H):=by
 intro pins s σ H x y v u Q I rx ry h
 obtain ⟨i,j,rfl,rfl,q⟩:=h
 obtain ⟨t,rfl⟩:=rx
 obtain ⟨t',rfl⟩:=ry
 exact notIn_str ⟨.bl _,H,I,rfl,q⟩
theorem zd9:CallR X (.builtin "len") (fun xs H Q=>∃ p ys,xs=[.ref p]/\(SqL X.K H p ys\/SqT X.K H p ys)/\Q (.int ys.length) H):=by
 intro pins s σ H xs us Q I r h
 obtain ⟨p,ys,rfl,hq,q⟩:=h
 obtain ⟨u,rfl,rx⟩:=ydv r
 cases rx
 have hn:=ydg
 rcases hq with hq | hq
 ·obtain ⟨its,r',pl,hz⟩:=I.list hq
  have hlen:=r'.length
  exact Calls.call_len_list pl.isList (by simp only [List.size_toArray]<;>omega) ⟨.int ys.length,H,I.tok _,⟨s.toks+1,by rw [List.size_toArray,hlen]⟩,q⟩
 ·obtain ⟨its,r',pl,hz⟩:=I.tuple hq
  have hlen:=r'.length
  exact len_tuple pl (by simp only [List.size_toArray]<;>omega) ⟨.int ys.length,H,I.tok _,⟨s.toks+1,by rw [List.size_toArray,hlen]⟩,q⟩
theorem zea:CallR X (.builtin "len") (fun xs H Q=>∃ z,xs=[.str z]/\z.length<=sizeLine/\Q (.int z.length) H):=by
 intro pins s σ H xs us Q I r h
 obtain ⟨z,rfl,hz,q⟩:=h
 obtain ⟨u,rfl,t,rfl⟩:=ydv r
 have hn:=ydg
 exact len_str (by omega) ⟨.int z.length,H,I.tok _,⟨_,rfl⟩,q⟩
theorem CallR.or {f:Value} {r r':List V->Hp->VK->Prop} (h:CallR X f r) (h':CallR X f r'):CallR X f (fun xs H Q=>r xs H Q\/r' xs H Q):=by
 intro pins s σ H xs us Q I rs q
 rcases q with q | q
 ·exact h pins s σ H xs us Q I rs q
 ·exact h' pins s σ H xs us Q I rs q
def tyV (K:PySem.W.Frag) (T:String) (x:V) (H:Hp):Prop:=match x with
 | .str _=>T = "str"
 | .int _=>T = "int"
 | .ref p=>(T = "list" /\ ∃ xs,SqL K H p xs)\/(T = "tuple" /\ ∃ o,K.lookup p=some o/\o.cls = .type "tuple" /\ o.dict=none) \/
   (T = "dict" /\ ((∃ kvs,H p=some (.dK kvs))\/∃ kvs,H p=some (.dT kvs)))\/(T = "set" /\ ∃ S n,H p=some (.set S n))
 | _=>False
theorem yfx {pins:List (Addr×Obj)} {σ:St} {H:Hp} {s:Shared} {T:String} {x:V} {v:Value} (I:Inv X pins σ H s) (r:RelV x v) (ty:tyV X.K T x H) :
  s.TypeIs v T/\∀ a,v = .ref a->∃ ob,s.heap.get? a=some ob/\ob.dict=none:=by
 cases x with
 | str z =>
  obtain ⟨t,rfl⟩:=r
  cases (show T = "str" from ty)
  exact ⟨typeIs_str s z t,fun _ e=>nomatch e⟩
 | int i =>
  obtain ⟨t,rfl⟩:=r
  cases (show T = "int" from ty)
  exact ⟨typeIs_int s i t,fun _ e=>nomatch e⟩
 | ref p =>
  cases r
  rcases ty with ⟨rfl,xs,hq⟩ | ⟨rfl,o,hk,hc,hd⟩ | ⟨rfl,hk⟩ | ⟨rfl,S,n,hk⟩
  ·obtain ⟨its,_,pl,_⟩:=I.list hq
   refine ⟨pl.isList.typeIs,fun a e=>?_⟩
   cases e
   obtain ⟨o,n,e,c,hd,_⟩:=pl
   exact ⟨o,e,hd⟩
  ·refine ⟨⟨o,I.kIn p o hk,hc⟩,fun a e=>?_⟩
   cases e
   exact ⟨o,I.kIn _ o hk,hd⟩
  ·have z:∃ o,s.heap.get? p=some o/\o.ExactDict:=by
    rcases hk with ⟨kvs,hk⟩ | ⟨kvs,hk⟩
    ·obtain ⟨_,_,_,_,o,_,_,e,ex,_⟩:=I.hok p _ hk
     exact ⟨o,e,ex⟩
    ·obtain ⟨_,_,_,_,o,_,_,e,ex,_⟩:=I.hok p _ hk
     exact ⟨o,e,ex⟩
   obtain ⟨o,e,ex⟩:=z
   refine ⟨⟨o,e,ex.1⟩,fun a e2=>?_⟩
   cases e2
   exact ⟨o,e,ex.2.1⟩
  ·obtain ⟨o,_,_,_,e,ex,_⟩:=I.hok p _ hk
   refine ⟨⟨o,e,ex.1⟩,fun a e2=>?_⟩
   cases e2
   exact ⟨o,e,ex.2.1⟩
 | _=>exact False.elim ty
def tBM0 (K:PySem.W.Frag) (T:String) (r:V->List V->Hp->VK->Prop) (to:TE):TE:=fun σ H Q=>to σ H fun x H1=>tyV K T x H1/\r x [] H1 Q
def tBM (K:PySem.W.Frag) (T:String) (r:V->List V->Hp->VK->Prop) (to:TE) (t:TA):TE:=fun σ H Q=>to σ H fun x H1=>tyV K T x H1/\t σ H1 fun xs H2=>r x xs H2 Q
variable {o e:Expr} {es:List Expr} {to:TE} {t:TA} {name:Str} {apos cpos:Pos} {T id:String} {r:V->List V->Hp->VK->Prop}
theorem ygQ (pa:PlainAttrs T) (slot:Slot T name id) (hty:typeOf (.builtin id)=pure (.type "method_descriptor")) (hm:MtR X id r) (ho:PE X o to)
  (hbase:attributeBase o name X.env (eval o X.env)=eval o X.env:=by rfl) (hline:(apos.endLine == cpos.line)=true:=by rfl):PE X (.Call (.Attribute o name apos) [] [] cpos) (tBM0 X.K T r to):=by
 intro pins s σ H Q I h
 refine wpAny_Call_method0_late hbase hline (thn (ho pins s σ H _ I h) fun v s1 ⟨x,H1,I1,r1,ty,q1⟩=>?_)
 obtain ⟨h1,h2⟩:=yfx I1 r1 ty
 exact ⟨T,id,pa,slot,hty,h1,h2,Calls.callWith_builtin rfl (PySem.evalArgs_none (hm pins s1 σ H1 x [] v [] Q I1 r1 .nil q1))⟩
theorem yia (pa:PlainAttrs T) (slot:Slot T name id) (hty:typeOf (.builtin id)=pure (.type "method_descriptor")) (hm:MtR X id r) (ho:PE X o to) (ha:PA X (e::es) t)
  (hbase:attributeBase o name X.env (eval o X.env)=eval o X.env:=by rfl)
  (hfew:((backTo cpos (starEach (e::es) X.env)).all (fun x=>!x.1) && (backToKw cpos (keywordEach [] X.env)).all (fun x=>x.1.isSome)
   && decide ((e::es).length+([]:List Keyword).length+(if ([]:List Keyword).isEmpty then 0 else 1)<30))=true:=by rfl)
  (hline:(apos.endLine == cpos.line)=true:=by rfl) (hs:starEach (e::es) X.env=(false,eval e X.env)::starEach es X.env:=by rfl) (hplain:(backTo cpos (starEach es X.env)).any (·.1)=false:=by rfl) :
  PE X (.Call (.Attribute o name apos) (e::es) [] cpos) (tBM X.K T r to t):=by
 intro pins s σ H Q I h
 refine wpAny_Call_method_late hbase hfew hline rfl (thn (ho pins s σ H _ I h) fun v s1 ⟨x,H1,I1,r1,ty,q1⟩=>?_)
 obtain ⟨h1,h2⟩:=yfx I1 r1 ty
 refine ⟨T,id,pa,slot,hty,h1,h2,?_⟩
 have hA:=ha cpos pins s1 σ H1 _ I1 q1
 rw [hs] at hA ⊢
 refine Calls.callWith_builtin (by show (false || (backTo cpos (starEach es X.env)).any (·.1))=false;rw [hplain]<;>rfl) (Calls.evalArgs_plain ?_)
 exact thn hA fun us s2 ⟨vs,H2,I2,r2,q2⟩=>hm pins s2 σ H2 x vs v us Q I2 r1 r2 q2
end
end L2
namespace L2
open PySem PySem.Spec PyProof.Rows
def MtM (X:Cx) (id:String) (r:V->List V->Hp->VK->Prop):Prop :=
 ∀ (pins:List (Addr×Obj)) (s:Shared) (σ:St) (H:Hp) (x:V) (xs:List V) (v:Value) (us:List Value) (Q:VK),Inv X pins σ H s->RelV x v->Vals xs us->r x xs H Q ->
  wpAny (model X.prog X.w) X.A (call (.builtin id) (v::us)) (EP X pins σ Q) X.xe s
theorem Vals.one:∀ {x:V} {us:List Value},Vals [x] us->∃ u,us=[u]/\RelV x u
 | _,_,.cons r .nil=>⟨_,rfl,r⟩
theorem Vals.zero:∀ {us:List Value},Vals [] us->us=[]
 | _,.nil=>rfl
theorem Vals.dropLast {xs:List V} {us:List Value} (h:Vals xs us):Vals xs.dropLast us.dropLast:=by
 induction h with
 | nil=>exact .nil
 | cons r t ih =>
  cases t with
  | nil=>exact .nil
  | cons q t' => exact .cons r ih
theorem zf9 {α:Type} (l:List α):l.eraseIdx (l.length-1)=l.dropLast:=by
 induction l with
 | nil=>rfl
 | cons a r ih =>
  cases r with
  | nil=>rfl
  | cons b r =>
   have e:(a::b::r).length-1=((b::r).length-1)+1:=by
    have h1:(a::b::r).length=r.length+2:=rfl
    have h2:(b::r).length=r.length+1:=rfl
    omega
   rw [e,List.eraseIdx_cons_succ,ih]
   all_goals rfl
section
variable {X:Cx} {pins:List (Addr×Obj)} {σ:St} {H:Hp} {s:Shared} {l b:Addr} {xs ys zs:List V}
theorem Inv.lset {its its':List Value} {n:Nat} {f:Array Value->Array Value} {t':Nat} (I:Inv X pins σ H s) (hH:H l=some (.lst xs))
  (e:s.heap.get? l=some { cls:=.type "list",data:=.seq its.toArray n }) (hf:f its.toArray=its'.toArray) (hv:Vals ys its') (hz:ys.length<=sizeLine) :
  Inv X pins σ (upd H l (.lst ys)) { s with heap:=s.heap.update l (Obj.mapSeq f),toks:=t' }:=by
 have q:=PySem.IsL.update e f
 rw [hf] at q
 refine I.write (x:=l) (e:=l) (by rw [hH];exact trivial) (.inl rfl) (fun b' u hb hu=>(Heap.get?_update_other s.heap (Obj.mapSeq f) (Ne.symm hb)).trans hu) ⟨_,q⟩ ?_
 exact ⟨hz,its',_,hv,q⟩
theorem Inv.lnew {its:List Value} {t':Nat} (I:Inv X pins σ H s) (hv:Vals ys its) (hz:ys.length<=sizeLine) :
  Inv X pins σ (upd H s.heap.objs.size (.lst ys)) { s with heap:=s.heap.push { cls:=.type "list",data:=.seq its.toArray },toks:=t' } :=
 I.laid (fun _ _ q=>Heap.get?_push_of_some _ q) (Nat.le_refl _) ⟨hz,its,0,hv,Heap.get?_push_size _ rfl⟩
theorem Inv.fresh (I:Inv X pins σ H s):H s.heap.objs.size=none:=I.hok.fresh (Nat.le_refl _)
theorem Inv.lstM (I:Inv X pins σ H s) (hH:H l=some (.lst xs)):xs.length<=sizeLine/\∃ (its:List Value) (n:Nat),Vals xs its/\xs.length=its.length/\s.heap.get? l=some { cls:=.type "list",data:=.seq its.toArray n }:=by
 obtain ⟨z,its,n,r,e⟩:=I.hok l _ hH
 exact ⟨z,its,n,r,r.length,e⟩
theorem zhm {n:Nat} (h:n<=sizeLine):Builtin.List.listTooLong n=false:=by
 unfold Builtin.List.listTooLong
 exact decide_eq_false (by omega)
end
section
variable {X:Cx}
def ygj:V->List V->Hp->VK->Prop:=fun x vs H Q=>∃ l xs y,x = .ref l/\vs=[y]/\H l=some (.lst xs)/\xs.length<sizeLine/\Q .non (upd H l (.lst (xs++[y])))
theorem zb0:MtM X "list.append" ygj:=by
 intro pins s σ H x vs v us Q I rx rv h
 obtain ⟨l,xs,y,rfl,rfl,hH,hz,q⟩:=h
 cases rx
 obtain ⟨u,rfl,ru⟩:=rv.one
 obtain ⟨z,its,n,r,hl,e⟩:=I.lstM hH
 refine call_meets F.slot_list_append ⟨_,e,rfl⟩ F.entry_list_append (F.args_list_append_2 _ _) (PySem.list_append l its.toArray n u (by rw [List.size_toArray];omega)) ⟨e,?_⟩
 refine ⟨.non,_,I.lset (its' := its++[u]) hH e (by simp) (r.append (.cons ru .nil)) ?_,rfl,q⟩
 rw [List.length_append,List.length_singleton]
 omega
def ygk:V->List V->Hp->VK->Prop:=fun x vs H Q=>∃ l b xs zs,x = .ref l/\vs=[.ref b]/\H l=some (.lst xs)/\H b=some (.lst zs)/\xs.length+zs.length<=sizeLine/\Q .non (upd H l (.lst (xs++zs)))
theorem zgz:MtM X "list.extend" ygk:=by
 intro pins s σ H x vs v us Q I rx rv h
 obtain ⟨l,b,xs,zs,rfl,rfl,hH,hB,hz,q⟩:=h
 cases rx
 obtain ⟨u,rfl,ru⟩:=rv.one
 cases ru
 obtain ⟨z,its,n,r,hl,e⟩:=I.lstM hH
 obtain ⟨z2,its2,n2,r2,hl2,e2⟩:=I.lstM hB
 have hsz:its.toArray.size+its2.toArray.size<=sizeLine:=by rw [List.size_toArray,List.size_toArray];omega
 have hlong : ¬ (!its.toArray.isEmpty && Builtin.List.listTooLong (its.toArray.size+its2.toArray.size))=true:=by
  rw [zhm hsz,Bool.and_false]
  exact Bool.false_ne_true
 refine call_meets F.slot_list_extend ⟨_,e,rfl⟩ F.entry_list_extend (F.args_list_extend_2 _ _)
  (AutoSeq1.list_extend_list_list_0 l its.toArray n b its2.toArray n2 hlong (by rw [List.size_toArray];omega) (by omega)) ⟨e,e2,?_⟩
 refine ⟨.non,_,I.lset (its' := its++its2) hH e (by simp) (r.append r2) ?_,rfl,q⟩
 rw [List.length_append]
 omega
def rPop:V->List V->Hp->VK->Prop:=fun x vs H Q=>∃ l xs y,x = .ref l/\vs=[]/\H l=some (.lst xs)/\xs[xs.length-1]? = some y/\Q y (upd H l (.lst xs.dropLast))
theorem ygR:MtM X "list.pop" rPop:=by
 intro pins s σ H x vs v us Q I rx rv h
 obtain ⟨l,xs,y,rfl,rfl,hH,hy,q⟩:=h
 cases rx
 have hus:=rv.zero
 subst hus
 obtain ⟨z,its,n,r,hl,e⟩:=I.lstM hH
 obtain ⟨u,hu,ru⟩:=r.get hy
 have hy':its.toArray[its.toArray.size-1]? = some u:=by
  show its.toArray[its.length-1]? = some u
  rw [<- Array.getElem?_toList,<- hl]
  exact hu
 refine call_meets F.slot_list_pop ⟨_,e,rfl⟩ F.entry_list_pop (F.args_list_pop_1 _) (MeetsSeq.list_pop_last l its.toArray n u hy' (by rw [List.size_toArray];omega)) ⟨e,?_⟩
 refine ⟨y,_,I.lset (its' := its.dropLast) hH e ?_ r.dropLast ?_,ru,q⟩
 ·show its.toArray.eraseIdxIfInBounds (its.toArray.size-1)=its.dropLast.toArray
  rw [List.size_toArray,List.eraseIdxIfInBounds_toArray,zf9]
 ·rw [List.length_dropLast]
  omega
end
section
variable {prog:Program} {w:World} {A:Around} {E:Value->Shared->Prop} {s:Shared}
end
section
variable {X:Cx}
end
end L2
namespace L2
open PySem PySem.Spec PyProof.Rows
section
variable {κ:Type} [DecidableEq κ]
def valV (kvs:List (κ×V)) (k:κ):Option V:=(kvs.find? fun kv=>decide (kv.1=k)).map (·.2)
def putK (kvs:List (κ×V)) (k:κ) (v:V):List (κ×V) :=
 if (kvs.any fun kv=>decide (kv.1=k))=true then kvs.map (fun kv=>if kv.1=k then (kv.1,v) else kv) else kvs++[(k,v)]
theorem zbB {p:κ×V} {r:List (κ×V)} {k:κ} (e:p.1=k):valV (p::r) k=some p.2:=by simp [valV,List.find?_cons,e]
theorem zba {p:κ×V} {r:List (κ×V)} {k:κ} (e : ¬ p.1=k):valV (p::r) k=valV r k:=by simp [valV,List.find?_cons,e]
theorem zcv (k:κ):∀ kvs:List (κ×V),(kvs.any fun kv=>decide (kv.1=k))=(valV kvs k).isSome
 | []=>rfl
 | p::r=>by
  rw [List.any_cons]
  by_cases e:p.1=k
  ·simp only [zbB e,decide_eq_true e,Bool.true_or,Option.isSome_some]
  ·rw [zba e,decide_eq_false e,Bool.false_or];exact zcv k r
theorem zbn (kvs:List (κ×V)) (k:κ) (v:V):(putK kvs k v).length<=kvs.length+1:=by
 unfold putK
 split
 ·rw [List.length_map];omega
 ·rw [List.length_append,List.length_cons,List.length_nil];omega
theorem RelO.isSome_eq {o:Option V} {u:Option Value} (r:RelO o u):o.isSome=u.isSome:=by
 cases o with
 | none=>cases u with
  | none=>rfl
  | some _=>exact (show False from r).elim
 | some _=>cases u with
  | none=>exact (show False from r).elim
  | some _=>rfl
theorem KV.val {kvs:List (κ×V)} {vs:List (κ×Value)} (r:KV kvs vs) (k:κ):RelO (valV kvs k) (valueAt vs k):=by
 unfold KV at r
 induction r with
 | nil=>exact True.intro
 | @cons p q ps qs h t ih =>
  obtain ⟨h1,h2⟩:=h
  by_cases e:p.1=k
  ·have e':q.1=k:=h1.symm.trans e
   have b:valueAt (q::qs) k=some q.2:=by simp [valueAt,List.find?_cons,e']
   rw [zbB e,b];exact h2
  ·have e' : ¬ q.1=k:=fun z=>e (h1.trans z)
   have b:valueAt (q::qs) k=valueAt qs k:=by simp [valueAt,List.find?_cons,e']
   rw [zba e,b];exact ih
theorem KV.any {kvs:List (κ×V)} {vs:List (κ×Value)} (r:KV kvs vs) (k:κ):(kvs.any fun kv=>decide (kv.1=k))=vs.any fun kv=>decide (kv.1=k):=by
 unfold KV at r
 induction r with
 | nil=>rfl
 | cons h t ih=>rw [List.any_cons,List.any_cons,ih,h.1]
theorem KV.repl {kvs:List (κ×V)} {vs:List (κ×Value)} (r:KV kvs vs) (k:κ) {y:V} {u:Value} (ry:RelV y u) :
  KV (kvs.map fun kv=>if kv.1=k then (kv.1,y) else kv) (vs.map fun kv=>if kv.1=k then (kv.1,u) else kv):=by
 unfold KV at r ⊢
 induction r with
 | nil=>exact .nil
 | @cons p q ps qs h t ih =>
  rw [List.map_cons,List.map_cons]
  refine .cons ?_ ih
  obtain ⟨h1,h2⟩:=h
  by_cases e:p.1=k
  ·rw [if_pos e,if_pos (h1.symm.trans e)];exact ⟨h1,ry⟩
  ·rw [if_neg e,if_neg (fun z=>e (h1.trans z))];exact ⟨h1,h2⟩
theorem KV.put {kvs:List (κ×V)} {vs:List (κ×Value)} (r:KV kvs vs) (k:κ) {y:V} {u:Value} (ry:RelV y u):KV (putK kvs k y) (stored vs k u):=by
 unfold putK stored
 rw [r.any k]
 by_cases e:(vs.any fun kv=>decide (kv.1=k))=true
 ·rw [if_pos e,if_pos e];exact r.repl k ry
 ·rw [if_neg e,if_neg e];exact Paired.snoc r ⟨rfl,ry⟩
theorem KV.length {kvs:List (κ×V)} {vs:List (κ×Value)} (r:KV kvs vs):kvs.length=vs.length:=Paired.length r
end
theorem yeL {P:Program} {w:World} {k:Key} {u:Value} (r:RelV (kV k) u):(ybp P w).is k u=true:=by
 cases k with
 | inl i=>obtain ⟨t,e⟩:=(show ∃ t,u=Value.int i t from r);subst e;exact zcm P w i t
 | inr x=>obtain ⟨t,e⟩:=(show ∃ t,u=Value.str x t from r);subst e;exact zcn P w x t
theorem ygS {P:Program} {w:World} {y:V} {k:Key} {u:Value} (e:kOf y=some k) (r:RelV y u):(ybp P w).is k u=true:=by
 cases y with
 | int i=>cases e;obtain ⟨t,e⟩:=(show ∃ t,u=Value.int i t from r);subst e;exact zcm P w i t
 | str x=>cases e;obtain ⟨t,e⟩:=(show ∃ t,u=Value.str x t from r);subst e;exact zcn P w x t
 | bl b=>cases e;cases (show u=Value.bool b from r);exact decide_eq_true rfl
 | _=>cases e
theorem zdt {P:Program} {w:World}:∀ {ys:List V} {ks:List Key} {us:List Value},ys.map kOf=ks.map some->Vals ys us->ItemsAre (ybp P w) ks us
 | [],[],_,_,r=>by cases r;exact .nil
 | [],_::_,_,e,_=>by simp at e
 | _::_,[],_,e,_=>by simp at e
 | y::ys,k::ks,_,e,r=>by
  rw [List.map_cons,List.map_cons] at e
  injection e with e1 e2
  cases r with
  | cons h t=>exact .cons (ygS e1 h) (zdt e2 t)
def KTup (H:Hp) (b:Addr) (k:List Key):Prop:=∃ ys,H b=some (.tup ys)/\ys.map kOf=k.map some
theorem KTup.of {H:Hp} {b:Addr} {k:List Key} (e:H b=some (.tup (k.map kV))):KTup H b k:=⟨_,e,by rw [List.map_map];exact List.map_congr_left fun x _=>ygo x⟩
abbrev KT (H:Hp):List (List Key×V)->List (List Key×Addr×Value)->Prop:=Paired fun p q=>p.1=q.1/\(∃ ys,H q.2.1=some (.tup ys)/\ys.map kOf=p.1.map some)/\RelV p.2 q.2.2
theorem KT.val {H:Hp} {kvs:List (List Key×V)} {xs:List (List Key×Addr×Value)} (r:KT H kvs xs) (k:List Key):RelO (valV kvs k) ((atKey xs k).map (·.2)):=by
 induction r with
 | nil=>exact True.intro
 | @cons p q ps qs h t ih =>
  obtain ⟨h1,_,h2⟩:=h
  by_cases e:p.1=k
  ·have e':q.1=k:=h1.symm.trans e
   have b:atKey (q::qs) k=some q.2:=by simp [atKey,List.find?_cons,e']
   rw [zbB e,b];exact h2
  ·have e' : ¬ q.1=k:=fun z=>e (h1.trans z)
   have b:atKey (q::qs) k=atKey qs k:=by simp [atKey,List.find?_cons,e']
   rw [zba e,b];exact ih
theorem KT.repl {H:Hp} {kvs:List (List Key×V)} {xs:List (List Key×Addr×Value)} (r:KT H kvs xs) (k:List Key) {y:V} {u:Value} (ry:RelV y u) :
  KT H (kvs.map fun kv=>if kv.1=k then (kv.1,y) else kv) (xs.map (putAt k u)):=by
 induction r with
 | nil=>exact .nil
 | @cons p q ps qs h t ih =>
  rw [List.map_cons,List.map_cons]
  refine .cons ?_ ih
  obtain ⟨h1,h2,h3⟩:=h
  unfold putAt
  by_cases e:p.1=k
  ·rw [if_pos e,if_pos (h1.symm.trans e)];exact ⟨h1,h2,ry⟩
  ·rw [if_neg e,if_neg (fun z=>e (h1.trans z))];exact ⟨h1,h2,h3⟩
theorem KT.put {H:Hp} {kvs:List (List Key×V)} {xs:List (List Key×Addr×Value)} (r:KT H kvs xs) (k:List Key) {b:Addr} {y:V} {u:Value} (hb:KTup H b k) (ry:RelV y u) :
  KT H (putK kvs k y) (storedH xs k b u):=by
 have e:(kvs.any fun kv=>decide (kv.1=k))=(atKey xs k).isSome:=by
  rw [zcv,(r.val k).isSome_eq,Option.isSome_map]
 unfold putK storedH
 rw [e]
 by_cases q:(atKey xs k).isSome=true
 ·rw [if_pos q,if_pos q];exact r.repl k ry
 ·rw [if_neg q,if_neg q];exact Paired.snoc r ⟨rfl,hb,ry⟩
theorem KT.keeps {H H':Hp} {kvs:List (List Key×V)} {xs:List (List Key×Addr×Value)} (r:KT H kvs xs) (ht:∀ b ys,H b=some (.tup ys)->H' b=some (.tup ys)):KT H' kvs xs :=
 Paired.mapP r fun _ _ z=>⟨z.1,z.2.1.imp fun _ e=>⟨ht _ _ e.1,e.2⟩,z.2.2⟩
section
variable {P:Program} {w:World} {H:Hp} {h:Heap} {a:Addr}
theorem yf6 {u:HO} (ok:HOk P w H h) (e:Rd H a u):ObjOk P w H h a u:=e.ok ok
theorem yer {kvs:List (Key×V)} (ok:HOk P w H h) (e:Rd H a (.dK kvs)):kvs.length<=sizeLine/\(a == sysModules)=false/\∃ vs,KV kvs vs/\h.DictOf (ybp P w) a vs :=
 show ObjOk P w H h a (.dK kvs) from yf6 ok e
theorem yf7 {kvs:List (Key×V)} (ok:HOk P w H h) (e:H a=some (.dK kvs)):kvs.length<=sizeLine/\(a == sysModules)=false/\∃ vs,KV kvs vs/\h.DictOf (ybp P w) a vs:=yer ok (.inl e)
theorem yes {ks:List Key} (ok:HOk P w H h) (e:KTup H a ks):(tupleKind (ybp P w)).is h ks a:=by
 obtain ⟨ys,e,ek⟩:=e
 obtain ⟨_,its,r,o,h1,h2,n,h3⟩:=(show ObjOk P w H h a (.tup ys) from ok a _ e)
 exact ⟨o,its.toArray,n,h1,h2,h3,by simpa using zdt ek r⟩
theorem yeM {kvs:List (List Key×V)} (ok:HOk P w H h) (e:Rd H a (.dT kvs)):kvs.length<=sizeLine/\(a == sysModules)=false /\
  ∃ xs,KT H kvs xs/\h.DictOfH (tupleKind (ybp P w)) a xs:=by
 obtain ⟨z,y,xs,r,o,es,ep,h1,h2,h3,h4,h5⟩:=(show ObjOk P w H h a (.dT kvs) from yf6 ok e)
 refine ⟨z,y,xs,r,o,es,ep,h1,h2,h3,h4,fun x hx=>?_,h5⟩
 have all:∀ {l:List (List Key×V)} {m:List (List Key×Addr×Value)},KT H l m->∀ x∈m,(tupleKind (ybp P w)).is h x.1 x.2.1:=by
  intro l m q
  induction q with
  | nil=>intro x hx;exact nomatch hx
  | @cons p q ps qs hq t ih =>
   intro x hx
   rcases List.mem_cons.mp hx with e | hx
   ·subst e
    exact yes ok (by rw [<- hq.1];exact hq.2.1)
   ·exact ih x hx
 exact all r x hx
theorem yib {kvs:List (List Key×V)} (ok:HOk P w H h) (e:H a=some (.dT kvs)):kvs.length<=sizeLine/\(a == sysModules)=false /\
  ∃ xs,KT H kvs xs/\h.DictOfH (tupleKind (ybp P w)) a xs:=yeM ok (.inl e)
end
def DGet (H:Hp) (a:Addr) (y:V) (r:Option V):Prop :=
 (∃ kvs k,Rd H a (.dK kvs)/\y=kV k/\r=valV kvs k)\/∃ kvs k b,Rd H a (.dT kvs)/\y = .ref b/\KTup H b k/\r=valV kvs k
def DPut (H:Hp) (a:Addr) (y v:V) (H':Hp):Prop :=
 (∃ kvs k,H a=some (.dK kvs)/\y=kV k/\kvs.length<sizeLine/\H'=upd H a (.dK (putK kvs k v))) \/
 ∃ kvs k b,H a=some (.dT kvs)/\y = .ref b/\KTup H b k/\kvs.length<sizeLine/\H'=upd H a (.dT (putK kvs k v))
theorem DGet.k {H:Hp} {a:Addr} {kvs:List (Key×V)} {k:Key} (e:H a=some (.dK kvs)):DGet H a (kV k) (valV kvs k):=.inl ⟨kvs,k,.inl e,rfl,rfl⟩
theorem DGet.t {H:Hp} {a b:Addr} {kvs:List (List Key×V)} {k:List Key} (e:H a=some (.dT kvs)) (eb:KTup H b k):DGet H a (.ref b) (valV kvs k):=.inr ⟨kvs,k,b,.inl e,rfl,eb,rfl⟩
theorem DPut.k {H:Hp} {a:Addr} {kvs:List (Key×V)} {k:Key} {v:V} (e:H a=some (.dK kvs)) (hl:kvs.length<sizeLine):DPut H a (kV k) v (upd H a (.dK (putK kvs k v))):=.inl ⟨kvs,k,e,rfl,hl,rfl⟩
theorem DPut.t {H:Hp} {a b:Addr} {kvs:List (List Key×V)} {k:List Key} {v:V} (e:H a=some (.dT kvs)) (eb:KTup H b k) (hl:kvs.length<sizeLine) :
  DPut H a (.ref b) v (upd H a (.dT (putK kvs k v))):=.inr ⟨kvs,k,b,e,rfl,eb,hl,rfl⟩
section
variable {X:Cx} {pins:List (Addr×Obj)} {σ:St} {H:Hp} {s:Shared} {a:Addr} {y v:V} {u r:Value} {o:Option V} {A:Around} {E:Value->Shared->Prop}
theorem Inv.big (I:Inv X pins σ H s):sysModules<s.heap.objs.size:=by
 have h:mainGlobals<s.heap.objs.size:=(I.mod.glob.keeps I.bk).lt
 exact Nat.lt_trans (by decide) h
theorem zgA {Q:Value->Shared->Prop} (hu:A.units+1<cLine) (I:Inv X pins σ H s) (g:DGet H a y (some v)) (ry:RelV y u) (h:∀ w' s',Inv X pins σ H s'->RelV v w'->Q w' s') :
  wpAny (model X.prog X.w) A (getItem (.ref a) u) Q E s:=by
 rcases g with ⟨kvs,k,e,ey,l⟩ | ⟨kvs,k,b,e,ey,eb,l⟩
 ·subst ey
  obtain ⟨z,hd,vs,rel,dd⟩:=yer I.hok e
  obtain ⟨w',hw,rw'⟩:=RelO.some_of (v:=v) (o:=valueAt vs k) (by rw [l];exact rel.val k)
  exact wpAny_getItem_of (yeL ry) dd.mapOf hw (h w' _ (I.tok _) rw')
 ·subst ey
  cases (show u=Value.ref b from ry)
  obtain ⟨z,hd,xs,rel,dd⟩:=yeM I.hok e
  obtain ⟨w',hw,rw'⟩:=RelO.some_of (v:=v) (o:=(atKey xs k).map (·.2)) (by rw [l];exact rel.val k)
  obtain ⟨p,hp,hp2⟩:=Option.map_eq_some_iff.mp hw
  refine wpAny_getItem_heap (tupleKind_room_in1 hu) (yes I.hok eb) dd hp ?_
  rw [hp2]
  exact h w' _ (I.tok _) rw'
theorem ziy {Q:Value->Shared->Prop} (hu:A.units+1<cLine) (I:Inv X pins σ H s) (g:DGet H a y o) (ry:RelV y u) (h:∀ s',Inv X pins σ H s'->Q (.bool (!o.isSome)) s') :
  wpAny (model X.prog X.w) A (compareOp .NotIn u (.ref a)) Q E s:=by
 rcases g with ⟨kvs,k,e,ey,l⟩ | ⟨kvs,k,b,e,ey,eb,l⟩
 ·subst ey
  obtain ⟨z,hd,vs,rel,dd⟩:=yer I.hok e
  refine wpAny_notIn_of (yeL ry) hd dd.mapOf ?_
  rw [<- (rel.val k).isSome_eq,<- l]
  exact h _ (I.tok _)
 ·subst ey
  cases (show u=Value.ref b from ry)
  obtain ⟨z,hd,xs,rel,dd⟩:=yeM I.hok e
  refine wpAny_notIn_heap (tupleKind_room_in1 hu) (yes I.hok eb) hd dd ?_
  have q:=(rel.val k).isSome_eq
  rw [Option.isSome_map] at q
  rw [<- q,<- l]
  exact h _ (I.tok _)
theorem zc1 {h':Heap} {t':Nat} {ob:HO} (I:Inv X pins σ H s) (mu:Mut (H a)) (hs:Heap.SameBut a s.heap h') (he:∃ q,h'.get? a=some q) (new:ObjOk X.prog X.w (upd H a ob) h' a ob) :
  Inv X pins σ (upd H a ob) { s with heap:=h',toks:=t' } :=
 I.write (x:=a) (e:=a) mu (.inl rfl) (fun b q hb z=>(hs.2 b hb).trans z) he new
theorem yfy {P:Program} {w:World} {H':Hp} {h':Heap} {kvs:List (Key×V)} {vs:List (Key×Value)} (z:kvs.length<=sizeLine) (hd:(a == sysModules)=false) (rel:KV kvs vs) (dd:h'.DictOf (ybp P w) a vs) :
  ObjOk P w H' h' a (.dK kvs):=⟨z,hd,vs,rel,dd⟩
theorem zgB {H':Hp} {Q:Unit->Shared->Prop} (hu:A.units+1<cLine) (I:Inv X pins σ H s) (g:DPut H a y v H') (ry:RelV y u) (rv:RelV v r) (h:∀ s',Inv X pins σ H' s'->Q () s') :
  wpAny (model X.prog X.w) A (setItem (.ref a) u r) Q E s:=by
 rcases g with ⟨kvs,k,e,ey,l,eH⟩ | ⟨kvs,k,b,e,ey,eb,l,eH⟩
 ·subst ey eH
  obtain ⟨z,hd,vs,rel,dd⟩:=yf7 I.hok e
  have hz:vs.length<=sizeLine:=by rw [<- rel.length];exact z
  have hl:(putK kvs k v).length<=sizeLine:=by have:=zbn kvs k v;omega
  refine wpAny_setItem_pairs (hsz:=hz) (yeL ry) dd fun h' dd' hs=>h _ ?_
  have he:∃ q,h'.get? a=some q:=let ⟨q,_,_,hq,_⟩:=dd';⟨q,hq⟩
  exact zc1 I (by rw [e];exact True.intro) hs he (yfy hl hd (rel.put k rv) dd')
 ·subst ey eH
  cases (show u=Value.ref b from ry)
  obtain ⟨z,hd,xs,rel,dd⟩:=yib I.hok e
  have hz:xs.length<=sizeLine:=by rw [<- Paired.length rel];exact z
  have hl:(putK kvs k v).length<=sizeLine:=by have:=zbn kvs k v;omega
  refine wpAny_setItem_heap (hsz:=hz) (tupleKind_room_in1 hu) (yes I.hok eb) dd fun h' dd' hs=>h _ ?_
  obtain ⟨q,es,ep,hq,h2,h3,h4,_,h5⟩:=dd'
  refine zc1 I (by rw [e];exact True.intro) hs ⟨q,hq⟩ ⟨hl,hd,_,(rel.put k eb rv).keeps fun c ys ec=>?_,q,es,ep,hq,h2,h3,h4,h5⟩
  rw [yax (yhQ ec e (fun z=>nomatch z))]
  exact ec
end
section
variable {X:Cx} {pins:List (Addr×Obj)} {σ:St} {H:Hp} {s:Shared} {a:Addr} {kvs:List (Key×V)} {k:Key} {u:Value} {A:Around} {E:Value->Shared->Prop}
theorem yic {Q:Value->Shared->Prop} (I:Inv X pins σ H s) (e:Rd H a (.dK kvs)) (h:∀ t s',Inv X pins σ H s'->Q (.int kvs.length t) s'):wpAny (model X.prog X.w) A (call (.builtin "len") [.ref a]) Q E s:=by
 obtain ⟨z,hd,vs,rel,dd⟩:=yer I.hok e
 refine call_len_dict hd dd (by rw [<- rel.length];rw [sizeLine_eq] at z;omega) ?_
 rw [<- rel.length]
 exact h _ _ (I.tok _)
end
def NoSl (i:Expr):Prop:=∀ ov iv,subscripted i false ov iv=operate [ov,iv] (getItem ov iv)
theorem ziz {prog:Program} {w:World} {A:Around} {E:Value->Shared->Prop} {s:Shared} {env:Env} {value slice:Expr} {pos:Pos} {T id:String} {Q:Value->Shared->Prop}
  (hl:typeLookup (.type T) "__getitem__" = pure (some (.builtin id))) (hs:NoSl slice)
  (h:wpAny (model prog w) A (eval value env) (fun o s₁=>wpAny (model prog w) A (eval slice env) (fun i s₂=>s₂.TypeIs o T/\wpAny (model prog w) A (getItem o i) Q E s₂) E s₁) E s) :
  wpAny (model prog w) A (eval (.Subscript value slice pos) env) Q E s:=by
 refine Subscript_ (wpAny_mono h (fun o s₁ h₁=>wpAny_mono h₁ (fun i s₂ h₂=>?_) fun _ _ x=>x) fun _ _ x=>x)
 obtain ⟨hT,h₂⟩:=h₂
 unfold subscriptTail
 refine wpAny_bind ?_
 rw [getitemInPython_of_ne hT.not_modules]
 refine wpAny_bind (wpAny_specialOf hT hl ?_)
 have fin:wpAny (model prog w) A (subscripted slice false o i) (fun r s₃=>wpAny (model prog w) A (letTemporaryGo value o r >>= fun _=>pure r) Q E s₃) E s₂:=by
  rw [hs o i]
  exact wpAny_operating (wpAny_mono h₂ (fun r s₃ h₃=>wpAny_bind (wpAny_letTemporaryGo (wpAny_pure h₃))) fun _ _ x=>x)
 first
  | exact wpAny_pure (wpAny_bind fin)
  | exact wpAny_bind (wpAny_pure (wpAny_bind fin))
  | exact wpAny_bind fin
theorem zeO {X:Cx} {pins:List (Addr×Obj)} {σ:St} {H:Hp} {s:Shared} {a:Addr} {y:V} {o:Option V} (I:Inv X pins σ H s) (g:DGet H a y o):s.TypeIs (.ref a) "dict" := by
 rcases g with ⟨kvs,k,e,_,_⟩ | ⟨kvs,k,b,e,_,_,_⟩
 ·obtain ⟨_,_,vs,_,dd⟩:=yer I.hok e
  exact dd.typeIs
 ·obtain ⟨_,_,xs,_,dd⟩:=yeM I.hok e
  exact dd.typeIs
def yid (td ty:TE):TE:=fun σ H Q=>td σ H fun x H1=>ty σ H1 fun y H2=>∃ a v,x = .ref a/\DGet H2 a y (some v)/\Q v H2
def yie (td ty tv:TE):TS:=fun D σ H=>tv σ H fun v H1=>td σ H1 fun x H2=>ty σ H2 fun y H3=>∃ a H4,x = .ref a/\DPut H3 a y v H4/\D.nx σ H4
section
variable {X:Cx} {o i e value:Expr} {pos pos' tpos:Pos} {td ty tv:TE}
theorem ziA (hu:X.A.units+1<cLine) (ho:PE X o td) (hi:PE X i ty) (hs:NoSl i):PE X (.Subscript o i pos) (yid td ty):=by
 intro pins s σ H Q I h
 refine ziz PySem.F.slot_dict_getitem.lookup hs (thn (ho pins s σ H _ I h) fun u s1 ⟨x,H1,I1,rx,q1⟩=>thn (hi pins s1 σ H1 _ I1 q1) fun iv s2 ⟨y,H2,I2,ry,a,v,ex,g,q2⟩=>?_)
 subst ex
 obtain rfl:u=Value.ref a:=rx
 exact ⟨zeO I2 g,zgA hu I2 g ry fun w' s3 I3 rw' => ⟨v,H2,I3,rw',q2⟩⟩
theorem ziB (hu:X.A.units+1<cLine) (ho:PE X o td) (hi:PE X i ty) (hv:PE X value tv) (hs:swapsWith value (some (.Subscript o i pos')) pos.line X.env=pure false) :
  PS X (.Assign [.Subscript o i pos'] value pos) (yie td ty tv):=by
 intro pins s σ H D I h
 refine wpAny_Assign_Subscript (thn (hv pins s σ H _ I h) fun r s1 ⟨v,H1,I1,rv,q1⟩=>thn (ho pins s1 σ H1 _ I1 q1) fun u s2 ⟨x,H2,I2,rx,q2⟩=>thn (hi pins s2 σ H2 _ I2 q2) fun iv s3 ⟨y,H3,I3,ry,a,H4,ex,g,q3⟩=>?_) hs
 subst ex
 obtain rfl:u=Value.ref a:=rx
 exact zgB hu I3 g ry rv fun s4 I4=>⟨σ,H4,I4,q3⟩
end
theorem zeb {P:Program} {w:World} {H:Hp} (h:Heap) (hb:sysModules<h.objs.size):ObjOk P w H (h.push { cls:=.type "dict",data:=.dict #[] }) h.objs.size (.dK []) :=
 ⟨Nat.zero_le _,beq_eq_false_iff_ne.mpr (Ne.symm (Nat.ne_of_lt hb)),[],.nil,Heap.DictOf.new h⟩
theorem zhn {P:Program} {w:World} {H:Hp} (h:Heap) (hb:sysModules<h.objs.size):ObjOk P w H (h.push { cls:=.type "dict",data:=.dict #[] }) h.objs.size (.dT []) :=
 ⟨Nat.zero_le _,beq_eq_false_iff_ne.mpr (Ne.symm (Nat.ne_of_lt hb)),[],.nil,_,#[],0,Heap.get?_push_size _ rfl,⟨rfl,rfl,rfl⟩,rfl,rfl,List.nodup_nil⟩
def ygT:TE:=fun _ H Q=>∀ p,H p=none->Q (.ref p) (upd H p (.dK []))
def ygU:TE:=fun _ H Q=>∀ p,H p=none->Q (.ref p) (upd H p (.dT []))
section
variable {X:Cx} {pos:Pos}
theorem zho:PE X (.Dict [] [] pos) ygT:=fun pins s σ H Q I h =>
 wpAny_Dict_empty ⟨.ref s.heap.objs.size,_,I.laid (a:=s.heap.objs.size) (o:=.dK []) (t' := s.toks) (fun _ _ q=>Heap.get?_push_of_some _ q) (Nat.le_refl _) (zeb s.heap I.big),rfl,h _ (I.hok.fresh (Nat.le_refl _))⟩
theorem zhp:PE X (.Dict [] [] pos) ygU:=fun pins s σ H Q I h =>
 wpAny_Dict_empty ⟨.ref s.heap.objs.size,_,I.laid (a:=s.heap.objs.size) (o:=.dT []) (t' := s.toks) (fun _ _ q=>Heap.get?_push_of_some _ q) (Nat.le_refl _) (zhn s.heap I.big),rfl,h _ (I.hok.fresh (Nat.le_refl _))⟩
end
def yeZ:List (TE×TE)->St->Hp->(List (V×V)->Hp->Prop)->Prop
 | [],_,H,Q=>Q [] H
 | (tk,tv)::r,σ,H,Q=>tk σ H fun x H1=>tv σ H1 fun y H2=>yeZ r σ H2 fun ps H3=>Q ((x,y)::ps) H3
abbrev VV:List (V×V)->List (Value×Value)->Prop:=Paired fun p q=>RelV p.1 q.1/\RelV p.2 q.2
def PPs (X:Cx) (pos:Pos) (keys:List (Option Expr)) (values:List Expr) (trs:List (TE×TE)):Prop :=
 ∀ (pins:List (Addr×Obj)) (s:Shared) (σ:St) (H:Hp) (Q:List (V×V)->Hp->Prop),Inv X pins σ H s->yeZ trs σ H Q ->
  wpAny (model X.prog X.w) X.A (evalPairs (pairTrees keys values X.env pos)) (fun vs s' => ∃ ps H',Inv X pins σ H' s'/\VV ps vs/\Q ps H') X.xe s
theorem ziC {X:Cx} {pos:Pos}:PPs X pos [] [] []:=fun pins s σ H Q I h=>pairTrees_nil_walk ⟨[],H,I,.nil,h⟩
theorem zhq {X:Cx} {pos:Pos} {k v:Expr} {ks:List (Option Expr)} {vs:List Expr} {tk tv:TE} {trs:List (TE×TE)} (hk:PE X k tk) (hv:PE X v tv) (hr:PPs X pos ks vs trs) :
  PPs X pos (some k::ks) (v::vs) ((tk,tv)::trs):=fun pins s σ H Q I h =>
 pairTrees_cons_walk (thn (hk pins s σ H _ I h) fun u s1 ⟨x,H1,I1,rx,q1⟩=>thn (hv pins s1 σ H1 _ I1 q1) fun w2 s2 ⟨y,H2,I2,ry,q2⟩ =>
  thn (hr pins s2 σ H2 _ I2 q2) fun ws s3 ⟨ps,H3,I3,rel,q3⟩=>⟨(x,y)::ps,H3,I3,.cons ⟨rx,ry⟩ rel,q3⟩)
def yd3 (kvs more:List (Key×V)):List (Key×V):=more.foldl (fun acc kv=>putK acc kv.1 kv.2) kvs
theorem KV.merge:∀ {more:List (Key×V)} {rs:List (Key×Value)} {kvs:List (Key×V)} {vs:List (Key×Value)},KV more rs->KV kvs vs->KV (yd3 kvs more) (merged vs rs):=by
 intro more rs kvs vs r
 unfold KV at r
 induction r generalizing kvs vs with
 | nil=>intro q;exact q
 | @cons p q ps qs h t ih =>
  intro r0
  have e:KV (putK kvs p.1 p.2) (stored vs q.1 q.2):=by
   have:=r0.put p.1 h.2
   rw [<- h.1];exact this
  exact ih e
theorem zbS:∀ (more kvs:List (Key×V)),(yd3 kvs more).length<=kvs.length+more.length
 | [],kvs=>by show kvs.length<=kvs.length+0;omega
 | p::r,kvs=>by
  have h1:=zbS r (putK kvs p.1 p.2)
  have h2:=zbn kvs p.1 p.2
  show (yd3 (putK kvs p.1 p.2) r).length<=_
  rw [List.length_cons];omega
theorem zcM {P:Program} {w:World}:∀ {kvs:List (Key×V)} {ws:List (Value×Value)},VV (kvs.map fun kv=>(kV kv.1,kv.2)) ws->∃ rs,Carries (ybp P w) ws rs/\KV kvs rs
 | [],_,r=>by rw [List.map_nil] at r;cases r;exact ⟨[],True.intro,.nil⟩
 | p::kvs,_,r=>by
  rw [List.map_cons] at r
  cases r with
  | @cons a b as bs h t =>
   obtain ⟨rs,c,q⟩:=zcM (P:=P) (w:=w) t
   obtain ⟨b1,b2⟩:=b
   exact ⟨(p.1,b2)::rs,⟨yeL h.1,rfl,c⟩,.cons ⟨rfl,h.2⟩ q⟩
def yif (trs:List (TE×TE)):TE:=fun σ H Q=>∀ p,H p=none->yeZ trs σ (upd H p (.dK [])) fun ps H2=>H2 p=some (.dK [])/\∃ kvs:List (Key×V),ps=kvs.map (fun kv=>(kV kv.1,kv.2))/\kvs.length<=15/\Q (.ref p) (upd H2 p (.dK (yd3 [] kvs)))
theorem ziD {X:Cx} {pos:Pos} {keys:List (Option Expr)} {values:List Expr} {trs:List (TE×TE)} (h:PPs X pos keys values trs) (hall:keys.all (·.isSome)=true) (hl:keys.length=values.length) (h0:keys≠[])
  (h15:keys.length<=15):PE X (.Dict keys values pos) (yif trs):=by
 intro pins s σ H Q I q
 have hn:=I.hok.fresh (Nat.le_refl s.heap.objs.size)
 have I1:=I.laid (a:=s.heap.objs.size) (o:=.dK []) (h' := s.heap.push { cls:=.type "dict",data:=.dict #[] }) (t' := s.toks) (fun _ _ q=>Heap.get?_push_of_some _ q) (Nat.le_refl _) (zeb s.heap I.big)
 refine wpAny_Dict_walk (knd:=ybp X.prog X.w) hall hl h0 h15 (thn (h pins _ σ _ _ I1 (q _ hn)) fun ws s2 ⟨ps,H2,I2,rel,e,kvs,ep,lk,q2⟩=>?_)
 subst ep
 obtain ⟨rs,c,rk⟩:=zcM (P:=X.prog) (w:=X.w) rel
 obtain ⟨z,hd,vs0,r0,dd⟩:=yf7 I2.hok e
 cases r0
 refine ⟨rs,c,dd,fun h' dd' hs=>⟨.ref s.heap.objs.size,_,?_,rfl,q2⟩⟩
 have hz:(yd3 [] kvs).length<=sizeLine:=by
  have h1:=zbS kvs []
  rw [List.length_nil] at h1
  rw [sizeLine_eq];omega
 have he:∃ q,h'.get? s.heap.objs.size=some q:=let ⟨q,_,_,hq,_⟩:=dd';⟨q,hq⟩
 exact zc1 I2 (by rw [e];exact True.intro) hs he (yfy hz hd (rk.merge .nil) dd')
section
variable {X:Cx} {pins:List (Addr×Obj)} {σ:St} {H:Hp} {s:Shared} {a:Addr} {y d:V} {u r:Value} {o:Option V} {A:Around} {E:Value->Shared->Prop}
end
section
variable {X:Cx} {o e f:Expr} {apos cpos:Pos} {td ty tx:TE}
end
section
variable {X:Cx} {pins:List (Addr×Obj)} {σ:St} {H:Hp} {s:Shared} {a:Addr} {kvs:List (Key×V)} {A:Around} {E:Value->Shared->Prop}
end
section
variable {X:Cx} {pins:List (Addr×Obj)} {σ:St} {H:Hp} {s:Shared} {a:Addr} {y:V} {u:Value} {A:Around} {E:Value->Shared->Prop}
end
end L2
namespace Att
open PySem PySem.W PySem.Calls PyProof.Rows
theorem zcN {P:Params} {h:Heap}:∀ (ns:List Int) (vs:List Value),WellAll P h vs (ns.map WData.int)->IntsAre vs ns:=by
 intro ns
 induction ns with
 | nil =>
  intro vs w
  rw [List.map_nil] at w
  cases w
  exact .nil
 | cons n ns ih =>
  intro vs w
  rw [List.map_cons] at w
  cases w with
  | cons a b =>
   cases a
   exact .cons _ _ (ih _ b)
theorem zgC {l:OpenLaw} {n:Nat} (hn:l.most=some n) {P:Params} {h:Heap} {args:List WData} {vals:List Value}
  (hpre:l.row.toRowW.claim.pre args=true) (hwl:WellAll P h vals args) :
  ∃ a vs ns,vals=[Value.ref a]/\args=[WData.list (ns.map WData.int)]/\h.get? a=some { cls:=.type "list",data:=.seq vs.toArray }/\IntsAre vs ns/\ns.length<=n:=by
 have hsh:WShape.hasAll [] args [.list .int]=true:=(pre_splitW hpre).1
 have hc:l.pre.holds [] { args:=args }=true:=(pre_splitW hpre).2
 obtain ⟨d,r,rfl,h1,h2⟩:=hasAllW_cons hsh
 obtain rfl:=hasAllW_nil h2
 obtain ⟨xs,rfl,h3⟩:=hasW_list h1
 obtain ⟨ns,rfl⟩:=items_int h3
 have hlen:ns.length<=n:=by
  unfold OpenLaw.pre at hc
  have h4:(WTm.not (.lt (.lit (.int (n:Int))) (.len (.arg 0)))).holds [] { args:=[.list (ns.map .int)] }=true:=by
   have h4:=(holds_andW hc).1
   rw [hn] at h4
   exact h4
  have h5:=condW_of h4 (w_not (w_lt w_lit (w_len_list (w_arg rfl))))
  rw [List.length_map] at h5
  refine Nat.le_of_not_lt fun q=>?_
  have q':(n:Int)<((ns.length:Nat):Int):=by omega
  first
   | (rw [decide_eq_true q'] at h5;exact absurd h5 (by decide))
   | (simp at h5;omega)
 cases hwl with
 | cons w1 w2 =>
  cases w2
  cases w1 with
  | list ho hall=>exact ⟨_,_,ns,rfl,rfl,ho,zcN ns _ hall,hlen⟩
theorem zgD (l:OpenLaw) (args:List WData):l.row.toRowW.claim.post args (.bool true) args=true :=
 postW_of (r:=l.row.toRowW) (X:=(true == true))
  (show WShape.has [] (.bool true) .bool=true by first | rfl | decide | simp [WShape.has,WShape.arms,WShape.armsAll])
  (show (WTm.eq .res (.lit (.bool true))).value [] { args:=args,res:=some (.bool true),after:=args }=some (.bool (true == true)) from w_eq_bool (w_res rfl) w_lit) rfl
theorem attach_call {l:OpenLaw} {n:Nat} {q:Program} {loose:List Str} {XP:(Str->Option Value)->Heap->Prop} {YP:World->Heap->Prop} {d:DefRec}
  (hn:l.most=some n) (hdf:d.params.defaults=[])
  (call:∀ (w:World) (s₀ s₁:Shared) (mg mb:Str->Option Value) (fa:Addr) (o:Obj) (pm cd doc:Value) (a:Addr) (vs:List Value) (ns:List Int),
   Ground q loose [] XP w s₀ mg mb s₁.heap->YP w s₁.heap ->
   s₁.heap.get? fa=some o->o.data = .func (docDef d.name d.params d.body d.scope pm cd doc)->s₁.heap.CodeRec cd d.name->mg d.name=some (.ref fa) ->
   s₁.heap.get? a=some { cls:=.type "list",data:=.seq vs.toArray }->IntsAre vs ns->ns.length<=n->s₁.gens = #[] ->
   codeAny (model l.prog w) callerA (.call (.ref fa) ⟨[.ref a],[]⟩) (fun r s' => r = .ok (.ret (.bool true))/\OldK s₁.heap s'.heap/\s'.os=s₁.os/\AllBare s'.gens) s₁) :
  WalkO q loose XP YP l.row.toRowW d [] (fun f vs=>PySem.call f vs):=by
 intro w s₀ s₁ mg mb G Y fa o pm cd doc dV kV ho hd hcd hD hmg hg args vals as hpre hlay hrd hwl hlo
 obtain rfl:dV = .none:=Dflts.none hD hdf
 obtain rfl:kV = .none:=Dflts.noKw hD
 obtain ⟨a,vs,ns,rfl,rfl,hobj,hints,hlen⟩:=zgC hn hpre hwl
 refine enter_call (codeAny_mono (call w s₀ s₁ mg mb fa o pm cd doc a vs ns G Y ho (fd_plain hd) hcd hmg hobj hints hlen hg) fun r s' hq=>?_)
 obtain ⟨rfl,h2,h3,h4⟩:=hq
 exact ⟨.inl ⟨.bool true,.bool true,[],rfl,fun _=>rfl,.bool true,zgD l _,fun _=>⟨List.Pairwise.nil,fun _ hm=>(nomatch hm)⟩⟩,h2,h3,h4⟩
section
variable {prog:Program} {w:World} {A:Around} {E:Value->Shared->Prop} {s:Shared} {K:Frag}
end
end Att
namespace L2
open PySem PySem.Spec PyProof.Rows
theorem zdu:∀ {vs:List Value} {ns:List Int},IntsAre vs ns->Vals (ns.map V.int) vs
 | _,_,.nil=>.nil
 | _,_,.cons n t h=>.cons ⟨t,rfl⟩ (zdu h)
def Only (H:Hp):Prop:=∀ b,H b=none\/∃ o xs,H b=some (.frz o (.lst xs))
theorem zhr {P:Program} {w:World} {K:PySem.W.Frag} {mg mb:Str->Option Value} {CX:CXT} {k:Nat} {fa a:Addr} {fd:FuncData} {x:Str} {sp:Sp} {s₁:Shared} {vs:List Value} {ns:List Int}
  (KX:K.In s₁.heap) (hns:s₁.heap.Ns mainGlobals mg) (hb:s₁.heap.Ns builtinsNs mb) (hbb:∀ x:Str,x ≠ "__name__" -> mb x=bootBuiltins x) (hlim:s₁.heap.NoLimit) (hg:s₁.gens = #[])
  (ha:s₁.heap.get? a=some { cls:=.type "list",data:=.seq vs.toArray }) (hi:IntsAre vs ns) (hl:ns.length<=sizeLine) (hr:Room k callerA)
  (F:∀ base:Heap,K.In base->base.Ns mainGlobals mg->FnOk P w K mg base CX k fa fd [x] sp) (hbind:∀ (s:Shared) (u:Value),BindsTo s fd ⟨[u],[]⟩ [(x,u)])
  (hsp:∀ H:Hp,Only H->SqL K H a (ns.map V.int)->sp [.ref a] H (fun v _=>v = .bl true) fun _ _ _=>False)
  (hCX:∀ H e s',CX [] H s₁ (fun _ _ _=>False) e s'->False) :
  codeAny (model P w) callerA (.call (.ref fa) ⟨[.ref a],[]⟩) (fun r s' => r = .ok (.ret (.bool true))/\OldK s₁.heap s'.heap/\s'.os=s₁.os/\AllBare s'.gens) s₁:=by
 have rv:=zdu hi
 have lenV:=hi.length
 have core:∀ H:Hp,Only H->SqL K H a (ns.map V.int)->HOk P w H s₁.heap->(∀ b,H b≠none->b=a)->(H a≠none->K.lookup a=none) ->
   codeAny (model P w) callerA (.call (.ref fa) ⟨[.ref a],[]⟩) (fun r s' => r = .ok (.ret (.bool true))/\OldK s₁.heap s'.heap/\s'.os=s₁.os/\AllBare s'.gens) s₁:=by
  intro H hO hS hok hA hK
  have base_of:∀ {b:Addr} {o:Obj},s₁.heap.get? b=some o->H b=none->(hidT s₁.heap H).get? b=some o:=fun e n=>zg8 e n
  have noA:∀ {b:Addr} {o:Obj} {es:Array DictEntry} {ep:Nat},s₁.heap.get? b=some o->o.data = .dict es ep->H b=none:=fun {b o es ep} e d=>by
   cases q:H b with
   | none=>rfl
   | some u =>
    have e':b=a:=hA b (by rw [q];simp)
    subst e'
    rw [ha] at e;cases e
    have d':Data.seq vs.toArray _=Data.dict es ep:=d
    cases d'
  have nsK:∀ {b:Addr} {m:Str->Option Value},s₁.heap.Ns b m->(hidT s₁.heap H).Ns b m:=fun {b m} ⟨o,es,ep,e,d,r⟩=>⟨o,es,ep,base_of e (noA e d),d,r⟩
  have hKb:K.In (hidT s₁.heap H):=fun b o e=>base_of (KX b o e) (by
   cases q:H b with
   | none=>rfl
   | some u =>
    have e':b=a:=hA b (by rw [q];simp)
    subst e'
    rw [hK (by rw [q];simp)] at e;cases e)
  have hM:Mod K mg (hidT s₁.heap H):=⟨hKb,nsK hns,⟨mb,nsK hb,hbb⟩,let ⟨mc,h1,h2⟩:=hlim;⟨mc,nsK h1,h2⟩⟩
  have e0:Env0 P w K mg (hidT s₁.heap H) callerA [] s₁ H:=⟨rfl,hM,fun b o e=>zif e,Nat.le_of_eq (zgo _ _),trivial,fun b hb=>absurd (show b∈([]:List Addr) from hb) (by simp),hok,.of_eq hg⟩
  refine codeAny_mono ((F _ hKb (nsK hns)).run callerA [] s₁ H ⟨[.ref a],[]⟩ [.ref a] [.ref a] _ _ hr e0 (hbind s₁ (.ref a)) (.cons rfl .nil) (hsp H hO hS)) fun r s' h=>?_
  cases r with
  | error e=>exact (hCX H e s' h).elim
  | ok fl =>
   cases fl with
   | next=>exact False.elim h
   | brk=>exact False.elim h
   | cont=>exact False.elim h
   | ret u =>
    obtain ⟨v,H',os,bare,un,hok',r',q⟩:=h
    have q':v = .bl true:=q
    subst q'
    obtain rfl:u=Value.bool true:=r'
    refine ⟨rfl,OldK.of_keep fun b o e=>?_,os,bare⟩
    cases q:H b with
    | none=>exact un.keep b o e q (by intro z;exact absurd (show b∈([]:List Addr) from z) (by simp)) (by simp)
    | some u =>
     rcases hO b with z | ⟨ob,xs,z⟩
     ·rw [q] at z;cases z
     ·have z2:=un.frzs b ob _ z
      obtain ⟨e1,_⟩:=hok b _ z
      obtain ⟨e2,_⟩:=hok' b _ z2
      rw [e] at e1;cases e1
      exact e2
 cases hk:K.lookup a with
 | some o =>
  have e:=KX a o hk
  rw [ha] at e
  cases e
  refine core (fun _=>none) (fun _=>.inl rfl) (.inr ⟨_,vs.toArray,_,hk,rfl,rfl,rfl,by rw [List.size_toArray,lenV];exact hl,by simpa using rv⟩) (fun b u z=>by have z':(none:Option HO)=some u:=z;cases z') (fun b z=>absurd rfl z) fun z=>absurd rfl z
 | none =>
  refine core (fun b=>if b=a then some (.frz { cls:=.type "list",data:=.seq vs.toArray } (.lst (ns.map V.int))) else none) (fun b=>?_) (.inl (.inr ⟨{ cls:=.type "list",data:=.seq vs.toArray },if_pos rfl⟩)) (fun b u z=>?_) (fun b z=>?_) fun _=>hk
  ·by_cases hb:b=a
   ·exact .inr ⟨_,_,if_pos hb⟩
   ·exact .inl (if_neg hb)
  ·by_cases hb:b=a
   ·have z' := (if_pos hb).symm.trans z
    cases z'
    subst hb
    exact ⟨ha,by rw [List.length_map];exact hl,vs,_,rv,ha⟩
   ·have z' := (if_neg hb).symm.trans z
    cases z'
  ·by_cases hb:b=a
   ·exact hb
   ·exact absurd (if_neg hb) z
end L2
namespace L2
open PySem PySem.Spec PyProof.Rows
theorem walk_of {l:PySem.W.OpenLaw} {n k:Nat} {q:Program} {loose:List Str} {XP:(Str->Option Value)->Heap->Prop} {YP:World->Heap->Prop} {d:DefRec} {K:Params->PySem.W.Frag} {CX:World->CXT} {sp:World->Sp} {x:Str}
  (hn:l.most=some n) (hn2:n<=sizeLine) (hdf:d.params.defaults=[]) (hr:Room k callerA)
  (hY:∀ (w:World) (h:Heap),YP w h->(K w.params).In h)
  (F:∀ (w:World) (mg:Str->Option Value) (fa:Addr) (h:Heap),(K w.params).In h->h.Ns mainGlobals mg->mg d.name=some (.ref fa) ->
   ∃ fd:FuncData,(∀ (s:Shared) (u:Value),BindsTo s fd ⟨[u],[]⟩ [(x,u)]) /\
    ∀ base:Heap,(K w.params).In base->base.Ns mainGlobals mg->FnOk l.prog w (K w.params) mg base (CX w) k fa fd [x] (sp w))
  (hsp:∀ (w:World) (H:Hp) (a:Addr) (ns:List Int),ns.length<=n->Only H->SqL (K w.params) H a (ns.map V.int)->sp w [.ref a] H (fun v _=>v = .bl true) fun _ _ _=>False)
  (hCX:∀ (w:World) (H:Hp) (s:Shared) (e:Value) (s':Shared),CX w [] H s (fun _ _ _=>False) e s'->False) :
  PySem.W.WalkO q loose XP YP l.row.toRowW d [] (fun f vs=>PySem.call f vs):=by
 refine Att.attach_call hn hdf fun w s₀ s₁ mg mb fa o pm cd doc a vs ns G Y ho hd hcd hmg hobj hints hlen hg=>?_
 have KX:=hY w _ Y
 obtain ⟨fd,hb,hF⟩:=F w mg fa _ KX G.T.g hmg
 exact zhr KX G.T.g G.T.b G.T.builtins G.T.nolimit hg hobj hints (Nat.le_trans hlen hn2) hr hF hb (fun H hO hS=>hsp w H a ns hlen hO hS) fun H e s' => hCX w H s₁ e s'
end L2
namespace L2
open PySem PySem.Spec PyProof.Rows
def ybx (s:Stmt) (j:Nat):Stmt:=match s with
 | .ClassDef _ _ _ body _ _ _ _ _ _ _=>body.getD j (.Pass ⟨0,0,0,0⟩)
 | _=>.Pass ⟨0,0,0,0⟩
def ycK (s:Stmt):Arguments:=match s with
 | .FunctionDef _ a _ _ _ _ _ _ _ _=>a
 | _=>{ posonlyargs:=[],args:=[],vararg:=none,kwonlyargs:=[],kw_defaults:=[],kwarg:=none,defaults:=[] }
def yb2 (s:Stmt):List Stmt:=match s with
 | .FunctionDef _ _ b _ _ _ _ _ _ _=>b
 | _=>[]
def yag (s:Stmt):Scope:=match s with
 | .FunctionDef _ _ _ _ _ _ sc _ _ _=>sc
 | _=>{ kind:=.function,names:=[],isGenerator:=false,isCoroutine:=false }
abbrev E0:XK:=fun _ _ _=>False
structure Fun (K:PySem.W.Frag) (x qual:Str) (st:Stmt) (f:Addr) (fd:FuncData):Prop where
 ex:∃ (oc:Value) (od:Option Addr) (kV doc pm:Value) (an:Option Addr) (cdv ct:Value) (osl:Array (Option Value)),
  fd=PySem.W.fnOf x qual (ycK st) (yb2 st) (yag st) .none kV doc pm an cdv ct/\K.lookup f=some ⟨oc,od,.func fd,osl⟩/\PySem.W.codeIn K cdv qual=true
 kp:PySem.W.keepIn K (.ref f)=true
section
variable {P:Program} {w:World} {K:PySem.W.Frag} {mg:Str->Option Value} {base:Heap}
theorem Fun.binds {x qual:Str} {st:Stmt} {f:Addr} {fd:FuncData} {ps:List Str} (F:Fun K x qual st f fd)
  (h:∀ (kV doc pm:Value) (an:Option Addr) (cdv ct:Value) (us:List Value),us.length=ps.length->bindArgs (PySem.W.fnOf x qual (ycK st) (yb2 st) (yag st) .none kV doc pm an cdv ct) ⟨us,[]⟩=pure (ps.zip us)):Binds K fd ps []:=by
 obtain ⟨oc,od,kV,doc,pm,an,cdv,ct,osl,rfl,lk,hcd⟩:=F.ex
 exact .all (h kV doc pm an cdv ct)
theorem yfz {x qual:Str} {st:Stmt} {f:Addr} {oc:Value} {od an:Option Addr} {osl:Array (Option Value)} {kV doc pm cdv ct:Value} (l:K.lookup f=some ⟨oc,od,.func (PySem.W.fnOf x qual (ycK st) (yb2 st) (yag st) .none kV doc pm an cdv ct),osl⟩)
  (c:PySem.W.codeIn K cdv qual=true) (k:PySem.W.keepIn K (.ref f)=true):Fun K x qual st f (PySem.W.fnOf x qual (ycK st) (yb2 st) (yag st) .none kV doc pm an cdv ct):=⟨⟨oc,od,kV,doc,pm,an,cdv,ct,osl,rfl,l,c⟩,k⟩
end
section
variable {X:Cx}
theorem pv (i:Nat) {x:Str} {pos:Pos} (hN:X.N[i]? = some x:=by rfl) (hv:Vis X.env.scope x:=by first | exact Or.inl rfl | exact Or.inr (Or.inl rfl) | exact Or.inr (Or.inr rfl)) (hd:(x == ("__debug__" : Str))=false:=by decide)
  (hcd:(x == ("__classdict__" : Str))=false:=by decide):PE X (.Name x pos) (tVar i):=ygp hN hv hd hcd
theorem zgE:CallR X (.builtin "len") (fun xs H Q=>∃ a kvs,xs=[V.ref a]/\H a=some (.dK kvs)/\Q (.int kvs.length) H):=by
 intro pins s σ H xs us Q I r h
 obtain ⟨a,kvs,rfl,ha,q⟩:=h
 obtain ⟨u,rfl,ru⟩:=ydv r
 cases ru
 exact yic I (.inl ha) fun t s' I' => ⟨.int kvs.length,H,I',⟨t,rfl⟩,q⟩
end
section
variable {κ:Type} [DecidableEq κ]
end
end L2
set_option maxHeartbeats 4000000
namespace L2
open PySem PySem.Spec PyProof.Rows
section
variable {X:Cx} {pins:List (Addr×Obj)} {σ:St} {H:Hp} {s:Shared} {h':Heap}
theorem Inv.turnedL {t':Nat} {fp:List Addr} (I:Inv X pins σ H s) (k:∀ b o,b∉fp->s.heap.get? b=some o->h'.get? b=some o) (hf:∀ b∈fp,FpOk X pins H b) :
  Inv X pins σ H { s with heap:=h',toks:=t' }:=by
 have nit:∀ b u,H b=some u->b∉fp:=fun b u e z=>by
  have q:=(hf b z).1
  rw [q] at e
  cases e
 refine I.step (g' := s.gens) (d' := s.drawn) (ch:=fp) (fun b hb=>?_) (fun b o _ _ hc e _=>k b o hc e) (fun b o _ _ hc e _=>⟨o.slots,k b o hc e⟩) (fun _ _ _ _ n=>n)
  (fun b o hc e=>⟨o,k b o hc e⟩) (fun _ _ e=>e) (fun _ _ _ e=>e) (fun b ps e=>⟨#[],by rw [e];simp⟩) (fun m hm=>?_) (fun b u e=>?_) I.bare
 ·obtain ⟨_,f1,_,f3,f4,f5⟩:=hf b hb
  exact ⟨f3,f1,f4,f5⟩
 ·obtain ⟨o,es,ep,ho,r⟩:=hm
  exact ⟨o,es,ep,k _ o (fun z=>(hf _ z).2.1 rfl) ho,r⟩
 ·refine (I.hok b u e).stay (fun c v hc q=>k c v ?_ q) (fun _ q=>q) fun _ _ q=>q
  rcases hc with z | z
  ·rw [z];exact nit b u e
  ·exact nit c _ z
end
section
variable {X:Cx}
end
def Its (x:Str):It:=⟨fun i _=>i<x.cps.size,fun i H v H' => H'=H/\∃ c,x.cps[i]? = some c/\v = .str ⟨#[c]⟩,fun i _=>x.cps.size<=i⟩
theorem zgF {P:Program} {w:World} {A:Around} (hh:A.handled=none) (it:Addr) (x:Str) (t:Tok) :
  Walks P w A it [it] [it] x.cps.size (SignAt x) (fun i h=>h.IsStrIter it (strIterType x) x t i):=by
 cases ha:x.cps.all (· < 128) with
 | false =>
  have e:strIterType x = "str_iterator" := by simp [strIterType,ha]
  rw [e]
  exact Walks.strWide hh it x t
 | true =>
  have e:strIterType x = "str_ascii_iterator" := by simp [strIterType,ha]
  rw [e]
  exact Walks.strAscii hh it x t
theorem zhs {P:Program} {w:World} {K:PySem.W.Frag} {y:Str} {py:Pos} (it:Addr) (x:Str) (t:Tok):Turn P w K (.Name y py) (Its x) [it] it (fun i h=>h.IsStrIter it (strIterType x) x t i) where
 mem:=by simp
 obj:=fun i h st b hb=>by
  have e:b=it:=by simpa using hb
  subst e
  obtain ⟨o,e,c,d⟩:=st
  exact ⟨o,e,fun v z=>by rw [d] at z;cases z⟩
 keep:=fun i h h' st k=>by
  obtain ⟨o,e,r⟩:=st
  exact ⟨o,k it (by simp) o e,r⟩
 item:=by
  intro X hP hw hK hc i pins s σ H E I hf st hg
  subst hP hw hK
  refine (zgF (I.ok.hd hc) it x t).item i s _ _ hg st fun v h1 tk hv st1 kk=>?_
  obtain ⟨c,u,hcp,rfl⟩:=hv
  have I1:Inv X pins σ H { s with heap:=h1,toks:=tk }:=I.turnedL (fp:=[it]) kk hf
  exact ⟨_,rfl,wpAny_pure ⟨.str ⟨#[c]⟩,H,I1,⟨u,rfl⟩,⟨rfl,c,hcp,rfl⟩,st1,fun b hb=>(hf b hb).1⟩⟩
 done:=by
  intro X hP hw hK hc i pins s σ H E I hf st hg
  subst hP hw hK
  have hx:x.cps[i]? = none:=Array.getElem?_eq_none hg
  cases ha:x.cps.all (· < 128) with
  | false =>
   have e:strIterType x = "str_iterator" := by simp [strIterType,ha]
   rw [e] at st
   exact wpAny_pyNext_wide_end (I.ok.hd hc) st hx fun h' eb=>⟨rfl,I.turnedL (fp:=[it]) (t' := s.toks) (fun b o hb q=>eb b o (fun z=>hb (by simp [z])) q) hf⟩
  | true =>
   have e:strIterType x = "str_ascii_iterator" := by simp [strIterType,ha]
   rw [e] at st
   exact wpAny_pyNext_ascii_end (I.ok.hd hc) st hx fun h' eb=>⟨rfl,I.turnedL (fp:=[it]) (t' := s.toks) (fun b o hb q=>eb b o (fun z=>hb (by simp [z])) q) hf⟩
 self:=fun A i s Q E st h=>by
  cases ha:x.cps.all (· < 128) with
  | false =>
   have e:strIterType x = "str_iterator" := by simp [strIterType,ha]
   rw [e] at st
   exact wpAny_pyIter_striter_wide st h
  | true =>
   have e:strIterType x = "str_ascii_iterator" := by simp [strIterType,ha]
   rw [e] at st
   exact wpAny_pyIter_striter_ascii st h
section
variable {X:Cx}
def iStr (tl:TE):TI:=fun σ H R=>tl σ H fun x H1=>∃ t,x = .str t/\R (Its t) H1
theorem ygV {l:Expr} {tl:TE} {y:Str} {py:Pos} (hl:PE X l tl):PI X (.Name y py) l (iStr tl):=by
 intro pins s σ H R I h
 refine thn (hl pins s σ H _ I h) fun v s1 ⟨x,H1,I1,r1,q1⟩=>?_
 obtain ⟨t,e,q⟩:=q1
 subst e
 obtain ⟨tk,rfl⟩:=r1
 refine wpAny_pyIter_strU ?_
 refine ⟨s1.heap.objs.size,[s1.heap.objs.size],_,_,H1,rfl,I1.kept (t' := s1.toks) fun b o e=>Heap.get?_push_of_some _ e,zhs _ t tk,⟨_,Heap.get?_push_size _ rfl,rfl,rfl⟩,fun b hb=>?_,q⟩
 have e:b=s1.heap.objs.size:=by simpa using hb
 subst e
 exact I1.fpOk (Nat.le_refl _) (I1.hok.fresh (Nat.le_refl _))
end
def yay (env:Env):List (Str×NameKind)->List (Str×Addr)->List (Str×Addr)
 | [],acc=>acc
 | (n,k)::r,acc=>yay env r (if k = .free then (n,(env.cells.lookup n).getD 0)::acc else acc)
theorem zcO {env:Env} {scope:Scope} (h:∀ y∈scope.names,y.2 = .free->(env.cells.lookup y.1).isSome=true):closureFor scope env=pure (yay env scope.names []):=by
 have all:∀ (l:List (Str×NameKind)) (acc:List (Str×Addr)),(∀ y∈l,y.2 = .free->(env.cells.lookup y.1).isSome=true) ->
   (forIn l acc fun (x:Str×NameKind) (cs:List (Str×Addr))=>if (x.2 == NameKind.free)=true then (do let a <- cellOf env x.1;pure (ForInStep.yield ((x.1,a)::cs))) else (pure (ForInStep.yield cs):Sem _))=pure (yay env l acc):=by
  intro l
  induction l with
  | nil=>intro acc _;rfl
  | cons y r ih =>
   intro acc hl
   obtain ⟨n,k⟩:=y
   rw [List.forIn_cons]
   have hr:=fun z hz=>hl z (List.mem_cons_of_mem _ hz)
   by_cases hk:k = .free
   ·subst hk
    obtain ⟨c,hc⟩:=Option.isSome_iff_exists.mp (hl (n,.free) List.mem_cons_self rfl)
    have e1:cellOf env n=pure c:=by
     simp only [cellOf]
     have hc':env.cells.lookup n=some c:=hc
     rw [hc']
    simp only [beq_self_eq_true,if_true,e1,pure_bind,yay]
    have hc':env.cells.lookup n=some c:=hc
    rw [hc']
    exact ih _ hr
   ·have hb:(k == NameKind.free)=false:=by simpa using hk
    simp only [hb,Bool.false_eq_true,if_false,pure_bind,yay,hk]
    exact ih _ hr
 unfold closureFor
 have q:=all scope.names [] h
 first
  | exact q
  | (simp only [bind_pure];exact q)
  | (rw [<- q];simp)
theorem zbC {env:Env}:∀ {l:List (Str×NameKind)} {acc:List (Str×Addr)},(∀ y∈l,y.2 = .free->(env.cells.lookup y.1).isSome=true)->(∀ y c,acc.lookup y=some c->env.cells.lookup y=some c) ->
  ∀ y c,(yay env l acc).lookup y=some c->env.cells.lookup y=some c
 | [],_,_,h,y,c,e=>h y c e
 | (n,k)::r,acc,hl,h,y,c,e=>by
  refine zbC (l:=r) (fun z hz=>hl z (List.mem_cons_of_mem _ hz)) ?_ y c e
  intro y c e
  by_cases hk:k = .free
  ·rw [if_pos hk] at e
   rw [List.lookup_cons] at e
   cases hy:y == n with
   | true =>
    rw [hy] at e
    have e':y=n:=by simpa using hy
    obtain ⟨c',hc'⟩:=Option.isSome_iff_exists.mp (hl (n,k) List.mem_cons_self hk)
    have hc'':env.cells.lookup n=some c' := hc'
    rw [hc''] at e
    rw [e',hc'']
    exact e
   | false =>
    rw [hy] at e
    exact h y c e
  ·rw [if_neg hk] at e
   exact h y c e
theorem zcw {env:Env}:∀ {l:List (Str×NameKind)} {acc:List (Str×Addr)} {y:Str},(y,NameKind.free)∈l\/(acc.lookup y).isSome=true->((yay env l acc).lookup y).isSome=true
 | [],_,_,h=>by
  rcases h with h | h
  ·cases h
  ·exact h
 | (n,k)::r,acc,y,h=>by
  refine zcw (l:=r) ?_
  rcases h with h | h
  ·rcases List.mem_cons.mp h with e | e
   ·right
    cases e
    rw [if_pos rfl,List.lookup_cons]
    simp
   ·exact .inl e
  ·right
   by_cases hk:k = .free
   ·rw [if_pos hk,List.lookup_cons]
    cases hy:y == n with
    | true=>rfl
    | false=>exact h
   ·rw [if_neg hk];exact h
theorem zaG {names:List (Str×NameKind)} {x:Str} {k:NameKind} (h:names.lookup x=some k):(x,k)∈names:=PySem.mem_of_lookup h
theorem zaO {env:Env} {x:Str} {k:NameKind}:∀ {names:List (Str×NameKind)},(names.map fun (n,k)=>if (k == NameKind.free && env.scope.kind == .function && env.kindOf n == some .cell) then (n,NameKind.cell) else (n,k)).lookup x=some k ->
  names.lookup x=some k\/(k = .cell/\names.lookup x=some .free)
 | [],h=>by simp at h
 | (n,kk)::r,h=>by
  have ih:=@zaO env x k r
  by_cases hc:(kk == NameKind.free && env.scope.kind == .function && env.kindOf n == some .cell)=true
  ·have hf:kk = .free:=by
    have q:=(Bool.and_eq_true _ _).mp ((Bool.and_eq_true _ _).mp hc).1
    simpa using q.1
   subst hf
   have h':List.lookup x ((n,NameKind.cell)::(r.map fun (n,k)=>if (k == NameKind.free && env.scope.kind == .function && env.kindOf n == some .cell) then (n,NameKind.cell) else (n,k)))=some k:=by
    have e:(fun (p:Str×NameKind)=>match p with | (n,k)=>if (k == NameKind.free && env.scope.kind == .function && env.kindOf n == some .cell)=true then (n,NameKind.cell) else (n,k)) (n,NameKind.free)=(n,NameKind.cell):=by
     show (if _ then _ else _)=_
     rw [if_pos hc]
    rw [List.map_cons] at h
    rw [<- e]
    exact h
   rw [List.lookup_cons] at h' ⊢
   cases hx:x == n with
   | true =>
    rw [hx] at h'
    right
    exact ⟨(Option.some.inj h').symm,rfl⟩
   | false =>
    rw [hx] at h'
    exact ih h'
  ·have h':List.lookup x ((n,kk)::(r.map fun (n,k)=>if (k == NameKind.free && env.scope.kind == .function && env.kindOf n == some .cell) then (n,NameKind.cell) else (n,k)))=some k:=by
    have e:(fun (p:Str×NameKind)=>match p with | (n,k)=>if (k == NameKind.free && env.scope.kind == .function && env.kindOf n == some .cell)=true then (n,NameKind.cell) else (n,k)) (n,kk)=(n,kk):=by
     show (if _ then _ else _)=_
     rw [if_neg hc]
    rw [List.map_cons] at h
    rw [<- e]
    exact h
   rw [List.lookup_cons] at h' ⊢
   cases hx:x == n with
   | true =>
    rw [hx] at h'
    exact .inl h'
   | false =>
    rw [hx] at h'
    exact ih h'
def yaA (X:Cx) (pins:List (Addr×Obj)) (x₁:Str) (jf:List (Nat×Str)) (scope:Scope) (cl:List (Str×Addr)) (s:Shared) (H:Hp) (fp:List Addr):Cx where
 prog:=X.prog
 w:=X.w
 K:=X.K
 mg:=X.mg
 base:=X.base
 A:=X.A
 N:=x₁::jf.map (·.2)
 s₀:=s
 H₀:=H
 env:=compEnvC scope cl s.heap.objs.size X.env
 outer:=X.stack
 stack:=X.stack
 ex:=fp
 fn:=fun _=>false
 calm:=X.calm
 pn:=X.pn++pins
 xe:=fun _ _=>False
def ybb (v:Option V) (js:List (Nat×Str)) (σ:St):St:=v::js.map fun j=>(σ[j.1]?).join
def PTs (X:Cx) (ifs:List Expr) (t:TT):Prop :=
 ∀ (pins:List (Addr×Obj)) (s:Shared) (σ:St) (H:Hp) (Q:Bool->Hp->Prop),Inv X pins σ H s->t σ H Q ->
  wpAny (model X.prog X.w) X.A (forIn ifs true fun c r=>if r=true then do let ok <- isTrue c X.env (eval c X.env);pure (ForInStep.yield ok) else pure (ForInStep.yield r)) (TP X pins σ Q) X.xe s
def tYes:TT:=fun _ H Q=>Q true H
theorem ziE {X:Cx}:PTs X [] tYes:=fun pins s σ H Q I h=>wpAny_tests_nil ⟨H,I,h⟩
def ycT (jf:List (Nat×Str)) (wi:TI) (tc:TT) (te:TE):TE:=fun σ H Q=>wi σ H fun J H1=>∀ D,H1 D=none->∃ W:Nat->Nat->List V->Hp->Prop,(∃ m,W 0 m [] (upd H1 D (.lst []))) /\
 ∀ i m ys H2,W i m ys H2->H2 D=some (.lst ys)/\((J.stop i H2/\Q (.ref D) H2)\/(J.go i H2/\ys.length<sizeLine/\∀ x H3,J.yld i H2 x H3->tc (ybb (some x) jf σ) H3 fun b H5 =>
  if b=true then te (ybb (some x) jf σ) H5 fun v H6=>H6 D=some (.lst ys)/\∃ m',m'<m/\W (i+1) m' (ys++[v]) (upd H6 D (.lst (ys++[v]))) else ∃ m',m'<m/\W (i+1) m' ys H5))
section
variable {X:Cx} {pins:List (Addr×Obj)} {σ:St} {H:Hp} {s:Shared} {x₁:Str} {jf:List (Nat×Str)} {scope:Scope} {fp:List Addr}
theorem Inv.block {h1:Heap} {tk:Nat} (I:Inv X pins σ H s) (hf:∀ b∈fp,FpOk X pins H b) (hlt:∀ b∈fp,b<s.heap.objs.size) (hjf:∀ p∈jf,X.N[p.1]? = some p.2) (hjl:∀ p∈jf,scope.names.lookup p.2=some .free) (hkind:scope.kind = .function)
  (hcell:∀ y∈scope.names,y.2 ≠ .cell) (hfr:∀ y∈scope.names,y.2 = .free->X.env.kindOf y.1=some .cell\/X.env.kindOf y.1=some .free)
  (hn:h1.Ns s.heap.objs.size (fun _=>none)) (hk:∀ b o,s.heap.get? b=some o->h1.get? b=some o) :
  Inv (yaA X pins x₁ jf scope (yay X.env scope.names []) s H fp) [] (ybb none jf σ) H { s with heap:=h1,toks:=tk }:=by
 have hsome:∀ y∈scope.names,y.2 = .free->(X.env.cells.lookup y.1).isSome=true:=fun y hy hyf=>Option.isSome_iff_exists.mpr (I.ok.has y.1 (hfr y hy hyf))
 have sub:∀ y c,(yay X.env scope.names []).lookup y=some c->X.env.cells.lookup y=some c:=zbC hsome (fun y c e=>by simp at e)
 have hsz:=I.sz
 have inE:∀ b,b∈(yaA X pins x₁ jf scope (yay X.env scope.names []) s H fp).ex->b∈fp:=fun b z=>z
 have stk:∀ b∈frs X.stack,b<s.heap.objs.size:=fun b hb=>by
  obtain ⟨_,o,ho,_⟩:=I.stack.mem hb
  exact Heap.lt_size ho
 refine ⟨⟨I.ok.mod,hkind,I.ok.glob,I.ok.blt,Nat.le_refl _,fun y z c e1 e2=>I.ok.inj y z c (sub y c e1) (sub z c e2),fun y hy=>?_,fun y c hfn _=>(by cases hfn),I.ok.hd,I.ok.frames,.inl rfl,fun b hb=>?_,fun b o e=>I.bs b o e,Nat.le_trans I.ok.bsz hsz,fun b o e z=>?_,fun b hb z=>?_,I.stack,I.stkFree⟩,
  rfl,I.bare,Un.kept hk,⟨_,hn,fun i y v e1 e2 e3=>?_⟩,fun y c e=>?_,I.hok.fresh (Nat.le_refl _),fun y c e=>I.freeC y c (sub y c e),fun p hp=>?_,I.hok.kept hk,?_⟩
 ·have hy':(relabel scope X.env).names.lookup y=some .cell\/(relabel scope X.env).names.lookup y=some .free:=hy
  have mem:(y,NameKind.free)∈scope.names:=by
   rcases hy' with q | q
   ·rcases zaO (env:=X.env) q with z | z
    ·exact absurd rfl (hcell _ (zaG z))
    ·exact zaG z.2
   ·rcases zaO (env:=X.env) q with z | z
    ·exact zaG z
    ·exact zaG z.2
  exact Option.isSome_iff_exists.mp (zcw (.inl mem))
 ·exact ⟨Nat.ne_of_lt (hlt b hb),fun y c e=>(hf b hb).2.2.2.2.1 y c (sub y c e)⟩
 ·rcases (hf b z).2.2.2.1 with q | q
  ·exact I.ok.noex b o e q
  ·exact absurd (Nat.lt_of_lt_of_le (Heap.lt_size e) (Nat.le_trans I.ok.bsz q)) (Nat.lt_irrefl _)
 ·rcases List.mem_cons.mp (I.stkSub b z) with q | q
  ·exact (hf b hb).2.1 q
  ·exact (hf b hb).2.2.1 q
 ·have e1':(x₁::jf.map (·.2))[i]? = some y:=e1
  unfold ybb at e2
  cases i with
  | zero=>cases e2
  | succ i =>
   rw [List.getElem?_cons_succ,List.getElem?_map] at e1' e2
   cases q:jf[i]? with
   | none=>rw [q] at e2;cases e2
   | some p =>
    rw [q] at e1' e2
    have ey:p.2=y:=Option.some.inj e1'
    have ev:(σ[p.1]?).join=some v:=Option.some.inj e2
    have hp:p∈jf:=List.mem_of_getElem? q
    have eσ:σ[p.1]? = some (some v):=by
     cases z:σ[p.1]? with
     | none=>rw [z] at ev;cases ev
     | some r=>rw [z] at ev;rw [show r=some v from ev]
    have hfree:scope.names.lookup y=some .free:=by rw [<- ey];exact hjl p hp
    have mem:=zaG hfree
    have kX:=hfr _ mem rfl
    obtain ⟨m,hnX,hl⟩:=I.loc
    obtain ⟨u,ru,lk⟩:=hl p.1 y v (by rw [<- ey];exact hjf p hp) eσ (by
     rcases kX with z | z
     ·exact .inr (.inl z)
     ·exact .inr (.inr z))
    refine ⟨u,ru,.inr ⟨?_,?_⟩⟩
    ·have e3':Vis (relabel scope X.env) y:=e3
     rcases e3' with z | z | z
     ·exfalso
      rcases zaO (env:=X.env) z with q | q
      ·rw [hfree] at q;cases q
      ·cases q.1
     ·exact .inl z
     ·exact .inr z
    ·rcases lk with ⟨z,_⟩ | ⟨_,c,hc,hcell'⟩
     ·exfalso
      rcases kX with q | q
      ·rw [show X.env.kindOf y=some .cell from q] at z;cases z
      ·rw [show X.env.kindOf y=some .free from q] at z;cases z
     ·obtain ⟨c',hc'⟩:=Option.isSome_iff_exists.mp (zcw (env:=X.env) (acc:=[]) (.inl mem))
      have e:=sub y c' hc'
      rw [hc] at e
      cases e
      obtain ⟨o,ho,hd⟩:=hcell'
      exact ⟨c,hc',o,hk c o ho,hd⟩
 ·obtain ⟨v,o,ho,hd⟩:=I.cell y c (sub y c e)
  exact ⟨v,o,hk c o ho,hd⟩
 ·have hp':p∈X.pn++pins:=by simpa [yaA] using hp
  obtain ⟨e,n,ne,nf,d⟩:=I.pin p hp'
  refine ⟨hk _ _ e,n,Nat.ne_of_lt (Heap.lt_size e),fun z=>?_,d⟩
  rcases List.mem_cons.mp (I.stkSub p.1 z) with q | q
  ·exact ne q
  ·exact nf q
 ·unfold ybb
  show _=(x₁::jf.map (·.2)).length
  rw [List.length_cons,List.length_cons,List.length_map,List.length_map]
end
theorem HOk.sameBut {P:Program} {w:World} {H:Hp} {h h':Heap} {C:Addr} (ok:HOk P w H h) (hn:H C=none) (hs:Heap.SameBut C h h'):HOk P w H h' := fun b u e=>by
 refine (ok b u e).stay (fun c v hc q=>(hs.2 c ?_).trans q) (fun _ q=>q) fun _ _ q=>q
 rcases hc with z | z
 ·rw [z];exact zam e hn
 ·exact zam z hn
theorem Un.sameBut {fs ex:List Addr} {H H':Hp} {h h1 h2:Heap} {C:Addr} (u:Un fs ex H H' h h1) (hC:h.get? C=none) (hs:Heap.SameBut C h1 h2):Un fs ex H H' h h2:=by
 have ne:∀ b o,h.get? b=some o->b≠C:=fun b o e z=>by rw [z,hC] at e;cases e
 refine ⟨fun b o e n hb hx=>(hs.2 b (ne b o e)).trans (u.keep b o e n hb hx),fun b o e n hb hx=>?_,u.free,fun b o e hx=>?_,u.tups,u.frzs,u.tbls⟩
 ·obtain ⟨sl,q⟩:=u.slot b o e n hb hx
  exact ⟨sl,(hs.2 b (ne b o e)).trans q⟩
 ·obtain ⟨o',q⟩:=u.there b o e hx
  exact ⟨o',(hs.2 b (ne b o e)).trans q⟩
theorem zec {prog:Program} {w:World} {A:Around} {R:Result->Shared->Prop} {s:Shared} {elt target iter:Expr} {ifs:List Expr} {scope:Scope} {pos:Pos} {it acc:Value} {env:Env} (I:Nat->Shared->Prop)
  (turn:∀ n s,I n s->wpAny (model prog w) A (pyNext it) (fun r s₁=>match r with
   | none=>R (.ok .next) s₁
   | some v=>wpAny (model prog w) A (letOwnedTupleGo target it v) (fun _ s₂=>wpAny (model prog w) A (assign target env v) (fun _ s₃ =>
     wpAny (model prog w) A (forIn ifs true fun c r=>if r=true then do let ok <- isTrue c env (eval c env);pure (ForInStep.yield ok) else pure (ForInStep.yield r)) (fun ok s₄ =>
      if ok=true then wpAny (model prog w) A (eval elt env) (fun x s₅=>wpAny (model prog w) A (call (.builtin "list.append") [acc,x]) (fun _ s₆=>∃ m,m<n/\I m s₆) (fun _ _=>False) s₅) (fun _ _=>False) s₄
      else ∃ m,m<n/\I m s₄) (fun _ _=>False) s₃) (fun _ _=>False) s₂) (fun _ _=>False) s₁) (fun _ _=>False) s)
  (n:Nat) (h:I n s):codeAny (model prog w) A (.compLoop (.ListComp elt [⟨target,iter,ifs,0⟩] scope pos) 0 it acc env) R s:=by
 refine codeAny_loop rfl I (fun n s hI=>?_) n h
 show wpAny _ A ((compTurn (.ListComp elt [⟨target,iter,ifs,0⟩] scope pos) 0 it acc env).onRaise (fun x=>do noteFrame x env;theTreesLotGoes x)) _ _ s
 refine wpAny_noted ?_
 rw [compTurn_list]
 refine wpAny_bind (wpAny_standAt (wpAny_bind (wpAny_mono (turn n s hI) (fun r s₁ h₁=>?_) fun _ _ z=>z.elim)))
 cases r with
 | none=>exact wpAny_pure h₁
 | some v =>
  refine wpAny_bind (wpAny_mono h₁ (fun _ s₂ h₂=>?_) fun _ _ z=>z.elim)
  refine wpAny_bind (wpAny_mono h₂ (fun _ s₃ h₃=>wpAny_bind (wpAny_mono h₃ (fun ok s₄ h₄=>?_) fun _ _ z=>z.elim)) fun _ _ z=>z.elim)
  cases ok with
  | false=>exact wpAny_pure ⟨rfl,h₄⟩
  | true =>
   exact wpAny_bind (wpAny_bind (wpAny_mono h₄ (fun x s₅ h₅=>wpAny_bind (wpAny_mono h₅ (fun _ s₆ h₆=>wpAny_pure (wpAny_pure ⟨rfl,h₆⟩)) fun _ _ z=>z.elim)) fun _ _ z=>z.elim))
section
variable {X:Cx} {x₁:Str} {px:Pos} {jf:List (Nat×Str)} {scope:Scope} {iter elt:Expr} {ifs:List Expr} {pos:Pos} {wi:TI} {tc:TT} {te:TE}
theorem zed (hcalm:X.calm=true) (hi:PI X (.Name x₁ px) iter wi) (hc:∀ pins cl s H fp,PTs (yaA X pins x₁ jf scope cl s H fp) ifs tc) (he:∀ pins cl s H fp,PE (yaA X pins x₁ jf scope cl s H fp) elt te)
  (hN:(x₁::jf.map (·.2)).Nodup) (hx:scope.names.lookup x₁=some .local) (hjf:∀ p∈jf,X.N[p.1]? = some p.2) (hjl:∀ p∈jf,scope.names.lookup p.2=some .free) (hkind:scope.kind = .function)
  (hcell:∀ y∈scope.names,y.2 ≠ .cell) (hfr:∀ y∈scope.names,y.2 = .free->X.env.kindOf y.1=some .cell\/X.env.kindOf y.1=some .free)
  (hnames:∀ y∈scope.names,y.2 = .local->scope.names.lookup y.1=some .local) {use:Option (Value->Sem Unit)} {Qf:Value->Shared->Prop} {cpos:Pos}
  {pins:List (Addr×Obj)} {σ:St} {H:Hp} {s:Shared} {Q:VK} (I:Inv X pins σ H s) (h:ycT jf wi tc te σ H Q)
  (fin:∀ D C s6 H6 m6,Inv X pins σ H6 s6->Q (.ref D) H6->FpOk X pins H6 C->s6.heap.Ns C m6->compPost (model X.prog X.w) X.A X.xe use Qf (.ref D) C (.ok .next) s6) (hs:∀ x,foldedSetIterable iter X.env x=pure x) :
  wpAny (model X.prog X.w) X.A (comprehension (.ListComp elt [⟨.Name x₁ px,iter,ifs,0⟩] scope pos) scope X.env cpos (newList []) false (eval iter X.env) use) Qf X.xe s:=by
 have hsome:∀ y∈scope.names,y.2 = .free->(X.env.cells.lookup y.1).isSome=true:=fun y hy hyf=>Option.isSome_iff_exists.mpr (I.ok.has y.1 (hfr y hy hyf))
 refine wpAny_comprehension_free (use:=use) rfl hs (zcO hsome) hkind hnames (thn (hi pins s σ H _ I h) fun xv s1 h1=>thn h1 fun itv s2 h2=>?_)
 obtain ⟨it,fp,tn,J,H2,e,I2,T,st2,f2,h⟩:=h2
 subst e
 refine wpAny_newObj_type (wpAny_newFunctionEnv hcell (by intro y hy;simp at hy) (fun h₁ hns₁ hsb₁=>?_) hkind)
 have hD0:H2 s2.heap.objs.size=none:=I2.hok.fresh (Nat.le_refl _)
 obtain ⟨W,⟨m0,w0⟩,step⟩:=h s2.heap.objs.size hD0
 dsimp only at hns₁ hsb₁ ⊢
 have I3:Inv X pins σ (upd H2 s2.heap.objs.size (.lst [])) { s2 with heap:=s2.heap.push { cls:=.type "list",dict:=none,data:=.seq ([]:List Value).toArray } } :=
  I2.laid (t' := s2.toks) (fun b u q=>Heap.get?_push_of_some _ q) (Nat.le_refl _) ⟨Nat.zero_le _,[],0,.nil,Heap.get?_push_size _ rfl⟩
 generalize hH3:s2.heap.push { cls:=.type "list",dict:=none,data:=.seq ([]:List Value).toArray }=hp3 at hns₁ hsb₁ I3 ⊢
 have hsz3:hp3.objs.size=s2.heap.objs.size+1:=by rw [<- hH3,Heap.size_push]
 have k23:∀ b o,s2.heap.get? b=some o->hp3.get? b=some o:=fun b o q=>by rw [<- hH3];exact Heap.get?_push_of_some _ q
 have flt:∀ b∈fp,b<s2.heap.objs.size:=fun b hb=>by
  obtain ⟨o,q,_⟩:=T.obj 0 _ st2 b hb
  exact Heap.lt_size q
 have f3:∀ b∈fp,FpOk X pins (upd H2 s2.heap.objs.size (.lst [])) b:=fun b hb=>by
  obtain ⟨g0,g⟩:=f2 b hb
  exact ⟨by rw [yax (Nat.ne_of_lt (flt b hb))];exact g0,g⟩
 have kC:∀ b o,hp3.get? b=some o->h₁.get? b=some o:=fun b o q=>(hsb₁.2 b (Nat.ne_of_lt (Heap.lt_size q))).trans (Heap.get?_push_of_some _ q)
 have B0:=I3.block (x₁:=x₁) (jf:=jf) (scope:=scope) (fp:=fp) (h1:=h₁) (tk:=s2.toks+([]:List (Str×Value)).length) f3 (fun b hb=>by show b<hp3.objs.size;rw [hsz3];exact Nat.lt_succ_of_lt (flt b hb)) hjf hjl hkind hcell hfr (by simpa using hns₁) kC
 have st4:tn 0 h₁:=T.keep _ _ _ st2 fun b _ o q=>kC b o (k23 b o q)
 have w0' := w0
 have stat:∀ {H':Hp},(∀ b∈fp,H' b=none)->∀ b∈fp,FpOk (yaA X pins x₁ jf scope (yay X.env scope.names []) { s2 with heap:=hp3 } (upd H2 s2.heap.objs.size (.lst [])) fp) [] H' b:=fun hn b hb=>by
  obtain ⟨_,g1,g2,g3,g4,g5⟩:=f2 b hb
  refine ⟨hn b hb,Nat.ne_of_lt (by show b<hp3.objs.size;rw [hsz3];exact Nat.lt_succ_of_lt (flt b hb)),fun z=>?_,.inl hb,fun y c q=>g4 y c (zbC hsome (fun y c e=>by simp at e) y c q),fun p hp=>g5 p (by simpa [yaA] using hp)⟩
  rcases List.mem_cons.mp (I2.stkSub b z) with q | q
  ·exact g1 q
  ·exact g2 q
 have loop:codeAny (model X.prog X.w) X.A (.compLoop (.ListComp elt [⟨.Name x₁ px,iter,ifs,0⟩] scope pos) 0 (.ref it) (.ref s2.heap.objs.size) (compEnvC scope (yay X.env scope.names []) hp3.objs.size X.env))
   (compPost (model X.prog X.w) X.A X.xe use Qf (.ref s2.heap.objs.size) hp3.objs.size) { s2 with heap:=h₁,toks:=s2.toks+([]:List (Str×Value)).length }:=by
  refine zec (fun n s' => ∃ i ys H',Inv (yaA X pins x₁ jf scope (yay X.env scope.names []) { s2 with heap:=hp3 } (upd H2 s2.heap.objs.size (.lst [])) fp) [] (ybb none jf σ) H' s'/\tn i s'.heap/\(∀ b∈fp,H' b=none)/\W i n ys H') ?_ m0
   ⟨0,[],_,B0,st4,fun b hb=>(f3 b hb).1,w0⟩
  rintro n s5 ⟨i,ys,H5,I5,st5,fr5,w5⟩
  obtain ⟨hD5,alt⟩:=step i n ys H5 w5
  rcases alt with ⟨stop,q5⟩ | ⟨go,hlen,next⟩
  ·refine wpAny_mono (T.done (yaA X pins x₁ jf scope (yay X.env scope.names []) { s2 with heap:=hp3 } (upd H2 s2.heap.objs.size (.lst [])) fp) rfl rfl rfl hcalm i [] s5 _ H5 (fun _ _=>False) I5 (stat fr5) st5 stop) (fun r s6 ⟨hr,I6⟩=>?_) fun _ _ z=>z
   subst hr
   obtain ⟨m6,hn6,_⟩:=id I6.loc
   refine fin _ _ s6 H5 m6 ?_ q5 (I3.fpOk (Nat.le_refl _) I6.free) hn6
   refine I3.call' (ch:=fp) I6.os I6.base I6.hok I6.bare (fun b hb=>?_)
   obtain ⟨_,g1,g2,g3,g4,g5⟩:=f2 b hb
   exact ⟨g3,g1,g4,g5⟩
  ·refine wpAny_mono (T.item (yaA X pins x₁ jf scope (yay X.env scope.names []) { s2 with heap:=hp3 } (upd H2 s2.heap.objs.size (.lst [])) fp) rfl rfl rfl hcalm i [] s5 _ H5 (fun _ _=>False) I5 (stat fr5) st5 go) (fun r s6 ⟨u,hr,h6⟩=>?_) fun _ _ z=>z
   subst hr
   refine wpAny_mono h6 (fun _ s7 ⟨x,H7,I7,r7,y7,st7,fr7⟩=>?_) fun _ _ z=>z
   have I7' := I7.pinned (stat fr7) (T.obj _ _ st7)
   have hloc:Loc (yaA X pins x₁ jf scope (yay X.env scope.names []) { s2 with heap:=hp3 } (upd H2 s2.heap.objs.size (.lst [])) fp).env.scope x₁:=.inl (lookup_relabel_local hx)
   refine wpAny_assign_Name (za9 (i:=0) I7' hN rfl hloc r7 (fun s8 I8=>?_) (.inr (lookup_relabel_local hx)))
   have q8:=next x H7 y7
   have I8':Inv (yaA X pins x₁ jf scope (yay X.env scope.names []) { s2 with heap:=hp3 } (upd H2 s2.heap.objs.size (.lst [])) fp) ([]++ybQ fp s7.heap) (ybb (some x) jf σ) H7 s8:=I8
   have again:∀ {s9:Shared} {H9:Hp} {zs:List V} {m':Nat},Inv (yaA X pins x₁ jf scope (yay X.env scope.names []) { s2 with heap:=hp3 } (upd H2 s2.heap.objs.size (.lst [])) fp) ([]++ybQ fp s7.heap) (ybb (some x) jf σ) H9 s9->m'<n->W (i+1) m' zs H9 ->
     ∃ m,m<n/\∃ i ys H',Inv (yaA X pins x₁ jf scope (yay X.env scope.names []) { s2 with heap:=hp3 } (upd H2 s2.heap.objs.size (.lst [])) fp) [] (ybb none jf σ) H' s9/\tn i s9.heap/\(∀ b∈fp,H' b=none)/\W i m ys H' := fun {s9 H9 zs m'} I9 hm w9=>by
    refine ⟨m',hm,i+1,zs,H9,I9.unpinned.weak (by simp [ybb]) (fun j v e=>?_),T.keep _ _ _ st7 fun b hb o e=>(I9.pin (b,o) (List.mem_append_right _ (List.mem_append_right _ (zaM hb e)))).1,fun b hb=>?_,w9⟩
    ·cases j with
     | zero=>simp [ybb] at e
     | succ j=>simpa [ybb] using e
    ·obtain ⟨o,e,d⟩:=T.obj _ _ st7 b hb
     exact (I9.pin (b,o) (List.mem_append_right _ (List.mem_append_right _ (zaM hb e)))).2.1
   refine wpAny_mono (hc pins _ _ _ fp ([]++ybQ fp s7.heap) s8 _ H7 _ I8' q8) (fun ok s9 ⟨H9,I9,q9⟩=>?_) fun _ _ z=>z
   cases ok with
   | false =>
    rw [if_neg Bool.false_ne_true] at q9 ⊢
    obtain ⟨m',hm,w9⟩:=q9
    exact again I9 hm w9
   | true =>
    rw [if_pos rfl] at q9 ⊢
    refine wpAny_mono (he pins _ _ _ fp ([]++ybQ fp s7.heap) s9 _ H9 _ I9 q9) (fun y s10 ⟨v,H10,I10,r10,hD10,m',hm,w10⟩=>?_) fun _ _ z=>z
    refine wpAny_mono (zb0 (X:=(yaA X pins x₁ jf scope (yay X.env scope.names []) { s2 with heap:=hp3 } (upd H2 s2.heap.objs.size (.lst [])) fp)) ([]++ybQ fp s7.heap) s10 (ybb (some x) jf σ) H10 (.ref s2.heap.objs.size) [v] (.ref s2.heap.objs.size) [y] (fun _ H' => H'=upd H10 s2.heap.objs.size (.lst (ys++[v]))) I10 rfl (.cons r10 .nil) ⟨_,ys,v,rfl,rfl,hD10,hlen,rfl⟩)
     (fun _ s11 ⟨_,H11,I11,_,e11⟩=>?_) fun _ _ z=>z
    subst e11
    exact again I11 hm w10
 exact codeAny_compStart_list loop (T.self _ 0 _ _ _ st4 loop)
theorem zfb (hcalm:X.calm=true) (hi:PI X (.Name x₁ px) iter wi) (hc:∀ pins cl s H fp,PTs (yaA X pins x₁ jf scope cl s H fp) ifs tc) (he:∀ pins cl s H fp,PE (yaA X pins x₁ jf scope cl s H fp) elt te)
  (hN:(x₁::jf.map (·.2)).Nodup) (hx:scope.names.lookup x₁=some .local) (hjf:∀ p∈jf,X.N[p.1]? = some p.2) (hjl:∀ p∈jf,scope.names.lookup p.2=some .free) (hkind:scope.kind = .function)
  (hcell:∀ y∈scope.names,y.2 ≠ .cell) (hfr:∀ y∈scope.names,y.2 = .free->X.env.kindOf y.1=some .cell\/X.env.kindOf y.1=some .free)
  (hnames:∀ y∈scope.names,y.2 = .local->scope.names.lookup y.1=some .local) (hs:∀ x,foldedSetIterable iter X.env x=pure x:=by intro _;rfl) :
  PE X (.ListComp elt [⟨.Name x₁ px,iter,ifs,0⟩] scope pos) (ycT jf wi tc te):=by
 intro pins s σ H Q I h
 rw [eval_ListComp]
 refine zed hcalm hi hc he hN hx hjf hjl hkind hcell hfr hnames (use:=none) (Qf:=EP X pins σ Q) I h (fun D C s6 H6 m6 I6 q6 f6 n6=>?_) hs
 refine ⟨m6,n6,fun h' hs' => ⟨.ref D,H6,?_,rfl,q6⟩⟩
 exact I6.turnedL (fp:=[C]) (t' := s6.toks) (fun b o hb q=>(hs'.2 b (fun z=>hb (by simp [z]))).trans q) (fun b hb=>by
  have e:b=C:=by simpa using hb
  subst e
  exact f6)
theorem ziF {y:Str} {py spos:Pos} {i:Nat} (hcalm:X.calm=true) (hi:PI X (.Name x₁ px) iter wi) (hc:∀ pins cl s H fp,PTs (yaA X pins x₁ jf scope cl s H fp) ifs tc) (he:∀ pins cl s H fp,PE (yaA X pins x₁ jf scope cl s H fp) elt te)
  (hN:(x₁::jf.map (·.2)).Nodup) (hx:scope.names.lookup x₁=some .local) (hjf:∀ p∈jf,X.N[p.1]? = some p.2) (hjl:∀ p∈jf,scope.names.lookup p.2=some .free) (hkind:scope.kind = .function)
  (hcell:∀ y∈scope.names,y.2 ≠ .cell) (hfr:∀ y∈scope.names,y.2 = .free->X.env.kindOf y.1=some .cell\/X.env.kindOf y.1=some .free)
  (hnames:∀ y∈scope.names,y.2 = .local->scope.names.lookup y.1=some .local) (hNX:X.N.Nodup) (hi':X.N[i]? = some y) (hy:X.env.scope.names.lookup y=some .local)
  (hsw:swapsWith (.ListComp elt [⟨.Name x₁ px,iter,ifs,0⟩] scope pos) (some (.Name y py)) spos.line X.env=pure true) (hs:∀ x,foldedSetIterable iter X.env x=pure x:=by intro _;rfl) :
  PS X (.Assign [.Name y py] (.ListComp elt [⟨.Name x₁ px,iter,ifs,0⟩] scope pos) spos) (tAsg (ycT jf wi tc te) (yeK i)):=by
 intro pins s σ H D I h
 rw [exec_Assign_Name_used _ _ _ _ hsw]
 refine wpAny_bind (wpAny_standAt (wpAny_bind ?_))
 show wpAny _ X.A (do let _ <- comprehension (.ListComp elt [⟨.Name x₁ px,iter,ifs,0⟩] scope pos) scope X.env _ (newList []) false (eval iter X.env) (some (assign (.Name y py) X.env))) _ _ s
 refine wpAny_bind (wpAny_mono (zed (Qf:=fun _ s' => SP X pins D .next s') hcalm hi hc he hN hx hjf hjl hkind hcell hfr hnames (use:=some (assign (.Name y py) X.env)) I h (fun D' C s6 H6 m6 I6 q6 f6 n6=>?_) hs) (fun _ s' hq=>wpAny_pure (wpAny_pure hq)) fun _ _ e=>e)
 refine wpAny_assign_Name (zdo I6 hNX hi' (.inl hy) (v:=.ref D') rfl (fun s7 I7 ⟨a,hsa,ha⟩=>?_) (.inr hy))
 have ne:C≠a:=by
  rcases ha with z | z
  ·rw [z];exact f6.2.1
  ·exact fun q=>f6.2.2.2.2.1 y a z q.symm
 refine ⟨m6,n6.sameBut hsa ne,fun h' hs' => ⟨_,H6,?_,q6⟩⟩
 exact I7.turnedL (fp:=[C]) (t' := s7.toks) (fun b o hb q=>(hs'.2 b (fun z=>hb (by simp [z]))).trans q) (fun b hb=>by
  have e:b=C:=by simpa using hb
  subst e
  exact f6)
end
end L2
namespace L2
open PySem PySem.Spec PyProof.Rows
section
variable {X:Cx} {a b e:Expr} {ta tb:TE} {p p2 pos:Pos}
theorem zht {c:V} {cv:Value} (rc:∀ u,RelV c u->u=cv) :
  CallR X (.builtin "isinstance") (fun xs H Q=>∃ x t r,xs=[x,c]/\TyOf X.K H x t/\PySem.W.kitOne X.K t cv=some r/\Q (.bl r) H):=by
 intro pins s σ H xs us Q I r h
 obtain ⟨x,t,k,rfl,ty,hk,q⟩:=h
 obtain ⟨u,w',rfl,rx,ry⟩:=ydP r
 obtain rfl:=rc _ ry
 exact zgx I rx ty hk fun tk=>⟨.bl k,H,I.tok _,rfl,q⟩
theorem yfj (n:String):∀ u,RelV (.ty n) u->u=Value.type n:=fun _ r=>r
theorem ye0 (c:Addr):∀ u,RelV (.ref c) u->u=Value.ref c:=fun _ r=>r
theorem zgG:OpR X (compareOp .LtE) (fun x y H Q=>∃ i j,x = .str i/\y = .str j/\Q (.bl (!decide (j.cps.toList<i.cps.toList))) H):=by
 intro pins s σ H x y v u Q I rx ry h
 obtain ⟨i,j,rfl,rfl,q⟩:=h
 obtain ⟨t,rfl⟩:=rx
 obtain ⟨t',rfl⟩:=ry
 exact PySem.P.le_str (yaP I q rfl)
theorem zee:MtR X "str.count" (fun x vs H Q=>∃ z y,x = .str z/\vs=[.str y]/\Q (.int ((Builtin.Str.occurrences z y 0 z.length (z.length+1)).length:Nat)) H):=by
 intro pins s σ H x vs v us Q I rx rv h
 obtain ⟨z,y,rfl,rfl,q⟩:=h
 obtain ⟨t,rfl⟩:=rx
 obtain ⟨u,rfl,t',rfl⟩:=ydv rv
 exact call_gives F.slot_str_count (typeIs_str s z t) F.entry_str_count (F.args_str_count_2 _ _) (gives_str_count z y t t') ⟨.int _,H,I.tok _,⟨_,rfl⟩,q⟩
theorem zhu (hc:X.calm=true):CallR X (.builtin "all") (fun xs H Q=>∃ (a:Addr) (bs:List Bool),xs=[.ref a]/\SqL X.K H a (bs.map V.bl)/\Q (.bl (bs.all id)) H):=by
 intro pins s σ H xs us Q I r h
 obtain ⟨l,bs,rfl,hq,q⟩:=h
 obtain ⟨u,rfl,rx⟩:=ydv r
 cases rx
 obtain ⟨its,rv,pl,hz⟩:=I.list hq
 have hlt:l<s.heap.objs.size:=by obtain ⟨_,_,e,_⟩:=pl;exact Heap.lt_size e
 have hlen:its.length=bs.length:=by rw [<- rv.length,List.length_map]
 refine call_all_walk (wpAny_pyIter_list pl.isList ?_)
 refine ⟨s.heap.objs.size,[s.heap.objs.size,l],[s.heap.objs.size],its.toArray.size,_,_,fun i=>(bs[i]?).getD true,rfl,Walks.list (A:=X.A.in1) (I.ok.hd hc) _ l (Nat.ne_of_lt hlt) its.toArray,
  ⟨⟨_,Heap.get?_push_size _ rfl,rfl,rfl⟩,pl.isList.push _⟩,fun i v s' Q' E' hP hQ=>?_,fun h' tk hk=>?_⟩
 ·have hP':its[i]? = some v:=by simpa using hP
  have hi:i<its.length:=(List.getElem?_eq_some_iff.mp hP').1
  have hb:(bs.map V.bl)[i]? = some (V.bl (bs[i]'(by omega))):=by rw [List.getElem?_map,List.getElem?_eq_getElem (by omega)];rfl
  obtain ⟨u,hu,ru⟩:=rv.get hb
  rw [hP'] at hu
  cases hu
  cases ru
  have e:(bs[i]?).getD true=bs[i]'(by omega):=by rw [List.getElem?_eq_getElem (by omega)];rfl
  have hQ2:Q' ((bs[i]?).getD true) s' := hQ
  rw [e] at hQ2
  exact wpAny_truthy_bool hQ2
 ·have e:((List.range its.toArray.size).all fun i=>(bs[i]?).getD true)=bs.all id:=by
   rw [List.size_toArray,hlen,Bool.eq_iff_iff,List.all_eq_true,List.all_eq_true]
   constructor
   ·intro z c hc'
    obtain ⟨i,hi,rfl⟩:=List.getElem_of_mem hc'
    have:=z i (List.mem_range.mpr hi)
    rw [List.getElem?_eq_getElem hi] at this
    exact this
   ·intro z i hi
    have hi' := List.mem_range.mp hi
    rw [List.getElem?_eq_getElem hi']
    exact z _ (List.getElem_mem hi')
  rw [e]
  refine ⟨.bl _,H,I.kept (t' := tk) fun b o q=>?_,rfl,q⟩
  exact hk b o (fun hm=>by rw [List.mem_singleton.mp hm] at q;exact Nat.lt_irrefl _ (Heap.lt_size q)) (Heap.get?_push_of_some _ q)
end
end L2
namespace L2
open PySem PySem.Spec PyProof.Rows
section
variable {X:Cx}
theorem zhv:OpR X (binaryOp .FloorDiv) (rI (fun _ j=>0<j/\j<2 ^ 200) fun i j=>.int (i / j)):=opI fun i j _ _ _ _ _ hc q=>by
 obtain ⟨h1,h2⟩:=hc
 refine floordiv_int (by omega) (by rw [Int.fdiv_eq_ediv_of_nonneg i (by omega)];exact q) (.inl (PyProof.noPylong_of_log2 ?_))
 have h3:j.natAbs<2 ^ 200:=by omega
 have h4:j.natAbs.log2<200:=(Nat.log2_lt (by omega)).mpr h3
 omega
theorem zhw:OpR X (binaryOp .Mult) (rI IntMulOk fun i j=>.int (i*j)):=opI fun _ _ _ _ _ _ _ hc q=>mul_int q hc
end
end L2
namespace L2
open PySem PySem.Spec PyProof.Rows
theorem ygW:bootBuiltins "int" = some (.type "int"):=by decide +kernel
theorem ziG:bootBuiltins "bool" = some (.type "bool"):=by decide +kernel
theorem yd4:bootBuiltins "str" = some (.type "str"):=by decide +kernel
end L2
namespace L2
open PySem PySem.Spec PyProof.Rows
theorem ObjOk.some {P:Program} {w:World} {H:Hp} {h:Heap} {a:Addr} {o:HO} (x:ObjOk P w H h a o):∃ ob,h.get? a=Option.some ob:=by
 cases o with
 | lst xs=>obtain ⟨_,_,_,_,e⟩:=x;exact ⟨_,e⟩
 | tup xs=>obtain ⟨_,_,_,o,e,_⟩:=x;exact ⟨o,e⟩
 | dK kvs=>obtain ⟨_,_,_,_,o,_,_,e,_⟩:=x;exact ⟨_,e⟩
 | dT kvs=>obtain ⟨_,_,_,_,o,_,_,e,_⟩:=x;exact ⟨_,e⟩
 | set S n=>obtain ⟨o,_,_,_,e,_⟩:=x;exact ⟨_,e⟩
 | ins C dx fs=>obtain ⟨_,_,_,e,_⟩:=x;exact ⟨_,e⟩
 | own y=>obtain ⟨_,e⟩:=x;exact ⟨_,e⟩
 | xd fs=>obtain ⟨_,⟨_,_,_,e,_⟩,_⟩:=x;exact ⟨_,e⟩
 | rng lo hi=>obtain ⟨_,_,_,e⟩:=x;exact ⟨_,e⟩
 | frz ob u=>obtain ⟨e,_⟩:=x;exact ⟨_,e⟩
 | tbl ps=>exact ⟨_,(show h.get? a=Option.some _ from x)⟩
 | met f y=>exact ⟨_,(show h.get? a=Option.some _ from x)⟩
 | ext φ=>obtain ⟨_,⟨_,e⟩,_⟩:=x;exact ⟨_,e⟩
def Firm (X:Cx) (pins:List (Addr×Obj)) (H:Hp) (h B:Heap):Prop :=
 ∀ b o,h.get? b=some o->b∉frs X.stack->((∃ u,H b=some u)\/(∃ o',X.s₀.heap.get? b=some o')\/∃ p∈X.pn++pins,p.1=b)->B.get? b=some o
section
variable {X:Cx} {pins:List (Addr×Obj)} {σ:St} {H:Hp} {s:Shared}
theorem Inv.nofr (I:Inv X pins σ H s) {b:Addr} {o:Obj} (e:X.s₀.heap.get? b=some o) (hb:b∉X.fs):b∉frs X.stack:=fun z=>by
 rcases List.mem_cons.mp (I.stkSub b z) with q | q
 ·exact Nat.ne_of_lt (Nat.lt_of_lt_of_le (Heap.lt_size e) I.ok.above) q
 ·exact hb q
theorem Inv.nofrT (I:Inv X pins σ H s) {b:Addr} {u:HO} (e:H b=some u):b∉frs X.stack:=fun z=>by
 have q:=I.stkFree b z
 rw [q] at e
 cases e
theorem Inv.nofrP (I:Inv X pins σ H s) {p:Addr×Obj} (hp:p∈X.pn++pins):p.1∉frs X.stack:=fun z=>by
 obtain ⟨_,_,ne,nf,_⟩:=I.pin p hp
 rcases List.mem_cons.mp (I.stkSub p.1 z) with q | q
 ·exact ne q
 ·exact nf q
theorem Inv.flown {B h':Heap} {t':Nat} (I:Inv X pins σ H s) (hex:X.ex=[]) (F:Firm X pins H s.heap B) (st:B.StaysIn h') (sm:s.heap.UpToSlots h'):Inv X pins σ H { s with heap:=h',toks:=t' }:=by
 have nx:∀ b,b∉X.ex:=fun b z=>by rw [hex] at z;cases z
 refine ⟨I.ok,I.os,I.bare,⟨fun b o e n hb hx=>?_,fun b o e n hb hx=>?_,I.base.free,fun b o e hx=>?_,I.base.tups,I.base.frzs,I.base.tbls⟩,?_,fun x c e=>?_,I.free,I.freeC,fun p hp=>?_,fun b u e=>?_,I.len⟩
 ·exact st b o (F b o (I.base.keep b o e n hb hx) (I.nofr e hb) (.inr (.inl ⟨o,e⟩)))
 ·obtain ⟨sl,q⟩:=I.base.slot b o e n hb hx
  obtain ⟨_,o',ho',hd⟩:=I.funs.mem hb
  rw [q] at ho'
  cases ho'
  obtain ⟨sl',q'⟩:=sm b _ q hd
  exact ⟨sl',q'⟩
 ·obtain ⟨o',q⟩:=I.base.there b o e hx
  by_cases hb:b∈X.fs
  ·obtain ⟨_,o'',ho'',hd⟩:=I.funs.mem hb
   rw [q] at ho''
   cases ho''
   obtain ⟨sl',q'⟩:=sm b _ q hd
   exact ⟨_,q'⟩
  ·exact ⟨o',st b o' (F b o' q (I.nofr e hb) (.inr (.inl ⟨o,e⟩)))⟩
 ·obtain ⟨m,hn,hl⟩:=I.loc
  refine ⟨m,sm.ns hn,fun i x v e1 e2 e3=>?_⟩
  obtain ⟨u,r,l⟩:=hl i x v e1 e2 e3
  refine ⟨u,r,?_⟩
  rcases l with l | ⟨k,c,e,o,ho,hd⟩
  ·exact .inl l
  ·obtain ⟨sl,q⟩:=sm c o ho fun vs z=>by rw [hd] at z;cases z
   exact .inr ⟨k,c,e,_,q,hd⟩
 ·obtain ⟨v,o,ho,hd⟩:=I.cell x c e
  obtain ⟨sl,q⟩:=sm c o ho fun vs z=>by rw [hd] at z;cases z
  exact ⟨v,_,q,hd⟩
 ·obtain ⟨e,n,ne,nf,d⟩:=I.pin p hp
  exact ⟨st _ _ (F _ _ e (I.nofrP hp) (.inr (.inr ⟨p,hp,rfl⟩))),n,ne,nf,d⟩
 ·refine (I.hok b u e).stay (fun c v hc q=>?_) (fun _ q=>q) fun _ _ q=>q
  rcases hc with z | z
  ·subst z
   exact st _ _ (F _ _ q (I.nofrT e) (.inl ⟨_,e⟩))
  ·exact st _ _ (F _ _ q (I.nofrT z) (.inl ⟨_,z⟩))
theorem Inv.adopt0 {T:Addr} {ob:HO} (I:Inv X pins σ H s) (hn:H T=none) (hT:X.s₀.heap.get? T=none) (hL:T≠X.env.locals) (hc:∀ x c,X.env.cells.lookup x=some c->c≠T)
  (hp:∀ p∈X.pn++pins,p.1≠T) (new:ObjOk X.prog X.w (upd H T ob) s.heap T ob):Inv X pins σ (upd H T ob) s:=by
 have hne:∀ b u,H b=some u->b≠T:=fun b u e=>zam e hn
 have hs:∀ b o,X.s₀.heap.get? b=some o->b≠T:=fun b o e z=>by rw [z,hT] at e;cases e
 refine ⟨I.ok,I.os,I.bare,⟨I.base.keep,I.base.slot,fun b o e n hx=>by rw [yax (hs b o e)];exact I.base.free b o e n hx,I.base.there,fun b xs e=>?_,fun b o u e=>?_,fun b ps e=>?_⟩,I.loc,I.cell,by rw [yax (Ne.symm hL)];exact I.free,fun x c e=>by rw [yax (hc x c e)];exact I.freeC x c e,fun p hp' => ?_,fun b u e=>?_,I.len⟩
 ·have q:=I.base.tups b xs e
  rw [yax (hne b _ q)];exact q
 ·have q:=I.base.frzs b o u e
  rw [yax (hne b _ q)];exact q
 ·obtain ⟨more,q⟩:=I.base.tbls b ps e
  exact ⟨more,by rw [yax (hne b _ q)];exact q⟩
 ·obtain ⟨e,n,ne,nf,d⟩:=I.pin p hp'
  exact ⟨e,by rw [yax (hp p hp')];exact n,ne,nf,d⟩
 ·by_cases hb:b=T
  ·subst hb;rw [zao] at e;cases e;exact new
  ·rw [yax hb] at e
   exact (I.hok b u e).stay (fun c v _ q=>q) (fun c q=>by rw [yax (hne c _ q)];exact q) fun c xs q=>by rw [yax (hne c _ q)];exact q
end
structure Arr (X:Cx) (pins:List (Addr×Obj)) (σ:St) (H:Hp) (a:Addr) (cls:Value) (s:Shared):Prop where
 inv:Inv X pins σ H s
 un:H a=none
 new:X.s₀.heap.get? a=none
 nl:a≠X.env.locals
 nc:∀ x c,X.env.cells.lookup x=some c->c≠a
 np:∀ p∈X.pn++pins,p.1≠a
 fly:∃ B a0,Firm X pins H s.heap B/\B.StaysIn s.heap/\B.get? a=none/\s.heap.FunFrames B X.stack /\
  ((∃ oe vs,s.heap.get? a=some oe/\oe.cls=cls/\oe.data = .fields vs/\vs[0]? = some a0/\vs[1]? = some .none)\/s.heap.TracedW B a cls a0)
def CXE (P:Program) (w:World):CXT:=fun outer H s E e s' => ∃ (a:Addr) (cls a0:Value) (H':Hp) (B:Heap),e = .ref a/\s'.os=s.os/\AllBare s'.gens/\Un (frs outer) [] H H' s.heap s'.heap/\HOk P w H' s'.heap /\
 Heap.FlyingW B outer a cls a0 s'.heap/\(∀ b o,s'.heap.get? b=some o->b∉frs outer->((∃ u,H' b=some u)\/∃ o',s.heap.get? b=some o')->B.get? b=some o)/\H' a=none/\s.heap.get? a=none/\E cls none H'
section
variable {X:Cx} {pins:List (Addr×Obj)} {σ:St} {H:Hp} {s:Shared}
theorem zhx {h':Heap} {e:Addr} {cls:Value} {args:List Value} {t':Nat} (I:Inv X pins σ H s) (hex:X.ex=[]) (hx:Heap.MadeExcOf s.heap h' e cls args):Arr X pins σ H e cls { s with heap:=h',toks:=t' }:=by
 have nx:∀ b,b∉X.ex:=fun b z=>by rw [hex] at z;cases z
 have none_of:∀ b o,s.heap.get? b=some o->b≠e:=fun b o q z=>by rw [z,hx.new] at q;cases q
 have eq_of:∀ b o o1,h'.get? b=some o->s.heap.get? b=some o1->o1=o:=fun b o o1 q q1=>by
  have z:=hx.keeps b o1 q1
  rw [q] at z
  exact (Option.some.inj z).symm
 obtain ⟨t,he,_,_⟩:=hx.there
 refine ⟨I.kept hx.keeps,?_,?_,fun z=>?_,fun x c q z=>?_,fun p hp z=>?_,PySem.W.hideAll s.heap (frs X.stack),.ref t,fun b o q nb alt=>?_,fun b o q=>hx.keeps b o (PySem.W.of_hideAll _ q),?_,?_,.inl ⟨_,_,he,rfl,rfl,rfl,rfl⟩⟩
 ·cases q:H e with
  | none=>rfl
  | some u =>
   obtain ⟨ob,z⟩:=(I.hok e u q).some
   exact absurd rfl (none_of e ob z)
 ·cases q:X.s₀.heap.get? e with
  | none=>rfl
  | some o =>
   obtain ⟨ob,z⟩:=I.base.there e o q (nx e)
   exact absurd rfl (none_of e ob z)
 ·obtain ⟨m,⟨o,_,_,ho,_⟩,_⟩:=I.loc
  exact none_of _ o ho z.symm
 ·obtain ⟨v,o,ho,_⟩:=I.cell x c q
  exact none_of _ o ho z
 ·exact none_of _ _ (I.pin p hp).1 z
 ·have there:∃ o1,s.heap.get? b=some o1:=by
   rcases alt with ⟨u,q'⟩ | ⟨o',q'⟩ | ⟨p,hp,rfl⟩
   ·exact (I.hok b u q').some
   ·exact I.base.there b o' q' (nx b)
   ·exact ⟨_,(I.pin p hp).1⟩
  obtain ⟨o1,q1⟩:=there
  rw [<- eq_of b o o1 q q1]
  exact PySem.W.hideAll_get _ q1 nb
 ·cases q:(PySem.W.hideAll s.heap (frs X.stack)).get? e with
  | none=>rfl
  | some o=>exact absurd rfl (none_of e o (PySem.W.of_hideAll _ q))
 ·refine (PySem.W.funFrames_hide I.stack fun env henv b hb=>List.mem_filterMap.mpr ⟨env,henv,hb⟩).of_keeps fun b o q _=>⟨o,hx.keeps b o q,rfl⟩
theorem zcx {E:XK} {e:Value} {s':Shared} (I:Inv X pins σ H s) (hex:X.ex=[]) (h:CXE X.prog X.w X.stack H s E e s'):∃ a cls H',e = .ref a/\Arr X pins σ H' a cls s'/\E cls none H' := by
 obtain ⟨a,cls,a0,H',B,rfl,os,bare,un,hok,⟨f1,f2,f3,f4⟩,ext,na,ns,q⟩:=h
 have nx:∀ b,b∉X.ex:=fun b z=>by rw [hex] at z;cases z
 have none_of:∀ b o,s.heap.get? b=some o->b≠a:=fun b o q z=>by rw [z,ns] at q;cases q
 refine ⟨a,cls,H',rfl,⟨I.call' (ch:=[]) os un hok bare (fun b z=>absurd z (by simp)),na,?_,fun z=>?_,fun x c q z=>?_,fun p hp z=>?_,B,a0,fun b o q nb alt=>?_,f1,f2,f3,.inr f4⟩,q⟩
 ·cases q:X.s₀.heap.get? a with
  | none=>rfl
  | some o =>
   obtain ⟨ob,z⟩:=I.base.there a o q (nx a)
   exact absurd rfl (none_of a ob z)
 ·obtain ⟨m,⟨o,_,_,ho,_⟩,_⟩:=I.loc
  exact none_of _ o ho z.symm
 ·obtain ⟨v,o,ho,_⟩:=I.cell x c q
  exact none_of _ o ho z
 ·exact none_of _ _ (I.pin p hp).1 z
 ·refine ext b o q nb ?_
  rcases alt with ⟨u,q'⟩ | ⟨o',q'⟩ | ⟨p,hp,rfl⟩
  ·exact .inl ⟨u,q'⟩
  ·exact .inr (I.base.there b o' q' (nx b))
  ·exact .inr ⟨_,(I.pin p hp).1⟩
theorem Arr.land {a:Addr} {cls:Value} {Q:Unit->Shared->Prop} {E:Value->Shared->Prop} {M:Model} {A:Around} (R:Arr X pins σ H a cls s) (hex:X.ex=[]) (hfr:A.frames=some X.stack) {outer:List Env} (hst:X.stack=X.env::outer) (hf:X.env.frame=some X.env.locals)
  (hQ:∀ h' B a0,Firm X pins H s.heap B->Heap.FlyingW B X.stack a cls a0 h'->s.heap.UpToSlots h'->Inv X pins σ H { s with heap:=h' }->Q () { s with heap:=h' }) :
  wpAny M A (noteFrame (.ref a) X.env) (fun _ s₂=>wpAny M A (setFlight (.ref a) none) Q E s₂) E s:=by
 obtain ⟨B,a0,fm,st,hb,ff,alt⟩:=R.fly
 have after:∀ h4,Heap.HeldW B X.stack a cls a0 X.env.locals h4->s.heap.UpToSlots h4->wpAny M A (setFlight (.ref a) none) Q E { s with heap:=h4 }:=fun h4 hh sm=>by
  refine wpAny_landsW (s:={ s with heap:=h4 }) hh fun h5 fl sm5=>?_
  have sm':s.heap.UpToSlots h5:=sm.trans sm5
  exact hQ h5 B a0 fm fl sm' (R.inv.flown (t' := s.toks) hex fm fl.1 sm')
 rw [hst] at hfr
 rw [hst] at ff
 rcases alt with ⟨oe,vs,he,hc,hd,h0,h1⟩ | tr
 ·subst hc
  have hsz:1<vs.size:=(Array.getElem?_eq_some_iff.mp h1).1
  unfold noteFrame
  simp only [hf]
  refine wpAny_bind (wpAny_field he hd h1 ?_)
  rw [if_neg (by decide)]
  refine wpAny_entryW hfr ff hf he st hb hd hsz h0 fun h4 hN=>?_
  obtain ⟨k1,k2,k3,k4⟩:=hN
  exact after h4 (by rw [hst];exact ⟨k1,hb,k2,k3⟩) k4
 ·exact wpAny_looks_onW hfr hf ⟨st,hb,ff,tr⟩ fun h4 hh sm=>after h4 (by rw [hst];exact hh) sm
theorem zdv {P:Program} {w:World} {K:PySem.W.Frag} {mg:Str->Option Value} {base:Heap} {N:List Str} {qual:Str} {scope:Scope} {f:Addr} {cd:Value} {A:Around} {outer:List Env} {s0:Shared} {H0:Hp} {E:XK} {a:Addr} {cls:Value}
  (R:Arr (cxOf (CXE P w) P w K mg base N qual scope f cd A outer s0 H0 E) pins σ H a cls s) (q:E cls none H):(cxOf (CXE P w) P w K mg base N qual scope f cd A outer s0 H0 E).xe (.ref a) s:=by
 show wpAny _ _ (leaving _ _) _ _ s
 unfold leaving
 refine wpAny_bind (R.land (E:=fun e' s'' => CXE P w outer H0 s0 E e' s'') rfl R.inv.ok.frames rfl rfl fun h' B a0 fm fl sm I' => ?_)
 have I:=R.inv
 obtain ⟨k1,k2,⟨_,_,k3⟩,k4⟩:=fl
 refine ⟨a,cls,a0,H,B,rfl,I'.os,I'.bare,I'.base,I'.hok,⟨k1,k2,k3,k4⟩,fun b o e nb alt=>?_,R.un,R.new,q⟩
 have nstk:b∉frs (cxOf (CXE P w) P w K mg base N qual scope f cd A outer s0 H0 E).stack:=by
  rcases alt with ⟨u,z⟩ | ⟨o',z⟩
  ·exact I.nofrT z
  ·exact I.nofr z nb
 have there:∃ o1,s.heap.get? b=some o1:=by
  rcases alt with ⟨u,z⟩ | ⟨o',z⟩
  ·exact (I.hok b u z).some
  ·exact I.base.there b o' z (fun z=>absurd (show b∈([]:List Addr) from z) (by simp))
 obtain ⟨o1,q1⟩:=there
 have z:B.get? b=some o1:=fm b o1 q1 nstk (by
  rcases alt with ⟨u,z⟩ | ⟨o',z⟩
  ·exact .inl ⟨u,z⟩
  ·exact .inr (.inl ⟨o',z⟩))
 have z2:=k1 b o1 z
 rw [show (Heap.get? h' b)=some o from e] at z2
 cases z2
 exact z
end
def ycL (X:Cx) (Ex:St->XK):Prop:=∀ (pins:List (Addr×Obj)) (σ:St) (H:Hp) (s:Shared) (a:Addr) (cls:Value),Arr X pins σ H a cls s->Ex σ cls none H->X.xe (.ref a) s
def ybT (CX:CXT) (X:Cx) (Ex:St->XK):Prop:=∀ (pins:List (Addr×Obj)) (σ:St) (H:Hp) (s:Shared) (e:Value) (s':Shared),Inv X pins σ H s->CX X.stack H s (Ex σ) e s'->X.xe e s'
section
variable {P:Program} {w:World} {K:PySem.W.Frag} {mg:Str->Option Value} {base:Heap} {N:List Str} {qual:Str} {scope:Scope} {f:Addr} {cd:Value} {A:Around} {outer:List Env} {s0:Shared} {H0:Hp} {E:XK}
theorem zaR:ycL (cxOf (CXE P w) P w K mg base N qual scope f cd A outer s0 H0 E) (fun _=>E):=fun _ _ _ _ _ _ R q=>zdv R q
theorem ziH:ygN (CXE P w) (cxOf (CXE P w) P w K mg base N qual scope f cd A outer s0 H0 E) E:=fun pins σ H s e s' I h=>by
 obtain ⟨a,cls,H',rfl,R,q⟩:=zcx (X:=cxOf (CXE P w) P w K mg base N qual scope f cd A outer s0 H0 E) I rfl h
 exact zdv R q
end
section
variable {X:Cx} {x:Str} {C:Addr} {bm:List Value} {B newId initId:String} {np cpos pos:Pos} {e:Expr} {es:List Expr} {t:TA} {Ex:St->XK}
def ygX (cls:Value) (Ex:St->XK) (t:TA):TS:=fun _ σ H=>t σ H fun vs H1=>vs.length<=1000/\Ex σ cls none H1
theorem zhy (O:OwnCls x C bm newId X.mg X.base) (FB:ExcBaseFacts B newId initId bm) (hc:X.calm=true) (hex:X.ex=[]) (hr:ycL X Ex) (hg:Gl X x) (ha:PA X (e::es) t)
  (hdb:(x == ("__debug__" : Str))=false:=by decide) (he:starEach (e::es) X.env=(false,eval e X.env)::starEach es X.env:=by rfl) (hpl:(backTo cpos (starEach es X.env)).any (·.1)=false:=by rfl) :
  PS X (.Raise (some (.Call (.Name x np) (e::es) [] cpos)) none pos) (ygX (.ref C) Ex t):=by
 intro pins s σ H D I h
 obtain ⟨tl,NN,nm,q,bs,hdct,sn,sub,ab,col,dd,k0,k1,k2,k3,k5,mN,hC,hN,hni,T⟩:=O.obj
 refine wpAny_Raise_call_subT (C:=C) (nm:=nm) (q:=q) (N:=NN) (bs:=bs) (bm:=tl) (hdct:=hdct) (sn:=sn) (sub:=sub) (ab:=ab) (col:=col) (dd:=dd) (k0:=k0) (k1:=k1) (k2:=k2) (k3:=k3) (k5:=k5) FB (mN:=mN)
  (T.hasType FB.hasBase) (I.ok.hd hc) (by rw [he];show (false || (backTo cpos (starEach es X.env)).any (·.1))=false;rw [hpl];rfl) hni (zbp I hg O.bound ⟨rfl,?_⟩ hdb)
 have hA:=ha cpos pins s σ H _ I h
 rw [he] at hA ⊢
 refine Calls.evalArgs_plain (thn hA fun us s2 ⟨vs,H1,I1,r1,hl,q1⟩=>⟨rfl,?_,I1.bk _ _ hC,hN.keeps I1.bk,T.keeps I1.bk,fun h' a hm=>hr pins σ H1 _ a _ (zhx (t' := s2.toks) I1 hex hm) q1⟩)
 show us.length<=sizeLine
 rw [<- r1.length]
 exact Nat.le_trans hl (by decide)
end
section
variable {X:Cx} {CX:CXT} {k:Nat} {f C:Addr} {fd:FuncData} {ps:List Str} {sp:Sp} {dvs:List V} {ds:List Value} {Ex:St->XK} {x m:Str} {p pos apos:Pos} {e o:Expr} {es:List Expr} {ta:TE} {t:TA}
theorem zc2 {pins:List (Addr×Obj)} {σ:St} {H:Hp} {s:Shared} {Q:VK} {us:List Value} {vs:List V} (F:FnOk X.prog X.w X.K X.mg X.base CX k f fd ps sp) (hr:Room k X.A) (hb:Binds X.K fd ps ds) (hd:Vals dvs ds) (hx:ybT CX X Ex)
  (I:Inv X pins σ H s) (r:Vals vs us) (h:sp (vs++dvs) H Q (Ex σ)):wpAny (model X.prog X.w) X.A (call (.ref f) us) (EP X pins σ Q) X.xe s:=by
 have r2:Vals (vs++dvs) (us++ds):=r.append hd
 have hl:(us++ds).length=ps.length:=by rw [<- r2.length];exact F.len _ _ _ _ h
 refine wpAny_call (codeAny_mono (F.run X.A X.stack s H ⟨us,[]⟩ (us++ds) (vs++dvs) Q (Ex σ) hr I.env0 (hb s us I.kIn hl) r2 h) fun r s' hq=>?_)
 cases r with
 | error e=>exact hx pins σ H s e s' I hq
 | ok fl =>
  cases fl with
  | ret u=>exact I.after hq
  | next=>exact False.elim hq
  | brk=>exact False.elim hq
  | cont=>exact False.elim hq
def ygY (sp:Sp) (dvs:List V) (Ex:St->XK) (t:TA):TE:=fun σ H Q=>t σ H fun vs H1=>sp (vs++dvs) H1 Q (Ex σ)
theorem zhz (F:FnOk X.prog X.w X.K X.mg X.base CX k f fd ps sp) (hr:Room k X.A) (hg:Gl X x) (hm:X.mg x=some (.ref f)) (hk:PySem.W.keepIn X.K (.ref f)=true) (hb:Binds X.K fd ps ds) (hd:Vals dvs ds) (hx:ybT CX X Ex)
  (ha:PA X (e::es) t) (hdb:(x == ("__debug__" : Str))=false:=by decide) (he:starEach (e::es) X.env=(false,eval e X.env)::starEach es X.env:=by rfl) (hpl:(backTo pos (starEach es X.env)).any (·.1)=false:=by rfl) :
  PE X (.Call (.Name x p) (e::es) [] pos) (ygY sp dvs Ex t):=by
 intro pins s σ H Q I h
 refine wpAny_Call_Name_kw (zbp I hg hm ?_ hdb)
 refine PySem.W.callWith_K (h₀:=X.base) I.ok.mod.kin hk (thn (ha pos pins s σ H _ I h) fun us s1 ⟨vs,H1,I1,r,q⟩=>⟨I1.kIn,?_⟩) he hpl
 exact zc2 F hr hb hd hx I1 r q
def yfA (C:Addr) (m:Str) (sp:Sp) (dvs:List V) (Ex:St->XK) (ta:TE) (t:TA):TE:=fun σ H Q=>ta σ H fun x H1=>∃ a dx fs,x = .ref a/\H1 a=some (.ins C dx fs)/\fs.lookup m=none /\
 t σ H1 fun vs H2=>sp (x::(vs++dvs)) H2 Q (Ex σ)
theorem zhA {pl:Sem Bool} (he:PE X o ta) (c:Cls X.K C) (hm:Meth X.K C m f) (F:FnOk X.prog X.w X.K X.mg X.base CX k f fd ps sp) (hr:Room k X.A) (hb:Binds X.K fd ps ds) (hd:Vals dvs ds) (hx:ybT CX X Ex) (ha:PA X (e::es) t)
  (hst:starEach (e::es) X.env=(false,eval e X.env)::starEach es X.env:=by rfl) (hpl:(backTo pos (starEach es X.env)).any (·.1)=false:=by rfl)
  (ht:eval (.Call (.Attribute o m apos) (e::es) [] pos) X.env=(do
   let ov <- eval o X.env
   standAt apos.atName
   let (f,first) <- holding [ov] (getMethod ov m pl)
   callWith pos f first (backTo pos (starEach (e::es) X.env)) (backToKw pos (keywordEach [] X.env))):=by rfl) :
  PE X (.Call (.Attribute o m apos) (e::es) [] pos) (yfA C m sp dvs Ex ta t):=by
 intro pins s σ H Q I h
 refine PySem.W.methodCall_KW (pl:=pl) (thn (he pins s σ H _ I h) fun u s1 ⟨x,H1,I1,rx,a,dx,fs,ex,ea,l,q⟩=>?_) ht
 subst ex
 obtain rfl:u=Value.ref a:=rx
 refine zcK I1 ea c hm l ?_
 refine PySem.W.callWith_K (first:=[.ref a]) (h₀:=X.base) I.ok.mod.kin hm.kp (thn (ha pos pins s1 σ H1 _ I1 q) fun us s2 ⟨vs,H2,I2,r,q2⟩=>⟨I2.kIn,?_⟩) hst hpl
 exact zc2 (us:=.ref a::us) (vs:=.ref a::vs) F hr hb hd hx I2 (.cons rfl r) q2
end
abbrev tryC (X:Cx) (pins:List (Addr×Obj)) (xe:Value->Shared->Prop):Cx:={ X with pn:=X.pn++pins,xe:=xe }
abbrev hdlC (X:Cx) (a:Addr):Cx:={ X with A:=X.A.mark (some (.ref a)),calm:=false,xe:=fun _ _=>False }
def excO (a:Addr) (cls:Value):HO:=.ext fun h=>∃ ob vs,h.get? a=some ob/\ob.cls=cls/\ob.data = .fields vs
section
variable {X:Cx} {pins pins':List (Addr×Obj)} {σ:St} {H:Hp} {s:Shared} {xe:Value->Shared->Prop}
theorem Cx.Ok.tryC (ok:X.Ok):(tryC X pins xe).Ok:=⟨ok.mod,ok.kind,ok.glob,ok.blt,ok.above,ok.inj,ok.has,ok.cab,ok.hd,ok.frames,ok.stk,ok.exf,ok.bs,ok.bsz,ok.noex,ok.exfs,ok.funs,ok.frf⟩
theorem Cx.Ok.untry (ok:(L2.tryC X pins xe).Ok):X.Ok:=⟨ok.mod,ok.kind,ok.glob,ok.blt,ok.above,ok.inj,ok.has,ok.cab,ok.hd,ok.frames,ok.stk,ok.exf,ok.bs,ok.bsz,ok.noex,ok.exfs,ok.funs,ok.frf⟩
theorem Cx.Ok.hdl (ok:X.Ok) (a:Addr):(hdlC X a).Ok:=⟨ok.mod,ok.kind,ok.glob,ok.blt,ok.above,ok.inj,ok.has,ok.cab,fun z=>(nomatch z),ok.frames,ok.stk,ok.exf,ok.bs,ok.bsz,ok.noex,ok.exfs,ok.funs,ok.frf⟩
theorem Inv.toTry (I:Inv X pins σ H s):Inv (tryC X pins xe) [] σ H s:=⟨I.ok.tryC,I.os,I.bare,I.base,I.loc,I.cell,I.free,I.freeC,fun p hp=>I.pin p (by simpa using hp),I.hok,I.len⟩
theorem Inv.untry (I:Inv (tryC X pins xe) pins' σ H s):Inv X pins σ H s:=⟨I.ok.untry,I.os,I.bare,I.base,I.loc,I.cell,I.free,I.freeC,fun p hp=>I.pin p (List.mem_append_left _ hp),I.hok,I.len⟩
theorem Inv.hdl (I:Inv X pins σ H s) (a:Addr):Inv (hdlC X a) pins σ H s:=⟨I.ok.hdl a,I.os,I.bare,I.base,I.loc,I.cell,I.free,I.freeC,I.pin,I.hok,I.len⟩
theorem Inv.unhdl {a:Addr} (I:Inv (hdlC X a) pins σ H s) (ok:X.Ok):Inv X pins σ H s:=⟨ok,I.os,I.bare,I.base,I.loc,I.cell,I.free,I.freeC,I.pin,I.hok,I.len⟩
theorem Arr.untry {a:Addr} {cls:Value} (R:Arr (tryC X pins xe) pins' σ H a cls s):Arr X pins σ H a cls s:=by
 obtain ⟨B,a0,fm,r⟩:=R.fly
 refine ⟨R.inv.untry,R.un,R.new,R.nl,R.nc,fun p hp=>R.np p (List.mem_append_left _ hp),B,a0,fun b o q nb alt=>fm b o q nb ?_,r⟩
 rcases alt with z | z | ⟨p,hp,e⟩
 ·exact .inl z
 ·exact .inr (.inl z)
 ·exact .inr (.inr ⟨p,List.mem_append_left _ hp,e⟩)
theorem zbg {M:Model} {A:Around} {E:Value->Shared->Prop} {n:Str} {i:Nat} {pos:Pos} {Q:Unit->Shared->Prop} (I:Inv X pins σ H s) (hN:X.N.Nodup) (hi:X.N[i]? = some n) (hk:X.env.scope.names.lookup n=some .local)
  (h:∀ s',Inv X pins (σ.set i none) H s'->Q () s'):wpAny M A (do bindName X.env n .none;unbindBehindTheSuite X.env n pos) Q E s:=by
 obtain ⟨m,hn,hl⟩:=id I.loc
 refine wpAny_nameGoes_keeps hk hn (by rw [I.ok.kind];rfl) fun h' v hn' hs=>h _ ?_
 have cne:=I.cne
 refine ⟨I.ok,I.os,I.bare,Un.sameBut I.base (Heap.get?_none_of_le I.ok.above) hs,⟨_,hn',fun j y v' e1 e2 e3=>?_⟩,fun y c e=>?_,I.free,I.freeC,fun p hp=>?_,I.hok.sameBut I.free hs,by simpa using I.len⟩
 ·by_cases hj:j=i
  ·subst hj
   by_cases hlt:j<σ.length
   ·rw [List.getElem?_set_self hlt] at e2;cases e2
   ·rw [List.getElem?_eq_none (by simpa using hlt)] at e2;cases e2
  ·rw [List.getElem?_set_ne (Ne.symm hj)] at e2
   obtain ⟨u',r',q⟩:=hl j y v' e1 e2 e3
   refine ⟨u',r',?_⟩
   rcases q with ⟨k,e⟩ | ⟨k,c,e,z⟩
   ·refine .inl ⟨k,?_⟩
    have ne:y≠n:=fun e=>hj (zbz hN e1 (e▸hi))
    simp [ne,e]
   ·exact .inr ⟨k,c,e,z.sameBut hs (cne y c e)⟩
 ·obtain ⟨w',z⟩:=I.cell y c e
  exact ⟨w',z.sameBut hs (cne y c e)⟩
 ·obtain ⟨e,nn,ne,nf,d⟩:=I.pin p hp
  exact ⟨(hs.2 p.1 ne).trans e,nn,ne,nf,d⟩
end
def tTry (K:PySem.W.Frag) (i:Nat) (C:Addr) (tb:(St->XK)->TS) (th:TS):TS:=fun D σ H =>
 tb (fun σ' cls _ H' => PySem.W.exmOne K cls (.ref C)=some true/\∀ a,H' a=none->th { nx:=fun σ2 H2=>D.nx (σ2.set i none) H2,rt:=D.rt,bk:=fun σ2 H2=>D.bk (σ2.set i none) H2,ct:=fun σ2 H2=>D.ct (σ2.set i none) H2 } (σ'.set i (some (.ref a))) (upd H' a (excO a cls))) D σ H
theorem zb1 {M:Model} {h:Heap} {a:Addr} {ob:Obj} (e:h.get? a=some ob):PySem.W.Looks M h (typeOf (.ref a)) ob.cls:=(PySem.W.Looks.ld e).andThen .now
section
variable {X:Cx} {xc n:Str} {C:Addr} {i:Nat} {body suite:List Stmt} {b0:Stmt} {np hpos pos:Pos} {tb:(St->XK)->TS} {th:TS} {outer:List Env}
theorem ygZ (hex:X.ex=[]) (hst:X.stack=X.env::outer) (hf:X.env.frame=some X.env.locals) (hN:X.N.Nodup) (hi:X.N[i]? = some n) (hl:X.env.scope.names.lookup n=some .local) (hg:Gl X xc) (hm:X.mg xc=some (.ref C))
  (hb:∀ pins xe Ex,ybT (CXE X.prog X.w) (tryC X pins xe) Ex->ycL (tryC X pins xe) Ex->PSs (tryC X pins xe) body (tb Ex)) (hh:∀ a,PSs (hdlC X a) (b0::suite) th) (hdb:(xc == ("__debug__" : Str))=false:=by decide) :
  PS X (.Try body [.ExceptHandler (some (.Name xc np)) (some n) (b0::suite) hpos] [] [] pos) (tTry X.K i C tb th):=by
 intro pins s σ H D I h
 have okX:=I.ok
 let Ex:St->XK:=fun σ' cls _ H' => PySem.W.exmOne X.K cls (.ref C)=some true/\∀ a,H' a=none->th { nx:=fun σ2 H2=>D.nx (σ2.set i none) H2,rt:=D.rt,bk:=fun σ2 H2=>D.bk (σ2.set i none) H2,ct:=fun σ2 H2=>D.ct (σ2.set i none) H2 } (σ'.set i (some (.ref a))) (upd H' a (excO a cls))
 let xe:Value->Shared->Prop:=fun e s' => ∃ σ' H' a cls,e = .ref a/\Arr X pins σ' H' a cls s'/\Ex σ' cls none H'
 have hR:ycL (tryC X pins xe) Ex:=fun pins' σ' H' s' a cls R q=>⟨σ',H',a,cls,rfl,R.untry,q⟩
 have hP:ybT (CXE X.prog X.w) (tryC X pins xe) Ex:=fun pins' σ' H' s1 e s2 I' hq=>by
  obtain ⟨a,cls,H2,rfl,R,q⟩:=zcx (X:=tryC X pins xe) I' hex hq
  exact ⟨σ',H2,a,cls,rfl,R.untry,q⟩
 have hbody:=hb pins xe Ex hP hR [] s σ H D (I.toTry (xe:=xe)) h
 refine wpAny_Try_except (wpAny_mono hbody (fun f s1 q=>?_) fun e s1 q=>?_)
 ·cases f with
  | next=>obtain ⟨σ1,H1,I1,q1⟩:=q;exact wpAny_execs_nil ⟨σ1,H1,I1.untry,q1⟩
  | brk=>obtain ⟨σ1,H1,I1,q1⟩:=q;exact ⟨σ1,H1,I1.untry,q1⟩
  | cont=>obtain ⟨σ1,H1,I1,q1⟩:=q;exact ⟨σ1,H1,I1.untry,q1⟩
  | ret u=>obtain ⟨v1,σ1,H1,I1,r1,q1⟩:=q;exact ⟨v1,σ1,H1,I1.untry,r1,q1⟩
 ·obtain ⟨σ1,H1,a,cls,rfl,R,hxm,q1⟩:=q
  refine R.land hex okX.frames hst hf fun h5 B a0 fm fl sm I5=>?_
  obtain ⟨oe,vs,hoe,hoec,hoed,_⟩:=fl.first
  have I5h:=I5.hdl a
  refine wpAny_handleBy_cons (codeAny_handlers_test (zbp (X:=hdlC X a) I5h hg hm ?_ hdb)) (by intro z;cases z)
  refine (PySem.W.exm_one I5.kIn (hoec▸zb1 hoe) hxm).here ?_
  refine codeAny_handlers_suite_as ?_
  refine lands_againW fl fun h6 fl6 sm6=>?_
  have I6:Inv X pins σ1 H1 { s1 with heap:=h6 }:=R.inv.flown (t' := s1.toks) hex fm fl6.1 (sm.trans sm6)
  obtain ⟨oe6,vs6,hoe6,hoec6,hoed6,_⟩:=fl6.first
  have I7:Inv X pins σ1 (upd H1 a (excO a cls)) { s1 with heap:=h6 }:=I6.adopt0 R.un R.new R.nl R.nc R.np
   ⟨⟨oe6,vs6,hoe6,hoec6,hoed6⟩,⟨oe6,hoe6⟩,fun g1 g2 ⟨ob,ws,z1,z2,z3⟩ k=>⟨ob,ws,k ob z1,z2,z3⟩⟩
  refine za9 (X:=hdlC X a) (I7.hdl a) hN hi (.inl hl) (v:=.ref a) rfl (fun s8 I8=>?_) (.inr hl)
  refine wpAny_mono (hh a pins s8 _ _ _ I8 (q1 a R.un)) (fun f s9 q9=>?_) fun _ _ z=>z.elim
  cases f with
  | next=>obtain ⟨σ2,H2,I2,q2⟩:=q9;exact zbg (I2.unhdl okX) hN hi hl fun s' I' => ⟨_,H2,I',q2⟩
  | brk=>obtain ⟨σ2,H2,I2,q2⟩:=q9;exact zbg (I2.unhdl okX) hN hi hl fun s' I' => ⟨_,H2,I',q2⟩
  | cont=>obtain ⟨σ2,H2,I2,q2⟩:=q9;exact zbg (I2.unhdl okX) hN hi hl fun s' I' => ⟨_,H2,I',q2⟩
  | ret u=>obtain ⟨v2,σ2,H2,I2,r2,q2⟩:=q9;exact zbg (I2.unhdl okX) hN hi hl fun s' I' => ⟨v2,_,H2,I',r2,q2⟩
end
section
variable {P:Program} {w:World} {K:PySem.W.Frag} {mg:Str->Option Value} {base:Heap}
theorem Fun.okE {x qual:Str} {st:Stmt} {f:Addr} {fd:FuncData} {N ps:List Str} {k:Nat} {sp:Sp} (F:Fun K x qual st f fd) (S:FnScope N ps (yag st)) (len:∀ vs H Q E,sp vs H Q E->vs.length=ps.length)
  (hbody:∀ (cdv:Value) (A:Around) (outer:List Env) (s:Shared) (H:Hp) (vs:List V) (Q:VK) (E:XK),Room k (A.deeper (envOfC qual (yag st) s.heap.objs.size f cdv))->sp vs H Q E ->
   ∃ t,PSs (cxOf (CXE P w) P w K mg base N qual (yag st) f cdv A outer s H E) (yb2 st) t/\t { nx:=fun _ H' => Q .non H',rt:=Q } (start N vs) H):FnOk P w K mg base (CXE P w) (k+1) f fd ps sp:=by
 obtain ⟨oc,od,kV,doc,pm,an,cdv,ct,osl,rfl,lk,hcd⟩:=F.ex
 exact yh6 lk hcd S len fun A outer s H vs Q E hr hsp=>hbody cdv A outer s H vs Q E hr hsp
end
end L2
namespace L2
open PySem PySem.Spec PyProof.Rows
open PySem.W (Frag Looks looks_findIn looks_specialIn looks_takesIn looks_mroIn findIn specialIn takesIn mroIn clsIn KitX kitOne kitAny kia_one kia_tup)
open PySem.Calls Builtin Builtin.ObjectAttr Builtin.Getset_descriptor
structure ExcK (K:Frag) (C:Addr):Prop where
 cl:(clsIn K C).isSome=true
 ga:findIn K (.ref C) "__getattribute__" = some (some (.builtin "BaseException.__getattribute__"))
 gh:findIn K (.ref C) "__getattr__" = some none
 ca:findIn K (.ref C) "__class__" = some (some (.builtin "object.__class__"))
 cg:specialIn K (.builtin "object.__class__") "__get__" = some (some (.builtin "getset_descriptor.__get__"))
 ct:takesIn K (.builtin "object.__class__")=some true
 mo:mroIn K C (.type "object")=some true
 mb:mroIn K C (.type "BaseException")=some true
def ExcAt (a C:Addr) (h:Heap):Prop:=∃ ob vs,h.get? a=some ob/\ob.cls = .ref C/\ob.data = .fields vs
section
variable {prog:Program} {w:World} {A:Around} {K:Frag} {a C:Addr}
theorem ExcAt.ty {M:Model} {h:Heap} (x:ExcAt a C h):Looks M h (typeOf (.ref a)) (.ref C):=by
 obtain ⟨ob,vs,e,c,_⟩:=x
 exact c▸zb1 e
theorem zbo {tp:Value} {s:Shared} {R:Result->Shared->Prop} (X:K.In s.heap) (Z:ExcK K C) (I:ExcAt a C s.heap) (q:R (.ok (.ret (.ref C))) s) :
  codeAny (model prog w) A (.call (.builtin "getset_descriptor.__get__") ⟨[.builtin "object.__class__",.ref a,tp],[]⟩) R s:=by
 obtain ⟨hp,gg,dd,tt,oo⟩:=s
 have La:=I.ty (M:=model prog w)
 have Lb:=looks_mroIn (M:=model prog w) X Z.mo
 refine codeAny_call_builtin PySem.W.KF.slot_gs.plain PySem.W.KF.entry_gs (PySem.W.KF.slot_gs.check _ _ _ _ _ _ _ _ PySem.W.KF.type_class (PySem.W.KF.args_gs _ _ _) ?_)
 unfold Builtin.«getset_descriptor.__get__» descrGet
 rw [PySem.W.dga_obj]
 refine wpAny_bind (wpAny_pure ?_)
 unfold descrGetter descrCheckInstance descrNameAndClass isInstance
 simp only [PySem.W.KF.owner_class]
 repeat lk
 refine ⟨Code.quiet_builtin _ (by decide +kernel),codeAny_builtin PySem.W.KF.entry_class ?_⟩
 unfold Builtin.«object.__class__» shownTypeOf
 repeat lk
 exact q
theorem zhB {M:Model} {h:Heap} {x:Value} (X:K.In h) (Z:ExcK K C):Looks M h (find x (.ref C) "__class__") (.bind (.builtin "getset_descriptor.__get__") (.builtin "object.__class__")):=by
 have l1:=looks_findIn (M:=M) X Z.ca
 have l2:Looks M h (getOf (some (.builtin "object.__class__"))) (some (.builtin "getset_descriptor.__get__")):=looks_specialIn X Z.cg
 have l3:=looks_takesIn (M:=M) X Z.ct
 exact l1.andThen (l2.andThen ((show Looks M h (dataDescriptor? (some (.builtin "object.__class__")) (some (.builtin "getset_descriptor.__get__"))) (some (.builtin "getset_descriptor.__get__",.builtin "object.__class__")) from l3.andThen .now).andThen (Looks.tag .now)))
theorem zgH {tk:Tok} {s:Shared} {Q:Fin->Shared->Prop} {E:Value->Shared->Prop} (X:K.In s.heap) (Z:ExcK K C) (I:ExcAt a C s.heap) (q:Q (.done (.ret (.ref C))) s) :
  wpAny (model prog w) A (Builtin.«object.__getattribute__» ⟨[.ref a,.str "__class__" tk],[]⟩) Q E s:=by
 obtain ⟨hp,gg,dd,tt,oo⟩:=s
 have La:=I.ty (M:=model prog w)
 have Lf:=zhB (M:=model prog w) (x:=.ref a) X Z
 refine wpAny_bind (wpAny_pure ?_)
 refine wpAny_bind (wpAny_pure ?_)
 refine wpAny_bind (La.at (wpAny_bind (Lf.at ?_)))
 unfold bindTo
 first
  | exact wpAny_bind (wpAny_call (zbo X Z I (wpAny_pure q)))
  | exact wpAny_bind (wpAny_holding (wpAny_call (zbo X Z I (wpAny_pure q))))
  | exact wpAny_bind (wpAny_holding (wpAny_call (zbo X Z I q)))
theorem zgI {nm:Value} {s:Shared} {M:Model} {Q:Unit->Shared->Prop} {E:Value->Shared->Prop} (X:K.In s.heap) (Z:ExcK K C) (I:ExcAt a C s.heap) (q:Q () s) :
  wpAny M A (checkBuiltinCall "BaseException.__getattribute__" ⟨[.ref a,nm],[]⟩) Q E s:=by
 obtain ⟨hp,gg,dd,tt,oo⟩:=s
 have k1:builtinKind "BaseException.__getattribute__" = some .slot:=by decide +kernel
 have k2:splitId "BaseException.__getattribute__" = some ("BaseException", "__getattribute__"):=by decide +kernel
 have k3:=F.args_bexc_ga (.ref a) nm
 have La:=I.ty (M:=M)
 have Lb:=looks_mroIn (M:=M) X Z.mb
 have Li:Looks M hp (isInstance (.ref a) (.type "BaseException")) true:=La.andThen Lb
 simp only [checkBuiltinCall,k1,k2]
 refine wpAny_bind (Li.at ?_)
 repeat lk
 exact q
theorem yg0 {tk:Tok} {s:Shared} {Q:Value->Shared->Prop} {E:Value->Shared->Prop} (X:K.In s.heap) (Z:ExcK K C) (I:ExcAt a C s.heap) (q:Q (.ref C) s) :
  wpAny (model prog w) A (getAttrBy (.ref a) (.str "__class__" tk) false) Q E s:=by
 obtain ⟨hp,gg,dd,tt,oo⟩:=s
 have La:=I.ty (M:=model prog w)
 have Lg:=looks_findIn (M:=model prog w) X Z.ga
 have Lh:=looks_findIn (M:=model prog w) X Z.gh
 have f3:=F.attrBase_ValueError.ga.bind (.ref a)
 unfold getAttrBy
 refine wpAny_holding (wpAny_bind (La.at (wpAny_bind (Lg.at ?_))))
 show wpAny _ _ (getAttrByItsOwn _ _ _ _ _ _) _ _ _
 unfold getAttrByItsOwn
 refine wpAny_bind ((show Looks _ hp (hookBefore (.ref C)) none from Lh).at ?_)
 refine wpAny_bind (wpAny_attempt (wpAny_holding ?_))
 show wpAny _ _ (boundAndCalled _ _ _) _ _ _
 unfold boundAndCalled
 rw [f3]
 refine wpAny_bind (wpAny_pure ?_)
 refine wpAny_call (codeAny_call_builtin F.attrBase_ValueError.ga.plain F.entry_bexc_ga (zgI X Z I (zgH X Z I ?_)))
 repeat lk
 exact q
theorem zhC {s:Shared} {Q:Option Value->Shared->Prop} {E:Value->Shared->Prop} (X:K.In s.heap) (Z:ExcK K C) (I:ExcAt a C s.heap) (q:Q (some (.ref C)) { s with toks:=s.toks+1 }) :
  wpAny (model prog w) A (getAttr? (.ref a) "__class__") Q E s:=by
 unfold getAttr? getAttrBy?
 exact wpAny_bind (wpAny_mkText (wpAny_bind (wpAny_attempt (yg0 (s:={ s with toks:=s.toks+1 }) X Z I (wpAny_pure q)))))
theorem zef (Z:ExcK K C):KitX K (.ref a) (.ref C) (ExcAt a C) where
 ty:=fun _ _ _ I=>I.ty
 it:=fun _ _ X _=>by
  have z:=Z.cl
  unfold clsIn at z
  split at z
  ·rename_i ho
   intro A' Q' E' s' k q
   unfold isType loadHead
   exact wpAny_bind (wpAny_loadPart (k _ _ (X _ _ ho)) (wpAny_pure q))
  ·cases z
 ne:=fun hp tp dd its n sl X htp=>by
  refine Bool.eq_false_iff.mpr fun q=>?_
  have e:C=tp:=Value.ref.inj (beq_iff_eq.mp q)
  subst e
  have z:=Z.cl
  unfold clsIn at z
  split at z
  ·rename_i ho
   have zz:=(X _ _ ho).symm.trans htp
   cases zz
  ·cases z
 ca:=fun X I k=>zhC X Z I k
end
section
variable {X:Cx}
theorem zfc {P:Program} {w:World} {H:Hp} {h:Heap} {a C:Addr} (x:ObjOk P w H h a (excO a (.ref C))):ExcAt a C h:=by
 obtain ⟨z,_⟩:=x
 exact z
theorem zhD {c:V} {cv:Value} (rc:∀ u,RelV c u->u=cv) :
  CallR X (.builtin "isinstance") (fun xs H Q=>∃ (a D:Addr) (r:Bool),xs=[.ref a,c]/\H a=some (excO a (.ref D))/\ExcK X.K D/\kitOne X.K (.ref D) cv=some r/\Q (.bl r) H):=by
 intro pins s σ H xs us Q I r h
 obtain ⟨a,D,b,rfl,ha,Z,hk,q⟩:=h
 obtain ⟨u,w',rfl,rx,ry⟩:=ydP r
 obtain rfl:=rc _ ry
 obtain rfl:u=Value.ref a:=rx
 exact kia_one (zef Z) I.kIn (zfc (I.hok a _ ha)) hk (by intro z;cases z) fun tk=>⟨.bl b,H,I.tok _,rfl,q⟩
theorem zgJ :
  CallR X (.builtin "isinstance") (fun xs H Q=>∃ (a D tp:Addr) (cs:List V) (vs:List Value) (r:Bool),xs=[.ref a,.ref tp]/\H a=some (excO a (.ref D))/\ExcK X.K D/\H tp=some (.tup cs)/\(∀ us,Vals cs us->us=vs)/\kitAny X.K (.ref D) vs=some r/\Q (.bl r) H):=by
 intro pins s σ H xs us Q I r h
 obtain ⟨a,D,tp,cs,vs,b,rfl,ha,Z,ht,hv,hk,q⟩:=h
 obtain ⟨u,w',rfl,rx,ry⟩:=ydP r
 obtain rfl:u=Value.ref a:=rx
 obtain rfl:w'=Value.ref tp:=ry
 obtain ⟨_,its,rv,o,ho,hc,n,hd⟩:=I.hok tp _ ht
 obtain rfl:=hv _ rv
 obtain ⟨oc,od,oda,osl⟩:=o
 dsimp only at hc hd
 subst hc hd
 exact kia_tup (zef Z) I.kIn (zfc (I.hok a _ ha)) ho hk (by intro z;cases z) fun tk=>⟨.bl b,H,I.tok _,rfl,q⟩
end
end L2
namespace L2
open PySem PySem.Spec PyProof.Rows
theorem zhE {K:PySem.W.Frag} {hp:Heap} {g:Str->Option Value} {nm:Str} {Ca:Addr} {bb:List Value} {nid:String} (Z:K.In hp) (hb:g nm=some (.ref Ca)) (ok:PySem.W.excIn K Ca bb nid=true):OwnCls nm Ca bb nid g hp:=by
 refine ⟨hb,?_⟩
 unfold PySem.W.excIn at ok
 split at ok
 ·rename_i dA cA sA hA
  split at ok
  ·rename_i D' tl w0 w1 w2 w3 bn w5 eM eS
   simp only [Bool.and_eq_true,beq_iff_eq,Bool.not_eq_true'] at ok
   obtain ⟨⟨⟨⟨⟨rfl,rfl⟩,e1⟩,e2⟩,e3⟩,e4⟩:=ok
   obtain ⟨f1,f2,f3,f4,f5,f6,f7,f8,f9,f10,f11⟩:=cA
   dsimp only at eM e1 e3 e4
   subst eM e1
   have eA:sA = #[w0,w1,w2,w3,some (.builtin bn),w5]:=by
    obtain ⟨ll⟩:=sA
    simp only at eS
    rw [eS]
   subst eA
   refine ⟨tl,f4,f1,f5,f2,f6,f7,f8,f9,f10,dA,w0,w1,w2,w3,w5,_,Z _ _ hA,.of_isNs (PySem.W.isNs_of_in Z e3),?_,PySem.W.tail_of_in Z e2⟩
   exact PySem.W.nsMap_none_of_in Z e3 e4
  ·cases ok
 ·cases ok
mutual
inductive DaV (K:PySem.W.Frag) (H:Hp):V->PyData->Prop
 | non:DaV K H .non .none
 | bl (b):DaV K H (.bl b) (.bool b)
 | int (i):DaV K H (.int i) (.int i)
 | str (x):DaV K H (.str x) (.str x)
 | lst {a xs ds}:SqL K H a xs->DaVs K H xs ds->DaV K H (.ref a) (.list ds)
 | tup {a xs ds}:SqT K H a xs->DaVs K H xs ds->DaV K H (.ref a) (.tuple ds)
inductive DaVs (K:PySem.W.Frag) (H:Hp):List V->List PyData->Prop
 | nil:DaVs K H [] []
 | cons {x xs d ds}:DaV K H x d->DaVs K H xs ds->DaVs K H (x::xs) (d::ds)
end
section
variable {X:Cx} {pins:List (Addr×Obj)} {σ:St} {H:Hp} {s:Shared}
mutual
theorem DaV.reads (I:Inv X pins σ H s):∀ {x:V} {d:PyData} {u:Value},DaV X.K H x d->RelV x u->∃ as,Reads s.heap u d as
 | _,_,_,.non,r=>by cases r;exact ⟨_,.none⟩
 | _,_,_,.bl b,r=>by cases r;exact ⟨_,.bool b⟩
 | _,_,_,.int i,r=>by obtain ⟨t,rfl⟩:=r;exact ⟨_,.int i t⟩
 | _,_,_,.str x,r=>by obtain ⟨t,rfl⟩:=r;exact ⟨_,.str x t⟩
 | _,_,_,.lst (a:=a) h1 h2,r=>by
  cases r
  obtain ⟨its,rv,⟨o,n,e1,e2,e3⟩,_⟩:=I.list h1
  obtain ⟨as,q⟩:=DaVs.reads I h2 rv
  exact ⟨_,.list (vs:=its.toArray) (n:=n) e1 (by first | exact e2.1 | exact e2) (by first | exact e2.2.2 | exact e2.2 | exact e3 | exact e3.2) (by simpa using q)⟩
 | _,_,_,.tup (a:=a) h1 h2,r=>by
  cases r
  obtain ⟨its,rv,⟨o,e1,e2,n,e3⟩,_⟩:=I.tuple h1
  obtain ⟨as,q⟩:=DaVs.reads I h2 rv
  exact ⟨_,.tuple (vs:=its.toArray) (n:=n) e1 e2 e3 (by simpa using q)⟩
theorem DaVs.reads (I:Inv X pins σ H s):∀ {xs:List V} {ds:List PyData} {us:List Value},DaVs X.K H xs ds->Vals xs us->∃ as,ReadsAll s.heap us ds as
 | _,_,_,.nil,r=>by cases r;exact ⟨_,.nil⟩
 | _,_,_,.cons h1 h2,r=>by
  cases r with
  | cons r1 r2 =>
   obtain ⟨as,q1⟩:=DaV.reads I h1 r1
   obtain ⟨bs,q2⟩:=DaVs.reads I h2 r2
   exact ⟨_,.cons q1 q2⟩
end
def rEqD (K:PySem.W.Frag):R2:=fun x y H Q=>∃ d e,DaV K H x d/\DaV K H y e/\d.canLay0=true/\e.canLay0=true/\d.depth<=60/\Q (.bl (PyData.eqv d e)) H
def rNeD (K:PySem.W.Frag):R2:=fun x y H Q=>∃ d e,DaV K H x d/\DaV K H y e/\d.canLay0=true/\e.canLay0=true/\d.depth<=60/\Q (.bl (!PyData.eqv d e)) H
theorem yfB (hu:X.A.units+64<cLine):OpR X (compareOp .Eq) (rEqD X.K):=by
 intro pins s σ H x y v u Q I rx ry h
 obtain ⟨d,e,h1,h2,c1,c2,dp,q⟩:=h
 obtain ⟨as,r1⟩:=h1.reads I rx
 obtain ⟨bs,r2⟩:=h2.reads I ry
 exact SeqAt.compareEq_reads r1 r2 c1 c2 (by have:=Nat.min_le_left d.depth e.depth;omega) ⟨.bl _,H,I,rfl,q⟩
theorem yfC (hu:X.A.units+64<cLine):OpR X (compareOp .NotEq) (rNeD X.K):=by
 intro pins s σ H x y v u Q I rx ry h
 obtain ⟨d,e,h1,h2,c1,c2,dp,q⟩:=h
 obtain ⟨as,r1⟩:=h1.reads I rx
 obtain ⟨bs,r2⟩:=h2.reads I ry
 exact SeqAt.compareNe_reads r1 r2 c1 c2 (by have:=Nat.min_le_left d.depth e.depth;omega) ⟨.bl _,H,I,rfl,q⟩
end
theorem hu64 {A:Around} {k:Nat} (hr:Room k A):A.units+64<cLine:=by
 have:=hr.un
 omega
def yig (K:PySem.W.Frag):R2:=fun x y H Q=>∃ l b xs zs,x = .ref l/\y = .ref b/\SqL K H l xs/\SqL K H b zs/\xs.length+zs.length<=sizeLine/\∀ p,H p=none->Q (.ref p) (upd H p (.lst (xs++zs)))
theorem ziI {X:Cx}:OpR X (binaryOp .Add) (yig X.K):=by
 intro pins s σ H x y v u Q I rx ry h
 obtain ⟨l,b,xs,zs,rfl,rfl,hH,hB,hz,q⟩:=h
 cases rx
 cases ry
 obtain ⟨its,r,⟨o,n,e1,e2,e3,e4⟩,z⟩:=I.list hH
 obtain ⟨its2,r2,⟨o2,n2,g1,g2,g3,g4⟩,z2⟩:=I.list hB
 obtain ⟨oc,od,oda,osl⟩:=o
 obtain ⟨oc2,od2,oda2,osl2⟩:=o2
 dsimp only at e2 e3 e4 g2 g3 g4
 subst e2 e3 e4 g2 g3 g4
 have l1:=r.length
 have l2:=r2.length
 refine concat_meets ⟨_,e1,rfl⟩ ⟨_,g1,rfl⟩ noFill_list_add seq_list_add PySem.F.slot_list_add PySem.F.entry_list_add (PySem.F.args_list_add_2 _ _) (list_addW l b its.toArray its2.toArray n n2 none none osl osl2 (by rw [List.size_toArray,List.size_toArray];omega)) ⟨e1,g1,?_⟩
 have ea:its.toArray++its2.toArray=(its++its2).toArray:=by simp
 rw [ea]
 exact ⟨.ref s.heap.objs.size,_,I.lnew (t' := s.toks) (r.append r2) (by rw [List.length_append];exact hz),rfl,q _ I.fresh⟩
end L2
namespace L2
open PySem PySem.Spec PyProof.Rows
section
variable {X:Cx} {pins:List (Addr×Obj)} {σ:St} {H:Hp} {s:Shared}
open Classical in
def isD (h:Heap) (d:PyData) (v:Value):Bool:=if q:∃ e as,e.canLay0=true/\Reads h v e as then PyData.eqv q.choose d else false
theorem yfD {h:Heap} {d e:PyData} {v:Value} {as:List Addr} (c:e.canLay0=true) (r:Reads h v e as):isD h d v=PyData.eqv e d:=by
 have q:∃ e as,e.canLay0=true/\Reads h v e as:=⟨e,as,c,r⟩
 unfold isD
 rw [dif_pos q]
 obtain ⟨as',c',r'⟩:=q.choose_spec
 have z:q.choose=e:=by first | exact (Reads.unique _ _ r' r).1 | exact (Reads.unique r' r).1 | exact Reads.unique _ _ _ _ _ c' r' r | exact PySem.SeqAt.Reads.unique _ _ _ _ _ c' r' r | exact PySem.Reads.unique _ _ _ _ _ c' r' r
 rw [z]
theorem zfd (I:Inv X pins σ H s):∀ {xs:List V} {ds:List PyData} {us:List Value},DaVs X.K H xs ds->Vals xs us->us.length=ds.length/\∀ (j:Nat) u d,us[j]? = some u->ds[j]? = some d->∃ as,Reads s.heap u d as
 | _,_,_,.nil,r=>by cases r;exact ⟨rfl,fun j u d e=>by cases e⟩
 | _,_,_,.cons h1 h2,r=>by
  cases r with
  | cons r1 r2 =>
   obtain ⟨l,q⟩:=zfd I h2 r2
   refine ⟨by rw [List.length_cons,List.length_cons,l],fun j u d e1 e2=>?_⟩
   cases j with
   | zero=>cases e1;cases e2;exact h1.reads I r1
   | succ j=>exact q j u d e1 e2
theorem zfe {h:Heap} {d:PyData}:∀ {us:List Value} {ds:List PyData},us.length=ds.length->(∀ (j:Nat) u e,us[j]? = some u->ds[j]? = some e->isD h d u=PyData.eqv e d)->us.any (isD h d)=ds.any fun e=>PyData.eqv e d
 | [],[],_,_=>rfl
 | u::us,e::ds,hl,hh=>by
  rw [List.any_cons,List.any_cons,hh 0 u e rfl rfl,zfe (us:=us) (ds:=ds) (Nat.succ.inj hl) fun j u' e' a b=>hh (j+1) u' e' a b]
end
end L2
namespace L2
open PySem PySem.Spec PyProof.Rows
section
variable {X:Cx} {tg:Expr}
theorem zcq (ns:List Int):∀ k,k<=ns.length->preSum (fun i=>(ns[i]?).getD 0) k=(ns.take k).sum
 | 0,_=>by simp [preSum]
 | k+1,h=>by
  show preSum _ k+(ns[k]?).getD 0=_
  rw [zcq ns k (by omega),List.take_succ,List.sum_append]
  congr 1
  rw [List.getElem?_eq_getElem (by omega)]
  simp
theorem zhF (hc:X.calm=true):CallR X (.builtin "sum") (fun xs H Q=>∃ (a:Addr) (ns:List Int),xs=[.ref a]/\SqL X.K H a (ns.map V.int)/\Q (.int ns.sum) H):=by
 intro pins s σ H xs us Q I r h
 obtain ⟨l,bs,rfl,hq,q⟩:=h
 obtain ⟨u,rfl,rx⟩:=ydv r
 cases rx
 obtain ⟨its,rv,pl,hz⟩:=I.list hq
 have hlt:l<s.heap.objs.size:=by obtain ⟨_,_,e,_⟩:=pl;exact Heap.lt_size e
 have hlen:its.length=bs.length:=by rw [<- rv.length,List.length_map]
 refine call_sum_walkAnyS (wpAny_pyIter_list pl.isList ?_)
 refine ⟨s.heap.objs.size,[s.heap.objs.size,l],[s.heap.objs.size],_,its.toArray.size,_,_,fun i=>(bs[i]?).getD 0,rfl,(Walks.list (prog:=X.prog) (w:=X.w) (A:=X.A.in1) (I.ok.hd hc) s.heap.objs.size l (Nat.ne_of_lt hlt) its.toArray).toS,
  ⟨⟨_,Heap.get?_push_size _ rfl,rfl,rfl⟩,pl.isList.push _⟩,fun b hb=>?_,fun i v hP=>?_,fun s' t' hm=>?_⟩
 ·rcases List.mem_cons.mp hb with rfl | hb
  ·exact Heap.lt_size (Heap.get?_push_size _ rfl)
  ·obtain rfl:=List.mem_singleton.mp hb
   obtain ⟨_,_,e,_⟩:=pl
   exact Heap.lt_size (Heap.get?_push_of_some _ e)
 ·have hP':its[i]? = some v:=by simpa using hP
  have hi:i<its.length:=(List.getElem?_eq_some_iff.mp hP').1
  have hb:(bs.map V.int)[i]? = some (V.int (bs[i]'(by omega))):=by rw [List.getElem?_map,List.getElem?_eq_getElem (by omega)];rfl
  obtain ⟨u,hu,ru⟩:=rv.get hb
  rw [hP'] at hu
  cases hu
  obtain ⟨t,rfl⟩:=ru
  refine ⟨t,?_⟩
  show Value.int _ t=Value.int ((bs[i]?).getD 0) t
  rw [List.getElem?_eq_getElem (by omega)];rfl
 ·obtain ⟨h',g',d',tk',os'⟩:=s'
  have e1:g'=s.gens:=hm.gens
  have e2:d'=s.drawn:=hm.drawn
  have e3:os'=s.os:=hm.os
  subst e1 e2 e3
  have e:preSum (fun i=>(bs[i]?).getD 0) its.toArray.size=bs.sum:=by
   rw [List.size_toArray,hlen,zcq bs _ (Nat.le_refl _),List.take_of_length_le (Nat.le_refl _)]
  rw [e]
  refine ⟨.int _,H,I.kept (t' := tk') fun b o q=>?_,⟨_,rfl⟩,q⟩
  exact hm.heap b o (fun hb=>by rw [List.mem_singleton.mp hb] at q;exact Nat.lt_irrefl _ (Heap.lt_size q)) (Heap.get?_push_of_some _ q)
def Itr3 (lo c:Int) (n:Nat):It:=⟨fun i _=>i<n,fun i H x H' => H'=H/\x = .int (lo+i*c),fun i _=>n<=i⟩
theorem zeP {P:Program} {w:World} {K:PySem.W.Frag} {tg:Expr} (it:Addr) (lo c:Int) (n:Nat):Turn P w K tg (Itr3 lo c n) [it] it (fun i h=>IsRangeIter h it (lo+(i:Nat)*c) ((n:Int)-(i:Nat)) c) where
 mem:=by simp
 obj:=fun i h st b hb=>by
  have e:b=it:=by simpa using hb
  subst e
  exact ⟨_,st,fun v z=>by
   have z':Data.fields _=Data.cell v:=z
   cases z'⟩
 keep:=fun i h h' st k=>k it (by simp) _ st
 item:=by
  intro X hP hw hK hc i pins s σ H E I hf st hg
  subst hP hw hK
  obtain ⟨f0,f1,f2,f3,f4,f5⟩:=hf it (by simp)
  have W:=Walks.range (prog:=X.prog) (w:=X.w) (I.ok.hd hc) it lo c n
  refine W.item i s _ _ hg st fun v h' tk hv st' kk=>?_
  obtain ⟨t,rfl⟩:=hv
  have I1:Inv X pins σ H { s with heap:=h',toks:=tk }:=I.turned (fun b o hb e=>kk b o (by simpa using hb) e) f0 f1 f3 f4 f5
  exact ⟨_,rfl,yeq (s:={ s with heap:=h',toks:=tk }) (n := "range_iterator") st' rfl rfl (by decide) ⟨.int (lo+i*c),H,I1,⟨t,rfl⟩,⟨rfl,rfl⟩,st',fun b hb=>(hf b hb).1⟩⟩
 done:=by
  intro X hP hw hK hc i pins s σ H E I hf st hg
  subst hP hw hK
  obtain ⟨f0,f1,f2,f3,f4,f5⟩:=hf it (by simp)
  exact wpAny_pyNext_range_end (I.ok.hd hc) st (by have:n<=i:=hg;omega) fun h' eb=>⟨rfl,I.turned (t' := s.toks) (fun b o hb e=>eb b o hb e) f0 f1 f3 f4 f5⟩
 self:=fun _ _ _ _ _ st h=>wpAny_pyIter_rangeiter st h
theorem zgK {a b c:Int} (hc:0<c):Builtin.Range.rangeSize a b c=(((if a<b then (b-a-1) / c+1 else 0:Int).toNat:Nat):Int):=by
 unfold Builtin.Range.rangeSize
 rw [if_pos hc]
 split
 ·have:0<=(b-a-1) / c:=Int.ediv_nonneg (by omega) (by omega)
  omega
 ·rfl
theorem zbq {x:Int} (h:x.natAbs<2 ^ 42):Builtin.Range.rangeFitsLong x=true:=by
 have h2:x.natAbs<4398046511104:=h
 simp only [Builtin.Range.rangeFitsLong,Bool.and_eq_true,decide_eq_true_eq]
 omega
theorem zgL {a b c:Int} (ha:a.natAbs<2 ^ 40) (hb:b.natAbs<2 ^ 40) (hc:0<c):(Builtin.Range.rangeSize a b c).natAbs<2 ^ 42:=by
 have ha2:a.natAbs<1099511627776:=ha
 have hb2:b.natAbs<1099511627776:=hb
 show _<4398046511104
 unfold Builtin.Range.rangeSize
 rw [if_pos hc]
 split
 ·have h1:0<=(b-a-1) / c:=Int.ediv_nonneg (by omega) (by omega)
  have h2:(b-a-1) / c<=b-a-1:=Int.ediv_le_self _ (by omega)
  generalize (b-a-1) / c=d at *
  omega
 ·decide
theorem zga {a b c:Int} (ha:a.natAbs<2 ^ 40) (hb:b.natAbs<2 ^ 40) (hc:0<c) (hc':c<2 ^ 20):Builtin.Range.small a b c=true:=by
 have l:(2:Nat) ^ 40<2 ^ 42:=by decide
 unfold Builtin.Range.small
 rw [zbq (Nat.lt_trans ha l),zbq (Nat.lt_trans hb l),zbq (x:=c) (by have h2:c<1048576:=hc';show _<4398046511104;omega),zbq (zgL ha hb hc),if_pos hc,zbq (x:=b+(c-1)) (by have h2:c<1048576:=hc';have h3:b.natAbs<1099511627776:=hb;show _<4398046511104;omega)]
 simp
def yih (ta:TA):TI:=fun σ H R=>ta σ H fun vs H1=>∃ i j c:Int,vs=[.int i,.int j,.int c]/\(i.natAbs<2 ^ 40/\j.natAbs<2 ^ 40/\0<c/\c<2 ^ 20)/\R (Itr3 i c (if i<j then (j-i-1) / c+1 else 0:Int).toNat) H1
theorem zgM {pins:List (Addr×Obj)} {σ:St} {H:Hp} {s:Shared} {R:It->Hp->Prop} {E:Value->Shared->Prop} {lo hi c:Int} {t u v:Tok} {tk:Nat} (I:Inv X pins σ H s) (h1:lo.natAbs<2 ^ 40) (h2:hi.natAbs<2 ^ 40) (h3:0<c) (h4:c<2 ^ 20)
  (q:R (Itr3 lo c (if lo<hi then (hi-lo-1) / c+1 else 0:Int).toNat) H):wpAny (model X.prog X.w) X.A (pyIter (.ref s.heap.objs.size)) (PIE X pins σ tg R) E { s with heap:=s.heap.push { cls:=.type "range",data:=.fields #[.int lo t,.int hi u,.int c v] },toks:=tk }:=by
 refine wpAny_pyIter_range (IsRange.new ..) (zga h1 h2 h3 h4) ?_
 have I1:Inv X pins σ H { s with heap:=s.heap.push { cls:=.type "range",data:=.fields #[.int lo t,.int hi u,.int c v] },toks:=tk }:=I.kept fun b o e=>Heap.get?_push_of_some _ e
 refine ⟨(s.heap.push { cls:=.type "range",data:=.fields #[.int lo t,.int hi u,.int c v] }).objs.size,[(s.heap.push { cls:=.type "range",data:=.fields #[.int lo t,.int hi u,.int c v] }).objs.size],_,_,H,rfl,
  I1.kept (t' := tk) fun b o e=>Heap.get?_push_of_some _ e,zeP _ lo c (if lo<hi then (hi-lo-1) / c+1 else 0:Int).toNat,?_,fun b hb=>?_,q⟩
 ·have e1:lo+((0:Nat):Int)*c=lo:=by simp
  have e2:(((if lo<hi then (hi-lo-1) / c+1 else 0:Int).toNat:Nat):Int)-((0:Nat):Int)=Builtin.Range.rangeSize lo hi c:=by rw [zgK h3];omega
  show IsRangeIter _ _ (lo+((0:Nat):Int)*c) ((((if lo<hi then (hi-lo-1) / c+1 else 0:Int).toNat:Nat):Int)-((0:Nat):Int)) c
  rw [e1,e2]
  exact Heap.get?_push_size _ rfl
 ·have e:b=(s.heap.push { cls:=.type "range",data:=.fields #[.int lo t,.int hi u,.int c v] }).objs.size:=by simpa using hb
  subst e
  exact I1.fpOk (Nat.le_refl _) (I1.hok.fresh (Nat.le_refl _))
theorem zgN {a b c:Expr} {ta:TA} {p pos:Pos} (hg:Gl X "range") (hm:X.mg "range" = none) (ha:PA X [a,b,c] ta) (hs:starEach [a,b,c] X.env=[(false,eval a X.env),(false,eval b X.env),(false,eval c X.env)]:=by rfl) (hs2:starEach [b,c] X.env=[(false,eval b X.env),(false,eval c X.env)]:=by rfl) :
  PI X tg (.Call (.Name "range" p) [a,b,c] [] pos) (yih ta):=by
 intro pins s σ H R I h
 refine Call_ (yd1 I hg hm boot_range (PyProof.Rows.callWith_type1 (thn (ha pos pins s σ H _ I h) fun us s1 ⟨vs,H1,I1,r1,q1⟩=>?_) (by rw [hs,hs2]) (by rw [hs2];rfl)))
 obtain ⟨i,j,c,e,⟨q1,q2,q3,q4⟩,q⟩:=q1
 subst e
 cases r1 with
 | cons r rr =>
  cases rr with
  | cons r' rr =>
   cases rr with
   | cons r'' rr =>
    cases rr
    obtain ⟨t,rfl⟩:=r
    obtain ⟨t',rfl⟩:=r'
    obtain ⟨t'',rfl⟩:=r''
    exact call_range_3 (by omega) (zgM I1 q1 q2 q3 q4 q) (.inl (PyProof.noPylong_small (by omega)))
end
end L2
namespace L2
open PySem PySem.Spec PyProof.Rows
open PySem.Builtin PySem.Builtin.Str
section
variable {X:Cx}
def cutS (z:Str) (lo hi:Option Int):Str:=⟨((z.cps.toList.drop (HT.sIx z.cps.toList.length 0 lo)).take (HT.sIx z.cps.toList.length z.cps.toList.length hi-HT.sIx z.cps.toList.length 0 lo)).toArray⟩
theorem zbh (n d:Nat) (i:Int):max 0 (min (if i<0 then i+(n:Int) else i) (n:Int))=((HT.sIx n d (some i):Nat):Int):=by
 show max 0 (min (if i<0 then i+(n:Int) else i) (n:Int))=(((if i<0 then (i+(n:Int)).toNat else min i.toNat n):Nat):Int)
 split<;>omega
theorem zbD {a b:Int} {A B:Nat} (ha:a=A) (hb:b=B):sliceRange a b 1=(List.range (B-A)).map fun k=>A+k:=by
 subst ha hb
 unfold sliceRange
 simp only [show (1:Int) > 0 by decide,if_true]
 have:(if (A:Int)<(B:Int) then ((B:Int)-A+1-1) / 1 else 0).toNat=B-A:=by
  split<;>(try simp only [Int.ediv_one])<;>omega
 rw [this]
 apply List.map_congr_left
 intro k _
 omega
theorem zhG (xs:List Nat) (i k:Nat):(List.range k).filterMap (fun m=>xs[i+m]?)=(xs.drop i).take k:=by
 induction k generalizing i with
 | zero=>simp
 | succ k ih =>
  rw [List.range_succ_eq_map,List.filterMap_cons,List.filterMap_map]
  have e:((fun m=>xs[i+m]?) ∘ Nat.succ)=fun m=>xs[(i+1)+m]? := by
   funext m;show xs[i+(m+1)]? = _;congr 1;omega
  rw [e,ih (i+1)]
  cases h:xs[i]? with
  | none =>
   have hl:xs.length<=i:=List.getElem?_eq_none_iff.mp h
   simp only [Nat.add_zero,h]
   rw [List.drop_of_length_le (by omega),List.drop_of_length_le hl];simp
  | some v =>
   have hi:=(List.getElem?_eq_some_iff.mp h).1
   simp only [Nat.add_zero,h]
   rw [List.drop_eq_getElem_cons hi,List.take_succ_cons]
   congr 1
   exact (Option.some.inj ((List.getElem?_eq_getElem hi).symm.trans h)).symm
theorem zgb (n:Nat) (lo hi:Option Int):strSliceIndices lo hi 1 n=(List.range (HT.sIx n n hi-HT.sIx n 0 lo)).map fun k=>HT.sIx n 0 lo+k:=by
 cases lo with
 | none =>
  cases hi with
  | none=>exact zbD rfl rfl
  | some j=>exact zbD rfl (zbh n n j)
 | some i =>
  cases hi with
  | none=>exact zbD (zbh n 0 i) rfl
  | some j=>exact zbD (zbh n 0 i) (zbh n n j)
theorem zhH (z:Str) (lo hi:Option Int):Txt.slice z lo hi=cutS z lo hi:=by
 have hz:z.length=z.cps.toList.length:=by simp [Str.length]
 unfold Txt.slice cutS
 rw [hz,zgb,List.filterMap_map]
 have e:((fun x=>z.cps[x]?) ∘ fun k=>HT.sIx z.cps.toList.length 0 lo+k)=fun m=>z.cps.toList[HT.sIx z.cps.toList.length 0 lo+m]? := by
  funext m;simp
 rw [e,zhG]
 split
 ·rename_i hc
  simp only [beq_self_eq_true,Bool.true_and,beq_iff_eq,List.length_map,List.length_range] at hc
  have h1:HT.sIx z.cps.toList.length z.cps.toList.length hi<=z.cps.toList.length:=HT.sIx_le _ _ (Nat.le_refl _) _
  have h2:HT.sIx z.cps.toList.length 0 lo=0\/z.cps.toList.length=0:=by omega
  rw [hc]
  rcases h2 with h2 | h2
  ·rw [h2,List.drop_zero,List.take_of_length_le (Nat.le_refl _)]
  ·have:z.cps.toList=[]:=List.eq_nil_of_length_eq_zero h2
   have h3:z.cps = #[]:=by simpa using this
   simp [h3]
   cases z;simp_all
 ·rfl
theorem zcP {v:Value} {o:Option Int} (p:IsPart v o):∃ l:Option (Int×Tok),v=partValue l/\l.map (·.1)=o:=by
 cases p with
 | none=>exact ⟨none,rfl,rfl⟩
 | int i t=>exact ⟨some (i,t),rfl,rfl⟩
theorem yg1:SlR X (fun x lo hi H Q=>∃ z,x = .str z/\z.length<=sizeLine/\Q (.str (cutS z lo hi)) H):=by
 intro pins s σ H x v vl vu lo hi sl Q I rx hs pl pu h
 obtain ⟨z,rfl,hz,q⟩:=h
 obtain ⟨t,rfl⟩:=rx
 obtain ⟨l,rfl,rfl⟩:=zcP pl
 obtain ⟨u,rfl,rfl⟩:=zcP pu
 refine ⟨"str",_,F.slot_str_getitem.lookup,typeIs_str _ _ _,?_⟩
 refine wpAny_getItem_str_slice (l:=l) (u:=u) (st:=none) hs rfl ?_
 refine post_val_or_str ⟨Nat.le_trans (Txt.slice_le z (l.map (·.1)) (u.map (·.1))) hz,fun t' k=>?_⟩
 have e:=zhH z (l.map (·.1)) (u.map (·.1))
 refine ⟨.str (cutS z (l.map (·.1)) (u.map (·.1))),H,I.tok _,⟨t',?_⟩,q⟩
 rw [<- e];rfl
theorem ziJ:OpR X (compareOp .IsNot) (fun x y H Q=>∃ a b,x = .bl a/\y = .bl b/\Q (.bl (!(a == b))) H):=by
 intro pins s σ H x y v u Q I rx ry h
 obtain ⟨a,b,rfl,rfl,q⟩:=h
 cases rx
 cases ry
 refine wpAny_isNot_plain rfl (yaP I q ?_)
 cases a<;>cases b<;>rfl
end
end L2
namespace L2
open PySem PySem.Spec PyProof.Rows
open PySem.Builtin PySem.Builtin.Str
theorem zdO:bootBuiltins "reversed" = some (.type "reversed"):=by decide +kernel
def Itv (K:PySem.W.Frag) (a:Addr) (n:Nat):It :=
 ⟨fun i H=>∃ xs x,SqL K H a xs/\xs.length=n/\i<n/\xs[n-1-i]? = some x,fun i H x H' => H'=H/\∀ xs,SqL K H a xs->xs[n-1-i]? = some x,fun i _=>n<=i⟩
theorem zhI {P:Program} {w:World} {K:PySem.W.Frag} {tg:Expr} (a it:Addr) (n:Nat):Turn P w K tg (Itv K a n) [it] it (fun i h=>i<=n/\h.IsRevIter it a ((n:Int)-1-(i:Int))) where
 mem:=by simp
 obj:=fun i h st b hb=>by
  have e:b=it:=by simpa using hb
  subst e
  obtain ⟨_,o,e,c,d⟩:=st
  exact ⟨o,e,fun v z=>by rw [d] at z;cases z⟩
 keep:=fun i h h' st k=>⟨st.1,st.2.at fun o e=>k it (by simp) o e⟩
 item:=by
  intro X hP hw hK hc i pins s σ H E I hf st hg
  subst hP hw hK
  obtain ⟨xs,x,hq,hn,hi,hx⟩:=hg
  obtain ⟨its,rv,p,hz⟩:=I.list hq
  obtain ⟨u,hu,ru⟩:=rv.get hx
  obtain ⟨f0,f1,f2,f3,f4,f5⟩:=hf it (by simp)
  have e:(n:Int)-1-(i:Int)=((n-1-i:Nat):Int):=by omega
  have st2:=st.2
  rw [e] at st2
  refine wpAny_pyNext_rev_item st2 p.isList (x:=u) (by simpa using hu) fun h' st' sb=>?_
  have I1:Inv X pins σ H { s with heap:=h' }:=I.turned (t' := s.toks) (fun b o hb e=>(sb.2 b hb).trans e) f0 f1 f3 f4 f5
  have e2:((n-1-i:Nat):Int)-1=(n:Int)-1-((i+1:Nat):Int):=by omega
  rw [e2] at st'
  obtain ⟨o,eo,c,d⟩:=id st'
  exact ⟨u,rfl,yeq (s:={ s with heap:=h' }) eo c d (by decide) ⟨x,H,I1,ru,⟨rfl,fun ys hy=>by rw [I.list_inj hy hq];exact hx⟩,⟨hi,st'⟩,fun b hb=>(hf b hb).1⟩⟩
 done:=by
  intro X hP hw hK hc i pins s σ H E I hf st hg
  subst hP hw hK
  obtain ⟨f0,f1,f2,f3,f4,f5⟩:=hf it (by simp)
  have hg':n<=i:=hg
  have e:(n:Int)-1-(i:Int) = -1:=by have:=st.1;omega
  have st2:=st.2
  rw [e] at st2
  exact wpAny_pyNext_rev_end (I.ok.hd hc) st2 fun h' eb=>⟨rfl,I.turned (t' := s.toks) (fun b o hb e=>eb b o hb e) f0 f1 f3 f4 f5⟩
 self:=fun _ _ _ _ _ st h=>wpAny_pyIter_revIter st.2 h
def iRev (K:PySem.W.Frag) (ta:TA):TI:=fun σ H R=>ta σ H fun vs H1=>∃ a xs,vs=[.ref a]/\SqL K H1 a xs/\R (Itv K a xs.length) H1
section
variable {X:Cx} {tg:Expr}
theorem yg2 {a:Expr} {ta:TA} {p pos:Pos} (hg:Gl X "reversed") (hm:X.mg "reversed" = none) (ha:PA X [a] ta) (hs:starEach [a] X.env=[(false,eval a X.env)]:=by rfl):PI X tg (.Call (.Name "reversed" p) [a] [] pos) (iRev X.K ta):=by
 intro pins s σ H R I h
 refine Call_ (yd1 I hg hm zdO (PyProof.Rows.callWith_type1 (thn (ha pos pins s σ H _ I h) fun us s1 ⟨vs,H1,I1,r1,q1⟩=>?_) hs rfl))
 obtain ⟨a,xs,rfl,hq,q⟩:=q1
 obtain ⟨u,rfl,rx⟩:=ydv r1
 cases rx
 obtain ⟨its,rv,pl,hz⟩:=I1.list hq
 have hl:=rv.length
 refine call_reversed_list pl.isList ?_
 have it:(s1.heap.push (revObj a ((its.toArray.size:Int)-1))).IsRevIter s1.heap.objs.size a ((xs.length:Int)-1-((0:Nat):Int)):=by
  have e:(xs.length:Int)-1-((0:Nat):Int)=(its.toArray.size:Int)-1:=by rw [List.size_toArray,<- hl];omega
  rw [e]
  exact ⟨_,Heap.get?_push_size _ rfl,rfl,rfl⟩
 have I2:Inv X pins σ H1 { s1 with heap:=s1.heap.push (revObj a ((its.toArray.size:Int)-1)) }:=I1.kept (t' := s1.toks) fun b o e=>Heap.get?_push_of_some _ e
 refine wpAny_pyIter_revIter it ?_
 refine ⟨s1.heap.objs.size,[s1.heap.objs.size],_,_,H1,rfl,I2,zhI a s1.heap.objs.size xs.length,⟨Nat.zero_le _,it⟩,fun b hb=>?_,q⟩
 have e:b=s1.heap.objs.size:=by simpa using hb
 subst e
 exact I1.fpOk (Nat.le_refl _) (I1.hok.fresh (Nat.le_refl _))
theorem zhJ:MtR X "str.upper" (fun x vs H Q=>∃ z,x = .str z/\vs=[]/\(Txt.upper z).length<=sizeLine/\Q (.str (Txt.upper z)) H):=by
 intro pins s σ H x vs v us Q I rx rv h
 obtain ⟨z,rfl,rfl,hl,q⟩:=h
 obtain ⟨t,rfl⟩:=rx
 cases rv
 exact call_gives F.slot_str_upper (typeIs_str s z t) F.entry_str_upper (F.args_str_upper_1 _) (gives_str_upper z t (decide_eq_false (Nat.not_lt.mpr hl))) ⟨hl,.str _,H,I.tok _,⟨_,rfl⟩,q⟩
end
end L2
namespace Sm
open PySem L2
inductive AV where
 | non | bl (b:Bool) | int (i:Int) | str (x:Str)
 | tup (xs:List AV)
 | fl (xs:List AV)
 | ref (n:Nat)
 | exc (c:Nat)
 deriving Inhabited
inductive AO where
 | lst (xs:List AV)
 | dct (t:Bool) (kvs:List (AV×AV))
 | ins (c:Nat) (fs:List (Option AV))
abbrev AH:=List AO
abbrev En:=List (Option AV)
inductive Out (α:Type) where
 | ok (a:α) (h:AH)
 | ex (c:Nat) (h:AH)
 | bad
@[simp] def Out.bind {α β:Type} (o:Out α) (f:α->AH->Out β):Out β :=
 match o with
 | .ok a h=>f a h
 | .ex c h=>.ex c h
 | .bad=>.bad
inductive OutS where
 | nx (e:En) (h:AH)
 | rt (v:AV) (h:AH)
 | bk (e:En) (h:AH)
 | ct (e:En) (h:AH)
 | ex (c:Nat) (e:En) (h:AH)
 | bad
abbrev SE:=En->AH->Out AV
abbrev SB:=En->AH->Out Bool
abbrev SL:=En->AH->Out (List AV)
abbrev SS:=En->AH->OutS
abbrev Fn:=List AV->AH->Out AV
@[simp] def Out.go {α:Type} (o:Out α) (e:En) (f:α->AH->OutS):OutS :=
 match o with
 | .ok a h=>f a h
 | .ex c h=>.ex c e h
 | .bad=>.bad
structure Tb where
 K:PySem.W.Frag
 cls:Nat->Option Addr
 exc:Nat->Option Addr
 fields:Nat->List Str
 nd:∀ c,(fields c).Nodup
 few:∀ c,(fields c).length<=500
def KL (K:PySem.W.Frag) (a:Addr) (xs:List V):Prop:=∃ (o:Obj) (its:Array Value) (n:Nat),K.lookup a=some o/\o.cls = .type "list" /\ o.dict=none/\o.data = .seq its n/\its.size<=sizeLine/\Vals xs its.toList
structure Ix where
 refs:List Addr
 priv:List Addr
def Ix.all (ι:Ix):List Addr:=ι.refs++ι.priv
mutual
inductive RV (T:Tb) (ι:Ix) (H:Hp):AV->V->Prop
 | non:RV T ι H .non .non
 | bl (b:Bool):RV T ι H (.bl b) (.bl b)
 | int (i:Int):RV T ι H (.int i) (.int i)
 | str {x:Str} (n:x.length<=sizeLine) (o:x.cps.all (· < 0x110000)=true):RV T ι H (.str x) (.str x)
 | tup {xs:List AV} {us:List V} {a:Addr} (n:a∉ι.all) (h:H a=some (.tup us)) (r:RVs T ι H xs us):RV T ι H (.tup xs) (.ref a)
 | fl {xs:List AV} {us:List V} {a:Addr} (n:a∉ι.all) (h:Rd H a (.lst us)) (r:RVs T ι H xs us):RV T ι H (.fl xs) (.ref a)
 | kfl {xs:List AV} {us:List V} {a:Addr} (h:KL T.K a us) (r:RVs T ι H xs us):RV T ι H (.fl xs) (.ref a)
 | ref {k:Nat} {a:Addr} (h:ι.refs[k]? = some a):RV T ι H (.ref k) (.ref a)
 | exc {c:Nat} {C a:Addr} (n:a∉ι.all) (h:T.exc c=some C) (q:H a=some (excO a (.ref C))):RV T ι H (.exc c) (.ref a)
inductive RVs (T:Tb) (ι:Ix) (H:Hp):List AV->List V->Prop
 | nil:RVs T ι H [] []
 | cons {x:AV} {u:V} {xs:List AV} {us:List V} (r:RV T ι H x u) (rs:RVs T ι H xs us):RVs T ι H (x::xs) (u::us)
end
structure Grow (ι:Ix) (H:Hp) (ι':Ix) (H':Hp):Prop where
 pre:∃ n,ι'.refs=ι.refs++n/\∀ a∈n,H a=none
 priv:ι'.priv=ι.priv
 keep:∀ a o,a∉ι.refs->H a=some o->H' a=some o
 live:∀ a∈ι.all,H' a≠none
theorem zeg:∀ {l:List Addr} {i j:Nat} {a:Addr},l.Nodup->l[i]? = some a->l[j]? = some a->i=j
 | [],_,_,_,_,e,_=>by simp at e
 | x::l,0,0,_,_,_,_=>rfl
 | x::l,0,j+1,a,n,e,f=>by
  simp at e f;subst e
  exact absurd (List.mem_of_getElem? f) (List.nodup_cons.mp n).1
 | x::l,i+1,0,a,n,e,f=>by
  simp at e f;subst f
  exact absurd (List.mem_of_getElem? e) (List.nodup_cons.mp n).1
 | x::l,i+1,j+1,a,n,e,f=>by
  simp at e f
  rw [zeg (List.nodup_cons.mp n).2 e f]
theorem Ix.nr {ι:Ix} {a:Addr} (h:a∉ι.all):a∉ι.refs:=fun z=>h (List.mem_append_left _ z)
theorem Ix.np {ι:Ix} {a:Addr} (h:a∉ι.all):a∉ι.priv:=fun z=>h (List.mem_append_right _ z)
theorem Grow.refl {ι:Ix} {H:Hp} (l:∀ a∈ι.all,H a≠none):Grow ι H ι H:=⟨⟨[],by simp,by simp⟩,rfl,fun _ _ _ e=>e,l⟩
theorem Grow.at {ι ι':Ix} {H H':Hp} (g:Grow ι H ι' H') {k:Nat} {a:Addr} (h:ι.refs[k]? = some a):ι'.refs[k]? = some a:=by
 obtain ⟨n,e,_⟩:=g.pre
 rw [e,List.getElem?_append_left (List.getElem?_eq_some_iff.mp h).1]
 exact h
theorem Grow.outR {ι ι':Ix} {H H':Hp} (g:Grow ι H ι' H') {a:Addr} {o:HO} (n:a∉ι.refs) (e:H a=some o):a∉ι'.refs:=fun z=>by
 obtain ⟨m,e',hm⟩:=g.pre
 rw [e'] at z
 rcases List.mem_append.mp z with z | z
 ·exact n z
 ·rw [hm a z] at e;cases e
theorem Grow.out {ι ι':Ix} {H H':Hp} (g:Grow ι H ι' H') {a:Addr} {o:HO} (n:a∉ι.all) (e:H a=some o):a∉ι'.all:=fun z=>by
 rcases List.mem_append.mp z with z | z
 ·exact g.outR (Ix.nr n) e z
 ·rw [g.priv] at z;exact Ix.np n z
theorem Grow.trans {ι ι' ι'':Ix} {H H' H'':Hp} (g:Grow ι H ι' H') (k:Grow ι' H' ι'' H''):Grow ι H ι'' H'' := by
 obtain ⟨n,e1,hn⟩:=g.pre
 obtain ⟨m,e2,hm⟩:=k.pre
 refine ⟨⟨n++m,by rw [e2,e1];simp,fun a ha=>?_⟩,k.priv.trans g.priv,fun a o na e=>k.keep a o (g.outR na e) (g.keep a o na e),fun a ha=>k.live a ?_⟩
 ·rcases List.mem_append.mp ha with z | z
  ·exact hn a z
  ·have q:=hm a z
   by_cases hi:a∈ι.refs
   ·exact absurd q (g.live a (List.mem_append_left _ hi))
   ·cases e:H a with
    | none=>rfl
    | some o=>rw [g.keep a o hi e] at q;cases q
 ·rcases List.mem_append.mp ha with z | z
  ·exact List.mem_append_left _ (by rw [e1];exact List.mem_append_left _ z)
  ·exact List.mem_append_right _ (by rw [g.priv];exact z)
structure Ext (ι:Ix) (H:Hp) (ι':Ix) (H':Hp):Prop where
 at_:∀ {k:Nat} {a:Addr},ι.refs[k]? = some a->ι'.refs[k]? = some a
 keep:∀ a o,a∉ι.all->H a=some o->H' a=some o
 out:∀ a o,a∉ι.all->H a=some o->a∉ι'.all
theorem Grow.ext {ι ι':Ix} {H H':Hp} (g:Grow ι H ι' H'):Ext ι H ι' H' := ⟨g.at,fun a o n e=>g.keep a o (Ix.nr n) e,fun a o n e=>g.out n e⟩
theorem Ext.trans {ι ι' ι'':Ix} {H H' H'':Hp} (g:Ext ι H ι' H') (k:Ext ι' H' ι'' H''):Ext ι H ι'' H'' :=
 ⟨fun e=>k.at_ (g.at_ e),fun a o n e=>k.keep a o (g.out a o n e) (g.keep a o n e),fun a o n e=>k.out a o (g.out a o n e) (g.keep a o n e)⟩
theorem zff {ι ι':Ix} {H H':Hp} (g:Ext ι H ι' H') {a:Addr} {u:HO} (n:a∉ι.all) (r:Rd H a u):Rd H' a u:=by
 rcases r with r | ⟨o,r⟩
 ·exact .inl (g.keep a _ n r)
 ·exact .inr ⟨o,g.keep a _ n r⟩
theorem yg3 {ι ι':Ix} {H H':Hp} (g:Ext ι H ι' H') {a:Addr} {u:HO} (n:a∉ι.all) (r:Rd H a u):a∉ι'.all:=by
 rcases r with r | ⟨o,r⟩
 ·exact g.out _ _ n r
 ·exact g.out _ _ n r
mutual
theorem RV.ext {T:Tb} {ι ι':Ix} {H H':Hp} (g:Ext ι H ι' H'):∀ {x:AV} {u:V},RV T ι H x u->RV T ι' H' x u
 | _,_,.non=>.non
 | _,_,.bl b=>.bl b
 | _,_,.int i=>.int i
 | _,_,.str n o=>.str n o
 | _,_,.tup n h r=>.tup (g.out _ _ n h) (g.keep _ _ n h) (RVs.ext g r)
 | _,_,.fl n h r=>.fl (yg3 g n h) (zff g n h) (RVs.ext g r)
 | _,_,.kfl h r=>.kfl h (RVs.ext g r)
 | _,_,.ref h=>.ref (g.at_ h)
 | _,_,.exc n h q=>.exc (g.out _ _ n q) h (g.keep _ _ n q)
theorem RVs.ext {T:Tb} {ι ι':Ix} {H H':Hp} (g:Ext ι H ι' H'):∀ {xs:List AV} {us:List V},RVs T ι H xs us->RVs T ι' H' xs us
 | _,_,.nil=>.nil
 | _,_,.cons r rs=>.cons (RV.ext g r) (RVs.ext g rs)
end
theorem RV.mono {T:Tb} {ι ι':Ix} {H H':Hp} (g:Grow ι H ι' H') {x:AV} {u:V} (r:RV T ι H x u):RV T ι' H' x u:=r.ext g.ext
theorem RVs.mono {T:Tb} {ι ι':Ix} {H H':Hp} (g:Grow ι H ι' H') {xs:List AV} {us:List V} (r:RVs T ι H xs us):RVs T ι' H' xs us:=r.ext g.ext
section
variable {T:Tb} {ι:Ix} {H:Hp}
theorem RVs.length:∀ {xs:List AV} {us:List V},RVs T ι H xs us->xs.length=us.length
 | _,_,.nil=>rfl
 | _,_,.cons _ rs=>by simp [RVs.length rs]
theorem RVs.get:∀ {xs:List AV} {us:List V} {i:Nat} {x:AV},RVs T ι H xs us->xs[i]? = some x->∃ u,us[i]? = some u/\RV T ι H x u
 | _,_,_,_,.nil,e=>by simp at e
 | _,_,0,_,.cons r _,e=>by simp at e;subst e;exact ⟨_,rfl,r⟩
 | _,_,i+1,x,.cons _ t,e=>by
  obtain ⟨u,h1,h2⟩:=RVs.get (i:=i) (x:=x) t (by simpa using e)
  exact ⟨u,by simpa using h1,h2⟩
theorem RVs.append:∀ {xs ys:List AV} {us ws:List V},RVs T ι H xs us->RVs T ι H ys ws->RVs T ι H (xs++ys) (us++ws)
 | _,_,_,_,.nil,s=>s
 | _,_,_,_,.cons r t,s=>.cons r (RVs.append t s)
theorem RVs.set {x:AV} {u:V} (r:RV T ι H x u):∀ {xs:List AV} {us:List V} (i:Nat),RVs T ι H xs us->RVs T ι H (xs.set i x) (us.set i u)
 | _,_,_,.nil=>.nil
 | _,_,0,.cons _ t=>.cons r t
 | _,_,i+1,.cons q t=>.cons q (RVs.set r i t)
theorem RVs.take:∀ {xs:List AV} {us:List V} (n:Nat),RVs T ι H xs us->RVs T ι H (xs.take n) (us.take n)
 | _,_,0,_=>by simpa using RVs.nil
 | _,_,_+1,.nil=>.nil
 | _,_,n+1,.cons r t=>.cons r (RVs.take n t)
theorem RVs.drop:∀ {xs:List AV} {us:List V} (n:Nat),RVs T ι H xs us->RVs T ι H (xs.drop n) (us.drop n)
 | _,_,0,r=>r
 | _,_,_+1,.nil=>.nil
 | _,_,n+1,.cons _ t=>RVs.drop n t
end
def kA:Key->AV
 | .inl i=>.int i
 | .inr x=>.str x
def OR (T:Tb) (ι:Ix) (H:Hp):AO->HO->Prop
 | .lst xs,o=>∃ us,o = .lst us/\RVs T ι H xs us
 | .dct false kvs,o=>∃ kus:List (Key×V),o = .dK kus/\Paired (fun (p:AV×AV) (q:Key×V)=>p.1=kA q.1/\RV T ι H p.2 q.2) kvs kus
 | .dct true kvs,o=>∃ kus:List (List Key×V),o = .dT kus/\Paired (fun (p:AV×AV) (q:List Key×V)=>p.1 = .tup (q.1.map kA)/\RV T ι H p.2 q.2) kvs kus
 | .ins c fs,o=>∃ C dx fus,T.cls c=some C/\o = .ins C dx fus/\(fus.map (·.1)).Nodup/\(∀ p∈fus,p.1∈T.fields c)/\fs.length=(T.fields c).length /\
   ∀ (i:Nat) (v:AV),fs[i]? = some (some v)->∃ f u,(T.fields c)[i]? = some f/\fus.lookup f=some u/\RV T ι H v u
theorem OR.mono {T:Tb} {ι ι':Ix} {H H':Hp} (g:Grow ι H ι' H') {o:AO} {u:HO} (h:OR T ι H o u):OR T ι' H' o u:=by
 cases o with
 | lst xs=>obtain ⟨us,e,r⟩:=h;exact ⟨us,e,r.mono g⟩
 | dct t kvs =>
  cases t with
  | false=>obtain ⟨us,e,r⟩:=h;exact ⟨us,e,Paired.mapP r fun _ _ ⟨a,b⟩=>⟨a,b.mono g⟩⟩
  | true=>obtain ⟨us,e,r⟩:=h;exact ⟨us,e,Paired.mapP r fun _ _ ⟨a,b⟩=>⟨a,b.mono g⟩⟩
 | ins c fs =>
  obtain ⟨C,dx,fus,a,b,n,w,l,r⟩:=h
  refine ⟨C,dx,fus,a,b,n,w,l,fun i v e=>?_⟩
  obtain ⟨f,u,e1,e2,q⟩:=r i v e
  exact ⟨f,u,e1,e2,q.mono g⟩
structure Sim (T:Tb) (ι:Ix) (h:AH) (H:Hp):Prop where
 len:ι.refs.length=h.length
 nd:ι.refs.Nodup
 plive:∀ a∈ι.priv,H a≠none
 obj:∀ (i:Nat) (o:AO) (a:Addr),h[i]? = some o->ι.refs[i]? = some a->∃ u,H a=some u/\OR T ι H o u
section
variable {T:Tb} {ι:Ix} {h:AH} {H:Hp}
theorem Sim.live (S:Sim T ι h H):∀ a∈ι.all,H a≠none:=fun a ha z=>by
 rcases List.mem_append.mp ha with ha | ha
 ·obtain ⟨i,hi⟩:=List.mem_iff_getElem?.mp ha
  have hl:i<h.length:=by rw [<- S.len];exact (List.getElem?_eq_some_iff.mp hi).1
  obtain ⟨u,e,_⟩:=S.obj i h[i] a (by simp [hl]) hi
  rw [z] at e;cases e
 ·exact S.plive a ha z
theorem Sim.refl (S:Sim T ι h H):Grow ι H ι H:=.refl S.live
theorem Sim.fresh (S:Sim T ι h H) {p:Addr} (n:H p=none):p∉ι.all:=fun z=>S.live p z n
theorem Sim.still (S:Sim T ι h H) {H':Hp} (g:Grow ι H ι H') (k:∀ a∈ι.refs,H' a=H a):Sim T ι h H' :=
 ⟨S.len,S.nd,fun a ha=>g.live a (List.mem_append_right _ ha),fun i o a e1 e2=>by
  obtain ⟨u,e,r⟩:=S.obj i o a e1 e2
  exact ⟨u,by rw [k a (List.mem_of_getElem? e2)];exact e,r.mono g⟩⟩
theorem Sim.growNew (S:Sim T ι h H) {p:Addr} {o:HO} (n:H p=none):Grow ι H ι (upd H p o) :=
 ⟨⟨[],by simp,by simp⟩,rfl,fun a u _ e=>by rw [yax (zam e n)];exact e,fun a ha=>by
  rw [yax (show a≠p from fun z=>S.fresh n (z▸ha))];exact S.live a ha⟩
theorem Sim.new (S:Sim T ι h H) {p:Addr} {o:HO} (n:H p=none):Sim T ι h (upd H p o) :=
 S.still (S.growNew n) fun a ha=>yax fun z=>S.fresh n (z▸List.mem_append_left _ ha)
def Ix.add (ι:Ix) (p:Addr):Ix:=⟨ι.refs++[p],ι.priv⟩
theorem Sim.growAdd (S:Sim T ι h H) {p:Addr} {u:HO} (n:H p=none):Grow ι H (ι.add p) (upd H p u) :=
 ⟨⟨[p],rfl,fun a ha=>by have e:a=p:=(by simpa using ha);rw [e];exact n⟩,rfl,(S.growNew n).keep,(S.growNew n).live⟩
theorem Sim.add (S:Sim T ι h H) {p:Addr} {u:HO} {o:AO} (n:H p=none) (r:OR T (ι.add p) (upd H p u) o u):Sim T (ι.add p) (h++[o]) (upd H p u):=by
 refine ⟨by simp [Ix.add,S.len],?_,fun a ha=>(S.growNew n).live a (List.mem_append_right _ ha),fun i o' a e1 e2=>?_⟩
 ·show (ι.refs++[p]).Nodup
  rw [List.nodup_append]
  exact ⟨S.nd,by simp,fun a ha b hb z=>by have e:b=p:=(by simpa using hb);subst e;subst z;exact S.fresh n (List.mem_append_left _ ha)⟩
 ·replace e2:(ι.refs++[p])[i]? = some a:=e2
  by_cases hi:i<h.length
  ·rw [List.getElem?_append_left hi] at e1
   rw [List.getElem?_append_left (by rw [S.len];exact hi)] at e2
   obtain ⟨v,e,q⟩:=S.obj i o' a e1 e2
   exact ⟨v,by rw [yax (zam e n)];exact e,q.mono (S.growAdd n)⟩
  ·have e3:i=h.length:=by
    have:=(List.getElem?_eq_some_iff.mp e1).1
    simp at this;omega
   subst e3
   rw [List.getElem?_append_right (Nat.le_refl _)] at e1
   rw [List.getElem?_append_right (by rw [S.len];exact Nat.le_refl _),S.len] at e2
   simp at e1 e2
   subst e1 e2
   exact ⟨u,zao,r⟩
theorem Sim.addAt (S:Sim T ι h H) {p:Addr}:(ι.add p).refs[h.length]? = some p:=by
 show (ι.refs++[p])[h.length]? = some p
 rw [<- S.len];simp
theorem Sim.growSet (S:Sim T ι h H) {i:Nat} {a:Addr} {u:HO} (e:ι.refs[i]? = some a):Grow ι H ι (upd H a u) :=
 ⟨⟨[],by simp,by simp⟩,rfl,fun b o nb q=>by rw [yax (show b≠a from fun z=>nb (by rw [z];exact List.mem_of_getElem? e))];exact q,fun b hb=>by
  by_cases z:b=a
  ·subst z;rw [zao];simp
  ·rw [yax z];exact S.live b hb⟩
theorem Sim.set (S:Sim T ι h H) {i:Nat} {a:Addr} {u:HO} {o:AO} (e:ι.refs[i]? = some a) (r:OR T ι (upd H a u) o u):Sim T ι (h.set i o) (upd H a u):=by
 refine ⟨by simp [S.len],S.nd,fun b hb=>(S.growSet e).live b (List.mem_append_right _ hb),fun j o' b e1 e2=>?_⟩
 by_cases hj:j=i
 ·subst hj
  rw [e] at e2;cases e2
  have hl:j<h.length:=by rw [<- S.len];exact (List.getElem?_eq_some_iff.mp e).1
  rw [List.getElem?_set_self hl] at e1;cases e1
  exact ⟨u,zao,r⟩
 ·rw [List.getElem?_set_ne (Ne.symm hj)] at e1
  obtain ⟨v,q,r'⟩:=S.obj j o' b e1 e2
  have ne:b≠a:=fun z=>hj (by
   subst z
   exact zeg S.nd e2 e)
  exact ⟨v,by rw [yax ne];exact q,r'.mono (S.growSet e)⟩
end
def Ix.hide (ι:Ix) (D:Addr):Ix:=⟨ι.refs,D::ι.priv⟩
theorem Ix.hide_all {ι:Ix} {D a:Addr}:a∉(ι.hide D).all ↔ a∉ι.all/\a≠D:=by
 unfold Ix.all Ix.hide
 simp only [List.mem_append,List.mem_cons]
 constructor
 ·intro h;exact ⟨fun z=>h (z.elim .inl fun z=>.inr (.inr z)),fun z=>h (.inr (.inl z))⟩
 ·rintro ⟨h1,h2⟩ (z | z | z)
  ·exact h1 (.inl z)
  ·exact h2 z
  ·exact h1 (.inr z)
section
variable {T:Tb} {ι:Ix} {H:Hp} {D:Addr}
theorem Ext.hide {o:HO} (hn:H D=none):Ext ι H (ι.hide D) (upd H D o):=⟨fun e=>e,fun a u n e=>by rw [yax (zam e hn)];exact e,fun a u n e=>Ix.hide_all.mpr ⟨n,zam e hn⟩⟩
theorem Ext.poke {o:HO}:Ext (ι.hide D) H (ι.hide D) (upd H D o):=⟨fun e=>e,fun a u n e=>by rw [yax (Ix.hide_all.mp n).2];exact e,fun a u n e=>n⟩
theorem Ext.show:Ext (ι.hide D) H ι H:=⟨fun e=>e,fun a u n e=>e,fun a u n e=>(Ix.hide_all.mp n).1⟩
theorem Ext.adopt:Ext (ι.hide D) H (ι.add D) H:=⟨fun {k a} e=>by
 show (ι.refs++[D])[k]? = some a
 replace e:ι.refs[k]? = some a:=e
 rw [List.getElem?_append_left (List.getElem?_eq_some_iff.mp e).1];exact e,fun a u n e=>e,fun a u n e z=>by
 rcases List.mem_append.mp z with z | z
 ·replace z:a∈ι.refs++[D]:=z
  rcases List.mem_append.mp z with z | z
  ·exact (Ix.hide_all.mp n).1 (List.mem_append_left _ z)
  ·exact (Ix.hide_all.mp n).2 (by simpa using z)
 ·exact (Ix.hide_all.mp n).1 (List.mem_append_right _ z)⟩
theorem OR.ext {ι ι':Ix} {H H':Hp} (g:Ext ι H ι' H') {o:AO} {u:HO} (h:OR T ι H o u):OR T ι' H' o u:=by
 cases o with
 | lst xs=>obtain ⟨us,e,r⟩:=h;exact ⟨us,e,r.ext g⟩
 | dct t kvs =>
  cases t with
  | false=>obtain ⟨us,e,r⟩:=h;exact ⟨us,e,Paired.mapP r fun _ _ ⟨a,b⟩=>⟨a,b.ext g⟩⟩
  | true=>obtain ⟨us,e,r⟩:=h;exact ⟨us,e,Paired.mapP r fun _ _ ⟨a,b⟩=>⟨a,b.ext g⟩⟩
 | ins c fs =>
  obtain ⟨C,dx,fus,a,b,n,w,l,r⟩:=h
  refine ⟨C,dx,fus,a,b,n,w,l,fun i v e=>?_⟩
  obtain ⟨f,u,e1,e2,q⟩:=r i v e
  exact ⟨f,u,e1,e2,q.ext g⟩
theorem Sim.hide {h:AH} {o:HO} (S:Sim T ι h H) (hn:H D=none):Sim T (ι.hide D) h (upd H D o) :=
 ⟨S.len,S.nd,fun a ha=>by
  rcases List.mem_cons.mp ha with rfl | ha
  ·rw [zao];simp
  ·rw [yax (show a≠D from fun z=>S.plive a ha (z▸hn))];exact S.plive a ha,fun i o' a e1 e2=>by
  obtain ⟨u,e,r⟩:=S.obj i o' a e1 e2
  exact ⟨u,by rw [yax (zam e hn)];exact e,r.ext (Ext.hide hn)⟩⟩
theorem Sim.poke {h:AH} {o:HO} (S:Sim T (ι.hide D) h H) (hr:D∉ι.refs):Sim T (ι.hide D) h (upd H D o) :=
 ⟨S.len,S.nd,fun a ha=>by
  by_cases z:a=D
  ·subst z;rw [zao];simp
  ·rw [yax z];exact S.plive a ha,fun i o' a e1 e2=>by
  obtain ⟨u,e,r⟩:=S.obj i o' a e1 e2
  have ne:a≠D:=fun z=>hr (z▸List.mem_of_getElem? e2)
  exact ⟨u,by rw [yax ne];exact e,r.ext Ext.poke⟩⟩
theorem Sim.show {h:AH} (S:Sim T (ι.hide D) h H):Sim T ι h H :=
 ⟨S.len,S.nd,fun a ha=>S.plive a (List.mem_cons_of_mem _ ha),fun i o' a e1 e2=>by
  obtain ⟨u,e,r⟩:=S.obj i o' a e1 e2
  exact ⟨u,e,r.ext Ext.show⟩⟩
theorem Sim.adopt {h:AH} {u:HO} {o:AO} (S:Sim T (ι.hide D) h H) (hr:D∉ι.refs) (e:H D=some u) (r:OR T (ι.add D) H o u):Sim T (ι.add D) (h++[o]) H:=by
 have hlen:ι.refs.length=h.length:=S.len
 refine ⟨by simp [Ix.add,hlen],?_,fun a ha=>S.plive a (List.mem_cons_of_mem _ ha),fun i o' a e1 e2=>?_⟩
 ·show (ι.refs++[D]).Nodup
  rw [List.nodup_append]
  exact ⟨S.nd,by simp,fun a ha b hb z=>by have e:b=D:=(by simpa using hb);subst e;subst z;exact hr ha⟩
 ·replace e2:(ι.refs++[D])[i]? = some a:=e2
  by_cases hi:i<h.length
  ·rw [List.getElem?_append_left hi] at e1
   rw [List.getElem?_append_left (by rw [hlen];exact hi)] at e2
   obtain ⟨v,e,q⟩:=S.obj i o' a e1 e2
   exact ⟨v,e,q.ext Ext.adopt⟩
  ·have e3:i=h.length:=by
    have:=(List.getElem?_eq_some_iff.mp e1).1
    simp at this;omega
   subst e3
   rw [List.getElem?_append_right (Nat.le_refl _)] at e1
   rw [List.getElem?_append_right (by rw [hlen];exact Nat.le_refl _),hlen] at e2
   simp at e1 e2
   subst e1 e2
   exact ⟨u,e,r⟩
end
def ER (T:Tb) (ι:Ix) (H:Hp) (e:En) (σ:St):Prop:=e.length=σ.length/\∀ (i:Nat) (v:AV),e[i]? = some (some v)->∃ u,σ[i]? = some (some u)/\RV T ι H v u
theorem ER.mono {T:Tb} {ι ι':Ix} {H H':Hp} {e:En} {σ:St} (r:ER T ι H e σ) (g:Grow ι H ι' H'):ER T ι' H' e σ :=
 ⟨r.1,fun i v q=>let ⟨u,a,b⟩:=r.2 i v q;⟨u,a,b.mono g⟩⟩
theorem ER.ext {T:Tb} {ι ι':Ix} {H H':Hp} {e:En} {σ:St} (r:ER T ι H e σ) (g:Ext ι H ι' H'):ER T ι' H' e σ :=
 ⟨r.1,fun i v q=>let ⟨u,a,b⟩:=r.2 i v q;⟨u,a,b.ext g⟩⟩
theorem ER.set {T:Tb} {ι:Ix} {H:Hp} {e:En} {σ:St} (r:ER T ι H e σ) {v:AV} {u:V} (q:RV T ι H v u) (i:Nat):ER T ι H (e.set i (some v)) (σ.set i (some u)):=by
 refine ⟨by simp [r.1],fun j w z=>?_⟩
 by_cases hj:j=i
 ·subst hj
  by_cases hl:j<e.length
  ·rw [List.getElem?_set_self hl] at z;cases z
   exact ⟨u,by rw [List.getElem?_set_self (by rw [<- r.1];exact hl)],q⟩
  ·rw [List.getElem?_eq_none (by simpa using hl)] at z;cases z
 ·rw [List.getElem?_set_ne (Ne.symm hj)] at z ⊢
  exact r.2 j w z
theorem ER.unset {T:Tb} {ι:Ix} {H:Hp} {e:En} {σ:St} (r:ER T ι H e σ) (i:Nat):ER T ι H (e.set i none) (σ.set i none):=by
 refine ⟨by simp [r.1],fun j w z=>?_⟩
 by_cases hj:j=i
 ·subst hj
  by_cases hl:j<e.length
  ·rw [List.getElem?_set_self hl] at z;cases z
  ·rw [List.getElem?_eq_none (by simpa using hl)] at z;cases z
 ·rw [List.getElem?_set_ne (Ne.symm hj)] at z ⊢
  exact r.2 j w z
def Post {α β:Type} (T:Tb) (ι:Ix) (H:Hp) (E:XK) (R:Ix->Hp->α->β->Prop) (o:Out α) (Q:β->Hp->Prop):Prop :=
 match o with
 | .ok v h' => ∀ ι' H' u,Grow ι H ι' H'->Sim T ι' h' H'->R ι' H' v u->Q u H'
 | .ex c h' => ∀ ι' H' C,Grow ι H ι' H'->Sim T ι' h' H'->T.exc c=some C->E (.ref C) none H'
 | .bad=>False
def PostS (T:Tb) (ι:Ix) (H:Hp) (E:St->XK) (o:OutS) (D:Ends):Prop :=
 match o with
 | .nx e h' => ∀ ι' H' σ',Grow ι H ι' H'->Sim T ι' h' H'->ER T ι' H' e σ'->D.nx σ' H'
 | .bk e h' => ∀ ι' H' σ',Grow ι H ι' H'->Sim T ι' h' H'->ER T ι' H' e σ'->D.bk σ' H'
 | .ct e h' => ∀ ι' H' σ',Grow ι H ι' H'->Sim T ι' h' H'->ER T ι' H' e σ'->D.ct σ' H'
 | .rt v h' => ∀ ι' H' u,Grow ι H ι' H'->Sim T ι' h' H'->RV T ι' H' v u->D.rt u H'
 | .ex c e h' => ∀ ι' H' σ' C,Grow ι H ι' H'->Sim T ι' h' H'->ER T ι' H' e σ'->T.exc c=some C->E σ' (.ref C) none H'
 | .bad=>False
abbrev REq {α:Type}:Ix->Hp->α->α->Prop:=fun _ _ a b=>a=b
section
variable {T:Tb} {ι ι':Ix} {h:AH} {H H':Hp} {α β γ δ:Type} {E:XK} {R:Ix->Hp->α->β->Prop} {R':Ix->Hp->γ->δ->Prop}
theorem Post.shift {o:Out α} {Q:β->Hp->Prop} (p:Post T ι H E R o Q) (g:Grow ι H ι' H'):Post T ι' H' E R o Q:=by
 cases o with
 | ok v h' => exact fun i2 H2 u g2=>p i2 H2 u (g.trans g2)
 | ex c h' => exact fun i2 H2 C g2=>p i2 H2 C (g.trans g2)
 | bad=>exact p
theorem Post.bind {o:Out α} {f:α->AH->Out γ} {Q:δ->Hp->Prop} {Q1:β->Hp->Prop} (p:Post T ι H E R' (o.bind f) Q)
  (k:∀ v h' ι' H' u,Grow ι H ι' H'->Sim T ι' h' H'->R ι' H' v u->Post T ι' H' E R' (f v h') Q->Q1 u H'):Post T ι H E R o Q1:=by
 cases o with
 | ok v h' => exact fun i2 H2 u g S r=>k v h' i2 H2 u g S r (Post.shift p g)
 | ex c h' => exact p
 | bad=>exact p
theorem Post.now {v:α} {u:β} {Q:β->Hp->Prop} (p:Post T ι H E R (.ok v h) Q) (S:Sim T ι h H) (r:R ι H v u):Q u H:=p ι H u S.refl S r
theorem PostS.shift {E:St->XK} {o:OutS} {D:Ends} (p:PostS T ι H E o D) (g:Grow ι H ι' H'):PostS T ι' H' E o D:=by
 cases o with
 | nx e h' => exact fun i2 H2 u g2=>p i2 H2 u (g.trans g2)
 | bk e h' => exact fun i2 H2 u g2=>p i2 H2 u (g.trans g2)
 | ct e h' => exact fun i2 H2 u g2=>p i2 H2 u (g.trans g2)
 | rt v h' => exact fun i2 H2 u g2=>p i2 H2 u (g.trans g2)
 | ex c e h' => exact fun i2 H2 u C g2=>p i2 H2 u C (g.trans g2)
 | bad=>exact p
theorem PostS.go {E:St->XK} {o:Out α} {en:En} {σ:St} {f:α->AH->OutS} {D:Ends} {Q1:β->Hp->Prop} (p:PostS T ι H E (o.go en f) D) (er:ER T ι H en σ)
  (k:∀ v h' ι' H' u,Grow ι H ι' H'->Sim T ι' h' H'->R ι' H' v u->PostS T ι' H' E (f v h') D->Q1 u H'):Post T ι H (E σ) R o Q1:=by
 cases o with
 | ok v h' => exact fun i2 H2 u g S r=>k v h' i2 H2 u g S r (PostS.shift p g)
 | ex c h' => exact fun i2 H2 C g S e=>p i2 H2 σ C g S (er.mono g) e
 | bad=>exact p
end
def tE (T:Tb) (E:St->XK) (a:SE):TE:=fun σ H Q=>∃ ι h en,Sim T ι h H/\ER T ι H en σ/\Post T ι H (E σ) (RV T) (a en h) Q
def tT (T:Tb) (E:St->XK) (a:SB):TT:=fun σ H Q=>∃ ι h en,Sim T ι h H/\ER T ι H en σ/\Post T ι H (E σ) REq (a en h) Q
def tA (T:Tb) (E:St->XK) (a:SL):TA:=fun σ H Q=>∃ ι h en,Sim T ι h H/\ER T ι H en σ/\Post T ι H (E σ) (RVs T) (a en h) Q
def tS (T:Tb) (E:St->XK) (b:SS):TS:=fun D σ H=>∃ ι h en,Sim T ι h H/\ER T ι H en σ/\PostS T ι H E (b en h) D
abbrev PEA (T:Tb) (E:St->XK) (X:Cx) (e:Expr) (a:SE):Prop:=PE X e (tE T E a)
abbrev PTA (T:Tb) (E:St->XK) (X:Cx) (e:Expr) (a:SB):Prop:=PT X e (tT T E a)
abbrev PWA (T:Tb) (E:St->XK) (X:Cx) (e:Expr) (a:SB):Prop:=PW X e (tT T E a)
abbrev PAA (T:Tb) (E:St->XK) (X:Cx) (es:List Expr) (a:SL):Prop:=PA X es (tA T E a)
abbrev PSA (T:Tb) (E:St->XK) (X:Cx) (st:Stmt) (b:SS):Prop:=PS X st (tS T E b)
abbrev PSsA (T:Tb) (E:St->XK) (X:Cx) (sts:List Stmt) (b:SS):Prop:=PSs X sts (tS T E b)
theorem yaR {X:Cx} {e:Expr} {t t':TE} (h:PE X e t) (k:∀ σ H Q,t' σ H Q->t σ H Q):PE X e t' := fun pins s σ H Q I q=>h pins s σ H Q I (k σ H Q q)
theorem ye1 {X:Cx} {e:Expr} {t t':TT} (h:PT X e t) (k:∀ σ H Q,t' σ H Q->t σ H Q):PT X e t' := fun pins s σ H Q I q=>h pins s σ H Q I (k σ H Q q)
theorem yfE {X:Cx} {e:Expr} {t t':TT} (h:PW X e t) (k:∀ σ H Q,t' σ H Q->t σ H Q):PW X e t' := fun w pins s σ H Q I q=>h w pins s σ H Q I (k σ H Q q)
theorem yfF {X:Cx} {e:List Expr} {t t':TA} (h:PA X e t) (k:∀ σ H Q,t' σ H Q->t σ H Q):PA X e t' := fun p pins s σ H Q I q=>h p pins s σ H Q I (k σ H Q q)
theorem ybZ {X:Cx} {e:Stmt} {t t':TS} (h:PS X e t) (k:∀ D σ H,t' D σ H->t D σ H):PS X e t' := fun pins s σ H D I q=>h pins s σ H D I (k D σ H q)
theorem zfg {X:Cx} {e:List Stmt} {t t':TS} (h:PSs X e t) (k:∀ D σ H,t' D σ H->t D σ H):PSs X e t' := fun pins s σ H D I q=>h pins s σ H D I (k D σ H q)
theorem ye2 {X:Cx} {st:Stmt} {t:TS} (h:PS X.nox st t):PS X st t:=fun pins s σ H D I hw=>by
 refine wpAny_mono (h pins s σ H D (I.wish _) hw) (fun f s' q=>SP.unwish q) fun _ _ z=>z.elim
end Sm
namespace Sm
open PySem L2
instance:DecidableEq AV:=fun _ _=>Classical.propDecidable _
@[simp] def sVar (i:Nat):SE:=fun en h=>match en[i]? with
 | some (some v)=>.ok v h
 | _=>.bad
@[simp] def sLit (v:AV):SE:=fun _ h=>.ok v h
abbrev F1:=AV->AH->Out AV
abbrev F2:=AV->AV->AH->Out AV
@[simp] def sOp1 (f:F1) (a:SE):SE:=fun en h=>(a en h).bind f
@[simp] def sOp2 (f:F2) (a b:SE):SE:=fun en h=>(a en h).bind fun x h1=>(b en h1).bind fun y h2=>f x y h2
@[simp] def sNil:SL:=fun _ h=>.ok [] h
@[simp] def yab (a:SE) (r:SL):SL:=fun en h=>(a en h).bind fun x h1=>(r en h1).bind fun xs h2=>.ok (x::xs) h2
@[simp] def yah (F:Fn) (as:SL):SE:=fun en h=>(as en h).bind F
@[simp] def sTup (as:SL):SE:=fun en h=>(as en h).bind fun xs h1=>if xs.length<=1000 then .ok (.tup xs) h1 else .bad
@[simp] def sLst (as:SL):SE:=fun en h=>(as en h).bind fun xs h1=>if xs.length<=1000 then .ok (.fl xs) h1 else .bad
@[simp] def ybH (as:SL):SE:=fun en h=>(as en h).bind fun xs h1=>if xs.length<=1000 then .ok (.ref h1.length) (h1++[.lst xs]) else .bad
@[simp] def yeN (t:Bool):SE:=fun _ h=>.ok (.ref h.length) (h++[.dct t []])
@[simp] def yiR (v:AV) (h:AH):Option (List AV):=match v with
 | .tup xs=>some xs
 | .fl xs=>some xs
 | .ref n=>match h[n]? with
  | some (.lst xs)=>some xs
  | _=>none
 | _=>none
@[simp] def yce (v:AV) (h:AH):Option (List AV):=match v with
 | .fl xs=>some xs
 | .ref n=>match h[n]? with
  | some (.lst xs)=>some xs
  | _=>none
 | _=>none
@[simp] def fAdd:F2:=fun x y h=>match x,y with
 | .int i,.int j=>.ok (.int (i+j)) h
 | .str i,.str j=>if i.length+j.length<=sizeLine then .ok (.str (i++j)) h else .bad
 | .tup xs,.tup ys=>if xs≠[]/\xs.length+ys.length<=sizeLine then .ok (.tup (xs++ys)) h else .bad
 | x,y=>match yce x h,yce y h with
  | some xs,some ys=>if xs.length+ys.length<=sizeLine then .ok (.fl (xs++ys)) h else .bad
  | _,_=>.bad
@[simp] def fSub:F2:=fun x y h=>match x,y with
 | .int i,.int j=>.ok (.int (i-j)) h
 | _,_=>.bad
@[simp] def fMul:F2:=fun x y h=>match x,y with
 | .int i,.int j=>if (i.natAbs<2 ^ 64\/j.natAbs<2 ^ 64)\/(i.natAbs<2 ^ 4000/\j.natAbs<2 ^ 4000) then .ok (.int (i*j)) h else .bad
 | _,_=>.bad
@[simp] def fDiv:F2:=fun x y h=>match x,y with
 | .int i,.int j=>if 0<j/\j.natAbs<2 ^ 200 then .ok (.int (i / j)) h else .bad
 | _,_=>.bad
@[simp] def fMod:F2:=fun x y h=>match x,y with
 | .int i,.int j=>if 0<j then .ok (.int (i % j)) h else .bad
 | _,_=>.bad
@[simp] def fPow:F2:=fun x y h=>match x,y with
 | .int i,.int j=>if 0<=j/\j<=1000000/\i.natAbs<2 ^ 64 then .ok (.int (i ^ j.toNat)) h else .bad
 | _,_=>.bad
@[simp] def fNeg:F1:=fun x h=>match x with
 | .int i=>.ok (.int (-i)) h
 | _=>.bad
def toDs (f:AV->Option PyData):List AV->Option (List PyData)
 | []=>some []
 | x::xs=>match f x,toDs f xs with
  | some d,some ds=>some (d::ds)
  | _,_=>none
def toD:Nat->AH->AV->Option PyData
 | 0,_,v=>match v with
  | .non=>some .none
  | .bl b=>some (.bool b)
  | .int i=>some (.int i)
  | .str x=>some (.str x)
  | _=>none
 | n+1,h,v=>match v with
  | .non=>some .none
  | .bl b=>some (.bool b)
  | .int i=>some (.int i)
  | .str x=>some (.str x)
  | .tup xs=>(toDs (toD n h) xs).map .tuple
  | .fl xs=>(toDs (toD n h) xs).map .list
  | .ref k=>match h[k]? with
   | some (.lst xs)=>(toDs (toD n h) xs).map .list
   | _=>none
  | .exc _=>none
@[simp] def eqA (x y:AV) (h:AH):Option Bool:=match x,y with
 | .int i,.int j=>some (decide (i=j))
 | .str i,.str j=>some (decide (i=j))
 | .bl i,.bl j=>some (decide (i=j))
 | .non,.non=>some true
 | x,y=>match toD 8 h x,toD 8 h y with
  | some d,some e=>some (PyData.eqv d e)
  | _,_=>none
@[simp] def fEq:F2:=fun x y h=>match eqA x y h with
 | some b=>.ok (.bl b) h
 | none=>.bad
@[simp] def fNe:F2:=fun x y h=>match eqA x y h with
 | some b=>.ok (.bl (!b)) h
 | none=>.bad
@[simp] def fLt:F2:=fun x y h=>match x,y with
 | .int i,.int j=>.ok (.bl (decide (i<j))) h
 | .str i,.str j=>.ok (.bl (decide (i.cps.toList<j.cps.toList))) h
 | _,_=>.bad
@[simp] def fLe:F2:=fun x y h=>match x,y with
 | .int i,.int j=>.ok (.bl (decide (i<=j))) h
 | .str i,.str j=>.ok (.bl (!decide (j.cps.toList<i.cps.toList))) h
 | _,_=>.bad
@[simp] def fGt:F2:=fun x y h=>match x,y with
 | .int i,.int j=>.ok (.bl (decide (j<i))) h
 | _,_=>.bad
@[simp] def fGe:F2:=fun x y h=>match x,y with
 | .int i,.int j=>.ok (.bl (decide (j<=i))) h
 | _,_=>.bad
@[simp] def fIsN:F2:=fun x y h=>match y with
 | .non=>.ok (.bl (decide (x = .non))) h
 | _=>.bad
@[simp] def yeb:F2:=fun x y h=>match y with
 | .non=>.ok (.bl (!decide (x = .non))) h
 | _=>.bad
@[simp] def truA (v:AV) (h:AH):Option Bool:=match v with
 | .non=>some false
 | .bl b=>some b
 | .int i=>some (i != 0)
 | .str y=>some ((y.length:Int) != 0)
 | .tup xs=>some (!xs.isEmpty)
 | .fl xs=>some (!xs.isEmpty)
 | .ref n=>match h[n]? with
  | some (.lst xs)=>some (!xs.isEmpty)
  | some (.dct false kvs)=>some (!kvs.isEmpty)
  | _=>none
 | _=>none
@[simp] def ybI (a:SE):SB:=fun en h=>(a en h).bind fun v h1=>match truA v h1 with
 | some b=>.ok b h1
 | none=>.bad
@[simp] def yau (a:SE):SB:=fun en h=>(a en h).bind fun v h1=>match v with
 | .bl b=>.ok b h1
 | _=>.bad
@[simp] def sAnd (a b:SB):SB:=fun en h=>(a en h).bind fun x h1=>if x=true then b en h1 else .ok false h1
@[simp] def sOr (a b:SB):SB:=fun en h=>(a en h).bind fun x h1=>if x=true then .ok true h1 else b en h1
@[simp] def sNot (a:SB):SB:=fun en h=>(a en h).bind fun x h1=>.ok (!x) h1
@[simp] def ydQ (a b:SE):SE:=fun en h=>(a en h).bind fun v h1=>match v with
 | .bl k=>if k=true then b en h1 else .ok (.bl false) h1
 | _=>.bad
@[simp] def sOrV (a b:SE):SE:=fun en h=>(a en h).bind fun v h1=>match v with
 | .bl k=>if k=true then .ok (.bl true) h1 else b en h1
 | _=>.bad
@[simp] def yf8 (a:SE):SE:=fun en h=>(a en h).bind fun v h1=>match v with
 | .bl b=>.ok (.bl (!b)) h1
 | _=>.bad
@[simp] def sIfE (c:SB) (a b:SE):SE:=fun en h=>(c en h).bind fun x h1=>if x=true then a en h1 else b en h1
@[simp] def yd5 (f f':F2) (a b c:SE):SE:=fun en h=>(a en h).bind fun x h1=>(b en h1).bind fun y h2=>(f x y h2).bind fun z h3=>match z with
 | .bl k=>if k=true then (c en h3).bind fun w h4=>f' y w h4 else .ok (.bl false) h3
 | _=>.bad
@[simp] def yaD:SS:=fun en h=>.nx en h
@[simp] def sSeq (a b:SS):SS:=fun en h=>match a en h with
 | .nx e h' => b e h'
 | o=>o
@[simp] def yaQ (a:SE):SS:=fun en h=>(a en h).go en fun _ h' => .nx en h'
@[simp] def sRet (a:SE):SS:=fun en h=>(a en h).go en fun v h' => .rt v h'
@[simp] def sIf (c:SB) (a b:SS):SS:=fun en h=>(c en h).go en fun x h' => if x=true then a en h' else b en h'
@[simp] def sSet (i:Nat) (a:SE):SS:=fun en h=>(a en h).go en fun v h' => .nx (en.set i (some v)) h'
def yav (c:SB) (b:SS):Nat->SS
 | 0=>fun _ _=>.bad
 | n+1=>fun en h=>match c en h with
  | .ok true h1=>(match b en h1 with
   | .nx e2 h2=>yav c b n e2 h2
   | .ct e2 h2=>yav c b n e2 h2
   | .bk e2 h2=>.nx e2 h2
   | .rt v h2=>.rt v h2
   | _=>.bad)
  | .ok false h1=>.nx en h1
  | _=>.bad
abbrev SI:=En->AH->Out (List AV×Option Nat)
@[simp] def ybj (w:Option Nat) (xs:List AV) (h:AH):Bool:=match w with
 | none=>true
 | some n=>match h[n]? with
  | some (.lst ys)=>decide (ys=xs)
  | _=>false
inductive Tg where
 | nm (i:Nat)
 | tup (is:List Nat)
 | nst (i:Nat) (is:List Nat)
@[simp] def ye3:List Nat->List AV->En->Option En
 | [],[],en=>some en
 | i::is,x::xs,en=>ye3 is xs (en.set i (some x))
 | _,_,_=>none
@[simp] def setT (t:Tg) (v:AV) (en:En):Option En:=match t,v with
 | .nm i,v=>some (en.set i (some v))
 | .tup is,.tup xs=>ye3 is xs en
 | .nst i is,.tup [y,.tup xs]=>ye3 is xs (en.set i (some y))
 | _,_=>none
def ya0 (w:Option Nat) (all:List AV) (t:Tg) (b:SS):List AV->SS
 | []=>fun en h=>if ybj w all h=true then .nx en h else .bad
 | x::xs=>fun en h=>if ybj w all h=true then
   (match setT t x en with
   | some e1=>(match b e1 h with
    | .nx e2 h2=>ya0 w all t b xs e2 h2
    | .ct e2 h2=>ya0 w all t b xs e2 h2
    | .bk e2 h2=>.nx e2 h2
    | .rt v h2=>.rt v h2
    | _=>.bad)
   | none=>.bad) else .bad
@[simp] def sFor (it:SI) (t:Tg) (b:SS):SS:=fun en h=>match it en h with
 | .ok (xs,w) h1=>ya0 w xs t b xs en h1
 | _=>.bad
@[simp] def iVal (a:SE):SI:=fun en h=>(a en h).bind fun v h1=>match v with
 | .fl xs=>.ok (xs,none) h1
 | .tup xs=>.ok (xs,none) h1
 | .str z=>.ok (z.cps.toList.map (fun c=>.str ⟨#[c]⟩),none) h1
 | .ref n=>match h1[n]? with
  | some (.lst xs)=>.ok (xs,some n) h1
  | _=>.bad
 | _=>.bad
def ybq (lo:Int):Nat->List AV
 | 0=>[]
 | n+1=>.int lo::ybq (lo+1) n
@[simp] def ycM (a:SE):SI:=fun en h=>(a en h).bind fun v h1=>match v with
 | .int j=>if j.natAbs<2 ^ 62 then .ok (ybq 0 j.toNat,none) h1 else .bad
 | _=>.bad
def ye4 (k:Nat):List AV->List AV
 | []=>[]
 | x::xs=>.tup [.int k,x]::ye4 (k+1) xs
@[simp] def yiS (a:SE):SI:=fun en h=>(a en h).bind fun v h1=>match v with
 | .fl xs=>.ok (ye4 0 xs,none) h1
 | _=>.bad
def ya8 (js:List Nat) (en:En) (w:Option Nat) (all:List AV) (c:SB) (e:SE):List AV->List AV->AH->Out (List AV)
 | [],ys,h=>if ybj w all h=true then .ok ys h else .bad
 | x::xs,ys,h=>if ybj w all h=true/\ys.length<sizeLine then
   (match c (some x::js.map fun j=>(en[j]?).join) h with
   | .ok true h1=>(match e (some x::js.map fun j=>(en[j]?).join) h1 with
    | .ok v h2=>ya8 js en w all c e xs (ys++[v]) h2
    | _=>.bad)
   | .ok false h1=>ya8 js en w all c e xs ys h1
   | _=>.bad) else .bad
@[simp] def sYes:SB:=fun _ h=>.ok true h
@[simp] def ycU (js:List Nat) (it:SI) (c:SB) (e:SE):SE:=fun en h=>match it en h with
 | .ok (xs,w) h1=>(match ya8 js en w xs c e xs [] h1 with
  | .ok ys h2=>.ok (.fl ys) h2
  | _=>.bad)
 | _=>.bad
@[simp] def ydh (js:List Nat) (it:SI) (c:SB) (e:SE):SE:=fun en h=>match it en h with
 | .ok (xs,w) h1=>(match ya8 js en w xs c e xs [] h1 with
  | .ok ys h2=>.ok (.ref h2.length) (h2++[.lst ys])
  | _=>.bad)
 | _=>.bad
@[simp] def mkFn (n m:Nat) (b:SS):Fn:=fun args h =>
 if args.length=n then
  match b (args.map some++List.replicate (m-n) none) h with
  | .nx _ h' => .ok .non h'
  | .rt v h' => .ok v h'
  | .ex c _ h' => .ex c h'
  | _=>.bad
 else .bad
@[simp] def yaj (c:Nat) (F:Fn) (o:SE) (as:SL):SE:=fun en h=>(o en h).bind fun x h1=>match x with
 | .ref n=>match h1[n]? with
  | some (.ins c' _)=>if c'=c then (as en h1).bind fun xs h2=>F (x::xs) h2 else .bad
  | _=>.bad
 | _=>.bad
@[simp] def yeO (c k:Nat) (F:Fn) (as:SL):SE:=fun en h=>(as en h).bind fun xs h1=>match F (.ref h1.length::xs) (h1++[.ins c (List.replicate k none)]) with
 | .ok .non h2=>.ok (.ref h1.length) h2
 | .ex c h2=>.ex c h2
 | _=>.bad
@[simp] def sFld (c i:Nat) (o:SE):SE:=fun en h=>(o en h).bind fun x h1=>match x with
 | .ref n=>match h1[n]? with
  | some (.ins c' fs)=>if c'=c then (match fs[i]? with | some (some v)=>.ok v h1 | _=>.bad) else .bad
  | _=>.bad
 | _=>.bad
@[simp] def ycf (c i:Nat) (o v:SE):SS:=fun en h=>(v en h).go en fun y h1=>(o en h1).go en fun x h2=>match x with
 | .ref n=>match h2[n]? with
  | some (.ins c' fs)=>if c'=c then .nx en (h2.set n (.ins c (fs.set i (some y)))) else .bad
  | _=>.bad
 | _=>.bad
@[simp] def ycy (c:Nat) (as:SL):SS:=fun en h=>(as en h).go en fun xs h1=>if xs.length<=1000 then .ex c en h1 else .bad
@[simp] def sTry (i:Nat) (catches:Nat->Bool) (b hd:SS):SS:=fun en h=>match b en h with
 | .ex c e h' => if catches c=true then
   (match hd (e.set i (some (.exc c))) h' with
   | .nx e2 h2=>.nx (e2.set i none) h2
   | .bk e2 h2=>.bk (e2.set i none) h2
   | .ct e2 h2=>.ct (e2.set i none) h2
   | .rt v h2=>.rt v h2
   | _=>.bad) else .bad
 | o=>o
@[simp] def keyOf? (v:AV):Option Key:=match v with
 | .int i=>some (.inl i)
 | .str x=>some (.inr x)
 | _=>none
@[simp] def keysOf? : List AV->Option (List Key)
 | []=>some []
 | v::r=>match keyOf? v,keysOf? r with
  | some k,some ks=>some (k::ks)
  | _,_=>none
@[simp] def ycz (t:Bool) (v:AV):Bool:=match t,v with
 | false,v=>(keyOf? v).isSome
 | true,.tup xs=>(keysOf? xs).isSome
 | true,_=>false
def valA (kvs:List (AV×AV)) (k:AV):Option AV:=(kvs.find? fun p=>decide (p.1=k)).map (·.2)
def putA (kvs:List (AV×AV)) (k v:AV):List (AV×AV) :=
 if kvs.any (fun p=>decide (p.1=k)) then kvs.map fun p=>if p.1=k then (p.1,v) else p else kvs++[(k,v)]
@[simp] def fIx:F2:=fun x y h=>match x,y with
 | .str z,.int i=>match atI z.cps.toList i with
  | some c=>.ok (.str ⟨#[c]⟩) h
  | none=>.bad
 | .tup xs,.int i=>match atI xs i with
  | some v=>.ok v h
  | none=>.bad
 | .fl xs,.int i=>match atI xs i with
  | some v=>.ok v h
  | none=>.bad
 | .ref n,y=>match h[n]? with
  | some (.lst xs)=>match y with
   | .int i=>match atI xs i with
    | some v=>.ok v h
    | none=>.bad
   | _=>.bad
  | some (.dct t kvs)=>if ycz t y then (match valA kvs y with | some v=>.ok v h | none=>.bad) else .bad
  | _=>.bad
 | _,_=>.bad
@[simp] def yet (o i v:SE):SS:=fun en h=>(v en h).go en fun z h1=>(o en h1).go en fun x h2=>(i en h2).go en fun y h3=>match x with
 | .ref n=>match h3[n]? with
  | some (.lst xs)=>match y with
   | .int k=>match ixN xs.length k with
    | some j=>.nx en (h3.set n (.lst (xs.set j z)))
    | none=>.bad
   | _=>.bad
  | some (.dct t kvs)=>if ycz t y=true/\kvs.length<sizeLine then .nx en (h3.set n (.dct t (putA kvs y z))) else .bad
  | _=>.bad
 | _=>.bad
@[simp] def inA (x y:AV) (h:AH):Option Bool:=match x,y with
 | .str i,.str j=>some (!(Builtin.Str.occurrences j i 0 j.length 1).isEmpty)
 | x,.ref n=>match h[n]? with
  | some (.dct t kvs)=>if ycz t x then some (valA kvs x).isSome else none
  | some (.lst xs)=>match toD 8 h x,toDs (toD 8 h) xs with
   | some d,some ds=>some (ds.any fun e=>PyData.eqv e d)
   | _,_=>none
  | _=>none
 | x,.fl xs=>match toD 8 h x,toDs (toD 8 h) xs with
  | some d,some ds=>some (ds.any fun e=>PyData.eqv e d)
  | _,_=>none
 | x,.tup xs=>match toD 8 h x,toDs (toD 8 h) xs with
  | some d,some ds=>some (ds.any fun e=>PyData.eqv e d)
  | _,_=>none
 | _,_=>none
@[simp] def ye5:F2:=fun x y h=>match inA x y h with
 | some b=>.ok (.bl (!b)) h
 | none=>.bad
@[simp] def fLen:Fn:=fun args h=>match args with
 | [.str x]=>.ok (.int x.length) h
 | [.tup xs]=>.ok (.int xs.length) h
 | [.fl xs]=>.ok (.int xs.length) h
 | [.ref n]=>match h[n]? with
  | some (.lst xs)=>.ok (.int xs.length) h
  | some (.dct false kvs)=>.ok (.int kvs.length) h
  | _=>.bad
 | _=>.bad
@[simp] def fAbs:Fn:=fun args h=>match args with
 | [.int i]=>.ok (.int (if i<0 then -i else i)) h
 | _=>.bad
@[simp] def yfk:Fn:=fun args h=>match args with
 | [.int i,.int j]=>.ok (.int (if j > i then j else i)) h
 | _=>.bad
@[simp] def ycA:Fn:=fun args h=>match args with
 | [.int i,.int j]=>.ok (.int (if j<i then j else i)) h
 | _=>.bad
@[simp] def ydJ:List AV->Option (List Bool)
 | []=>some []
 | .bl b::r=>(ydJ r).map (b :: ·)
 | _::_=>none
@[simp] def fAll:Fn:=fun args h=>match args with
 | [.fl xs]=>match ydJ xs with
  | some bs=>.ok (.bl (bs.all id)) h
  | none=>.bad
 | _=>.bad
@[simp] def tyN (v:AV) (h:AH):Option String:=match v with
 | .non=>some "NoneType"
 | .bl _=>some "bool"
 | .int _=>some "int"
 | .str _=>some "str"
 | .tup _=>some "tuple"
 | .fl _=>some "list"
 | .ref n=>match h[n]? with
  | some (.lst _)=>some "list"
  | some (.dct _ _)=>some "dict"
  | _=>none
 | .exc _=>none
@[simp] def sIsB (t:String) (a:SE):SE:=fun en h=>(a en h).bind fun v h1=>match tyN v h1 with
 | some n=>.ok (.bl (n == t || (t == "int" && n == "bool"))) h1
 | none=>.bad
@[simp] def sIsX (p:Nat->Bool) (a:SE):SE:=fun en h=>(a en h).bind fun v h1=>match v with
 | .exc c=>.ok (.bl (p c)) h1
 | _=>.bad
abbrev FM:=AV->List AV->AH->Out AV
@[simp] def yar (v:AV) (h:AH):Bool:=(yce v h).isSome
@[simp] def yeP (v:AV) (_:AH):Bool:=match v with
 | .str _=>true
 | _=>false
@[simp] def sBM (chk:AV->AH->Bool) (f:FM) (o:SE) (as:SL):SE:=fun en h=>(o en h).bind fun x h1=>if chk x h1=true then (as en h1).bind fun xs h2=>f x xs h2 else .bad
@[simp] def sBM0 (chk:AV->AH->Bool) (f:FM) (o:SE):SE:=fun en h=>(o en h).bind fun x h1=>if chk x h1=true then f x [] h1 else .bad
@[simp] def yao:FM:=fun x vs h=>match x,vs with
 | .ref n,[y]=>match h[n]? with
  | some (.lst xs)=>if xs.length<sizeLine then .ok .non (h.set n (.lst (xs++[y]))) else .bad
  | _=>.bad
 | _,_=>.bad
@[simp] def mPop:FM:=fun x vs h=>match x,vs with
 | .ref n,[]=>match h[n]? with
  | some (.lst xs)=>match xs[xs.length-1]? with
   | some y=>.ok y (h.set n (.lst xs.dropLast))
   | none=>.bad
  | _=>.bad
 | _,_=>.bad
@[simp] def yeJ:FM:=fun x vs h=>match x,vs with
 | .str z,[.str y]=>.ok (.int ((Builtin.Str.occurrences z y 0 z.length (z.length+1)).length:Nat)) h
 | _,_=>.bad
def cutA {α:Type} (xs:List α) (lo hi:Option Int):List α:=(xs.drop (HT.sIx xs.length 0 lo)).take (HT.sIx xs.length xs.length hi-HT.sIx xs.length 0 lo)
end Sm
namespace Sm
open PySem L2
structure CA (T:Tb) (E:St->XK) (X:Cx):Prop where
 hK:X.K=T.K
 pass:ybT (CXE X.prog X.w) X E
abbrev EN:St->XK:=fun _=>E0
theorem CA.nox {T:Tb} {E:St->XK} {X:Cx} (c:CA T E X):CA T EN X.nox:=⟨c.hK,fun _ _ _ _ _ _ _ h=>by
 obtain ⟨_,_,_,_,_,_,_,_,_,_,_,_,_,_,q⟩:=h
 exact q.elim⟩
theorem CA.never {T:Tb} {X:Cx} (hK:X.K=T.K):CA T EN X:=⟨hK,fun _ _ _ _ _ _ _ h=>by
 obtain ⟨_,_,_,_,_,_,_,_,_,_,_,_,_,_,q⟩:=h
 exact q.elim⟩
section
variable {T:Tb} {ι:Ix} {h:AH} {H:Hp}
theorem ybU {x:AV} {u:V} {xs:List AV} (S:Sim T ι h H) (r:RV T ι H x u) (e:yce x h=some xs):∃ a us,u = .ref a/\SqL T.K H a us/\RVs T ι H xs us:=by
 unfold yce at e
 cases r with
 | fl n q r=>cases e;exact ⟨_,_,rfl,.inl q,r⟩
 | kfl q r=>cases e;exact ⟨_,_,rfl,.inr q,r⟩
 | @ref k a q =>
  dsimp only at e
  split at e
  ·rename_i ys hk
   cases e
   obtain ⟨u,e1,us,rfl,r⟩:=S.obj k _ a hk q
   exact ⟨a,us,rfl,.inl (.inl e1),r⟩
  ·cases e
 | _=>cases e
theorem ydK {u:V} {xs:List AV} (r:RV T ι H (.tup xs) u):∃ a us,u = .ref a/\SqT T.K H a us/\RVs T ι H xs us:=by
 cases r with
 | tup n q r=>exact ⟨_,_,rfl,.of q,r⟩
theorem ybr {u:V} {x:Str} (r:RV T ι H (.str x) u):u = .str x/\x.length<=sizeLine/\x.cps.all (· < 0x110000)=true:=by
 cases r with
 | str n o=>exact ⟨rfl,n,o⟩
theorem yaK {u:V} {i:Int} (r:RV T ι H (.int i) u):u = .int i:=by cases r;rfl
theorem ycB {u:V} {i:Bool} (r:RV T ι H (.bl i) u):u = .bl i:=by cases r;rfl
theorem yd6 {u:V} (r:RV T ι H .non u):u = .non:=by cases r;rfl
theorem yeu {us:List V} {xs:List AV} {p:Addr} {E:XK} {Q:VK} (S:Sim T ι h H) (r:RVs T ι H xs us) (n:H p=none) (q:Post T ι H E (RV T) (.ok (.fl xs) h) Q):Q (.ref p) (upd H p (.lst us)) :=
 q ι _ _ (S.growNew n) (S.new n) (.fl (S.fresh n) (.inl zao) (r.mono (S.growNew n)))
theorem zc3 {us:List V} {xs:List AV} {p:Addr} {E:XK} {Q:VK} (S:Sim T ι h H) (r:RVs T ι H xs us) (n:H p=none) (q:Post T ι H E (RV T) (.ok (.tup xs) h) Q):Q (.ref p) (upd H p (.tup us)) :=
 q ι _ _ (S.growNew n) (S.new n) (.tup (S.fresh n) zao (r.mono (S.growNew n)))
theorem ziK {us:List V} {xs:List AV} {p:Addr} {E:XK} {Q:VK} (S:Sim T ι h H) (r:RVs T ι H xs us) (n:H p=none) (q:Post T ι H E (RV T) (.ok (.ref h.length) (h++[.lst xs])) Q):Q (.ref p) (upd H p (.lst us)) :=
 q _ _ _ (S.growAdd n) (S.add n ⟨us,rfl,r.mono (S.growAdd n)⟩) (.ref S.addAt)
end
section
variable {T:Tb} {E:St->XK} {X:Cx} {pos:Pos}
theorem yaa (i:Nat) {x:Str} {p:Pos} (hN:X.N[i]? = some x:=by rfl) (hv:Vis X.env.scope x:=by first | exact Or.inl rfl | exact Or.inr (Or.inl rfl) | exact Or.inr (Or.inr rfl)) (hd:(x == ("__debug__" : Str))=false:=by decide)
  (hcd:(x == ("__classdict__" : Str))=false:=by decide):PEA T E X (.Name x p) (sVar i) :=
 yaR (pv i hN hv hd hcd) fun σ H Q ⟨ι,h,en,S,er,q⟩=>by
  unfold sVar at q
  split at q
  ·rename_i v hv
   obtain ⟨u,e,r⟩:=er.2 i v hv
   exact ⟨u,e,q.now S r⟩
  ·exact q.elim
theorem yaf {i j p}:PEA T E X (.Constant (.int i) j p) (sLit (.int i)):=yaR ygq fun σ H Q ⟨ι,h,en,S,er,q⟩=>q.now S (.int i)
theorem r_bl {i j p}:PEA T E X (.Constant (.bool i) j p) (sLit (.bl i)):=yaR yhR fun σ H Q ⟨ι,h,en,S,er,q⟩=>q.now S (.bl i)
theorem yec {j p}:PEA T E X (.Constant .none j p) (sLit .non):=yaR ygr fun σ H Q ⟨ι,h,en,S,er,q⟩=>q.now S .non
theorem yaY {x j p} (n:x.length<=sizeLine:=by decide +kernel) (o:x.cps.all (· < 0x110000)=true:=by decide +kernel):PEA T E X (.Constant (.str x) j p) (sLit (.str x)):=yaR ygs fun σ H Q ⟨ι,h,en,S,er,q⟩=>q.now S (.str n o)
theorem ziL {x:Str} {i:Int} {t:Tok} {p:Pos} (hg:Gl X x) (hm:X.mg x=some (.int i t)) (hd:(x == ("__debug__" : Str))=false:=by decide):PEA T E X (.Name x p) (sLit (.int i)) :=
 yaR (zcc (v:=.int i) hg hm ⟨t,rfl⟩ hd) fun σ H Q ⟨ι,h,en,S,er,q⟩=>q.now S (.int i)
def OpS (T:Tb) (f:F2) (r:R2):Prop:=∀ (ι:Ix) (h:AH) (H:Hp) (x y:AV) (u w:V) (E:XK) (Q:VK),Sim T ι h H->RV T ι H x u->RV T ι H y w->Post T ι H E (RV T) (f x y h) Q->r u w H Q
def Op (T:Tb) (X:Cx) (g:Value->Value->Sem Value) (f:F2):Prop:=∃ r,OpR X g r/\OpS T f r
variable {a b c:Expr} {sa sb sc:SE}
theorem two {f:F2} {r:R2} (hs:OpS T f r) {σ:St} {H:Hp} {Q:VK} (q:tE T E (sOp2 f sa sb) σ H Q):tOp r (tE T E sa) (tE T E sb) σ H Q:=by
 obtain ⟨ι,h,en,S,er,q⟩:=q
 refine ⟨ι,h,en,S,er,q.bind fun x h1 ι1 H1 u g1 S1 r1 q1=>⟨ι1,h1,en,S1,er.mono g1,q1.bind fun y h2 ι2 H2 w g2 S2 r2 q2=>?_⟩⟩
 exact hs ι2 h2 H2 x y u w _ Q S2 (r1.mono g2) r2 q2
theorem yam {op:Operator} {f:F2} (ho:Op T X (binaryOp op) f) (ha:PEA T E X a sa) (hb:PEA T E X b sb):PEA T E X (.BinOp a op b pos) (sOp2 f sa sb):=by
 obtain ⟨r,h1,h2⟩:=ho
 exact yaR (yh0 h1 ha hb) fun σ H Q q=>two h2 q
theorem ziM {i j:Str} (hi:i.cps.all (· < 0x110000)=true) (hj:j.cps.all (· < 0x110000)=true):(i++j).cps.all (· < 0x110000)=true:=by
 show (i.cps++j.cps).all _=true
 rw [Array.all_append,hi,hj];rfl
theorem zeQ (i j:Str):(i++j).length=i.length+j.length:=by
 show (i.cps++j.cps).size=_
 rw [Array.size_append];rfl
theorem yaV (hK:X.K=T.K):Op T X (binaryOp .Add) fAdd:=by
 refine ⟨_,op_add.or (zf1.or (ziv.or ziI)),fun ι h H x y u w E Q S rx ry p=>?_⟩
 unfold fAdd at p
 split at p
 ·rw [yaK rx,yaK ry]
  exact .inl ⟨_,_,rfl,rfl,p.now S (.int _)⟩
 ·split at p
  ·rename_i hz
   obtain ⟨rfl,_,o1⟩:=ybr rx
   obtain ⟨rfl,_,o2⟩:=ybr ry
   exact .inr (.inl ⟨_,_,rfl,rfl,hz,p.now S (.str (by rw [zeQ];exact hz) (ziM o1 o2))⟩)
  ·exact p.elim
 ·split at p
  ·rename_i hz
   obtain ⟨a,us,rfl,q1,r1⟩:=ydK rx
   obtain ⟨b,ws,rfl,q2,r2⟩:=ydK ry
   refine .inr (.inr (.inl ⟨a,b,us,ws,rfl,rfl,hK▸q1,hK▸q2,fun z=>hz.1 ?_,by rw [<- r1.length,<- r2.length];exact hz.2,fun z=>?_,fun _ l n=>zc3 S (r1.append r2) n p⟩))
   ·subst z;cases r1;rfl
   ·subst z;cases r2
    rw [List.append_nil] at p
    exact p.now S rx
  ·exact p.elim
 ·split at p
  ·split at p
   ·rename_i e1 e2 hz
    obtain ⟨a,us,rfl,q1,r1⟩:=ybU S rx e1
    obtain ⟨b,ws,rfl,q2,r2⟩:=ybU S ry e2
    exact .inr (.inr (.inr ⟨a,b,us,ws,rfl,rfl,hK▸q1,hK▸q2,by rw [<- r1.length,<- r2.length];exact hz,fun l n=>yeu S (r1.append r2) n p⟩))
   ·exact p.elim
  ·exact p.elim
theorem yc7:Op T X (binaryOp .Sub) fSub:=by
 refine ⟨_,ygF,fun ι h H x y u w E Q S rx ry p=>?_⟩
 unfold fSub at p
 split at p
 ·rw [yaK rx,yaK ry]
  exact ⟨_,_,rfl,rfl,p.now S (.int _)⟩
 ·exact p.elim
theorem zfh {i:Int} (h:i.natAbs<2 ^ 4000):Builtin.Int.intBits i<=2 ^ 20:=by
 unfold Builtin.Int.intBits
 split
 ·exact Nat.zero_le _
 ·rename_i hz
  have h0:i.natAbs≠0:=fun z=>hz (by simpa using z)
  have:i.natAbs.log2<4000:=(Nat.log2_lt h0).mpr h
  exact Nat.le_trans (by omega:i.natAbs.log2+1<=4001) (by decide)
theorem yc8:Op T X (binaryOp .Mult) fMul:=by
 refine ⟨_,zhw,fun ι h H x y u w E Q S rx ry p=>?_⟩
 unfold fMul at p
 split at p
 ·split at p
  ·rename_i hz
   rw [yaK rx,yaK ry]
   exact ⟨_,_,rfl,rfl,hz.elim (fun z=>CMul.ok (z.elim (fun z=>.inl ⟨by omega,by omega⟩) (fun z=>.inr ⟨by omega,by omega⟩))) (fun z=>.of_bits (zfh z.1) (zfh z.2)),p.now S (.int _)⟩
  ·exact p.elim
 ·exact p.elim
theorem yf9:Op T X (binaryOp .FloorDiv) fDiv:=by
 refine ⟨_,zhv,fun ι h H x y u w E Q S rx ry p=>?_⟩
 unfold fDiv at p
 split at p
 ·split at p
  ·rename_i hz
   rw [yaK rx,yaK ry]
   exact ⟨_,_,rfl,rfl,⟨hz.1,by omega⟩,p.now S (.int _)⟩
  ·exact p.elim
 ·exact p.elim
theorem ydR:Op T X (binaryOp .Mod) fMod:=by
 refine ⟨_,ygG,fun ι h H x y u w E Q S rx ry p=>?_⟩
 unfold fMod at p
 split at p
 ·split at p
  ·rename_i hz
   rw [yaK rx,yaK ry]
   exact ⟨_,_,rfl,rfl,hz,p.now S (.int _)⟩
  ·exact p.elim
 ·exact p.elim
theorem yc9:Op T X (binaryOp .Pow) fPow:=by
 refine ⟨_,ygH,fun ι h H x y u w E Q S rx ry p=>?_⟩
 unfold fPow at p
 split at p
 ·split at p
  ·rename_i hz
   rw [yaK rx,yaK ry]
   exact ⟨_,_,rfl,rfl,hz,p.now S (.int _)⟩
  ·exact p.elim
 ·exact p.elim
theorem yed (ha:PEA T E X a sa):PEA T E X (.UnaryOp .USub a pos) (sOp1 fNeg sa) :=
 yaR (yh1 ygI ha) fun σ H Q ⟨ι,h,en,S,er,q⟩=>⟨ι,h,en,S,er,q.bind fun x h1 ι1 H1 u g1 S1 r1 q1=>by
  unfold fNeg at q1
  split at q1
  ·rw [yaK r1]
   exact ⟨_,rfl,q1.now S1 (.int _)⟩
  ·exact q1.elim⟩
theorem zgO {ds:List PyData} (h:∀ d∈ds,d.canLay0=true):PyData.canLayAll0 ds=true:=by
 induction ds with
 | nil=>rfl
 | cons d r ih=>show (d.canLay0 && PyData.canLayAll0 r)=true;rw [h d (by simp),ih fun e he=>h e (by simp [he])];rfl
theorem zeR {n:Nat} {ds:List PyData} (h:∀ d∈ds,d.depth<=n):PyData.depthAll ds<=n:=by
 induction ds with
 | nil=>exact Nat.zero_le _
 | cons d r ih=>show max d.depth (PyData.depthAll r)<=n;have:=h d (by simp);have:=ih fun e he=>h e (by simp [he]);omega
section
variable {ι:Ix} {h:AH} {H:Hp}
theorem zbr {f:AV->Option PyData} {n:Nat} (hf:∀ {x:AV} {u:V} {d:PyData},RV T ι H x u->f x=some d->DaV T.K H u d/\d.canLay0=true/\d.depth<=n) :
  ∀ {xs:List AV} {us:List V} {ds:List PyData},RVs T ι H xs us->toDs f xs=some ds->DaVs T.K H us ds/\∀ d∈ds,d.canLay0=true/\d.depth<=n
 | _,_,ds,.nil,e=>by cases e;exact ⟨.nil,by simp⟩
 | _,_,ds,.cons (x:=x) (xs:=xs) r rs,e=>by
  unfold toDs at e
  split at e
  ·rename_i d ds' e1 e2
   cases e
   obtain ⟨q1,q2⟩:=hf r e1
   obtain ⟨q3,q4⟩:=zbr hf rs e2
   refine ⟨.cons q1 q3,fun d hd=>?_⟩
   rcases List.mem_cons.mp hd with rfl | hd
   ·exact q2
   ·exact q4 d hd
  ·cases e
theorem ycC (S:Sim T ι h H):∀ (n:Nat) {x:AV} {u:V} {d:PyData},RV T ι H x u->toD n h x=some d->DaV T.K H u d/\d.canLay0=true/\d.depth<=n
 | 0,x,u,d,r,e=>by
  unfold toD at e
  cases r with
  | non=>cases e;exact ⟨.non,rfl,Nat.le_refl _⟩
  | bl b=>cases e;exact ⟨.bl b,rfl,Nat.le_refl _⟩
  | int b=>cases e;exact ⟨.int b,rfl,Nat.le_refl _⟩
  | str a b=>cases e;exact ⟨.str _,b,Nat.le_refl _⟩
  | _=>cases e
 | n+1,x,u,d,r,e=>by
  unfold toD at e
  have many:∀ {xs:List AV} {us:List V} {ds:List PyData},RVs T ι H xs us->toDs (toD n h) xs=some ds->DaVs T.K H us ds/\∀ d∈ds,d.canLay0=true/\d.depth<=n:=fun r e=>zbr (fun r e=>ycC S n r e) r e
  have fin:∀ {ds:List PyData},(∀ d∈ds,d.canLay0=true/\d.depth<=n)->PyData.canLayAll0 ds=true/\PyData.depthAll ds+1<=n+1:=fun q=>⟨zgO fun d hd=>(q d hd).1,Nat.succ_le_succ (zeR fun d hd=>(q d hd).2)⟩
  cases r with
  | non=>cases e;exact ⟨.non,rfl,Nat.zero_le _⟩
  | bl b=>cases e;exact ⟨.bl b,rfl,Nat.zero_le _⟩
  | int b=>cases e;exact ⟨.int b,rfl,Nat.zero_le _⟩
  | str a b=>cases e;exact ⟨.str _,b,Nat.zero_le _⟩
  | tup k q r =>
   obtain ⟨ds,e1,rfl⟩:=Option.map_eq_some_iff.mp e
   obtain ⟨q1,q2⟩:=many r e1
   exact ⟨.tup (.of q) q1,fin q2⟩
  | fl k q r =>
   obtain ⟨ds,e1,rfl⟩:=Option.map_eq_some_iff.mp e
   obtain ⟨q1,q2⟩:=many r e1
   exact ⟨.lst (.inl q) q1,fin q2⟩
  | kfl q r =>
   obtain ⟨ds,e1,rfl⟩:=Option.map_eq_some_iff.mp e
   obtain ⟨q1,q2⟩:=many r e1
   exact ⟨.lst (.inr q) q1,fin q2⟩
  | @ref k a q =>
   dsimp only at e
   split at e
   ·rename_i ys hk
    obtain ⟨ds,e1,rfl⟩:=Option.map_eq_some_iff.mp e
    obtain ⟨u,e2,us,rfl,r⟩:=S.obj k _ a hk q
    obtain ⟨q1,q2⟩:=many r e1
    exact ⟨.lst (.inl (.inl e2)) q1,fin q2⟩
   ·cases e
  | exc _ _ _=>cases e
end
theorem yg4 {i j:Int}:decide (V.int i=V.int j)=decide (i=j):=by rw [Bool.eq_iff_iff];simp
theorem yg5 {i j:Str}:decide (V.str i=V.str j)=decide (i=j):=by rw [Bool.eq_iff_iff];simp
theorem yii {i j:Bool}:decide (V.bl i=V.bl j)=decide (i=j):=by rw [Bool.eq_iff_iff];simp
theorem zfi {r:R2} {neg:Bool} (ho:OpR X g r) (h1:∀ x y H Q,(scal x y=true/\Q (.bl (if neg then !decide (x=y) else decide (x=y))) H)->r x y H Q)
  (h2:∀ x y H Q,(∃ d e,DaV T.K H x d/\DaV T.K H y e/\d.canLay0=true/\e.canLay0=true/\d.depth<=60/\Q (.bl (if neg then !PyData.eqv d e else PyData.eqv d e)) H)->r x y H Q) :
  OpS T (fun x y h=>match eqA x y h with | some b=>.ok (.bl (if neg then !b else b)) h | none=>.bad) r:=by
 intro ι h H x y u w E Q S rx ry p
 dsimp only at p
 cases hb:eqA x y h with
 | none=>rw [hb] at p;exact p.elim
 | some b =>
  rw [hb] at p
  dsimp only at p
  unfold eqA at hb
  split at hb
  ·cases hb
   rw [yaK rx,yaK ry]
   exact h1 _ _ _ _ ⟨rfl,by rw [yg4];exact p.now S (.bl _)⟩
  ·cases hb
   obtain ⟨rfl,_⟩:=ybr rx
   obtain ⟨rfl,_⟩:=ybr ry
   exact h1 _ _ _ _ ⟨rfl,by rw [yg5];exact p.now S (.bl _)⟩
  ·cases hb
   rw [ycB rx,ycB ry]
   exact h1 _ _ _ _ ⟨rfl,by rw [yii];exact p.now S (.bl _)⟩
  ·cases hb
   rw [yd6 rx,yd6 ry]
   exact h1 _ _ _ _ ⟨rfl,by rw [show decide (V.non=V.non)=true from rfl];exact p.now S (.bl _)⟩
  ·split at hb
   ·rename_i d e e1 e2
    cases hb
    obtain ⟨q1,q2,q3⟩:=ycC S 8 rx e1
    obtain ⟨q4,q5,q6⟩:=ycC S 8 ry e2
    exact h2 _ _ _ _ ⟨d,e,q1,q4,q2,q5,by omega,p.now S (.bl _)⟩
   ·cases hb
theorem o_eq (hK:X.K=T.K) (hu:X.A.units+64<cLine):Op T X (compareOp .Eq) fEq :=
 ⟨_,op_eq.or (yfB hu),zfi (neg:=false) (op_eq.or (yfB hu)) (fun _ _ _ _ q=>.inl q) fun _ _ _ _ q=>.inr (hK▸q)⟩
theorem o_ne (hK:X.K=T.K) (hu:X.A.units+64<cLine):Op T X (compareOp .NotEq) fNe :=
 ⟨_,op_ne.or (yfC hu),zfi (neg:=true) (op_ne.or (yfC hu)) (fun _ _ _ _ q=>.inl q) fun _ _ _ _ q=>.inr (hK▸q)⟩
theorem o_lt:Op T X (compareOp .Lt) fLt:=by
 refine ⟨_,op_lt.or zgs,fun ι h H x y u w E Q S rx ry p=>?_⟩
 unfold fLt at p
 split at p
 ·rw [yaK rx,yaK ry]
  exact .inl ⟨_,_,rfl,rfl,p.now S (.bl _)⟩
 ·obtain ⟨rfl,_⟩:=ybr rx
  obtain ⟨rfl,_⟩:=ybr ry
  exact .inr ⟨_,_,rfl,rfl,p.now S (.bl _)⟩
 ·exact p.elim
theorem o_le:Op T X (compareOp .LtE) fLe:=by
 refine ⟨_,op_le.or zgG,fun ι h H x y u w E Q S rx ry p=>?_⟩
 unfold fLe at p
 split at p
 ·rw [yaK rx,yaK ry]
  exact .inl ⟨_,_,rfl,rfl,p.now S (.bl _)⟩
 ·obtain ⟨rfl,_⟩:=ybr rx
  obtain ⟨rfl,_⟩:=ybr ry
  exact .inr ⟨_,_,rfl,rfl,p.now S (.bl _)⟩
 ·exact p.elim
theorem o_gt:Op T X (compareOp .Gt) fGt:=by
 refine ⟨_,yh2,fun ι h H x y u w E Q S rx ry p=>?_⟩
 unfold fGt at p
 split at p
 ·rw [yaK rx,yaK ry]
  exact ⟨_,_,rfl,rfl,p.now S (.bl _)⟩
 ·exact p.elim
theorem o_ge:Op T X (compareOp .GtE) fGe:=by
 refine ⟨_,yh3,fun ι h H x y u w E Q S rx ry p=>?_⟩
 unfold fGe at p
 split at p
 ·rw [yaK rx,yaK ry]
  exact ⟨_,_,rfl,rfl,p.now S (.bl _)⟩
 ·exact p.elim
theorem RV.non_iff {ι:Ix} {H:Hp} {x:AV} {u:V} (r:RV T ι H x u):decide (x = .non)=decide (u = .non):=by
 exact decide_eq_decide.mpr ⟨fun z=>by subst z;cases r;rfl,fun z=>by subst z;cases r;rfl⟩
theorem yij:Op T X (compareOp .Is) fIsN:=by
 refine ⟨_,ygJ,fun ι h H x y u w E Q S rx ry p=>?_⟩
 unfold fIsN at p
 split at p
 ·refine ⟨yd6 ry,?_⟩
  rw [<- rx.non_iff]
  exact p.now S (.bl _)
 ·exact p.elim
theorem yg6:Op T X (compareOp .IsNot) yeb:=by
 refine ⟨_,zim,fun ι h H x y u w E Q S rx ry p=>?_⟩
 unfold yeb at p
 split at p
 ·refine ⟨yd6 ry,?_⟩
  rw [<- rx.non_iff]
  exact p.now S (.bl _)
 ·exact p.elim
theorem yev {op:CmpOp} {f:F2} (ho:Op T X (compareOp op) f) (ha:PEA T E X a sa) (hb:PEA T E X b sb) (hm:behindInMarks op b=false):PEA T E X (.Compare a [op] [b] pos) (sOp2 f sa sb):=by
 obtain ⟨r,h1,h2⟩:=ho
 exact yaR (zin h1 ha hb hm) fun σ H Q q=>two h2 q
theorem yat {op:CmpOp} {f:F2} (ho:Op T X (compareOp op) f) (ha:PEA T E X a sa) (hb:PEA T E X b sb) (hm:behindInMarks op b=false):PTA T E X (.Compare a [op] [b] pos) (yau (sOp2 f sa sb)):=by
 obtain ⟨r,h1,h2⟩:=ho
 refine ye1 (zio h1 ha hb hm) fun σ H Q q=>two (E:=E) (Q:=fun x H' => ∃ k,x=V.bl k/\Q k H') h2 ?_
 obtain ⟨ι,h,en,S,er,q⟩:=q
 refine ⟨ι,h,en,S,er,q.bind fun x h1 ι1 H1 u g1 S1 r1 q1=>?_⟩
 split at q1
 ·rw [ycB r1]
  exact ⟨_,rfl,q1.now S1 rfl⟩
 ·exact q1.elim
theorem yik {f f':F2} {r r':R2} (hs:OpS T f r) (hs':OpS T f' r') {σ:St} {H:Hp} {Q:VK} (q:tE T E (yd5 f f' sa sb sc) σ H Q):yfu r r' (tE T E sa) (tE T E sb) (tE T E sc) σ H Q:=by
 obtain ⟨ι,h,en,S,er,q⟩:=q
 refine ⟨ι,h,en,S,er,q.bind fun x h1 ι1 H1 u g1 S1 r1 q1=>⟨ι1,h1,en,S1,er.mono g1,q1.bind fun y h2 ι2 H2 w g2 S2 r2 q2=>?_⟩⟩
 refine hs ι2 h2 H2 x y u w (E σ) _ S2 (r1.mono g2) r2 (q2.bind fun z h3 ι3 H3 k g3 S3 r3 q3=>?_)
 split at q3
 ·rename_i kk
  rw [ycB r3]
  refine ⟨kk,rfl,?_⟩
  by_cases hkk:kk=true
  ·rw [if_pos hkk] at q3 ⊢
   refine ⟨ι3,h3,en,S3,er.mono (g1.trans (g2.trans g3)),q3.bind fun v h4 ι4 H4 j g4 S4 r4 q4=>?_⟩
   exact hs' ι4 h4 H4 y v w j _ Q S4 (r2.mono (g3.trans g4)) r4 q4
  ·rw [if_neg hkk] at q3 ⊢
   exact q3.now S3 (.bl _)
 ·exact q3.elim
theorem zc4 {op op':CmpOp} {f f':F2} (ho:Op T X (compareOp op) f) (ho':Op T X (compareOp op') f') (ha:PEA T E X a sa) (hb:PEA T E X b sb) (hc:PEA T E X c sc) (hm:lastMarks [op,op'] [b,c]=false:=by with_unfolding_all rfl) :
  PEA T E X (.Compare a [op,op'] [b,c] pos) (yd5 f f' sa sb sc):=by
 obtain ⟨r,h1,h2⟩:=ho
 obtain ⟨r',h1',h2'⟩:=ho'
 exact yaR (zhd h1 h1' ha hb hc hm) fun σ H Q q=>yik h2 h2' q
theorem yg7 {ι:Ix} {h:AH} {H:Hp} {v:AV} {u:V} {k:Bool} (S:Sim T ι h H) (r:RV T ι H v u) (e:truA v h=some k):TruV T.K u H k:=by
 unfold truA at e
 cases r with
 | non=>cases e;rfl
 | bl b=>cases e;rfl
 | int b=>cases e;rfl
 | str n o=>cases e;exact ⟨n,rfl⟩
 | tup n q r=>cases e;exact .inr (.inl ⟨_,.of q,by cases r<;>rfl⟩)
 | fl n q r=>cases e;exact .inl ⟨_,.inl q,by cases r<;>rfl⟩
 | kfl q r=>cases e;exact .inl ⟨_,.inr q,by cases r<;>rfl⟩
 | @ref n a q =>
  dsimp only at e
  split at e
  ·rename_i xs hk
   cases e
   obtain ⟨u,e1,us,rfl,r⟩:=S.obj n _ a hk q
   exact .inl ⟨us,.inl (.inl e1),by cases r<;>rfl⟩
  ·rename_i xs hk
   cases e
   obtain ⟨u,e1,us,rfl,r⟩:=S.obj n _ a hk q
   exact .inr (.inr ⟨us,e1,by cases r<;>rfl⟩)
  ·cases e
 | exc _ _ _=>cases e
theorem zas (hK:X.K=T.K) (ha:PEA T E X a sa) (he:∀ whole,isTrue a X.env whole=(do let v <- whole;standAt a.pos;holding [v] (truthy v)):=by intro _;rfl):PTA T E X a (ybI sa) :=
 ye1 (zhe ha he) fun σ H Q ⟨ι,h,en,S,er,q⟩=>⟨ι,h,en,S,er,q.bind fun x h1 ι1 H1 u g1 S1 r1 q1=>by
  split at q1
  ·rename_i b hb
   exact ⟨b,hK▸yg7 S1 r1 hb,q1.now S1 rfl⟩
  ·exact q1.elim⟩
variable {ca cb:SB} {rest:List Expr}
theorem yb7 (ha:PTA T E X a ca):PTA T E X (.UnaryOp .Not a pos) (sNot ca) :=
 ye1 (ygv ha) fun σ H Q ⟨ι,h,en,S,er,q⟩=>⟨ι,h,en,S,er,q.bind fun x h1 ι1 H1 u g1 S1 r1 q1=>by subst r1;exact q1.now S1 rfl⟩
theorem rt_w (h:PWA T E X a ca):PTA T E X a ca:=PW.pt h
theorem zfj (ha:PTA T E X a ca):PWA T E X (.BoolOp .And [a] pos) ca:=zig ha
theorem ydL (ha:PTA T E X a ca):PWA T E X (.BoolOp .Or [a] pos) ca:=ygt ha
theorem ye6 (ha:PTA T E X a ca) (hb:PWA T E X (.BoolOp .And (b::rest) pos) cb):PWA T E X (.BoolOp .And (a::b::rest) pos) (sAnd ca cb) :=
 yfE (ygu ha hb) fun σ H Q ⟨ι,h,en,S,er,q⟩=>⟨ι,h,en,S,er,q.bind fun x h1 ι1 H1 u g1 S1 r1 q1=>by
  subst r1
  by_cases hx:x=true
  ·rw [if_pos hx] at q1 ⊢
   exact ⟨ι1,h1,en,S1,er.mono g1,q1⟩
  ·rw [if_neg hx] at q1 ⊢
   exact q1.now S1 rfl⟩
theorem yee (ha:PTA T E X a ca) (hb:PWA T E X (.BoolOp .Or (b::rest) pos) cb):PWA T E X (.BoolOp .Or (a::b::rest) pos) (sOr ca cb) :=
 yfE (yhS ha hb) fun σ H Q ⟨ι,h,en,S,er,q⟩=>⟨ι,h,en,S,er,q.bind fun x h1 ι1 H1 u g1 S1 r1 q1=>by
  subst r1
  by_cases hx:x=true
  ·rw [if_pos hx] at q1 ⊢
   exact q1.now S1 rfl
  ·rw [if_neg hx] at q1 ⊢
   exact ⟨ι1,h1,en,S1,er.mono g1,q1⟩⟩
theorem ydS {op} (h:PEA T E X a sa):PEA T E X (.BoolOp op [a] pos) sa:=ygw h
theorem yef (ha:PEA T E X a sa) (hb:PEA T E X (.BoolOp .And (b::rest) pos) sb):PEA T E X (.BoolOp .And (a::b::rest) pos) (ydQ sa sb) :=
 yaR (ygx ha hb) fun σ H Q ⟨ι,h,en,S,er,q⟩=>⟨ι,h,en,S,er,q.bind fun x h1 ι1 H1 u g1 S1 r1 q1=>by
  split at q1
  ·rename_i kk
   rw [ycB r1]
   refine ⟨kk,rfl,?_⟩
   by_cases hkk:kk=true
   ·rw [if_pos hkk] at q1 ⊢
    exact ⟨ι1,h1,en,S1,er.mono g1,q1⟩
   ·rw [if_neg hkk] at q1 ⊢
    exact q1.now S1 (.bl _)
  ·exact q1.elim⟩
theorem r_or (ha:PEA T E X a sa) (hb:PEA T E X (.BoolOp .Or (b::rest) pos) sb):PEA T E X (.BoolOp .Or (a::b::rest) pos) (sOrV sa sb) :=
 yaR (yhV ha hb) fun σ H Q ⟨ι,h,en,S,er,q⟩=>⟨ι,h,en,S,er,q.bind fun x h1 ι1 H1 u g1 S1 r1 q1=>by
  split at q1
  ·rename_i kk
   rw [ycB r1]
   refine ⟨kk,rfl,?_⟩
   by_cases hkk:kk=true
   ·rw [if_pos hkk] at q1 ⊢
    exact q1.now S1 (.bl _)
   ·rw [if_neg hkk] at q1 ⊢
    exact ⟨ι1,h1,en,S1,er.mono g1,q1⟩
  ·exact q1.elim⟩
theorem yil (ha:PEA T E X a sa):PEA T E X (.UnaryOp .Not a pos) (yf8 sa) :=
 yaR (ygy ha) fun σ H Q ⟨ι,h,en,S,er,q⟩=>⟨ι,h,en,S,er,q.bind fun x h1 ι1 H1 u g1 S1 r1 q1=>by
  split at q1
  ·rw [ycB r1]
   exact ⟨_,rfl,q1.now S1 (.bl _)⟩
  ·exact q1.elim⟩
theorem yim {d:Expr} (hc:PTA T E X d ca) (ha:PEA T E X a sa) (hb:PEA T E X b sb):PEA T E X (.IfExp d a b pos) (sIfE ca sa sb) :=
 yaR (zg9 hc ha hb) fun σ H Q ⟨ι,h,en,S,er,q⟩=>⟨ι,h,en,S,er,q.bind fun x h1 ι1 H1 u g1 S1 r1 q1=>by
  subst r1
  by_cases hx:x=true
  ·rw [if_pos hx] at q1 ⊢
   exact ⟨ι1,h1,en,S1,er.mono g1,q1⟩
  ·rw [if_neg hx] at q1 ⊢
   exact ⟨ι1,h1,en,S1,er.mono g1,q1⟩⟩
variable {es:List Expr} {as:SL}
theorem yac:PAA T E X [] sNil:=yfF yd2 fun σ H Q ⟨ι,h,en,S,er,q⟩=>q.now S .nil
theorem zaa (ha:PEA T E X a sa) (hr:PAA T E X es as) (hs:starEach (a::es) X.env=(false,eval a X.env)::starEach es X.env:=by rfl):PAA T E X (a::es) (yab sa as) :=
 yfF (zaN ha hr hs) fun σ H Q ⟨ι,h,en,S,er,q⟩=>⟨ι,h,en,S,er,q.bind fun x h1 ι1 H1 u g1 S1 r1 q1=>⟨ι1,h1,en,S1,er.mono g1,q1.bind fun xs h2 ι2 H2 us g2 S2 r2 q2=>q2.now S2 (.cons (r1.mono g2) r2)⟩⟩
theorem yeQ {k} (h:PAA T E X es as):PEA T E X (.Tuple es k pos) (sTup as) :=
 yaR (yfv h) fun σ H Q ⟨ι,h,en,S,er,q⟩=>⟨ι,h,en,S,er,q.bind fun xs h1 ι1 H1 us g1 S1 r1 q1=>by
  split at q1
  ·rename_i hl
   exact ⟨by rw [<- r1.length];exact Nat.le_trans hl (by decide),fun p n=>zc3 S1 r1 n q1⟩
  ·exact q1.elim⟩
theorem ybs (h:PAA T E X es as):PEA T E X (.List es pos) (sLst as) :=
 yaR (yfw h) fun σ H Q ⟨ι,h,en,S,er,q⟩=>⟨ι,h,en,S,er,q.bind fun xs h1 ι1 H1 us g1 S1 r1 q1=>by
  split at q1
  ·rename_i hl
   exact ⟨by rw [<- r1.length];exact Nat.le_trans hl (by decide),fun p n=>yeu S1 r1 n q1⟩
  ·exact q1.elim⟩
theorem ybL (h:PAA T E X es as):PEA T E X (.List es pos) (ybH as) :=
 yaR (yfw h) fun σ H Q ⟨ι,h,en,S,er,q⟩=>⟨ι,h,en,S,er,q.bind fun xs h1 ι1 H1 us g1 S1 r1 q1=>by
  split at q1
  ·rename_i hl
   exact ⟨by rw [<- r1.length];exact Nat.le_trans hl (by decide),fun p n=>ziK S1 r1 n q1⟩
  ·exact q1.elim⟩
theorem ziN:PEA T E X (.Dict [] [] pos) (yeN false) :=
 yaR zho fun σ H Q ⟨ι,h,en,S,er,q⟩ p n=>q _ _ _ (S.growAdd n) (S.add n ⟨[],rfl,.nil⟩) (.ref S.addAt)
theorem ziO:PEA T E X (.Dict [] [] pos) (yeN true) :=
 yaR zhp fun σ H Q ⟨ι,h,en,S,er,q⟩ p n=>q _ _ _ (S.growAdd n) (S.add n ⟨[],rfl,.nil⟩) (.ref S.addAt)
end
end Sm
namespace Sm
open PySem L2
section
variable {T:Tb} {E:St->XK} {X:Cx} {pos:Pos} {a b:Expr} {sa sb:SE} {ca:SB} {st:Stmt} {sts ss1 ss2:List Stmt} {s1 s2:SS}
theorem yaw:PSsA T E X [] yaD:=zfg zih fun D σ H ⟨ι,h,en,S,er,q⟩=>q ι H σ S.refl S er
theorem zab (h1:PSA T E X st s1) (h2:PSsA T E X sts s2):PSsA T E X (st::sts) (sSeq s1 s2) :=
 zfg (zha h1 h2) fun D σ H ⟨ι,h,en,S,er,q⟩=>by
  refine ⟨ι,h,en,S,er,?_⟩
  unfold sSeq at q
  cases e:s1 en h with
  | nx e1 h1 =>
   rw [e] at q
   exact fun ι' H' σ' g S' er' => ⟨ι',h1,e1,S',er',q.shift g⟩
  | rt v h1=>rw [e] at q;exact q
  | bk e1 h1=>rw [e] at q;exact q
  | ct e1 h1=>rw [e] at q;exact q
  | ex c e1 h1=>rw [e] at q;exact q
  | bad=>rw [e] at q;exact q
theorem yad (h1:PSA T E X st s1):PSsA T E X [st] s1:=zii h1
theorem yaH (ha:PEA T E X a sa) (hs:swapsWith a none pos.line X.env=pure false:=by rfl):PSA T E X (.Expr a pos) (yaQ sa) :=
 ybZ (zij ha hs) fun D σ H ⟨ι,h,en,S,er,q⟩=>⟨ι,h,en,S,er,q.go er fun v h1 ι1 H1 u g1 S1 r1 q1=>q1 ι1 H1 σ S1.refl S1 (er.mono g1)⟩
theorem yak (ha:PEA T E X a sa):PSA T E X (.Return (some a) pos) (sRet sa) :=
 ybZ (ygz ha) fun D σ H ⟨ι,h,en,S,er,q⟩=>⟨ι,h,en,S,er,q.go er fun v h1 ι1 H1 u g1 S1 r1 q1=>q1 ι1 H1 u S1.refl S1 r1⟩
theorem r_if (hc:PTA T E X a ca) (h1:PSsA T E X ss1 s1) (h2:PSsA T E X ss2 s2):PSA T E X (.If a ss1 ss2 pos) (sIf ca s1 s2) :=
 ybZ (yhY hc h1 h2) fun D σ H ⟨ι,h,en,S,er,q⟩=>⟨ι,h,en,S,er,q.go er fun x h1 ι1 H1 u g1 S1 r1 q1=>by
  subst r1
  by_cases hx:x=true
  ·rw [if_pos hx] at q1 ⊢
   exact ⟨ι1,h1,en,S1,er.mono g1,q1⟩
  ·rw [if_neg hx] at q1 ⊢
   exact ⟨ι1,h1,en,S1,er.mono g1,q1⟩⟩
theorem yfG {σ:St} {H:Hp} {D:Ends} {i:Nat} (q:tS T E (sSet i sa) D σ H):tAsg (tE T E sa) (yeK i) D σ H:=by
 obtain ⟨ι,h,en,S,er,q⟩:=q
 exact ⟨ι,h,en,S,er,q.go er fun v h1 ι1 H1 u g1 S1 r1 q1=>q1 ι1 H1 _ S1.refl S1 ((er.mono g1).set r1 i)⟩
theorem yan {i:Nat} {x:Str} {p':Pos} (hN:X.N.Nodup) (ha:PEA T E X a sa) (hi:X.N[i]? = some x:=by rfl) (hx:Loc X.env.scope x:=by first | exact Or.inl rfl | exact Or.inr rfl) (hs:swapsWith a (some (.Name x p')) pos.line X.env=pure false:=by rfl)
  (hf:X.fn x=true\/X.env.scope.names.lookup x=some .local:=by first | exact .inl rfl | exact .inr rfl | assumption):PSA T E X (.Assign [.Name x p'] a pos) (sSet i sa) :=
 ybZ (ygC hN hi hx ha hs hf) fun D σ H q=>yfG q
theorem zbs (n:Nat) (hc:PTA T EN X.nox a ca) (hb:PSsA T EN X.nox sts s1):PSA T E X (.While a sts [] pos) (yav ca s1 n) :=
 ybZ (ye2 (zhb PassesOwn.never hc hb)) fun D σ H ⟨ι,h,en,S,er,q⟩=>by
  refine ⟨fun m σ H=>∃ ι h en,Sim T ι h H/\ER T ι H en σ/\PostS T ι H E (yav ca s1 m en h) D,⟨n,ι,h,en,S,er,q⟩,?_⟩
  rintro m σ H ⟨ι,h,en,S,er,q⟩
  cases m with
  | zero=>exact (show False from q).elim
  | succ m =>
   unfold yav at q
   refine ⟨ι,h,en,S,er,?_⟩
   cases e:ca en h with
   | bad=>rw [e] at q;exact q
   | ex c h1=>rw [e] at q;exact (show False from q).elim
   | ok x h1 =>
    rw [e] at q
    intro ι1 H1 u g1 S1 r1
    subst r1
    have q1:=PostS.shift q g1
    cases x with
    | true =>
     rw [if_pos rfl]
     refine ⟨fun σ H=>∃ ι h en,Sim T ι h H/\ER T ι H en σ/\PostS T ι H E (yav ca s1 m en h) D,fun σ' H' w=>⟨m,Nat.lt_succ_self m,w⟩,ι1,h1,en,S1,er.mono g1,?_⟩
     dsimp only at q1
     cases e2:s1 en h1 with
     | nx e3 h3=>rw [e2] at q1;exact fun ι2 H2 σ2 g2 S2 er2=>⟨ι2,h3,e3,S2,er2,q1.shift g2⟩
     | ct e3 h3=>rw [e2] at q1;exact fun ι2 H2 σ2 g2 S2 er2=>⟨ι2,h3,e3,S2,er2,q1.shift g2⟩
     | bk e3 h3=>rw [e2] at q1;exact q1
     | rt v h3=>rw [e2] at q1;exact q1
     | ex c e3 h3=>rw [e2] at q1;exact (show False from q1).elim
     | bad=>rw [e2] at q1;exact q1
    | false =>
     rw [if_neg Bool.false_ne_true]
     exact q1 ι1 H1 σ S1.refl S1 (er.mono g1)
def PGA (T:Tb) (X:Cx) (tg:Expr) (t:Tg):Prop:=∃ g,PG X tg g/\∀ {ι:Ix} {h:AH} {H:Hp} {en e:En} {σ:St} {v:AV} {u:V} {Q:St->Hp->Prop},Sim T ι h H->ER T ι H en σ->RV T ι H v u->setT t v en=some e ->
 (∀ σ',ER T ι H e σ'->Q σ' H)->g u σ H Q
theorem zaH {i:Nat} {x:Str} (hN:X.N.Nodup) (hi:X.N[i]? = some x:=by rfl) (hx:Loc X.env.scope x:=by first | exact Or.inl rfl | exact Or.inr rfl) (hf:X.fn x=true\/X.env.scope.names.lookup x=some .local:=by first | exact .inl rfl | exact .inr rfl | assumption) :
  PGA T X (.Name x pos) (.nm i):=⟨_,zik hN hi hx hf,fun S er r e k=>by cases e;exact k _ (er.set r i)⟩
structure ItR (T:Tb) (J:It) (ι:Ix) (H:Hp) (xs:List AV) (w:Option Nat):Prop where
 go:∀ (i:Nat) (ι':Ix) (h':AH) (H':Hp) (x:AV),Ext ι H ι' H'->Sim T ι' h' H'->ybj w xs h'=true->xs[i]? = some x->J.go i H'/\∀ u H2,J.yld i H' u H2->Grow ι' H' ι' H2/\Sim T ι' h' H2/\RV T ι' H2 x u
 stop:∀ (i:Nat) (ι':Ix) (h':AH) (H':Hp),Ext ι H ι' H'->Sim T ι' h' H'->ybj w xs h'=true->xs.length<=i->J.stop i H'
def tI (T:Tb) (it:SI):TI:=fun σ H R=>∃ ι h en,Sim T ι h H/\ER T ι H en σ/\match it en h with
 | .ok (xs,w) h' => ∀ ι' H' J,Grow ι H ι' H'->Sim T ι' h' H'->ItR T J ι' H' xs w->R J H'
 | _=>False
abbrev PIA (T:Tb) (X:Cx) (tg iter:Expr) (it:SI):Prop:=PI X tg iter (tI T it)
theorem ye7 {X:Cx} {tg iter:Expr} {t t':TI} (h:PI X tg iter t) (k:∀ σ H R,t' σ H R->t σ H R):PI X tg iter t' := fun pins s σ H R I q=>h pins s σ H R I (k σ H R q)
theorem PI.or {X:Cx} {tg iter:Expr} {t t':TI} (h:PI X tg iter t) (h':PI X tg iter t'):PI X tg iter (fun σ H R=>t σ H R\/t' σ H R):=fun pins s σ H R I q=>q.elim (h pins s σ H R I) (h' pins s σ H R I)
theorem yfH {ι:Ix} {H:Hp} {a:Addr} {us:List V} {xs:List AV} {K:PySem.W.Frag} (keep:∀ (ι':Ix) (H':Hp),Ext ι H ι' H'->SqL K H' a us) (r:RVs T ι H xs us):ItR T (Itl K a) ι H xs none:=by
 constructor
 ·intro i ι' h' H' x g S _ e
  obtain ⟨u,e1,r1⟩:=(r.ext g).get e
  refine ⟨⟨us,u,keep ι' H' g,e1⟩,?_⟩
  rintro u2 H2 ⟨rfl,y⟩
  have z:=y us (keep ι' _ g)
  rw [e1] at z;cases z
  exact ⟨S.refl,S,r1⟩
 ·intro i ι' h' H' g S _ hl
  exact ⟨us,keep ι' H' g,by rw [<- r.length];exact hl⟩
theorem yg8 {ι:Ix} {H:Hp} {a:Addr} {us:List V} {xs:List AV} {K:PySem.W.Frag} (keep:∀ (ι':Ix) (H':Hp),Ext ι H ι' H'->SqT K H' a us) (r:RVs T ι H xs us):ItR T (Itt K a) ι H xs none:=by
 constructor
 ·intro i ι' h' H' x g S _ e
  obtain ⟨u,e1,r1⟩:=(r.ext g).get e
  refine ⟨⟨us,u,keep ι' H' g,e1⟩,?_⟩
  rintro u2 H2 ⟨rfl,y⟩
  have z:=y us (keep ι' _ g)
  rw [e1] at z;cases z
  exact ⟨S.refl,S,r1⟩
 ·intro i ι' h' H' g S _ hl
  exact ⟨us,keep ι' H' g,by rw [<- r.length];exact hl⟩
theorem ziP {ι:Ix} {H:Hp} {a:Addr} {n:Nat} {xs:List AV} {K:PySem.W.Frag} (e:ι.refs[n]? = some a):ItR T (Itl K a) ι H xs (some n):=by
 have at_:∀ {ι':Ix} {h':AH} {H':Hp},Ext ι H ι' H'->Sim T ι' h' H'->ybj (some n) xs h'=true->∃ us,H' a=some (.lst us)/\RVs T ι' H' xs us:=fun {ι' h' H'} g S l=>by
  unfold ybj at l
  dsimp only at l
  split at l
  ·rename_i ys hy
   have z:=of_decide_eq_true l
   subst z
   obtain ⟨u,e1,us,rfl,r⟩:=S.obj n _ a hy (g.at_ e)
   exact ⟨us,e1,r⟩
  ·cases l
 constructor
 ·intro i ι' h' H' x g S l e
  obtain ⟨us,e0,r⟩:=at_ g S l
  obtain ⟨u,e1,r1⟩:=r.get e
  refine ⟨⟨us,u,.of e0,e1⟩,?_⟩
  rintro u2 H2 ⟨rfl,y⟩
  have z:=y us (.of e0)
  rw [e1] at z;cases z
  exact ⟨S.refl,S,r1⟩
 ·intro i ι' h' H' g S l hl
  obtain ⟨us,e0,r⟩:=at_ g S l
  exact ⟨us,.of e0,by rw [<- r.length];exact hl⟩
theorem ziQ {ι:Ix} {H:Hp} {x:Str} (o:x.cps.all (· < 0x110000)=true):ItR T (Its x) ι H (x.cps.toList.map fun c=>.str ⟨#[c]⟩) none:=by
 constructor
 ·intro i ι' h' H' y g S _ e
  rw [List.getElem?_map] at e
  obtain ⟨c,e1,rfl⟩:=Option.map_eq_some_iff.mp e
  have hi:i<x.cps.size:=by
   have:=(List.getElem?_eq_some_iff.mp e1).1
   simpa using this
  refine ⟨hi,?_⟩
  rintro u H2 ⟨rfl,c',e2,rfl⟩
  have z:x.cps[i]? = some c:=by simpa using e1
  rw [e2] at z;cases z
  refine ⟨S.refl,S,.str (show 1<=sizeLine by decide) ?_⟩
  have m:=Array.mem_of_getElem? e2
  have:=Array.all_eq_true_iff_forall_mem.mp o _ m
  simpa using this
 ·intro i ι' h' H' g S _ hl
  show x.cps.size<=i
  simpa using hl
theorem zgc (n:Nat):∀ (lo:Int) (i:Nat),(ybq lo n)[i]? = if i<n then some (.int (lo+i)) else none:=by
 induction n with
 | zero=>intro lo i;simp [ybq]
 | succ n ih =>
  intro lo i
  cases i with
  | zero=>simp [ybq]
  | succ i =>
   show (ybq (lo+1) n)[i]? = _
   rw [ih]
   by_cases h:i<n
   ·rw [if_pos h,if_pos (by omega)]
    congr 2
    show lo+1+(i:Int)=lo+((i+1:Nat):Int)
    omega
   ·rw [if_neg h,if_neg (by omega)]
theorem zdP (n:Nat):∀ lo:Int,(ybq lo n).length=n:=by
 induction n with
 | zero=>intro lo;rfl
 | succ n ih=>intro lo;show (ybq (lo+1) n).length+1=n+1;rw [ih]
theorem zgP {ι:Ix} {H:Hp} {lo:Int} {n:Nat}:ItR T (Itr lo n) ι H (ybq lo n) none:=by
 constructor
 ·intro i ι' h' H' y g S _ e
  rw [zgc] at e
  split at e
  ·rename_i hi
   cases e
   refine ⟨hi,?_⟩
   rintro u H2 ⟨rfl,rfl⟩
   exact ⟨S.refl,S,.int _⟩
  ·cases e
 ·intro i ι' h' H' g S _ hl
  rw [zdP] at hl
  exact hl
theorem yga {ι:Ix} {H:Hp} {a:Addr} {us:List V} (n:a∉ι.all) (h:Rd H a (.lst us)):∀ (ι':Ix) (H':Hp),Ext ι H ι' H'->SqL T.K H' a us:=fun _ _ g=>.inl (zff g n h)
theorem yin {ι:Ix} {H:Hp} {a:Addr} {us:List V} (n:a∉ι.all) (h:H a=some (.tup us)):∀ (ι':Ix) (H':Hp),Ext ι H ι' H'->SqT T.K H' a us:=fun _ _ g=>.of (g.keep _ _ n h)
theorem yew {K K':PySem.W.Frag} {H:Hp} {a:Addr} {us:List V} (e:K=K') (h:SqL K' H a us):SqL K H a us:=e▸h
theorem ygb {σ:St} {H:Hp} {R:It->Hp->Prop} {ι:Ix} {h h1:AH} {en:En} {v:AV} {xs:List AV} {w:Option Nat} (hK:X.K=T.K) (S:Sim T ι h H) (er:ER T ι H en σ) (e:sa en h = .ok v h1) (hv:(v = .fl xs/\w=none)\/∃ n,v = .ref n/\h1[n]? = some (.lst xs)/\w=some n)
  (q:∀ ι' H' J,Grow ι H ι' H'->Sim T ι' h1 H'->ItR T J ι' H' xs w->R J H'):yf4 X.K (tE T E sa) σ H R:=by
 refine ⟨ι,h,en,S,er,?_⟩
 rw [e]
 intro ι1 H1 u g1 S1 r1
 rcases hv with ⟨rfl,rfl⟩ | ⟨n,rfl,hn,rfl⟩
 ·cases r1 with
  | fl n hr rs=>exact ⟨_,rfl,⟨_,yew hK (.inl hr)⟩,q ι1 H1 _ g1 S1 (hK▸yfH (yga n hr) rs)⟩
  | kfl hr rs=>exact ⟨_,rfl,⟨_,yew hK (.inr hr)⟩,q ι1 H1 _ g1 S1 (hK▸yfH (fun _ _ _=>.inr hr) rs)⟩
 ·cases r1 with
  | ref hr =>
   obtain ⟨u,e1,us,rfl,rs⟩:=S1.obj n _ _ hn hr
   exact ⟨_,rfl,⟨_,.of e1⟩,q ι1 H1 _ g1 S1 (ziP hr)⟩
theorem yio {σ:St} {H:Hp} {R:It->Hp->Prop} {ι:Ix} {h h1:AH} {en:En} {xs:List AV} (hK:X.K=T.K) (S:Sim T ι h H) (er:ER T ι H en σ) (e:sa en h = .ok (.tup xs) h1)
  (q:∀ ι' H' J,Grow ι H ι' H'->Sim T ι' h1 H'->ItR T J ι' H' xs none->R J H'):iTup X.K (tE T E sa) σ H R:=by
 refine ⟨ι,h,en,S,er,?_⟩
 rw [e]
 intro ι1 H1 u g1 S1 r1
 cases r1 with
 | tup n hr rs=>exact ⟨_,rfl,⟨_,.of hr⟩,q ι1 H1 _ g1 S1 (hK▸yg8 (yin n hr) rs)⟩
theorem yb8 {y:Str} {py:Pos} (hK:X.K=T.K) (ha:PEA T E X a sa):PIA T X (.Name y py) a (iVal sa) :=
 ye7 (PI.or (zil ha) (PI.or (ygE ha) (ygV ha))) fun σ H R ⟨ι,h,en,S,er,q⟩=>by
  unfold iVal at q
  cases e:sa en h with
  | bad=>rw [e] at q;exact q.elim
  | ex c h1=>rw [e] at q;exact q.elim
  | ok v h1 =>
   rw [e] at q
   cases v with
   | fl xs=>exact .inl (ygb hK S er e (.inl ⟨rfl,rfl⟩) q)
   | tup xs=>exact .inr (.inl (yio hK S er e q))
   | str z =>
    refine .inr (.inr ⟨ι,h,en,S,er,?_⟩)
    rw [e]
    intro ι1 H1 u g1 S1 r1
    obtain ⟨rfl,_,o⟩:=ybr r1
    exact ⟨_,rfl,q ι1 H1 _ g1 S1 (ziQ o)⟩
   | ref n =>
    dsimp only [Out.bind] at q
    cases e2:h1[n]? with
    | none=>rw [e2] at q;exact q.elim
    | some o =>
     rw [e2] at q
     cases o with
     | lst xs=>exact .inl (ygb hK S er e (.inr ⟨n,rfl,e2,rfl⟩) q)
     | _=>exact q.elim
   | _=>exact q.elim
theorem zdw {tg:Expr} {p:Pos} (hg:Gl X "range") (hm:X.mg "range" = none) (ha:PEA T E X a sa) (hs:starEach [a] X.env=[(false,eval a X.env)]:=by rfl):PIA T X tg (.Call (.Name "range" p) [a] [] pos) (ycM sa) :=
 ye7 (zgq hg hm (zaa ha yac hs) hs) fun σ H R ⟨ι,h,en,S,er,q⟩=>by
  unfold ycM at q
  refine ⟨ι,h,en,S,er,?_⟩
  unfold yab
  cases e:sa en h with
  | bad=>rw [e] at q;exact q
  | ex c h1=>rw [e] at q;exact q.elim
  | ok v h1 =>
   rw [e] at q
   intro ι1 H1 u g1 S1 r1
   dsimp only [Out.bind] at q
   cases v with
   | int j =>
    dsimp only at q
    split at q
    ·rename_i hx
     split at hx
     ·rename_i hb
      cases hx
      cases r1 with
      | cons r r' =>
       cases r'
       rw [yaK r]
       exact ⟨j,rfl,by omega,by omega,q ι1 H1 _ g1 S1 zgP⟩
     ·cases hx
    ·exact q.elim
   | _=>exact q.elim
theorem zbi {α:Type} {xs:List α} {i:Nat} (h:i<xs.length):xs.drop i=xs[i]::xs.drop (i+1):=by simp
theorem ycV {tg iter:Expr} {it:SI} {t:Tg} (hc:X.calm=true) (hi:PIA T X.nox tg iter it) (hg:PGA T X.nox tg t) (hb:PSsA T EN X.nox sts s1) (hs:∀ x,foldedSetIterable iter X.nox.env x=pure x:=by intro _;rfl) :
  PSA T E X (.For tg iter sts [] pos) (sFor it t s1):=by
 obtain ⟨g,hg1,hg2⟩:=hg
 refine ybZ (ye2 (yfs PassesOwn.never hc hi hg1 hb hs)) fun D σ H ⟨ι,h,en,S,er,q⟩=>⟨ι,h,en,S,er,?_⟩
 unfold sFor at q
 cases e:it en h with
 | bad=>rw [e] at q;exact q
 | ex c h1=>rw [e] at q;exact q
 | ok p h1 =>
  obtain ⟨xs,w⟩:=p
  rw [e] at q
  intro ι1 H1 J g1 S1 IR
  refine ⟨fun i m σ H=>m=xs.length-i/\i<=xs.length/\∃ ι' h' en',Grow ι1 H1 ι' H/\Sim T ι' h' H/\ER T ι' H en' σ/\PostS T ι' H E (ya0 w xs t s1 (xs.drop i) en' h') D,
   ⟨xs.length,by simp,Nat.zero_le _,ι1,h1,en,S1.refl,S1,er.mono g1,PostS.shift q g1⟩,?_⟩
  rintro i m σ H ⟨rfl,hi,ι',h',en',g',S',er',q'⟩
  by_cases hl:i<xs.length
  ·rw [zbi hl] at q'
   unfold ya0 at q'
   split at q'
   ·rename_i hlive
    obtain ⟨go,yld⟩:=IR.go i ι' h' H xs[i] g'.ext S' hlive (by simp [hl])
    refine .inr ⟨go,fun σ H=>∃ ι' h' en',Grow ι1 H1 ι' H/\Sim T ι' h' H/\ER T ι' H en' σ/\PostS T ι' H E (ya0 w xs t s1 (xs.drop (i+1)) en' h') D,
     fun σ' H' w' => ⟨xs.length-(i+1),by omega,rfl,hl,w'⟩,fun x H' y=>?_⟩
    obtain ⟨g2,S2,r2⟩:=yld x H' y
    split at q'
    ·rename_i e1 he1
     refine hg2 S2 (er'.mono g2) r2 he1 fun σ' er2=>⟨ι',h',e1,S2,er2,?_⟩
     have q2:=PostS.shift q' g2
     cases e2:s1 e1 h' with
     | nx e3 h3=>rw [e2] at q2;exact fun ι3 H3 σ3 g3 S3 er3=>⟨ι3,h3,e3,g'.trans (g2.trans g3),S3,er3,q2.shift g3⟩
     | ct e3 h3=>rw [e2] at q2;exact fun ι3 H3 σ3 g3 S3 er3=>⟨ι3,h3,e3,g'.trans (g2.trans g3),S3,er3,q2.shift g3⟩
     | bk e3 h3=>rw [e2] at q2;exact q2
     | rt v h3=>rw [e2] at q2;exact q2
     | ex c e3 h3=>rw [e2] at q2;exact (show False from q2).elim
     | bad=>rw [e2] at q2;exact q2
    ·exact (show False from q').elim
   ·exact (show False from q').elim
  ·have ei:i=xs.length:=by omega
   subst ei
   rw [List.drop_length] at q'
   unfold ya0 at q'
   split at q'
   ·rename_i hlive
    exact .inl ⟨IR.stop _ ι' h' H g'.ext S' hlive (Nat.le_refl _),q' ι' H σ S'.refl S' er'⟩
   ·exact (show False from q').elim
theorem ER.comp {ι:Ix} {H:Hp} {en:En} {σ:St} {x:AV} {u:V} {jf:List (Nat×Str)} (er:ER T ι H en σ) (r:RV T ι H x u):ER T ι H (some x::(jf.map (·.1)).map fun j=>(en[j]?).join) (ybb (some u) jf σ):=by
 refine ⟨by simp [ybb],fun i v e=>?_⟩
 cases i with
 | zero=>simp at e;subst e;exact ⟨u,rfl,r⟩
 | succ i =>
  simp only [List.getElem?_cons_succ,List.getElem?_map] at e
  unfold ybb
  simp only [List.getElem?_cons_succ,List.getElem?_map]
  cases e1:jf[i]? with
  | none=>rw [e1] at e;cases e
  | some j =>
   rw [e1] at e
   simp only [Option.map_some,Option.some.injEq] at e
   have e2:en[j.1]? = some (some v):=by
    cases e3:en[j.1]? with
    | none=>rw [e3] at e;cases e
    | some o=>rw [e3] at e;exact congrArg some e
   obtain ⟨u',e4,r'⟩:=er.2 j.1 v e2
   exact ⟨u',by simp [e4],r'⟩
theorem zfk {jf:List (Nat×Str)} {it:SI} {cc:SB} {ce:SE} {σ:St} {H:Hp} {Q:VK} {ι:Ix} {h:AH} {en:En} (S:Sim T ι h H) (er:ER T ι H en σ)
  (q:match it en h with | .ok (xs,w) h1=>(match ya8 (jf.map (·.1)) en w xs cc ce xs [] h1 with | .ok ys h2=>∀ ι' H' D vs,Grow ι H ι' H'->Sim T (ι'.hide D) h2 H'->RVs T (ι'.hide D) H' ys vs->H' D=some (.lst vs)->D∉ι'.all->(∀ n,ι'.refs=ι.refs++n->∀ a∈n++[D],H a=none)->Q (.ref D) H' | _=>False) | _=>False) :
  ycT jf (tI T it) (tT T EN cc) (tE T EN ce) σ H Q:=by
 refine ⟨ι,h,en,S,er,?_⟩
 cases e:it en h with
 | bad=>rw [e] at q;exact q
 | ex c h1=>rw [e] at q;exact q
 | ok p h1 =>
  obtain ⟨xs,w⟩:=p
  rw [e] at q
  dsimp only at q
  intro ι1 H1 J g1 S1 IR D hD
  refine ⟨fun i m ys H2=>m=xs.length-i/\i<=xs.length/\H2 D=some (.lst ys)/\∃ ι' h' vs,Grow ι1 H1 ι' H2/\Ext ι1 H1 (ι'.hide D) H2/\Sim T (ι'.hide D) h' H2/\ER T (ι'.hide D) H2 en σ/\RVs T (ι'.hide D) H2 vs ys/\D∉ι'.refs /\
   (match ya8 (jf.map (·.1)) en w xs cc ce (xs.drop i) vs h' with | .ok ys h2=>∀ ι' H' D vs,Grow ι H ι' H'->Sim T (ι'.hide D) h2 H'->RVs T (ι'.hide D) H' ys vs->H' D=some (.lst vs)->D∉ι'.all->(∀ n,ι'.refs=ι.refs++n->∀ a∈n++[D],H a=none)->Q (.ref D) H' | _=>False),?_,?_⟩
  ·exact ⟨xs.length,by simp,Nat.zero_le _,zao,ι1,h1,[],S1.growNew hD,Ext.hide hD,S1.hide hD,(er.mono g1).ext (Ext.hide hD),.nil,fun z=>S1.fresh hD (List.mem_append_left _ z),q⟩
  ·rintro i m ys H2 ⟨rfl,hi,hH2,ι',h',vs,g',x',S',er',rv',nD',q'⟩
   refine ⟨hH2,?_⟩
   by_cases hl:i<xs.length
   ·rw [zbi hl] at q'
    unfold ya8 at q'
    by_cases hs:ybj w xs h'=true/\vs.length<sizeLine
    ·rw [if_pos hs] at q'
     obtain ⟨hs1,hs2⟩:=hs
     obtain ⟨go,yld⟩:=IR.go i _ h' H2 xs[i] x' S' hs1 (by simp [hl])
     refine .inr ⟨go,by rw [<- rv'.length];exact hs2,fun x H3 y=>?_⟩
     obtain ⟨g3,S3,r3⟩:=yld x H3 y
     have er3:=er'.mono g3
     refine ⟨ι'.hide D,h',_,S3,ER.comp er3 r3,?_⟩
     cases ec:cc (some xs[i]::(jf.map (·.1)).map fun j=>(en[j]?).join) h' with
     | bad=>rw [ec] at q';exact q'
     | ex c h5=>rw [ec] at q';exact q'.elim
     | ok bb h5 =>
      rw [ec] at q'
      intro ι5 H5 b5 g5 S5 r5
      subst r5
      have g35:=g3.trans g5
      have hD5:H5 D=some (.lst ys):=g35.keep D _ nD' hH2
      have eι:ι5=Ix.hide ⟨ι5.refs,ι'.priv⟩ D:=by
       have:=g5.priv
       cases ι5
       simp only at this
       subst this
       rfl
      have nD5:D∉ι5.refs:=g35.outR nD' hH2
      have gG5:Grow ι1 H1 ⟨ι5.refs,ι'.priv⟩ H5:=by
       obtain ⟨n,en1,hn⟩:=g'.pre
       obtain ⟨k,ek,hk⟩:=g35.pre
       refine ⟨⟨n++k,?_,fun a ha=>?_⟩,g'.priv,fun a o na ea=>?_,fun a ha=>?_⟩
       ·show ι5.refs=_;rw [ek];show ι'.refs++k=_;rw [en1];simp
       ·rcases List.mem_append.mp ha with z | z
        ·exact hn a z
        ·have z2:=hk a z
         by_cases hr:a∈ι1.refs
         ·exact absurd z2 (g'.live a (List.mem_append_left _ hr))
         ·cases e9:H1 a with
          | none=>rfl
          | some o=>rw [g'.keep a o hr e9] at z2;cases z2
       ·exact g35.keep a o (g'.outR na ea) (g'.keep a o na ea)
       ·have:a∈(ι'.hide D).all:=by
         rcases List.mem_append.mp ha with z | z
         ·exact List.mem_append_left _ (by show a∈ι'.refs;rw [en1];exact List.mem_append_left _ z)
         ·exact List.mem_append_right _ (List.mem_cons_of_mem _ (by rw [g'.priv];exact z))
        exact g35.live a this
      have x5:Ext ι1 H1 (Ix.hide ⟨ι5.refs,ι'.priv⟩ D) H5:=eι▸x'.trans g35.ext
      have er5:=er3.mono g5
      have rv5:=(rv'.mono g35)
      cases bb with
      | false =>
       rw [if_neg Bool.false_ne_true]
       refine ⟨xs.length-(i+1),by omega,rfl,hl,hD5,⟨ι5.refs,ι'.priv⟩,h5,vs,gG5,x5,eι▸S5,eι▸er5,eι▸rv5,nD5,q'⟩
      | true =>
       rw [if_pos rfl]
       refine ⟨ι5,h5,_,S5,(ER.comp er3 r3).mono g5,?_⟩
       dsimp only at q'
       cases ee:ce (some xs[i]::(jf.map (·.1)).map fun j=>(en[j]?).join) h5 with
       | bad=>rw [ee] at q';exact q'
       | ex c h6=>rw [ee] at q';exact q'.elim
       | ok v h6 =>
        rw [ee] at q'
        intro ι6 H6 u6 g6 S6 r6
        have g56:=g6
        have hD6:H6 D=some (.lst ys):=g56.keep D _ nD5 hD5
        have eι6:ι6=Ix.hide ⟨ι6.refs,ι'.priv⟩ D:=by
         have h1:=g6.priv
         have h2:=g5.priv
         rw [h2] at h1
         cases ι6
         simp only at h1
         subst h1
         rfl
        have nD6:D∉ι6.refs:=g56.outR nD5 hD5
        have gG6:Grow ι1 H1 ⟨ι6.refs,ι'.priv⟩ (upd H6 D (.lst (ys++[u6]))):=by
         obtain ⟨n,en1,hn⟩:=gG5.pre
         obtain ⟨k,ek,hk⟩:=g56.pre
         have hD1:∀ a o,H1 a=some o->a≠D:=fun a o ea=>zam ea hD
         refine ⟨⟨n++k,?_,fun a ha=>?_⟩,g'.priv,fun a o na ea=>?_,fun a ha=>?_⟩
         ·show ι6.refs=_;rw [ek];have z:ι5.refs=ι1.refs++n:=en1;rw [z];simp
         ·rcases List.mem_append.mp ha with z | z
          ·exact hn a z
          ·have z2:=hk a z
           by_cases hr:a∈ι1.refs
           ·exact absurd z2 (gG5.live a (List.mem_append_left _ hr))
           ·cases e9:H1 a with
            | none=>rfl
            | some o=>rw [gG5.keep a o hr e9] at z2;cases z2
         ·rw [yax (hD1 a o ea)]
          exact g56.keep a o (gG5.outR na ea) (gG5.keep a o na ea)
         ·by_cases zD:a=D
          ·subst zD;rw [zao];simp
          ·rw [yax zD]
           have:a∈ι5.all:=by
            rcases List.mem_append.mp ha with z | z
            ·exact List.mem_append_left _ (by have z':ι5.refs=ι1.refs++n:=en1;rw [z'];exact List.mem_append_left _ z)
            ·rw [eι];exact List.mem_append_right _ (List.mem_cons_of_mem _ (by show a∈ι'.priv;rw [g'.priv];exact z))
           exact g56.live a this
        refine ⟨hD6,xs.length-(i+1),by omega,rfl,hl,zao,⟨ι6.refs,ι'.priv⟩,h6,vs++[v],gG6,?_,?_,?_,?_,nD6,q'⟩
        ·exact (eι6▸(x'.trans (g35.ext.trans g6.ext))).trans Ext.poke
        ·exact Sim.poke (eι6▸S6) nD6
        ·exact ER.ext (eι6▸er5.mono g6) Ext.poke
        ·have:RVs T ι6 H6 (vs++[v]) (ys++[u6]):=(rv5.mono g6).append (.cons r6 .nil)
         exact RVs.ext Ext.poke (eι6▸this)
    ·rw [if_neg hs] at q';exact q'.elim
   ·have ei:i=xs.length:=by omega
    subst ei
    rw [List.drop_length] at q'
    unfold ya8 at q'
    by_cases hs:ybj w xs h'=true
    ·rw [if_pos hs] at q'
     have hp:D∉ι'.priv:=fun z=>by rw [g'.priv] at z;exact S1.plive D z hD
     refine .inl ⟨IR.stop _ _ h' H2 x' S' hs (Nat.le_refl _),q' ι' H2 D ys (g1.trans g') S' rv' hH2 (fun z=>(List.mem_append.mp z).elim nD' hp) fun n en1 a ha=>?_⟩
     obtain ⟨k,ek,hk⟩:=(g1.trans g').pre
     have:n=k:=List.append_cancel_left (en1.symm.trans ek)
     subst this
     rcases List.mem_append.mp ha with z | z
     ·exact hk a z
     ·have z':a=D:=by simpa using z
      subst z'
      cases e9:H a with
      | none=>rfl
      | some o =>
       by_cases hr:a∈ι.refs
       ·have z1:a∈ι1.refs:=by
         obtain ⟨k1,ek1,_⟩:=g1.pre
         rw [ek1];exact List.mem_append_left _ hr
        exact absurd hD (S1.live a (List.mem_append_left _ z1))
       ·rw [g1.keep a o hr e9] at hD;cases hD
    ·rw [if_neg hs] at q';exact q'.elim
end
end Sm
namespace Sm
open PySem PySem.Spec L2
section
variable {T:Tb} {E:St->XK} {X:Cx} {pos px:Pos} {iter elt:Expr} {ifs:List Expr} {scope:Scope} {x₁:Str} {jf:List (Nat×Str)} {it:SI} {cc:SB} {ce:SE}
theorem zfl {σ:St} {H:Hp} {Q:VK} (q:tE T E (ycU (jf.map (·.1)) it cc ce) σ H Q):ycT jf (tI T it) (tT T EN cc) (tE T EN ce) σ H Q:=by
 obtain ⟨ι,h,en,S,er,q⟩:=q
 refine zfk S er ?_
 unfold ycU at q
 cases e:it en h with
 | bad=>rw [e] at q;exact q
 | ex c h1=>rw [e] at q;exact q.elim
 | ok p h1 =>
  obtain ⟨xs,w⟩:=p
  rw [e] at q
  dsimp only at q ⊢
  cases e2:ya8 (jf.map (·.1)) en w xs cc ce xs [] h1 with
  | bad=>rw [e2] at q;exact q
  | ex c h1=>rw [e2] at q;exact q.elim
  | ok ys h2 =>
   rw [e2] at q
   exact fun ι' H' D vs g S' r hD nD _=>q ι' H' _ g S'.show (.fl nD (.inl hD) (r.ext Ext.show))
theorem zhK {σ:St} {H:Hp} {Q:VK} (q:tE T E (ydh (jf.map (·.1)) it cc ce) σ H Q):ycT jf (tI T it) (tT T EN cc) (tE T EN ce) σ H Q:=by
 obtain ⟨ι,h,en,S,er,q⟩:=q
 refine zfk S er ?_
 unfold ydh at q
 cases e:it en h with
 | bad=>rw [e] at q;exact q
 | ex c h1=>rw [e] at q;exact q.elim
 | ok p h1 =>
  obtain ⟨xs,w⟩:=p
  rw [e] at q
  dsimp only at q ⊢
  cases e2:ya8 (jf.map (·.1)) en w xs cc ce xs [] h1 with
  | bad=>rw [e2] at q;exact q
  | ex c h1=>rw [e2] at q;exact q.elim
  | ok ys h2 =>
   rw [e2] at q
   intro ι' H' D vs g S' r hD nD hn
   obtain ⟨n,en1,_⟩:=g.pre
   have S2:Sim T (ι'.add D) (h2++[.lst ys]) H' := S'.adopt (Ix.nr nD) hD ⟨vs,rfl,r.ext Ext.adopt⟩
   refine q (ι'.add D) H' _ ⟨⟨n++[D],?_,hn n en1⟩,g.priv,g.keep,g.live⟩ S2 (.ref ?_)
   ·show ι'.refs++[D]=_;rw [en1];simp
   ·show (ι'.refs++[D])[h2.length]? = some D
    have:ι'.refs.length=h2.length:=S'.len
    rw [<- this];simp
theorem zbt:PTs X [] (tT T E sYes):=fun pins s σ H Q I ⟨ι,h,en,S,er,q⟩=>ziE pins s σ H Q I (q.now S rfl)
structure CompOk (X:Cx) (x₁:Str) (jf:List (Nat×Str)) (scope:Scope):Prop where
 hN:(x₁::jf.map (·.2)).Nodup
 hx:scope.names.lookup x₁=some .local
 hjf:∀ p∈jf,X.N[p.1]? = some p.2
 hjl:∀ p∈jf,scope.names.lookup p.2=some .free
 hkind:scope.kind = .function
 hcell:∀ y∈scope.names,y.2 ≠ .cell
 hfr:∀ y∈scope.names,y.2 = .free->X.env.kindOf y.1=some .cell\/X.env.kindOf y.1=some .free
 hnames:∀ y∈scope.names,y.2 = .local->scope.names.lookup y.1=some .local
theorem yfI (C:CompOk X x₁ jf scope) (hcalm:X.calm=true) (hi:PIA T X (.Name x₁ px) iter it) (hc:∀ pins cl s H fp,PTs (yaA X pins x₁ jf scope cl s H fp) ifs (tT T EN cc)) (he:∀ pins cl s H fp,PEA T EN (yaA X pins x₁ jf scope cl s H fp) elt ce)
  (hs:∀ x,foldedSetIterable iter X.env x=pure x:=by intro _;rfl):PEA T E X (.ListComp elt [⟨.Name x₁ px,iter,ifs,0⟩] scope pos) (ycU (jf.map (·.1)) it cc ce) :=
 yaR (zfb hcalm hi hc he C.hN C.hx C.hjf C.hjl C.hkind C.hcell C.hfr C.hnames hs) fun _ _ _ q=>zfl q
theorem ziR (C:CompOk X x₁ jf scope) (hcalm:X.calm=true) (hi:PIA T X (.Name x₁ px) iter it) (hc:∀ pins cl s H fp,PTs (yaA X pins x₁ jf scope cl s H fp) ifs (tT T EN cc)) (he:∀ pins cl s H fp,PEA T EN (yaA X pins x₁ jf scope cl s H fp) elt ce)
  (hs:∀ x,foldedSetIterable iter X.env x=pure x:=by intro _;rfl):PEA T E X (.ListComp elt [⟨.Name x₁ px,iter,ifs,0⟩] scope pos) (ydh (jf.map (·.1)) it cc ce) :=
 yaR (zfb hcalm hi hc he C.hN C.hx C.hjf C.hjl C.hkind C.hcell C.hfr C.hnames hs) fun _ _ _ q=>zhK q
theorem ziS {y:Str} {py spos:Pos} {i:Nat} (C:CompOk X x₁ jf scope) (hcalm:X.calm=true) (hi:PIA T X (.Name x₁ px) iter it) (hc:∀ pins cl s H fp,PTs (yaA X pins x₁ jf scope cl s H fp) ifs (tT T EN cc)) (he:∀ pins cl s H fp,PEA T EN (yaA X pins x₁ jf scope cl s H fp) elt ce)
  (hNX:X.N.Nodup) (hi':X.N[i]? = some y:=by rfl) (hy:X.env.scope.names.lookup y=some .local:=by rfl) (hsw:swapsWith (.ListComp elt [⟨.Name x₁ px,iter,ifs,0⟩] scope pos) (some (.Name y py)) spos.line X.env=pure true:=by rfl) (hs:∀ x,foldedSetIterable iter X.env x=pure x:=by intro _;rfl) :
  PSA T E X (.Assign [.Name y py] (.ListComp elt [⟨.Name x₁ px,iter,ifs,0⟩] scope pos) spos) (sSet i (ycU (jf.map (·.1)) it cc ce)) :=
 ybZ (ziF hcalm hi hc he C.hN C.hx C.hjf C.hjl C.hkind C.hcell C.hfr C.hnames hNX hi' hy hsw hs) fun D σ H q=>zfl (yfG q)
end
def spA (T:Tb) (F:Fn):Sp:=fun vs H Q E=>∃ ι h args,Sim T ι h H/\RVs T ι H args vs/\Post T ι H E (RV T) (F args h) Q
def yip (F:Fn) (n:Nat):Prop:=∀ args h,args.length≠n->F args h = .bad
theorem zcQ (n m:Nat) (b:SS):yip (mkFn n m b) n:=fun args h hl=>by
 unfold mkFn
 rw [if_neg hl]
theorem okA {P:Program} {w:World} {K:PySem.W.Frag} {mg:Str->Option Value} {base:Heap} {T:Tb} {x qual:Str} {st:Stmt} {f:Addr} {fd:FuncData} {N ps:List Str} {k:Nat} {b:SS} (F:Fun K x qual st f fd) (hK:K=T.K) (S:FnScope N ps (yag st))
  (hbody:∀ (cdv:Value) (A:Around) (outer:List Env) (s:Shared) (H:Hp) (E:XK),Room k (A.deeper (PyProof.Rows.envOfC qual (yag st) s.heap.objs.size f cdv))->CA T (fun _=>E) (cxOf (CXE P w) P w K mg base N qual (yag st) f cdv A outer s H E) ->
   PSsA T (fun _=>E) (cxOf (CXE P w) P w K mg base N qual (yag st) f cdv A outer s H E) (yb2 st) b):FnOk P w K mg base (CXE P w) (k+1) f fd ps (spA T (mkFn ps.length N.length b)):=by
 refine F.okE S (fun vs H Q E h=>?_) (fun cdv A outer s H vs Q E hr h=>?_)
 ·obtain ⟨ι,h,args,_,r,q⟩:=h
  by_cases hl:args.length=ps.length
  ·rw [<- hl,r.length]
  ·rw [zcQ _ _ _ args h hl] at q;exact q.elim
 ·obtain ⟨ι,h,args,Si,r,q⟩:=h
  refine ⟨_,hbody cdv A outer s H E hr ⟨hK,ziH⟩,ι,h,args.map some++List.replicate (N.length-ps.length) none,Si,?_,?_⟩
  ·by_cases hl:args.length=ps.length
   ·refine ⟨by simp [L2.start,r.length,<- hl],fun i v e=>?_⟩
    unfold L2.start
    by_cases hi:i<args.length
    ·rw [List.getElem?_append_left (by simpa using hi),List.getElem?_map] at e
     rw [List.getElem?_append_left (by simpa [<- r.length] using hi),List.getElem?_map]
     obtain ⟨x,e1,e2⟩:=Option.map_eq_some_iff.mp e
     cases e2
     obtain ⟨u,e3,r3⟩:=r.get e1
     exact ⟨u,by rw [e3];rfl,r3⟩
    ·rw [List.getElem?_append_right (by simpa using hi),List.getElem?_replicate] at e
     split at e
     ·cases e
     ·cases e
   ·rw [zcQ _ _ _ args h hl] at q;exact q.elim
  ·unfold mkFn at q
   split at q
   ·split at q
    ·rename_i e1 h1 he
     rw [he]
     exact fun ι' H' σ' g S' er=>q ι' H' _ g S' .non
    ·rename_i v h1 he
     rw [he]
     exact q
    ·rename_i c e1 h1 he
     rw [he]
     exact fun ι' H' σ' C g S' er ec=>q ι' H' C g S' ec
    ·exact q.elim
   ·exact q.elim
structure GF (P:Program) (w:World) (T:Tb) (mg:Str->Option Value) (base:Heap) (k:Nat) (x:Str) (F:Fn):Prop where
 ex:∃ f fd ps,mg x=some (.ref f)/\PySem.W.keepIn T.K (.ref f)=true/\Binds T.K fd ps []/\FnOk P w T.K mg base (CXE P w) k f fd ps (spA T F)
structure GM (P:Program) (w:World) (T:Tb) (mg:Str->Option Value) (base:Heap) (k:Nat) (c:Nat) (m:Str) (F:Fn):Prop where
 ex:∃ C f fd ps,T.cls c=some C/\Cls T.K C/\Meth T.K C m f/\Binds T.K fd ps []/\FnOk P w T.K mg base (CXE P w) k f fd ps (spA T F)
 no:m∉T.fields c
section
variable {T:Tb} {E:St->XK} {X:Cx} {pos p apos:Pos} {e o a:Expr} {es:List Expr} {x m:Str} {F:Fn} {k c:Nat} {as:SL} {so sa:SE}
theorem yai (hK:X.K=T.K) (C:CA T E X) (G:GF X.prog X.w T X.mg X.base k x F) (hr:Room k X.A) (hg:Gl X x) (ha:PAA T E X (e::es) as) (hdb:(x == ("__debug__" : Str))=false:=by decide)
  (he:starEach (e::es) X.env=(false,eval e X.env)::starEach es X.env:=by rfl) (hpl:(backTo pos (starEach es X.env)).any (·.1)=false:=by rfl):PEA T E X (.Call (.Name x p) (e::es) [] pos) (yah F as):=by
 obtain ⟨f,fd,ps,h1,h2,h3,h4⟩:=G.ex
 refine yaR (zhz (Ex:=E) (dvs:=[]) (hK▸h4) hr hg h1 (hK▸h2) (hK▸h3) .nil C.pass ha hdb he hpl) fun σ H Q ⟨ι,h,en,S,er,q⟩=>⟨ι,h,en,S,er,q.bind fun xs h1 ι1 H1 us g1 S1 r1 q1=>?_⟩
 rw [List.append_nil]
 exact ⟨ι1,h1,xs,S1,r1,q1⟩
theorem zfm {C:Addr} {σ:St} {H:Hp} {Q:VK} (hc:T.cls c=some C) (no:m∉T.fields c) (q:tE T E (yaj c F so as) σ H Q):yfA C m (spA T F) [] E (tE T E so) (tA T E as) σ H Q:=by
 obtain ⟨ι,h,en,S,er,q⟩:=q
 refine ⟨ι,h,en,S,er,q.bind fun x h1 ι1 H1 u g1 S1 r1 q1=>?_⟩
 split at q1
 ·rename_i n
  split at q1
  ·rename_i c' fs hn
   split at q1
   ·rename_i ec
    subst ec
    cases r1 with
    | @ref _ a hr =>
     obtain ⟨o,e1,C',dx,fus,hC,rfl,nd,hw,hl,_⟩:=S1.obj n _ a hn hr
     rw [hc] at hC;cases hC
     refine ⟨a,dx,fus,rfl,e1,?_,ι1,h1,en,S1,er.mono g1,q1.bind fun xs h2 ι2 H2 us g2 S2 r2 q2=>?_⟩
     ·cases e:fus.lookup m with
      | none=>rfl
      | some v =>
       have:=PySem.mem_of_lookup e
       exact absurd (hw _ this) no
     ·rw [List.append_nil]
      exact ⟨ι2,h2,.ref n::xs,S2,.cons (.ref (g2.at hr)) r2,q2⟩
   ·exact q1.elim
  ·exact q1.elim
 ·exact q1.elim
theorem yal {pl:Sem Bool} (hK:X.K=T.K) (CC:CA T E X) (G:GM X.prog X.w T X.mg X.base k c m F) (hr:Room k X.A) (ho:PEA T E X o so) (ha:PAA T E X (e::es) as)
  (hst:starEach (e::es) X.env=(false,eval e X.env)::starEach es X.env:=by rfl) (hpl:(backTo pos (starEach es X.env)).any (·.1)=false:=by rfl)
  (ht:eval (.Call (.Attribute o m apos) (e::es) [] pos) X.env=(do
   let ov <- eval o X.env
   standAt apos.atName
   let (f,first) <- holding [ov] (getMethod ov m pl)
   callWith pos f first (backTo pos (starEach (e::es) X.env)) (backToKw pos (keywordEach [] X.env))):=by rfl):PEA T E X (.Call (.Attribute o m apos) (e::es) [] pos) (yaj c F so as):=by
 obtain ⟨C,f,fd,ps,h1,h2,h3,h4,h5⟩:=G.ex
 exact yaR (zhA (Ex:=E) (dvs:=[]) (pl:=pl) ho (hK▸h2) (hK▸h3) (hK▸h5) hr (hK▸h4) .nil CC.pass ha hst hpl ht) fun σ H Q q=>zfm h1 G.no q
theorem za6 {pl:Sem Bool} (hK:X.K=T.K) (CC:CA T E X) (G:GM X.prog X.w T X.mg X.base k c m F) (hr:Room k X.A) (ho:PEA T E X o so)
  (ht:eval (.Call (.Attribute o m apos) [] [] pos) X.env=(do
   let ov <- eval o X.env
   standAt apos.atName
   let (f,first) <- holding [ov] (getMethod ov m pl)
   callWith pos f first (backTo pos (starEach [] X.env)) (backToKw pos (keywordEach [] X.env))):=by rfl):PEA T E X (.Call (.Attribute o m apos) [] [] pos) (yaj c F so sNil):=by
 obtain ⟨C,f,fd,ps,h1,h2,h3,h4,h5⟩:=G.ex
 intro pins s σ H Q I q
 have q' := zfm (C:=C) h1 G.no q
 refine PySem.W.methodCall_KW (pl:=pl) (thn (ho pins s σ H _ I q') fun u s1 ⟨x,H1,I1,rx,a,dx,fs,ex,ea,l,q⟩=>?_) ht
 subst ex
 obtain rfl:u=Value.ref a:=rx
 refine zcK I1 ea (hK▸h2) (hK▸h3) l ?_
 obtain ⟨ι,h,en,S,er,q⟩:=q
 refine PySem.W.callWith_K0 (first:=[.ref a]) I1.kIn (hK▸h3.kp) (zc2 (dvs:=[]) (us:=[.ref a]) (vs:=[.ref a]) (hK▸h5) hr (hK▸h4) .nil CC.pass I1 (.cons rfl .nil) (q.now S .nil))
structure CF (T:Tb) (c:Nat):Prop where
 ex:∃ C,T.cls c=some C/\Cls T.K C/\∀ f∈T.fields c,NoAttr T.K C f
structure GK (P:Program) (w:World) (T:Tb) (mg:Str->Option Value) (base:Heap) (k:Nat) (c:Nat) (x:Str) (F:Fn):Prop where
 ex:∃ C f fd ps,T.cls c=some C/\mg x=some (.ref C)/\Mk T.K C f/\Binds T.K fd ps []/\FnOk P w T.K mg base (CXE P w) k f fd ps (spA T F)
theorem zgQ {CX:CXT} {C f:Addr} {fd:FuncData} {ps:List Str} {sp:Sp} {dvs:List V} {ds:List Value} {pins:List (Addr×Obj)} {σ:St} {H:Hp} {s:Shared} {Q:VK} {us:List Value} {vs:List V} (M:Mk X.K C f) (F:FnOk X.prog X.w X.K X.mg X.base CX k f fd ps sp) (hr:Room (k+1) X.A) (hb:Binds X.K fd ps ds) (hd:Vals dvs ds)
  (hx:ybT CX X E) (I:L2.Inv X pins σ H s) (r:Vals vs us)
  (h:∀ x dx,H x=none->H dx=none->dx≠x->sp (.ref x::(vs++dvs)) (upd (upd H dx (.own x)) x (.ins C dx [])) (fun v H2=>v = .non/\Q (.ref x) H2) (E σ)) :
  wpAny (model X.prog X.w) X.A (call (.ref C) us) (EP X pins σ Q) X.xe s:=by
 have hq:=h (s.heap.objs.size+1) s.heap.objs.size (I.hok.fresh (Nat.le_succ _)) (I.hok.fresh (Nat.le_refl _)) (Nat.ne_of_lt (Nat.lt_succ_self _))
 have I2:=Inv.made (C:=C) I
 have r2:Vals (V.ref (s.heap.objs.size+1)::(vs++dvs)) (Value.ref (s.heap.objs.size+1)::(us++ds)):=.cons rfl (r.append hd)
 have hl:(Value.ref (s.heap.objs.size+1)::us++ds).length=ps.length:=by
  have e:=r2.length
  rw [F.len _ _ _ _ hq] at e
  exact e.symm
 refine wpAny_call (zhh (f:=f) I.kIn M.makes M.init (beq_iff_eq.mp M.fn) (codeAny_mono (F.run _ X.stack _ _ ⟨Value.ref (s.heap.objs.size+1)::us,[]⟩ (Value.ref (s.heap.objs.size+1)::(us++ds)) _ _ (E σ) (hr.make C us [])
  (I2.env0.make C us []) (hb _ (Value.ref (s.heap.objs.size+1)::us) I2.kIn hl) r2 hq) fun r s' hq' => ?_))
 cases r with
 | error e=>exact hx pins σ _ _ e s' I2 hq'
 | ok fl =>
  cases fl with
  | ret u =>
   obtain ⟨v,H',I3,rv,ev,q3⟩:=I2.after hq'
   subst ev
   exact ⟨rv,⟨V.ref (s.heap.objs.size+1),H',I3,rfl,q3⟩⟩
  | next=>exact False.elim hq'
  | brk=>exact False.elim hq'
  | cont=>exact False.elim hq'
theorem ziT {C:Addr} {xs:List AV} {us:List V} {H:Hp} {Q:VK} {ι:Ix} {h:AH} {E:XK} {n:Nat} (hc:T.cls c=some C) (hn:(T.fields c).length=n) (S:Sim T ι h H) (r:RVs T ι H xs us)
  (q:Post T ι H E (RV T) (match F (.ref h.length::xs) (h++[.ins c (List.replicate n none)]) with | .ok .non h2=>Out.ok (AV.ref h.length) h2 | .ex c h2=>.ex c h2 | _=>.bad) Q) :
  ∀ x dx,H x=none->H dx=none->dx≠x->spA T F (.ref x::us) (upd (upd H dx (.own x)) x (.ins C dx [])) (fun v H2=>v = .non/\Q (.ref x) H2) E:=by
 intro x dx nx ndx ne
 have nx':(upd H dx (.own x)) x=none:=by rw [yax (Ne.symm ne)];exact nx
 have S1:=S.new (o:=.own x) ndx
 have g1:=S.growNew (o:=.own x) ndx
 have g2:=S1.growAdd (u:=.ins C dx []) nx'
 have S2:Sim T (ι.add x) (h++[.ins c (List.replicate n none)]) (upd (upd H dx (.own x)) x (.ins C dx [])):=S1.add nx' ⟨C,dx,[],hc,rfl,by simp,by simp,by simp [hn],fun i v e=>by
  rw [List.getElem?_replicate] at e
  split at e
  ·cases e
  ·cases e⟩
 refine ⟨ι.add x,_,.ref h.length::xs,S2,.cons (.ref S.addAt) (r.mono (g1.trans g2)),?_⟩
 have q2:=q.shift (g1.trans g2)
 cases e:F (.ref h.length::xs) (h++[.ins c (List.replicate n none)]) with
 | bad=>rw [e] at q2;exact q2
 | ex c' h2=>rw [e] at q2;exact q2
 | ok v h2 =>
  rw [e] at q2
  cases v with
  | non=>exact fun ι' H' u g S' r' => ⟨yd6 r',q2 ι' H' _ g S' (.ref (g.at S.addAt))⟩
  | _=>exact (show False from q2).elim
theorem ziU {n:Nat} (hK:X.K=T.K) (CC:CA T E X) (G:GK X.prog X.w T X.mg X.base k c x F) (hr:Room (k+1) X.A) (hg:Gl X x) (hn:(T.fields c).length=n:=by rfl) (hdb:(x == ("__debug__" : Str))=false:=by decide):PEA T E X (.Call (.Name x p) [] [] pos) (yeO c n F sNil):=by
 obtain ⟨C,f,fd,ps,h1,h2,h3,h4,h5⟩:=G.ex
 intro pins s σ H Q I ⟨ι,h,en,S,er,q⟩
 refine wpAny_Call_Name_kw (zbp I hg h2 ?_ hdb)
 have M:Mk X.K C f:=hK▸h3
 exact PySem.W.callWith_K0 I.kIn M.kp (zgQ (us:=[]) (vs:=[]) (dvs:=[]) M (hK▸h5) hr (hK▸h4) .nil CC.pass I .nil (ziT h1 hn S .nil q))
theorem yaN {i:Nat} {f:Str} (hK:X.K=T.K) (CFc:CF T c) (ho:PEA T E X o so) (hf:(T.fields c)[i]? = some f:=by rfl) (hb:attributeBase o f X.env (eval o X.env)=eval o X.env:=by rfl):PEA T E X (.Attribute o f pos) (Sm.sFld c i so):=by
 obtain ⟨C,hC,hcl,hna⟩:=CFc.ex
 refine yaR (ygL ho hb) fun σ H Q ⟨ι,h,en,S,er,q⟩=>⟨ι,h,en,S,er,q.bind fun x h1 ι1 H1 u g1 S1 r1 q1=>?_⟩
 split at q1
 ·rename_i n
  split at q1
  ·rename_i c' fs hn
   split at q1
   ·rename_i ec
    subst ec
    split at q1
    ·rename_i v hv
     cases r1 with
     | @ref _ a hr =>
      obtain ⟨o,e1,C',dx,fus,hC',rfl,nd,hw,hl,hr2⟩:=S1.obj n _ a hn hr
      rw [hC] at hC';cases hC'
      obtain ⟨f',u,e2,e3,r3⟩:=hr2 i v hv
      rw [hf] at e2;cases e2
      exact ⟨a,_,dx,fus,u,rfl,e1,hK▸hcl,hK▸hna f (List.mem_of_getElem? hf),e3,q1.now S1 r3⟩
    ·exact q1.elim
   ·exact q1.elim
  ·exact q1.elim
 ·exact q1.elim
theorem zdx (f:Str) (v:V):∀ {fs:List (Str×V)},(fs.map (·.1)).Nodup->((putF f v fs).map (·.1)).Nodup/\∀ g,g∈(putF f v fs).map (·.1)->g=f\/g∈fs.map (·.1)
 | [],_=>by simp [putF]
 | (g,x)::r,n=>by
  obtain ⟨n1,n2⟩:=List.nodup_cons.mp (show (g::r.map (·.1)).Nodup from n)
  unfold putF
  split
  ·rename_i e
   subst e
   exact ⟨n,fun k hk=>.inr hk⟩
  ·rename_i e
   obtain ⟨h1,h2⟩:=zdx f v (fs:=r) n2
   refine ⟨List.nodup_cons.mpr ⟨fun z=>?_,h1⟩,fun k hk=>?_⟩
   ·rcases h2 g z with z | z
    ·exact e z
    ·exact n1 z
   ·rcases List.mem_cons.mp hk with z | z
    ·exact .inr (by rw [z];simp)
    ·rcases h2 k z with z | z
     ·exact .inl z
     ·exact .inr (List.mem_cons_of_mem _ z)
theorem zeh:∀ {l m:List Str},l.Nodup->(∀ x∈l,x∈m)->l.length<=m.length
 | [],m,_,_=>Nat.zero_le _
 | x::l,m,n,h=>by
  obtain ⟨n1,n2⟩:=List.nodup_cons.mp n
  have hx:=h x (by simp)
  have:=zeh (l:=l) (m:=m.erase x) n2 fun y hy=>by
   have ne:y≠x:=fun z=>n1 (z▸hy)
   exact (List.mem_erase_of_ne ne).mpr (h y (by simp [hy]))
  rw [List.length_erase_of_mem hx] at this
  have:0<m.length:=List.length_pos_of_mem hx
  simp only [List.length_cons]
  omega
theorem zaK {i:Nat} {f:Str} {p':Pos} (hK:X.K=T.K) (CFc:CF T c) (ho:PEA T E X o so) (ha:PEA T E X a sa) (hf:(T.fields c)[i]? = some f:=by rfl) (hs:swapsWith a (some (.Attribute o f p')) pos.line X.env=pure false:=by rfl) :
  PSA T E X (.Assign [.Attribute o f p'] a pos) (ycf c i so sa):=by
 obtain ⟨C,hC,hcl,hna⟩:=CFc.ex
 refine ybZ (ygM ho ha hs) fun D σ H ⟨ι,h,en,S,er,q⟩=>⟨ι,h,en,S,er,q.go er fun y h1 ι1 H1 v g1 S1 r1 q1=>⟨ι1,h1,en,S1,er.mono g1,q1.go (er.mono g1) fun x h2 ι2 H2 u g2 S2 r2 q2=>?_⟩⟩
 split at q2
 ·rename_i n
  split at q2
  ·rename_i c' fs hn
   split at q2
   ·rename_i ec
    subst ec
    cases r2 with
    | @ref _ a hr =>
     obtain ⟨o,e1,C',dx,fus,hC',rfl,nd,hw,hl,hr2⟩:=S2.obj n _ a hn hr
     rw [hC] at hC';cases hC'
     have hmem:f∈T.fields c' := List.mem_of_getElem? hf
     have hlen:fus.length<1000:=by
      have:=zeh nd (m:=T.fields c') (fun x hx=>by
       obtain ⟨p,hp,rfl⟩:=List.mem_map.mp hx
       exact hw p hp)
      have:=T.few c'
      rw [List.length_map] at *
      omega
     obtain ⟨k1,k2⟩:=zdx f v nd
     have g3:=S2.growSet (u:=.ins C dx (putF f v fus)) hr
     refine ⟨a,C,dx,fus,rfl,e1,hK▸hcl,hK▸hna f hmem,hlen,q2 ι2 _ σ g3 (S2.set hr ⟨C,dx,putF f v fus,hC,rfl,k1,fun p hp=>?_,by simp [hl],fun j w hj=>?_⟩) (er.mono (g1.trans (g2.trans g3)))⟩
     ·rcases k2 p.1 (List.mem_map.mpr ⟨p,hp,rfl⟩) with z | z
      ·rw [z];exact hmem
      ·obtain ⟨p',hp',e⟩:=List.mem_map.mp z
       rw [<- e];exact hw p' hp'
     ·by_cases hji:j=i
      ·subst hji
       have hjl:j<fs.length:=by
        have:=(List.getElem?_eq_some_iff.mp hj).1
        simpa using this
       rw [List.getElem?_set_self hjl] at hj
       cases hj
       exact ⟨f,v,hf,by rw [zaY,if_pos rfl],r1.mono (g2.trans g3)⟩
      ·rw [List.getElem?_set_ne (Ne.symm hji)] at hj
       obtain ⟨f',u,e2,e3,r3⟩:=hr2 j w hj
       have ne:f'≠f:=fun z=>hji (zbz (T.nd c') e2 (z▸hf))
       exact ⟨f',u,e2,by rw [zaY,if_neg ne];exact e3,r3.mono g3⟩
   ·exact (show False from q2).elim
  ·exact (show False from q2).elim
 ·exact (show False from q2).elim
end
end Sm
namespace Sm
open PySem PySem.Spec L2
theorem yfl {T:Tb} {ι:Ix} {H:Hp} {k:Key} {u:V} (r:RV T ι H (kA k) u):u=kV k:=by
 cases k with
 | inl i=>exact yaK r
 | inr x=>exact (ybr r).1
theorem ye8 {k j:Key} (e:kA k=kA j):k=j:=by
 cases k<;>cases j<;>simp [kA] at e<;>simp [e]
theorem zc5:∀ {ks js:List Key},ks.map kA=js.map kA->ks=js
 | [],[],_=>rfl
 | [],_::_,e=>by simp at e
 | _::_,[],e=>by simp at e
 | k::ks,j::js,e=>by
  simp only [List.map_cons,List.cons.injEq] at e
  rw [ye8 e.1,zc5 e.2]
theorem yfJ {T:Tb} {ι:Ix} {H:Hp}:∀ {ks:List Key} {us:List V},RVs T ι H (ks.map kA) us->us=ks.map kV
 | [],_,.nil=>rfl
 | k::ks,_,.cons r rs=>by rw [yfl r,yfJ rs];rfl
theorem zbE {v:AV} {k:Key} (e:keyOf? v=some k):v=kA k:=by
 unfold keyOf? at e
 split at e<;>cases e<;>rfl
theorem zaZ:∀ {vs:List AV} {ks:List Key},keysOf? vs=some ks->vs=ks.map kA
 | [],_,e=>by cases e;rfl
 | v::vs,ks,e=>by
  unfold keysOf? at e
  split at e
  ·rename_i k ks' e1 e2
   cases e
   rw [zbE e1,zaZ e2];rfl
  ·cases e
theorem yex {κ:Type} [DecidableEq κ] {T:Tb} {ι:Ix} {H:Hp} {f:κ->AV} (hf:∀ {a b},f a=f b->a=b) {k:κ}:∀ {kvs:List (AV×AV)} {kus:List (κ×V)},Paired (fun (p:AV×AV) (q:κ×V)=>p.1=f q.1/\RV T ι H p.2 q.2) kvs kus ->
  (valA kvs (f k)=none/\valV kus k=none)\/∃ v u,valA kvs (f k)=some v/\valV kus k=some u/\RV T ι H v u
 | _,_,.nil=>.inl ⟨rfl,rfl⟩
 | (a,v)::kvs,(j,u)::kus,.cons ⟨e,r⟩ rs=>by
  by_cases h:j=k
  ·subst h
   replace e:a=f j:=e
   subst e
   exact .inr ⟨v,u,by simp [valA],zbB rfl,r⟩
  ·have h' : ¬ a=f k:=fun z=>h (hf (e.symm.trans z))
   rcases yex hf rs (k:=k) with ⟨h1,h2⟩ | ⟨v',u',h1,h2,h3⟩
   ·refine .inl ⟨?_,by rw [zba h];exact h2⟩
    unfold valA at h1 ⊢
    rw [List.find?_cons,decide_eq_false h']
    exact h1
   ·refine .inr ⟨v',u',?_,by rw [zba h];exact h2,h3⟩
    unfold valA at h1 ⊢
    rw [List.find?_cons,decide_eq_false h']
    exact h1
theorem zfn {kvs:List (AV×AV)} {k:AV}:(kvs.any fun p=>decide (p.1=k))=(valA kvs k).isSome:=by
 induction kvs with
 | nil=>rfl
 | cons p r ih =>
  unfold valA at ih ⊢
  rw [List.any_cons,List.find?_cons,ih]
  cases h:decide (p.1=k)<;>simp
theorem yfK {κ:Type} [DecidableEq κ] {T:Tb} {ι:Ix} {H:Hp} {f:κ->AV} (hf:∀ {a b},f a=f b->a=b) {k:κ} {v:AV} {u:V} (rv:RV T ι H v u) {kvs:List (AV×AV)} {kus:List (κ×V)} (r:Paired (fun (p:AV×AV) (q:κ×V)=>p.1=f q.1/\RV T ι H p.2 q.2) kvs kus) :
  Paired (fun (p:AV×AV) (q:κ×V)=>p.1=f q.1/\RV T ι H p.2 q.2) (putA kvs (f k) v) (putK kus k u):=by
 have e:(kvs.any fun p=>decide (p.1=f k))=kus.any fun kv=>decide (kv.1=k):=by
  rw [zfn,zcv]
  rcases yex hf r (k:=k) with ⟨h1,h2⟩ | ⟨v',u',h1,h2,h3⟩
  ·rw [h1,h2];rfl
  ·rw [h1,h2];rfl
 unfold putA putK
 rw [e]
 by_cases h:(kus.any fun kv=>decide (kv.1=k))=true
 ·rw [if_pos h,if_pos h]
  clear e h
  induction r with
  | nil=>exact .nil
  | cons p rs ih =>
   rename_i a b l1 l2
   refine .cons ?_ ih
   obtain ⟨e1,r1⟩:=p
   dsimp only
   by_cases hk:b.1=k
   ·rw [if_pos hk,if_pos (by rw [e1,hk])]
    exact ⟨e1,rv⟩
   ·rw [if_neg hk,if_neg (fun z=>hk (hf (e1.symm.trans z)))]
    exact ⟨e1,r1⟩
 ·rw [if_neg h,if_neg h]
  have app:∀ {l1:List (AV×AV)} {l2:List (κ×V)},Paired (fun (p:AV×AV) (q:κ×V)=>p.1=f q.1/\RV T ι H p.2 q.2) l1 l2->Paired (fun (p:AV×AV) (q:κ×V)=>p.1=f q.1/\RV T ι H p.2 q.2) (l1++[(f k,v)]) (l2++[(k,u)]):=fun z=>by
   induction z with
   | nil=>exact .cons ⟨rfl,rv⟩ .nil
   | cons p _ ih=>exact .cons p ih
  exact app r
section
variable {T:Tb} {ι:Ix} {h:AH} {H:Hp}
theorem keyT {xs:List AV} {u:V} {ks:List Key} (r:RV T ι H (.tup xs) u) (e:keysOf? xs=some ks):∃ b,u = .ref b/\KTup H b ks:=by
 have:=zaZ e
 subst this
 cases r with
 | tup n q r=>exact ⟨_,rfl,.of (by rw [<- yfJ r];exact q)⟩
theorem zfo {n:Nat} {t:Bool} {kvs:List (AV×AV)} {y:AV} {a:Addr} {w:V} (S:Sim T ι h H) (hn:h[n]? = some (.dct t kvs)) (hr:ι.refs[n]? = some a) (ry:RV T ι H y w) (hk:ycz t y=true) :
  ∃ o,DGet H a w o/\((valA kvs y=none/\o=none)\/∃ v u,valA kvs y=some v/\o=some u/\RV T ι H v u):=by
 obtain ⟨ob,e1,r⟩:=S.obj n _ a hn hr
 cases t with
 | false =>
  obtain ⟨kus,rfl,r⟩:=r
  have hk':(keyOf? y).isSome=true:=hk
  obtain ⟨k,ek⟩:=Option.isSome_iff_exists.mp hk'
  have:=zbE ek
  subst this
  rw [yfl ry]
  refine ⟨valV kus k,.k e1,?_⟩
  rcases yex ye8 r (k:=k) with ⟨h1,h2⟩ | ⟨v',u',h1,h2,h3⟩
  ·exact .inl ⟨h1,h2⟩
  ·exact .inr ⟨v',u',h1,h2,h3⟩
 | true =>
  obtain ⟨kus,rfl,r⟩:=r
  unfold ycz at hk
  split at hk
  ·rename_i hh;cases hh
  ·rename_i xs hh
   obtain ⟨ks,ek⟩:=Option.isSome_iff_exists.mp hk
   obtain ⟨b,rfl,hb⟩:=keyT ry ek
   have:=zaZ ek
   subst this
   refine ⟨valV kus ks,.t e1 hb,?_⟩
   rcases yex (f:=fun ks:List Key=>AV.tup (ks.map kA)) (fun e=>zc5 (by injection e)) r (k:=ks) with ⟨h1,h2⟩ | ⟨v',u',h1,h2,h3⟩
   ·exact .inl ⟨h1,h2⟩
   ·exact .inr ⟨v',u',h1,h2,h3⟩
  ·cases hk
theorem zfp {n:Nat} {t:Bool} {kvs:List (AV×AV)} {y z:AV} {a:Addr} {w u:V} (S:Sim T ι h H) (hn:h[n]? = some (.dct t kvs)) (hr:ι.refs[n]? = some a) (ry:RV T ι H y w) (rz:RV T ι H z u) (hk:ycz t y=true) (hl:kvs.length<sizeLine) :
  ∃ H',DPut H a w u H'/\Grow ι H ι H'/\Sim T ι (h.set n (.dct t (putA kvs y z))) H' := by
 obtain ⟨ob,e1,r⟩:=S.obj n _ a hn hr
 cases t with
 | false =>
  obtain ⟨kus,rfl,r⟩:=r
  have hk':(keyOf? y).isSome=true:=hk
  obtain ⟨k,ek⟩:=Option.isSome_iff_exists.mp hk'
  have:=zbE ek
  subst this
  rw [yfl ry]
  have g:=S.growSet (u:=.dK (putK kus k u)) hr
  exact ⟨_,.k e1 (by rw [<- Paired.length r];exact hl),g,S.set hr ⟨_,rfl,yfK ye8 (rz.mono g) (Paired.mapP r fun _ _ ⟨p,q⟩=>⟨p,q.mono g⟩)⟩⟩
 | true =>
  obtain ⟨kus,rfl,r⟩:=r
  unfold ycz at hk
  split at hk
  ·rename_i hh;cases hh
  ·rename_i xs hh
   obtain ⟨ks,ek⟩:=Option.isSome_iff_exists.mp hk
   obtain ⟨b,rfl,hb⟩:=keyT ry ek
   have:=zaZ ek
   subst this
   have g:=S.growSet (u:=.dT (putK kus ks u)) hr
   exact ⟨_,.t e1 hb (by rw [<- Paired.length r];exact hl),g,S.set hr ⟨_,rfl,yfK (f:=fun ks:List Key=>AV.tup (ks.map kA)) (fun e=>zc5 (by injection e)) (rz.mono g) (Paired.mapP r fun _ _ ⟨p,q⟩=>⟨p,q.mono g⟩)⟩⟩
  ·cases hk
theorem RVs.atI {xs:List AV} {us:List V} {i:Int} {v:AV} (r:RVs T ι H xs us) (e:atI xs i=some v):∃ u,L2.atI us i=some u/\RV T ι H v u:=by
 unfold L2.atI at e ⊢
 rw [<- r.length]
 obtain ⟨j,e1,e2⟩:=Option.bind_eq_some_iff.mp e
 obtain ⟨u,e3,r3⟩:=r.get e2
 exact ⟨u,by rw [e1];exact e3,r3⟩
end
section
variable {T:Tb} {E:St->XK} {X:Cx} {pos:Pos} {a b c:Expr} {sa sb sc:SE}
theorem yiq {e:Expr} {t t':TE} (h:PE X e t) (h':PE X e t'):PE X e (fun σ H Q=>t σ H Q\/t' σ H Q):=fun pins s σ H Q I q=>q.elim (h pins s σ H Q I) (h' pins s σ H Q I)
theorem yir {e:Stmt} {t t':TS} (h:PS X e t) (h':PS X e t'):PS X e (fun D σ H=>t D σ H\/t' D σ H):=fun pins s σ H Q I q=>q.elim (h pins s σ H Q I) (h' pins s σ H Q I)
theorem r_ix (hK:X.K=T.K) (hu:X.A.units+64<cLine) (ha:PEA T E X a sa) (hb:PEA T E X b sb) (hs:yfh b:=by exact fun _ _=>rfl):PEA T E X (.Subscript a b pos) (sOp2 fIx sa sb):=by
 refine yaR (yiq (yh8 ygP ha hb hs) (ziA (Nat.lt_of_le_of_lt (Nat.add_le_add_left (by decide:1<=64) _) hu) ha hb hs)) fun σ H Q q=>?_
 obtain ⟨ι,h,en,S,er,q⟩:=q
 have left:(∀ x h1 y h2,sa en h = .ok x h1->sb en h1 = .ok y h2->∀ n t kvs,x = .ref n->h2[n]? = some (.dct t kvs)->False)->tOp (rIx X.K) (tE T E sa) (tE T E sb) σ H Q:=fun no=>by
  refine ⟨ι,h,en,S,er,?_⟩
  unfold sOp2 at q
  cases e1:sa en h with
  | bad=>rw [e1] at q;exact q
  | ex c h1=>rw [e1] at q;exact q
  | ok x h1 =>
   rw [e1] at q
   intro ι1 H1 u g1 S1 r1
   refine ⟨ι1,h1,en,S1,er.mono g1,?_⟩
   dsimp only [Out.bind] at q
   cases e2:sb en h1 with
   | bad=>rw [e2] at q;exact q
   | ex c h2=>rw [e2] at q;exact Post.shift (R:=RV T) (o:=.ex c h2) q g1
   | ok y h2 =>
    rw [e2] at q
    intro ι2 H2 w g2 S2 r2
    have q2:=Post.shift q (g1.trans g2)
    have r1' := r1.mono g2
    dsimp only at q2
    unfold fIx at q2
    split at q2
    ·rename_i z i
     split at q2
     ·rename_i cc hc
      obtain ⟨rfl,zl,zo⟩:=ybr r1'
      rw [yaK r2]
      refine .inr (.inr ⟨z,i,cc,rfl,rfl,zl,hc,q2.now S2 (.str (show 1<=sizeLine by decide) ?_)⟩)
      obtain ⟨j,_,e3,_⟩:=zce hc
      have m:cc∈z.cps:=by
       have:=List.mem_of_getElem? e3
       simpa using this
      have:=Array.all_eq_true_iff_forall_mem.mp zo _ m
      simpa using this
     ·exact q2.elim
    ·rename_i xs i
     split at q2
     ·rename_i v hv
      obtain ⟨b,us,rfl,sq,rs⟩:=ydK r1'
      obtain ⟨u2,e3,r3⟩:=rs.atI hv
      rw [yaK r2]
      exact .inr (.inl ⟨b,us,i,u2,rfl,rfl,hK▸sq,e3,q2.now S2 r3⟩)
     ·exact q2.elim
    ·rename_i xs i
     split at q2
     ·rename_i v hv
      obtain ⟨b,us,rfl,sq,rs⟩:=ybU S2 r1' rfl
      obtain ⟨u2,e3,r3⟩:=rs.atI hv
      rw [yaK r2]
      exact .inl ⟨b,us,i,u2,rfl,rfl,hK▸sq,e3,q2.now S2 r3⟩
     ·exact q2.elim
    ·rename_i n
     split at q2
     ·rename_i xs hn
      split at q2
      ·rename_i i
       split at q2
       ·rename_i v hv
        obtain ⟨b,us,rfl,sq,rs⟩:=ybU (xs:=xs) S2 r1' (by simp [yce,hn])
        obtain ⟨u2,e3,r3⟩:=rs.atI hv
        rw [yaK r2]
        exact .inl ⟨b,us,i,u2,rfl,rfl,hK▸sq,e3,q2.now S2 r3⟩
       ·exact q2.elim
      ·exact q2.elim
     ·rename_i t kvs hn
      exact (no _ h1 _ h2 e1 e2 n t kvs rfl hn).elim
     ·exact q2.elim
    ·exact q2.elim
 by_cases dd:∃ x h1 y h2,sa en h = .ok x h1/\sb en h1 = .ok y h2/\∃ n t kvs,x = .ref n/\h2[n]? = some (.dct t kvs)
 ·obtain ⟨x,h1,y,h2,e1,e2,n,t,kvs,rfl,hn⟩:=dd
  refine .inr ⟨ι,h,en,S,er,?_⟩
  unfold sOp2 at q
  rw [e1] at q ⊢
  intro ι1 H1 u g1 S1 r1
  refine ⟨ι1,h1,en,S1,er.mono g1,?_⟩
  dsimp only [Out.bind] at q
  rw [e2] at q ⊢
  intro ι2 H2 w g2 S2 r2
  have q2:=Post.shift q (g1.trans g2)
  have r1' := r1.mono g2
  dsimp only at q2
  unfold fIx at q2
  simp only [hn] at q2
  split at q2
  ·rename_i hk
   cases r1' with
   | @ref _ ad hr =>
    obtain ⟨o,dg,alt⟩:=zfo S2 hn hr r2 hk
    rcases alt with ⟨v1,rfl⟩ | ⟨v,u,v1,rfl,r3⟩
    ·rw [v1] at q2;exact q2.elim
    ·rw [v1] at q2
     exact ⟨ad,u,rfl,dg,q2.now S2 r3⟩
  ·exact q2.elim
 ·exact .inl (left fun x h1 y h2 e1 e2 n t kvs e3 e4=>dd ⟨x,h1,y,h2,e1,e2,n,t,kvs,e3,e4⟩)
theorem zfq {p':Pos} (hu:X.A.units+64<cLine) (ho:PEA T E X a sa) (hi:PEA T E X b sb) (hv:PEA T E X c sc) (hs:swapsWith c (some (.Subscript a b p')) pos.line X.env=pure false:=by rfl) (hs':swapsWithSole [.Subscript a b p'] c pos.line X.env=pure false:=by rfl) (hw:swappedStores [.Subscript a b p'] c X.env=pure none:=by rfl)
  (h1:(assignEach [.Subscript a b p'] X.env).map (·.2)=[assign (.Subscript a b p') X.env]:=by rfl)
  (has:∀ v,assign (.Subscript a b p') X.env v=(do
   let ov <- holding [v] (eval a X.env)
   let iv <- holding [v,ov] (eval b X.env)
   standAt p'
   holding [v,ov,iv] (setItem ov iv v)
   release [v,ov,iv] []):=by intro _;rfl):PSA T E X (.Assign [.Subscript a b p'] c pos) (yet sa sb sc):=by
 refine ybZ (yir (ygB hv (ygA ho hi zhl has) hs' hw h1) (ziB (Nat.lt_of_le_of_lt (Nat.add_le_add_left (by decide:1<=64) _) hu) ho hi hv hs)) fun D σ H q=>?_
 obtain ⟨ι,h,en,S,er,q⟩:=q
 unfold yet at q
 by_cases dd:∃ z h1 x h2 y h3,sc en h = .ok z h1/\sa en h1 = .ok x h2/\sb en h2 = .ok y h3/\∃ n t kvs,x = .ref n/\h3[n]? = some (.dct t kvs)
 ·obtain ⟨z,h1,x,h2,y,h3,e1,e2,e3,n,t,kvs,rfl,hn⟩:=dd
  refine .inr ⟨ι,h,en,S,er,?_⟩
  rw [e1] at q ⊢
  intro ι1 H1 u g1 S1 r1
  refine ⟨ι1,h1,en,S1,er.mono g1,?_⟩
  dsimp only [Out.go] at q
  rw [e2] at q ⊢
  intro ι2 H2 w g2 S2 r2
  refine ⟨ι2,h2,en,S2,er.mono (g1.trans g2),?_⟩
  dsimp only at q
  rw [e3] at q ⊢
  intro ι3 H3 j g3 S3 r3
  have q2:=PostS.shift q (g1.trans (g2.trans g3))
  simp only [hn] at q2
  split at q2
  ·rename_i hk
   cases (r2.mono g3) with
   | @ref _ ad hr =>
    obtain ⟨H4,dp,g4,S4⟩:=zfp S3 hn hr r3 (r1.mono (g2.trans g3)) hk.1 hk.2
    exact ⟨ad,H4,rfl,dp,q2 ι3 H4 σ g4 S4 (er.mono (g1.trans (g2.trans (g3.trans g4))))⟩
  ·exact q2.elim
 ·refine .inl ⟨ι,h,en,S,er,?_⟩
  cases e1:sc en h with
  | bad=>rw [e1] at q;exact q
  | ex cc h1=>rw [e1] at q;exact fun i2 H2 C g S e=>q i2 H2 σ C g S (er.mono g) e
  | ok z h1 =>
   rw [e1] at q
   intro ι1 H1 u g1 S1 r1
   refine ⟨ι1,h1,en,S1,er.mono g1,?_⟩
   dsimp only [Out.go] at q
   cases e2:sa en h1 with
   | bad=>rw [e2] at q;exact q
   | ex cc h2=>rw [e2] at q;exact fun i2 H2 C g S e=>q i2 H2 σ C (g1.trans g) S (er.mono (g1.trans g)) e
   | ok x h2 =>
    rw [e2] at q
    intro ι2 H2 w g2 S2 r2
    refine ⟨ι2,h2,en,S2,er.mono (g1.trans g2),?_⟩
    dsimp only at q
    cases e3:sb en h2 with
    | bad=>rw [e3] at q;exact q
    | ex cc h3=>rw [e3] at q;exact fun i2 H2 C g S e=>q i2 H2 σ C (g1.trans (g2.trans g)) S (er.mono (g1.trans (g2.trans g))) e
    | ok y h3 =>
     rw [e3] at q
     intro ι3 H3 j g3 S3 r3
     have q2:=PostS.shift q (g1.trans (g2.trans g3))
     dsimp only at q2
     split at q2
     ·rename_i n
      split at q2
      ·rename_i xs hn
       split at q2
       ·rename_i k
        split at q2
        ·rename_i jj hj
         cases (r2.mono g3) with
         | @ref _ ad hr =>
          obtain ⟨o,e4,us,rfl,rs⟩:=S3.obj n _ ad hn hr
          have g4:=S3.growSet (u:=.lst (us.set jj u)) hr
          rw [yaK r3]
          exact ⟨ad,us,k,jj,rfl,rfl,e4,by rw [<- rs.length];exact hj,q2 ι3 _ σ g4 (S3.set hr ⟨_,rfl,RVs.set (r1.mono (g2.trans (g3.trans g4))) jj (rs.mono g4)⟩) (er.mono (g1.trans (g2.trans (g3.trans g4))))⟩
        ·exact q2.elim
       ·exact q2.elim
      ·rename_i t kvs hn
       exact (dd ⟨_,h1,_,h2,_,h3,e1,e2,e3,n,t,kvs,rfl,hn⟩).elim
      ·exact q2.elim
     ·exact q2.elim
theorem ziV {g:Value->Value->Sem Value} {r:R2} {neg:Bool} (hK:X.K=T.K)
  (h1:∀ (i j:Str) H Q,Q (V.bl (if neg then !(!(Builtin.Str.occurrences j i 0 j.length 1).isEmpty) else !(Builtin.Str.occurrences j i 0 j.length 1).isEmpty)) H->r (.str i) (.str j) H Q)
  (h2:∀ x y H Q p xs d ds,y=V.ref p->SqL T.K H p xs->DaV T.K H x d->DaVs T.K H xs ds->d.canLay0=true->(∀ e∈ds,e.canLay0=true/\e.depth<=30)->Q (V.bl (if neg then !(ds.any fun e=>PyData.eqv e d) else ds.any fun e=>PyData.eqv e d)) H->r x y H Q)
  (h2t:∀ x y H Q p xs d ds,y=V.ref p->SqT T.K H p xs->DaV T.K H x d->DaVs T.K H xs ds->d.canLay0=true->(∀ e∈ds,e.canLay0=true/\e.depth<=30)->Q (V.bl (if neg then !(ds.any fun e=>PyData.eqv e d) else ds.any fun e=>PyData.eqv e d)) H->r x y H Q)
  (h3:∀ (y:V) (a:Addr) o H Q,DGet H a y o->Q (V.bl (if neg then !o.isSome else o.isSome)) H->r y (.ref a) H Q) :
  OpS T (fun x y h=>match inA x y h with | some b=>.ok (.bl (if neg then !b else b)) h | none=>.bad) r:=by
 intro ι h H x y u w E Q S rx ry p
 dsimp only at p
 cases hb:inA x y h with
 | none=>rw [hb] at p;exact p.elim
 | some b =>
  rw [hb] at p
  dsimp only at p
  unfold inA at hb
  split at hb
  ·cases hb
   obtain ⟨rfl,_⟩:=ybr rx
   obtain ⟨rfl,_⟩:=ybr ry
   exact h1 _ _ _ _ (p.now S (.bl _))
  ·rename_i n
   split at hb
   ·rename_i t kvs hn
    split at hb
    ·rename_i hk
     cases hb
     cases ry with
     | @ref _ ad hr =>
      obtain ⟨o,dg,alt⟩:=zfo S hn hr rx hk
      refine h3 u ad o H Q dg ?_
      rcases alt with ⟨v1,rfl⟩ | ⟨v,u',v1,rfl,r3⟩
      ·rw [v1] at p;exact p.now S (.bl _)
      ·rw [v1] at p;exact p.now S (.bl _)
    ·cases hb
   ·rename_i xs hn
    split at hb
    ·rename_i d ds e1 e2
     cases hb
     obtain ⟨a,us,rfl,sq,rs⟩:=ybU (xs:=xs) S ry (by simp [yce,hn])
     obtain ⟨q1,q2,q3⟩:=ycC S 8 rx e1
     obtain ⟨q4,q5⟩:=zbr (n:=8) (fun r e=>ycC S 8 r e) rs e2
     exact h2 _ _ _ _ a us d ds rfl sq q1 q4 q2 (fun e he=>⟨(q5 e he).1,by have:=(q5 e he).2;omega⟩) (p.now S (.bl _))
    ·cases hb
   ·cases hb
  ·rename_i xs
   split at hb
   ·rename_i d ds e1 e2
    cases hb
    obtain ⟨a,us,rfl,sq,rs⟩:=ybU S ry rfl
    obtain ⟨q1,q2,q3⟩:=ycC S 8 rx e1
    obtain ⟨q4,q5⟩:=zbr (n:=8) (fun r e=>ycC S 8 r e) rs e2
    exact h2 _ _ _ _ a us d ds rfl sq q1 q4 q2 (fun e he=>⟨(q5 e he).1,by have:=(q5 e he).2;omega⟩) (p.now S (.bl _))
   ·cases hb
  ·rename_i xs
   split at hb
   ·rename_i d ds e1 e2
    cases hb
    obtain ⟨a,us,rfl,sq,rs⟩:=ydK ry
    obtain ⟨q1,q2,q3⟩:=ycC S 8 rx e1
    obtain ⟨q4,q5⟩:=zbr (n:=8) (fun r e=>ycC S 8 r e) rs e2
    exact h2t _ _ _ _ a us d ds rfl sq q1 q4 q2 (fun e he=>⟨(q5 e he).1,by have:=(q5 e he).2;omega⟩) (p.now S (.bl _))
   ·cases hb
  ·cases hb
end
end Sm
namespace L2
open PySem PySem.Spec PyProof.Rows
section
variable {X:Cx} {pins:List (Addr×Obj)} {σ:St} {H:Hp} {s:Shared}
theorem zdy (I:Inv X pins σ H s) (hu:X.A.units+64<cLine) {xs:List V} {ds:List PyData} {its:List Value} {d:PyData} {v:Value} {as:List Addr} (ra:Reads s.heap v d as) (hds:DaVs X.K H xs ds) (r:Vals xs its) (cd:d.canLay0=true) (cds:∀ e∈ds,e.canLay0=true/\e.depth<=30) :
  (∀ y,y∈its.toArray->SeqAt.EqAt X.A.in1 s y v (isD s.heap d y))/\its.toArray.any (isD s.heap d)=ds.any fun e=>PyData.eqv e d:=by
 obtain ⟨hl,hat⟩:=zfd I hds r
 constructor
 ·intro y hy
  have hy':y∈its:=by simpa using hy
  obtain ⟨j,hj⟩:=List.getElem?_of_mem hy'
  have hlt:=(List.getElem?_eq_some_iff.mp hj).1
  have hdj:ds[j]? = some (ds[j]'(by omega)):=List.getElem?_eq_getElem (by omega)
  obtain ⟨bs,rb⟩:=hat j _ _ hj hdj
  have cj:=cds _ (List.mem_of_getElem? hdj)
  rw [yfD cj.1 rb]
  exact SeqAt.eqAt_reads _ _ _ _ _ _ _ _ rb ra cj.1 cd (by
   have:=Nat.min_le_left (ds[j]'(by omega)).depth d.depth
   show X.A.units+1+_<cLine
   omega)
 ·rw [<- Array.any_toList]
  refine zfe hl fun j u e h1 h2=>?_
  obtain ⟨bs,rb⟩:=hat j _ _ h1 h2
  exact yfD (cds _ (List.mem_of_getElem? h2)).1 rb
def ygl (K:PySem.W.Frag):R2:=fun x y H Q=>∃ p xs d ds,y = .ref p/\SqL K H p xs/\DaV K H x d/\DaVs K H xs ds/\d.canLay0=true/\(∀ e∈ds,e.canLay0=true/\e.depth<=30)/\Q (.bl (!(ds.any fun e=>PyData.eqv e d))) H
def yf2 (K:PySem.W.Frag):R2:=fun x y H Q=>∃ p xs d ds,y = .ref p/\SqT K H p xs/\DaV K H x d/\DaVs K H xs ds/\d.canLay0=true/\(∀ e∈ds,e.canLay0=true/\e.depth<=30)/\Q (.bl (!(ds.any fun e=>PyData.eqv e d))) H
theorem zgR (hu:X.A.units+64<cLine):OpR X (compareOp .NotIn) (ygl X.K):=by
 intro pins s σ H x y v u Q I rx ry h
 obtain ⟨p,xs,d,ds,rfl,hq,hd,hds,cd,cds,q⟩:=h
 cases ry
 obtain ⟨its,r,pl,hz⟩:=I.list hq
 obtain ⟨as,ra⟩:=hd.reads I rx
 obtain ⟨h1,h2⟩:=zdy I hu ra hds r cd cds
 exact SeqAt.notIn_listAt (isD s.heap d) pl.isList h1 ⟨.bl _,H,I,rfl,by rw [h2];exact q⟩
theorem zgd (hu:X.A.units+64<cLine):OpR X (compareOp .NotIn) (yf2 X.K):=by
 intro pins s σ H x y v u Q I rx ry h
 obtain ⟨p,xs,d,ds,rfl,hq,hd,hds,cd,cds,q⟩:=h
 cases ry
 obtain ⟨its,r,pl,hz⟩:=I.tuple hq
 obtain ⟨as,ra⟩:=hd.reads I rx
 obtain ⟨h1,h2⟩:=zdy I hu ra hds r cd cds
 exact SeqAt.notIn_tupleAt (isD s.heap d) pl h1 ⟨.bl _,H,I,rfl,by rw [h2];exact q⟩
theorem zei (hu:X.A.units+64<cLine):OpR X (compareOp .NotIn) (fun x y H Q=>∃ a o,y = .ref a/\DGet H a x o/\Q (.bl (!o.isSome)) H):=by
 intro pins s σ H x y v u Q I rx ry h
 obtain ⟨a,o,rfl,g,q⟩:=h
 cases ry
 exact ziy (Nat.lt_of_le_of_lt (Nat.add_le_add_left (by decide:1<=64) _) hu) I g rx fun s' I' => ⟨.bl _,H,I',rfl,q⟩
end
end L2
namespace Sm
open PySem PySem.Spec L2
section
variable {T:Tb} {E:St->XK} {X:Cx}
theorem zfr (hK:X.K=T.K) (hu:X.A.units+64<cLine):Op T X (compareOp .NotIn) ye5:=by
 refine ⟨_,zd8.or ((zgR hu).or ((zgd hu).or (zei hu))),ziV (neg:=true) (g:=compareOp .NotIn) hK ?_ ?_ ?_ ?_⟩
 ·exact fun i j H Q q=>.inl ⟨i,j,rfl,rfl,q⟩
 ·exact fun x y H Q p xs d ds e1 e2 e3 e4 e5 e6 q=>.inr (.inl ⟨p,xs,d,ds,e1,hK▸e2,hK▸e3,hK▸e4,e5,e6,q⟩)
 ·exact fun x y H Q p xs d ds e1 e2 e3 e4 e5 e6 q=>.inr (.inr (.inl ⟨p,xs,d,ds,e1,hK▸e2,hK▸e3,hK▸e4,e5,e6,q⟩))
 ·exact fun y a o H Q g q=>.inr (.inr (.inr ⟨a,o,rfl,g,q⟩))
end
end Sm
namespace Sm
open PySem PySem.Spec L2
abbrev ErrC (x:Str) (C:Addr) (mg:Str->Option Value) (base:Heap):Prop:=PyProof.Rows.OwnCls x C [.type "ValueError",.type "Exception",.type "BaseException",.type "object"] "ValueError.__new__" mg base
structure GX (T:Tb) (mg:Str->Option Value) (base:Heap) (c:Nat) (x:Str):Prop where
 ex:∃ C,T.exc c=some C/\ErrC x C mg base
section
variable {T:Tb} {E:St->XK} {X:Cx} {pos np cpos:Pos} {e:Expr} {es:List Expr} {x:Str} {c:Nat} {as:SL}
theorem zaS (G:GX T X.mg X.base c x) (hr:ycL X E) (hg:Gl X x) (ha:PAA T E X (e::es) as) (hc:X.calm=true:=by rfl) (hex:X.ex=[]:=by rfl)
  (hdb:(x == ("__debug__" : Str))=false:=by decide) (he:starEach (e::es) X.env=(false,eval e X.env)::starEach es X.env:=by rfl) (hpl:(backTo cpos (starEach es X.env)).any (·.1)=false:=by rfl) :
  PSA T E X (.Raise (some (.Call (.Name x np) (e::es) [] cpos)) none pos) (ycy c as):=by
 obtain ⟨C,h1,O⟩:=G.ex
 refine ybZ (zhy O PySem.F.excBase_ValueError hc hex hr hg ha hdb he hpl) fun D σ H ⟨ι,h,en,S,er,q⟩=>⟨ι,h,en,S,er,q.go er fun xs h1' ι1 H1 us g1 S1 r1 q1=>?_⟩
 split at q1
 ·rename_i hl
  exact ⟨by rw [<- r1.length];exact hl,q1 ι1 H1 σ C S1.refl S1 (er.mono g1) h1⟩
 ·exact q1.elim
theorem yis {xc n:Str} {i:Nat} {body suite:List Stmt} {b0:Stmt} {hpos:Pos} {sb hd:SS} {outer:List Env} {C:Addr} {catches:Nat->Bool} (hK:X.K=T.K) (hN:X.N.Nodup) (hg:Gl X xc) (hm:X.mg xc=some (.ref C))
  (hcat:∀ c C',catches c=true->T.exc c=some C'->PySem.W.exmOne T.K (.ref C') (.ref C)=some true)
  (hb:∀ pins xe Ex,CA T Ex (tryC X pins xe)->ycL (tryC X pins xe) Ex->PSsA T Ex (tryC X pins xe) body sb) (hh:∀ a,CA T EN (hdlC X a)->PSsA T EN (hdlC X a) (b0::suite) hd)
  (hex:X.ex=[]:=by rfl) (hst:X.stack=X.env::outer:=by rfl) (hf:X.env.frame=some X.env.locals:=by rfl) (hi:X.N[i]? = some n:=by rfl) (hl:X.env.scope.names.lookup n=some .local:=by rfl) (hdb:(xc == ("__debug__" : Str))=false:=by decide) :
  PSA T E X (.Try body [.ExceptHandler (some (.Name xc np)) (some n) (b0::suite) hpos] [] [] pos) (sTry i catches sb hd):=by
 refine ybZ (ygZ hex hst hf hN hi hl hg hm (fun pins xe Ex h1 h2=>hb pins xe Ex ⟨hK,h1⟩ h2) (fun a=>hh a (CA.never hK)) hdb) fun D σ H ⟨ι,h,en,S,er,q⟩=>⟨ι,h,en,S,er,?_⟩
 unfold sTry at q
 cases e1:sb en h with
 | nx e2 h2=>rw [e1] at q;exact q
 | rt v h2=>rw [e1] at q;exact q
 | bk e2 h2=>rw [e1] at q;exact q
 | ct e2 h2=>rw [e1] at q;exact q
 | bad=>rw [e1] at q;exact q
 | ex c e2 h2 =>
  rw [e1] at q
  dsimp only at q
  intro ι' H' σ' C' g S' er' ec
  by_cases hcc:catches c=true
  ·rw [if_pos hcc] at q
   refine ⟨hK▸hcat c C' hcc ec,fun a hn=>⟨ι',h2,e2.set i (some (.exc c)),S'.new hn,(er'.mono (S'.growNew hn)).set (.exc (S'.fresh hn) ec zao) i,?_⟩⟩
   have q2:=PostS.shift q (g.trans (S'.growNew (o:=excO a (.ref C')) hn))
   cases e3:hd (e2.set i (some (.exc c))) h2 with
   | nx e4 h4=>rw [e3] at q2;exact fun ι5 H5 σ5 g5 S5 er5=>q2 ι5 H5 _ g5 S5 (er5.unset i)
   | bk e4 h4=>rw [e3] at q2;exact fun ι5 H5 σ5 g5 S5 er5=>q2 ι5 H5 _ g5 S5 (er5.unset i)
   | ct e4 h4=>rw [e3] at q2;exact fun ι5 H5 σ5 g5 S5 er5=>q2 ι5 H5 _ g5 S5 (er5.unset i)
   | rt v h4=>rw [e3] at q2;exact q2
   | ex c' e4 h4=>rw [e3] at q2;exact (show False from q2).elim
   | bad=>rw [e3] at q2;exact q2
  ·rw [if_neg hcc] at q;exact (show False from q).elim
end
def ydw (T:Tb) (f:Fn) (r:List V->Hp->VK->Prop):Prop:=∀ (ι:Ix) (h:AH) (H:Hp) (xs:List AV) (us:List V) (E:XK) (Q:VK),Sim T ι h H->RVs T ι H xs us->Post T ι H E (RV T) (f xs h) Q->r us H Q
section
variable {T:Tb} {E:St->XK} {X:Cx} {pos p:Pos} {e a:Expr} {es:List Expr} {x:Str} {as:SL} {sa:SE}
theorem yit {f:Fn} {r:List V->Hp->VK->Prop} (hs:ydw T f r) {σ:St} {H:Hp} {Q:VK} (q:tE T E (yah f as) σ H Q):tCB r (tA T E as) σ H Q:=by
 obtain ⟨ι,h,en,S,er,q⟩:=q
 exact ⟨ι,h,en,S,er,q.bind fun xs h1 ι1 H1 us g1 S1 r1 q1=>hs ι1 h1 H1 xs us _ Q S1 r1 q1⟩
theorem r_bi {id:String} {f:Fn} (hc:∃ r,CallR X (.builtin id) r/\ydw T f r) (hg:Gl X x) (hm:X.mg x=none) (hv:bootBuiltins x=some (.builtin id)) (ha:PAA T E X (e::es) as) (hn:x ≠ "__name__" := by decide) (hdb:(x == ("__debug__" : Str))=false:=by decide)
  (he:starEach (e::es) X.env=(false,eval e X.env)::starEach es X.env:=by rfl) (hpl:(backTo pos (starEach es X.env)).any (·.1)=false:=by rfl):PEA T E X (.Call (.Name x p) (e::es) [] pos) (yah f as):=by
 obtain ⟨r,h1,h2⟩:=hc
 exact yaR (zbA h1 hg hm hv ha hn hdb he hpl) fun σ H Q q=>yit h2 q
theorem b_len (hK:X.K=T.K):∃ r,CallR X (.builtin "len") r/\ydw T fLen r:=by
 refine ⟨_,zea.or (zd9.or zgE),fun ι h H xs us E Q S r q=>?_⟩
 unfold fLen at q
 split at q
 ·cases r with
  | cons r r' =>
   cases r'
   obtain ⟨rfl,n,_⟩:=ybr r
   exact .inl ⟨_,rfl,n,q.now S (.int _)⟩
 ·cases r with
  | cons r r' =>
   cases r'
   obtain ⟨a,us,rfl,sq,rs⟩:=ydK r
   exact .inr (.inl ⟨a,us,rfl,.inr (hK▸sq),by rw [<- rs.length];exact q.now S (.int _)⟩)
 ·cases r with
  | cons r r' =>
   cases r'
   obtain ⟨a,us,rfl,sq,rs⟩:=ybU S r rfl
   exact .inr (.inl ⟨a,us,rfl,.inl (hK▸sq),by rw [<- rs.length];exact q.now S (.int _)⟩)
 ·rename_i n
  cases r with
  | cons r r' =>
   cases r'
   split at q
   ·rename_i xs hn
    obtain ⟨a,us,rfl,sq,rs⟩:=ybU (xs:=xs) S r (by simp [yce,hn])
    exact .inr (.inl ⟨a,us,rfl,.inl (hK▸sq),by rw [<- rs.length];exact q.now S (.int _)⟩)
   ·rename_i kvs hn
    cases r with
    | @ref _ ad hr =>
     obtain ⟨o,e1,kus,rfl,rs⟩:=S.obj n _ ad hn hr
     exact .inr (.inr ⟨ad,kus,rfl,e1,by rw [<- Paired.length rs];exact q.now S (.int _)⟩)
   ·exact q.elim
 ·exact q.elim
theorem b_abs:∃ r,CallR X (.builtin "abs") r/\ydw T fAbs r:=by
 refine ⟨_,zhf,fun ι h H xs us E Q S r q=>?_⟩
 unfold fAbs at q
 split at q
 ·cases r with
  | cons r r' => cases r';rw [yaK r];exact ⟨_,rfl,q.now S (.int _)⟩
 ·exact q.elim
theorem yg9 (hc:X.calm=true:=by rfl):∃ r,CallR X (.builtin "max") r/\ydw T yfk r:=by
 refine ⟨_,zgt hc,fun ι h H xs us E Q S r q=>?_⟩
 unfold yfk at q
 split at q
 ·cases r with
  | cons r r' => cases r' with
   | cons r1 r2=>cases r2;rw [yaK r,yaK r1];exact ⟨_,_,rfl,q.now S (.int _)⟩
 ·exact q.elim
theorem yha (hc:X.calm=true:=by rfl):∃ r,CallR X (.builtin "min") r/\ydw T ycA r:=by
 refine ⟨_,zgu hc,fun ι h H xs us E Q S r q=>?_⟩
 unfold ycA at q
 split at q
 ·cases r with
  | cons r r' => cases r' with
   | cons r1 r2=>cases r2;rw [yaK r,yaK r1];exact ⟨_,_,rfl,q.now S (.int _)⟩
 ·exact q.elim
theorem zej {ι:Ix} {H:Hp}:∀ {xs:List AV} {us:List V} {bs:List Bool},RVs T ι H xs us->ydJ xs=some bs->us=bs.map V.bl
 | _,_,_,.nil,e=>by cases e;rfl
 | _,_,bs,.cons (x:=x) r rs,e=>by
  unfold ydJ at e
  split at e
  ·rename_i hh;cases hh
  ·rename_i b r' hh
   cases hh
   obtain ⟨bs',e1,rfl⟩:=Option.map_eq_some_iff.mp e
   rw [ycB r,zej rs e1];rfl
  ·cases e
theorem b_all (hK:X.K=T.K) (hc:X.calm=true:=by rfl):∃ r,CallR X (.builtin "all") r/\ydw T fAll r:=by
 refine ⟨_,zhu hc,fun ι h H xs us E Q S r q=>?_⟩
 unfold fAll at q
 split at q
 ·split at q
  ·rename_i bs hb
   cases r with
   | cons r r' =>
    cases r'
    obtain ⟨a,us,rfl,sq,rs⟩:=ybU S r rfl
    rw [zej rs hb] at sq
    exact ⟨a,bs,rfl,hK▸sq,q.now S (.bl _)⟩
  ·exact q.elim
 ·exact q.elim
abbrev tys:List String:=["NoneType", "bool", "int", "str", "list", "tuple", "dict"]
theorem yfL (K:PySem.W.Frag):∀ n∈tys,∀ t∈tys,PySem.W.kitOne K (.type n) (.type t)=some (n == t || (t == "int" && n == "bool")):=by
 intro n hn t ht
 simp only [tys,List.mem_cons,List.not_mem_nil,or_false] at hn ht
 rcases hn with rfl | rfl | rfl | rfl | rfl | rfl | rfl<;>rcases ht with rfl | rfl | rfl | rfl | rfl | rfl | rfl<;>rfl
theorem zgS {c:V} {cv:Value} (rc:∀ u,RelV c u->u=cv) :
  CallR X (.builtin "isinstance") (fun xs H Q=>∃ a us r,xs=[.ref a,c]/\SqL X.K H a us/\PySem.W.kitOne X.K (.type "list") cv=some r/\Q (.bl r) H):=by
 intro pins s σ H xs us Q I r h
 obtain ⟨a,ws,k,rfl,sq,hk,q⟩:=h
 obtain ⟨u,w',rfl,rx,ry⟩:=ydP r
 obtain rfl:=rc _ ry
 obtain rfl:u=Value.ref a:=rx
 obtain ⟨its,_,⟨o,n,e1,e2,_⟩,_⟩:=I.list sq
 exact PySem.W.kia_one PySem.W.kitx_list I.kIn ⟨_,e1,e2⟩ hk (fun z=>nomatch z) fun tk=>⟨.bl k,H,I.tok _,rfl,q⟩
theorem yiu {ι:Ix} {h:AH} {H:Hp} {v:AV} {u:V} {n:String} (S:Sim T ι h H) (r:RV T ι H v u) (e:tyN v h=some n):(TyOf T.K H u (.type n)\/(n = "list" /\ ∃ a us,u = .ref a/\SqL T.K H a us))/\n∈tys:=by
 unfold tyN at e
 cases r with
 | non=>cases e;exact ⟨.inl .non,by decide⟩
 | bl b=>cases e;exact ⟨.inl (.bl b),by decide⟩
 | int b=>cases e;exact ⟨.inl (.int b),by decide⟩
 | str n o=>cases e;exact ⟨.inl (.str _),by decide⟩
 | tup n q r=>cases e;exact ⟨.inl (.tup q),by decide⟩
 | fl n q r=>cases e;exact ⟨.inr ⟨rfl,_,_,rfl,.inl q⟩,by decide⟩
 | kfl q r=>cases e;exact ⟨.inr ⟨rfl,_,_,rfl,.inr q⟩,by decide⟩
 | @ref k a q =>
  dsimp only at e
  split at e
  ·rename_i xs hn
   cases e
   obtain ⟨o,e1,us,rfl,rs⟩:=S.obj k _ a hn q
   exact ⟨.inl (.lst e1),by decide⟩
  ·rename_i t kvs hn
   cases e
   obtain ⟨o,e1,r⟩:=S.obj k _ a hn q
   cases t with
   | false=>obtain ⟨kus,rfl,rs⟩:=r;exact ⟨.inl (.dK e1),by decide⟩
   | true=>obtain ⟨kus,rfl,rs⟩:=r;exact ⟨.inl (.dT e1),by decide⟩
  ·cases e
 | exc _ _ _=>cases e
theorem ydT {t:Str} {id:String} {p2:Pos} (hK:X.K=T.K) (hg:Gl X "isinstance") (hm:X.mg "isinstance" = none) (ha:PEA T E X a sa) (hgt:Gl X t) (hmt:X.mg t=none) (hvt:bootBuiltins t=some (.type id)) (hid:id∈tys) (hnt:t ≠ "__name__" := by decide) (hdt:(t == ("__debug__" : Str))=false:=by decide)
  (he:starEach [a,.Name t p2] X.env=(false,eval a X.env)::starEach [.Name t p2] X.env:=by rfl):PEA T E X (.Call (.Name "isinstance" p) [a,.Name t p2] [] pos) (sIsB id sa):=by
 refine yaR (zbA ((zht (X:=X) (yfj id)).or (zgS (X:=X) (yfj id))) hg hm PyProof.Rows.boot_isinstance (zaN ha (zaN (ze5 (v:=.ty id) hgt hmt hvt rfl hnt hdt) yd2) he) (he:=he)) fun σ H Q ⟨ι,h,en,S,er,q⟩=>⟨ι,h,en,S,er,q.bind fun v h1 ι1 H1 u g1 S1 r1 q1=>?_⟩
 split at q1
 ·rename_i n hn
  obtain ⟨ty,hmem⟩:=yiu S1 r1 hn
  rcases ty with ty | ⟨rfl,ad,us,rfl,sq⟩
  ·exact .inl ⟨u,.type n,_,rfl,hK▸ty,yfL _ n hmem id hid,q1.now S1 (.bl _)⟩
  ·exact .inr ⟨ad,us,_,rfl,hK▸sq,yfL _ _ hmem id hid,q1.now S1 (.bl _)⟩
 ·exact q1.elim
theorem ygc {t:Str} {p2:Pos} {cv:Value} {cV:V} {pr:Nat->Bool} (hK:X.K=T.K) (hg:Gl X "isinstance") (hm:X.mg "isinstance" = none) (ha:PEA T E X a sa) (hcl:PE X (.Name t p2) (tC cV)) (rc:∀ u,RelV cV u->u=cv)
  (hp:∀ c C,T.exc c=some C->ExcK T.K C/\PySem.W.kitOne T.K (.ref C) cv=some (pr c)) (he:starEach [a,.Name t p2] X.env=(false,eval a X.env)::starEach [.Name t p2] X.env:=by rfl):PEA T E X (.Call (.Name "isinstance" p) [a,.Name t p2] [] pos) (sIsX pr sa):=by
 refine yaR (zbA (zhD (X:=X) rc) hg hm PyProof.Rows.boot_isinstance (zaN ha (zaN hcl yd2) he) (he:=he)) fun σ H Q ⟨ι,h,en,S,er,q⟩=>⟨ι,h,en,S,er,q.bind fun v h1 ι1 H1 u g1 S1 r1 q1=>?_⟩
 split at q1
 ·rename_i c
  cases r1 with
  | @exc _ C ad n ec hq =>
   obtain ⟨Z,k⟩:=hp c C ec
   exact ⟨ad,C,_,rfl,hq,hK▸Z,hK▸k,q1.now S1 (.bl _)⟩
 ·exact q1.elim
theorem yhb {tt:Expr} {cs:List Expr} {k:Nat} {p2:Pos} {cVs:List V} {cvs:List Value} {pr:Nat->Bool} (hK:X.K=T.K) (hg:Gl X "isinstance") (hm:X.mg "isinstance" = none) (ha:PEA T E X a sa)
  (hcl:PA X cs (fun _ H Q=>Q cVs H)) (hl:cVs.length<=sizeLine) (rc:∀ us,Vals cVs us->us=cvs) (hp:∀ c C,T.exc c=some C->ExcK T.K C/\PySem.W.kitAny T.K (.ref C) cvs=some (pr c))
  (he:starEach [a,.Tuple cs k p2] X.env=(false,eval a X.env)::starEach [.Tuple cs k p2] X.env:=by rfl):PEA T E X (.Call (.Name "isinstance" p) [a,.Tuple cs k p2] [] pos) (sIsX pr sa):=by
 refine yaR (zbA (zgJ (X:=X)) hg hm PyProof.Rows.boot_isinstance (zaN ha (zaN (yfv hcl) yd2) he) (he:=he)) fun σ H Q ⟨ι,h,en,S,er,q⟩=>⟨ι,h,en,S,er,q.bind fun v h1 ι1 H1 u g1 S1 r1 q1=>?_⟩
 split at q1
 ·rename_i c
  cases r1 with
  | @exc _ C ad n ec hq =>
   obtain ⟨Z,kk⟩:=hp c C ec
   refine ⟨hl,fun tp hn=>?_⟩
   have g2:=S1.growNew (o:=.tup cVs) hn
   exact ⟨ad,C,tp,cVs,cvs,_,rfl,by rw [yax (zam hq hn)];exact hq,hK▸Z,zao,rc,hK▸kk,q1 ι1 _ _ g2 (S1.new hn) (.bl _)⟩
 ·exact q1.elim
def MtS (T:Tb) (f:FM) (r:V->List V->Hp->VK->Prop):Prop:=∀ (ι:Ix) (h:AH) (H:Hp) (x:AV) (xs:List AV) (u:V) (us:List V) (E:XK) (Q:VK),Sim T ι h H->RV T ι H x u->RVs T ι H xs us->Post T ι H E (RV T) (f x xs h) Q->r u us H Q
def ChkS (T:Tb) (chk:AV->AH->Bool) (n:String):Prop:=∀ (ι:Ix) (h:AH) (H:Hp) (x:AV) (u:V),Sim T ι h H->RV T ι H x u->chk x h=true->tyV T.K n u H
theorem zai:ChkS T yar "list" := fun ι h H x u S r e=>by
 obtain ⟨xs,e1⟩:=Option.isSome_iff_exists.mp e
 obtain ⟨a,us,rfl,sq,rs⟩:=ybU S r e1
 exact .inl ⟨rfl,us,sq⟩
theorem zfs:ChkS T yeP "str" := fun ι h H x u S r e=>by
 unfold yeP at e
 split at e
 ·obtain ⟨rfl,_⟩:=ybr r;rfl
 ·cases e
variable {o:Expr} {so:SE} {name:Str} {apos:Pos} {chk:AV->AH->Bool} {f:FM} {tn id:String}
theorem r_bm (hK:X.K=T.K) (pa:PlainAttrs tn) (slot:Slot tn name id) (hty:typeOf (.builtin id)=pure (.type "method_descriptor")) (hm:∃ r,MtR X id r/\MtS T f r) (hc:ChkS T chk tn) (ho:PEA T E X o so) (ha:PAA T E X (e::es) as)
  (hbase:attributeBase o name X.env (eval o X.env)=eval o X.env:=by rfl)
  (hfew:((backTo pos (starEach (e::es) X.env)).all (fun x=>!x.1) && (backToKw pos (keywordEach [] X.env)).all (fun x=>x.1.isSome)
   && decide ((e::es).length+([]:List Keyword).length+(if ([]:List Keyword).isEmpty then 0 else 1)<30))=true:=by rfl)
  (hline:(apos.endLine == pos.line)=true:=by rfl) (hs:starEach (e::es) X.env=(false,eval e X.env)::starEach es X.env:=by rfl) (hplain:(backTo pos (starEach es X.env)).any (·.1)=false:=by rfl) :
  PEA T E X (.Call (.Attribute o name apos) (e::es) [] pos) (sBM chk f so as):=by
 obtain ⟨r,h1,h2⟩:=hm
 refine yaR (yia pa slot hty h1 ho ha hbase hfew hline hs hplain) fun σ H Q ⟨ι,h,en,S,er,q⟩=>⟨ι,h,en,S,er,q.bind fun x h1 ι1 H1 u g1 S1 r1 q1=>?_⟩
 by_cases hx:chk x h1=true
 ·rw [if_pos hx] at q1
  exact ⟨hK▸hc ι1 h1 H1 x u S1 r1 hx,ι1,h1,en,S1,er.mono g1,q1.bind fun xs h2' ι2 H2 us g2 S2 r2 q2=>h2 ι2 h2' H2 x xs u us _ Q S2 (r1.mono g2) r2 q2⟩
 ·rw [if_neg hx] at q1;exact q1.elim
theorem yey (hK:X.K=T.K) (pa:PlainAttrs tn) (slot:Slot tn name id) (hty:typeOf (.builtin id)=pure (.type "method_descriptor")) (hm:∃ r,MtR X id r/\MtS T f r) (hc:ChkS T chk tn) (ho:PEA T E X o so)
  (hbase:attributeBase o name X.env (eval o X.env)=eval o X.env:=by rfl) (hline:(apos.endLine == pos.line)=true:=by rfl):PEA T E X (.Call (.Attribute o name apos) [] [] pos) (sBM0 chk f so):=by
 obtain ⟨r,h1,h2⟩:=hm
 refine yaR (ygQ pa slot hty h1 ho hbase hline) fun σ H Q ⟨ι,h,en,S,er,q⟩=>⟨ι,h,en,S,er,q.bind fun x h1 ι1 H1 u g1 S1 r1 q1=>?_⟩
 by_cases hx:chk x h1=true
 ·rw [if_pos hx] at q1
  exact ⟨hK▸hc ι1 h1 H1 x u S1 r1 hx,h2 ι1 h1 H1 x [] u [] _ Q S1 r1 .nil q1⟩
 ·rw [if_neg hx] at q1;exact q1.elim
theorem zan:∃ r,MtR X "list.append" r/\MtS T yao r:=by
 refine ⟨_,zb0,fun ι h H x xs u us E Q S rx rs q=>?_⟩
 unfold yao at q
 split at q
 ·rename_i n y
  split at q
  ·rename_i ys hn
   split at q
   ·rename_i hl
    cases rx with
    | @ref _ ad hr =>
     cases rs with
     | @cons _ uu _ _ r r' =>
      cases r'
      obtain ⟨o,e1,ws,rfl,rw_⟩:=S.obj n _ ad hn hr
      have g:=S.growSet (u:=.lst (ws++[uu])) hr
      exact ⟨ad,ws,_,rfl,rfl,e1,by rw [<- rw_.length];exact hl,q ι _ _ g (S.set hr ⟨_,rfl,(rw_.mono g).append (.cons (r.mono g) .nil)⟩) .non⟩
   ·exact q.elim
  ·exact q.elim
 ·exact q.elim
theorem yeR:∃ r,MtR X "list.pop" r/\MtS T mPop r:=by
 refine ⟨_,ygR,fun ι h H x xs u us E Q S rx rs q=>?_⟩
 unfold mPop at q
 split at q
 ·rename_i n
  split at q
  ·rename_i ys hn
   split at q
   ·rename_i y hy
    cases rx with
    | @ref _ ad hr =>
     cases rs
     obtain ⟨o,e1,ws,rfl,rw_⟩:=S.obj n _ ad hn hr
     have g:=S.growSet (u:=.lst ws.dropLast) hr
     obtain ⟨v,e2,r2⟩:=rw_.get hy
     refine ⟨ad,ws,v,rfl,rfl,e1,by rw [<- rw_.length];exact e2,q ι _ _ g (S.set hr ⟨_,rfl,?_⟩) (r2.mono g)⟩
     have z:=(rw_.mono g).take (ys.length-1)
     have e3:ys.take (ys.length-1)=ys.dropLast:=List.dropLast_eq_take.symm
     have e4:ws.take (ys.length-1)=ws.dropLast:=by rw [rw_.length];exact List.dropLast_eq_take.symm
     rw [e3,e4] at z
     exact z
   ·exact q.elim
  ·exact q.elim
 ·exact q.elim
theorem zhL:∃ r,MtR X "str.count" r/\MtS T yeJ r:=by
 refine ⟨_,zee,fun ι h H x xs u us E Q S rx rs q=>?_⟩
 unfold yeJ at q
 split at q
 ·cases rs with
  | cons r r' =>
   cases r'
   obtain ⟨rfl,_⟩:=ybr rx
   obtain ⟨rfl,_⟩:=ybr r
   exact ⟨_,_,rfl,rfl,q.now S (.int _)⟩
 ·exact q.elim
end
end Sm
namespace Sm
open PySem PySem.Spec L2
theorem Out.bind_assoc {α β γ:Type} (o:Out α) (f:α->AH->Out β) (g:β->AH->Out γ):(o.bind f).bind g=o.bind fun a h=>(f a h).bind g:=by cases o<;>rfl
section
variable {T:Tb} {E:St->XK} {X:Cx} {pos p2:Pos} {a b:Expr} {sa sb:SE}
def tO (T:Tb) (E:St->XK):Option SE->TO
 | none=>yfg
 | some s=>yf5 (tE T E s)
abbrev POA (T:Tb) (E:St->XK) (X:Cx) (e:Option Expr) (s:Option SE):Prop:=PO X e (tO T E s)
theorem zaF:POA T E X none none:=zit
theorem zaB (h:PEA T E X a sa):POA T E X (some a) (some sa):=ziu h
@[simp] def yeS (s:Option SE):En->AH->Out (Option Int):=fun en h=>match s with
 | none=>.ok none h
 | some l=>(l en h).bind fun v h2=>match v with | .int i=>.ok (some i) h2 | _=>.bad
theorem zft {s:Option SE} {σ:St} {H:Hp} {ι:Ix} {h:AH} {en:En} {γ δ:Type} {R':Ix->Hp->γ->δ->Prop} {Q0:δ->Hp->Prop} {f:Option Int->AH->Out γ} {Q:Option Int->Hp->Prop} (S:Sim T ι h H) (er:ER T ι H en σ) (q:Post T ι H (E σ) R' ((yeS s en h).bind f) Q0)
  (k:∀ l h' ι' H',Grow ι H ι' H'->Sim T ι' h' H'->Post T ι' H' (E σ) R' (f l h') Q0->Q l H'):tO T E s σ H Q:=by
 cases s with
 | none=>exact k none h ι H S.refl S q
 | some l =>
  refine ⟨ι,h,en,S,er,?_⟩
  unfold yeS at q
  dsimp only at q
  rw [Out.bind_assoc] at q
  refine q.bind fun v h1 ι1 H1 u g1 S1 r1 q1=>?_
  split at q1
  ·rw [yaK r1]
   exact ⟨_,rfl,k _ _ ι1 H1 g1 S1 q1⟩
  ·exact q1.elim
@[simp] def ybk (x:AV) (l u:Option Int) (h:AH):Out AV:=match x with
 | .fl xs=>.ok (.fl (cutA xs l u)) h
 | .str z=>.ok (.str (cutS z l u)) h
 | .tup xs=>if ¬ (HT.sIx xs.length 0 l=0/\HT.sIx xs.length xs.length u=xs.length) then .ok (.tup (cutA xs l u)) h else .bad
 | .ref n=>match h[n]? with
  | some (.lst xs)=>.ok (.fl (cutA xs l u)) h
  | _=>.bad
 | _=>.bad
@[simp] def sCut (a:SE) (lo hi:Option SE):SE:=fun en h=>(a en h).bind fun x h1=>(yeS lo en h1).bind fun l h2=>(yeS hi en h2).bind fun u h3=>ybk x l u h3
theorem RVs.cut {ι:Ix} {H:Hp} {xs:List AV} {us:List V} {lo hi:Option Int} (r:RVs T ι H xs us):RVs T ι H (cutA xs lo hi) (cutV us lo hi):=by
 unfold cutA cutV
 rw [<- r.length]
 exact (r.drop _).take _
theorem yhc {ι:Ix} {H:Hp} {z:Str} {l u:Option Int} (hz:z.length<=sizeLine) (hc:z.cps.all (· < 0x110000)=true):RV T ι H (.str (cutS z l u)) (.str (cutS z l u)):=by
 refine .str ?_ ?_
 ·refine Nat.le_trans ?_ hz
  simp [cutS,Str.length];omega
 ·simp only [cutS,List.all_toArray,List.all_eq_true]
  intro c h
  have hm:c∈z.cps.toList:=List.mem_of_mem_drop (List.mem_of_mem_take h)
  exact (Array.all_eq_true_iff_forall_mem.mp hc) c (by simpa using hm)
theorem zaD {lo hi:Option Expr} {sl sh:Option SE} (hK:X.K=T.K) (ha:PEA T E X a sa) (hl:POA T E X lo sl) (hh:POA T E X hi sh):PEA T E X (.Subscript a (.Slice lo hi none p2) pos) (sCut sa sl sh):=by
 refine yaR (zhj (zix.or (sl_tup.or yg1)) ha hl hh) fun σ H Q ⟨ι,h,en,S,er,q⟩=>⟨ι,h,en,S,er,q.bind fun x h1 ι1 H1 u g1 S1 r1 q1=>?_⟩
 refine zft (E:=E) S1 (er.mono g1) q1 fun l h2 ι2 H2 g2 S2 q2=>zft (E:=E) S2 (er.mono (g1.trans g2)) q2 fun w h3 ι3 H3 g3 S3 q3=>?_
 have r3:=r1.mono (g2.trans g3)
 unfold ybk at q3
 split at q3
 ·obtain ⟨ad,us,rfl,sq,rs⟩:=ybU S3 r3 rfl
  exact .inl ⟨ad,us,rfl,hK▸sq,fun p n=>yeu S3 rs.cut n q3⟩
 ·obtain ⟨rfl,hz,hc⟩:=ybr r3
  exact .inr (.inr ⟨_,rfl,hz,q3.now S3 (yhc hz hc)⟩)
 ·rename_i xs
  split at q3
  ·rename_i hz
   obtain ⟨ad,us,rfl,sq,rs⟩:=ydK r3
   exact .inr (.inl ⟨ad,us,rfl,hK▸sq,by rw [<- rs.length];exact hz,fun p n=>zc3 S3 rs.cut n q3⟩)
  ·exact q3.elim
 ·split at q3
  ·rename_i xs hn
   obtain ⟨ad,us,rfl,sq,rs⟩:=ybU (xs:=xs) S3 r3 (by simp [yce,hn])
   exact .inl ⟨ad,us,rfl,hK▸sq,fun p n=>yeu S3 rs.cut n q3⟩
  ·exact q3.elim
 ·exact q3.elim
theorem r_gI {x:Str} {i:Int} {p:Pos} (hg:Gl X x) (hm:∃ t,X.mg x=some (.int i t)) (hd:(x == ("__debug__" : Str))=false:=by decide):PEA T E X (.Name x p) (sLit (.int i)):=by
 obtain ⟨t,hm⟩:=hm
 exact ziL hg hm hd
end
def DG (K:PySem.W.Frag) (mg:Str->Option Value) (x:Str) (st:Stmt) (ps:List Str):Prop:=∃ f fd,mg x=some (.ref f)/\PySem.W.keepIn K (.ref f)=true/\Binds K fd ps []/\Fun K x x st f fd
end Sm
namespace Sm
open PySem PySem.Spec L2
def yfi (N:List Str) (sc:Scope) (x₁:Str) (jf:List (Nat×Str)) (scope:Scope):Bool :=
 decide (x₁::jf.map (·.2)).Nodup && (scope.names.lookup x₁ == some .local) && jf.all (fun p=>N[p.1]? == some p.2) && jf.all (fun p=>scope.names.lookup p.2 == some .free) && (scope.kind == .function) &&
 scope.names.all (fun y=>y.2 != .cell) && scope.names.all (fun y=>y.2 != .free || sc.names.lookup y.1 == some .cell || sc.names.lookup y.1 == some .free) && scope.names.all (fun y=>y.2 != .local || scope.names.lookup y.1 == some .local)
theorem za0 {X:Cx} {N:List Str} {sc scope:Scope} {x₁:Str} {jf:List (Nat×Str)} (hN:X.N=N) (hk:∀ x,X.env.kindOf x=sc.names.lookup x) (h:yfi N sc x₁ jf scope=true):CompOk X x₁ jf scope:=by
 unfold yfi at h
 simp only [Bool.and_eq_true,decide_eq_true_eq,List.all_eq_true,beq_iff_eq,bne_iff_ne,Bool.or_eq_true] at h
 obtain ⟨⟨⟨⟨⟨⟨⟨h1,h2⟩,h3⟩,h4⟩,h5⟩,h6⟩,h7⟩,h8⟩:=h
 refine ⟨h1,h2,fun p hp=>by rw [hN];exact h3 p hp,h4,h5,fun y hy=>h6 y hy,fun y hy e=>?_,fun y hy e=>?_⟩
 ·rw [hk]
  rcases h7 y hy with (z | z) | z
  ·exact absurd e z
  ·exact .inl z
  ·exact .inr z
 ·rcases h8 y hy with z | z
  ·exact absurd e z
  ·exact z
end Sm
namespace Sm
open PySem PySem.Spec L2
theorem zc6 {T:Tb} {ι:Ix} {H:Hp}:∀ ns:List Int,RVs T ι H (ns.map AV.int) (ns.map V.int)
 | []=>.nil
 | n::ns=>.cons (.int n) (zc6 ns)
theorem sim0 {T:Tb} {H:Hp}:Sim T ⟨[],[]⟩ [] H:=⟨rfl,List.nodup_nil,(fun _ z=>nomatch z),(fun i o a e=>by simp at e)⟩
def spL (K:PySem.W.Frag):Sp:=fun vs H Q _=>∃ (a:Addr) (ns:List Int),vs=[.ref a]/\SqL K H a (ns.map V.int)/\ns.length<=63/\∀ H',Q (.bl true) H'
theorem ziW {T:Tb} {F:Fn} (ht:∀ ns:List Int,ns.length<=63->∃ h',F [.fl (ns.map AV.int)] [] = .ok (.bl true) h'):∀ vs H Q E,spL T.K vs H Q E->spA T F vs H Q E:=by
 rintro vs H Q E ⟨a,ns,rfl,hs,hl,q⟩
 obtain ⟨h',e⟩:=ht ns hl
 refine ⟨⟨[],[]⟩,[],[.fl (ns.map AV.int)],sim0,.cons ?_ .nil,?_⟩
 ·rcases hs with hs | hs
  ·exact .fl (by simp [Ix.all]) hs (zc6 ns)
  ·exact .kfl hs (zc6 ns)
 ·rw [e]
  intro ι' H' u g S r
  rw [ycB r]
  exact q H'
theorem zgT {P:Program} {w:World} {outer:List Env} {H:Hp} {s s':Shared} {e:Value} (h:CXE P w outer H s (fun _ _ _=>False) e s'):False:=by
 obtain ⟨_,_,_,_,_,_,_,_,_,_,_,_,_,_,q⟩:=h
 exact q
end Sm
namespace L2
open PySem PySem.Spec PyProof.Rows
end L2
namespace Sm
open PySem PySem.Spec L2
end Sm
namespace Sm
open PySem PySem.Spec L2
section
variable {T:Tb} {E:L2.St->XK} {X:Cx} {pos p np:Pos} {a:Expr} {sa:SE}
theorem excK_of {K:PySem.W.Frag} {C:Addr} (g1:PySem.W.findIn K (.ref C) "__getattribute__" = some (some (.builtin "BaseException.__getattribute__"))) (g2:PySem.W.findIn K (.ref C) "__getattr__" = some none) (g3:PySem.W.findIn K (.ref C) "__class__" = some (some (.builtin "object.__class__")))
  (g4:PySem.W.mroIn K C (.type "object")=some true) (g5:PySem.W.mroIn K C (.type "BaseException")=some true) (g6:PySem.W.specialIn K (.builtin "object.__class__") "__get__" = some (some (.builtin "getset_descriptor.__get__"))) (g7:PySem.W.takesIn K (.builtin "object.__class__")=some true):ExcK K C:=by
 refine ⟨?_,g1,g2,g3,g6,g7,g4,g5⟩
 obtain ⟨cd,hc,_⟩:=Option.bind_eq_some_iff.mp g4
 rw [hc]
 rfl
theorem yiv {t:Str} {p2:Pos} {pr:Nat->Bool} (hK:X.K=T.K) (hg:Gl X "isinstance") (hm:X.mg "isinstance" = none) (ha:PEA T E X a sa) (hgt:Gl X t) (hp:∃ C,X.mg t=some (.ref C)/\∀ c C',T.exc c=some C'->ExcK T.K C'/\PySem.W.kitOne T.K (.ref C') (.ref C)=some (pr c)) (hd:(t == ("__debug__" : Str))=false:=by decide)
  (he:starEach [a,.Name t p2] X.env=(false,eval a X.env)::starEach [.Name t p2] X.env:=by rfl):PEA T E X (.Call (.Name "isinstance" p) [a,.Name t p2] [] pos) (sIsX pr sa):=by
 obtain ⟨C,h1,h2⟩:=hp
 exact ygc hK hg hm ha (zcc (v:=.ref C) hgt h1 rfl hd) (ye0 C) h2 he
theorem yhd {t:Str} {id:String} {p2:Pos} {pr:Nat->Bool} (hK:X.K=T.K) (hg:Gl X "isinstance") (hm:X.mg "isinstance" = none) (ha:PEA T E X a sa) (hgt:Gl X t) (hmt:X.mg t=none) (hvt:bootBuiltins t=some (.type id)) (hp:∀ c C',T.exc c=some C'->ExcK T.K C'/\PySem.W.kitOne T.K (.ref C') (.type id)=some (pr c)) (hnt:t ≠ "__name__" := by decide) (hd:(t == ("__debug__" : Str))=false:=by decide)
  (he:starEach [a,.Name t p2] X.env=(false,eval a X.env)::starEach [.Name t p2] X.env:=by rfl):PEA T E X (.Call (.Name "isinstance" p) [a,.Name t p2] [] pos) (sIsX pr sa) :=
 ygc hK hg hm ha (ze5 (v:=.ty id) hgt hmt hvt rfl hnt hd) (yfj id) hp he
theorem yhe {xc n:Str} {i:Nat} {body suite:List Stmt} {b0:Stmt} {hpos:Pos} {sb hd:SS} {outer:List Env} {catches:Nat->Bool} (hK:X.K=T.K) (hN:X.N.Nodup) (hg:Gl X xc)
  (hcat:∃ C,X.mg xc=some (.ref C)/\∀ c C',catches c=true->T.exc c=some C'->PySem.W.exmOne T.K (.ref C') (.ref C)=some true)
  (hb:∀ pins xe Ex,CA T Ex (tryC X pins xe)->ycL (tryC X pins xe) Ex->PSsA T Ex (tryC X pins xe) body sb) (hh:∀ a,CA T EN (hdlC X a)->PSsA T EN (hdlC X a) (b0::suite) hd)
  (hex:X.ex=[]:=by rfl) (hst:X.stack=X.env::outer:=by rfl) (hf:X.env.frame=some X.env.locals:=by rfl) (hi:X.N[i]? = some n:=by rfl) (hl:X.env.scope.names.lookup n=some .local:=by rfl) (hdb:(xc == ("__debug__" : Str))=false:=by decide) :
  PSA T E X (.Try body [.ExceptHandler (some (.Name xc np)) (some n) (b0::suite) hpos] [] [] pos) (sTry i catches sb hd):=by
 obtain ⟨C,h1,h2⟩:=hcat
 exact yis hK hN hg h1 h2 hb hh hex hst hf hi hl hdb
end
theorem yiw:bootBuiltins "ValueError" = some (.type "ValueError"):=by decide +kernel
end Sm
namespace L2
open PySem PySem.Spec PyProof.Rows
section
variable {X:Cx} {pins:List (Addr×Obj)} {σ:L2.St} {H:Hp} {s:Shared}
end
end L2
namespace Sm
open PySem PySem.Spec L2
end Sm
namespace Sm
open PySem PySem.Spec L2
@[simp] def ydM:List AV->Option (List Int)
 | []=>some []
 | .int i::r=>(ydM r).map (i :: ·)
 | _=>none
@[simp] def fSum:Fn:=fun args h=>match args with
 | [.fl xs]=>match ydM xs with
  | some ns=>.ok (.int ns.sum) h
  | none=>.bad
 | _=>.bad
@[simp] def ycg (a b c:SE):SI:=fun en h=>(a en h).bind fun v h1=>(b en h1).bind fun w h2=>(c en h2).bind fun z h3=>match v,w,z with
 | .int i,.int j,.int k=>if i.natAbs<2 ^ 40/\j.natAbs<2 ^ 40/\0<k/\k<2 ^ 20 then .ok ((List.range (if i<j then (j-i-1) / k+1 else 0:Int).toNat).map (fun m:Nat=>.int (i+m*k)),none) h3 else .bad
 | _,_,_=>.bad
@[simp] def fIsB:F2:=fun x y h=>match x,y with
 | .bl a,.bl b=>.ok (.bl (a == b)) h
 | _,_=>.bad
@[simp] def ydx:F2:=fun x y h=>match x,y with
 | .bl a,.bl b=>.ok (.bl (!(a == b))) h
 | _,_=>.bad
section
variable {T:Tb} {E:St->XK} {X:Cx} {pos p:Pos} {e a b c:Expr} {sa sb sc:SE}
theorem zfu {ι:Ix} {H:Hp}:∀ {xs:List AV} {us:List V} {bs:List Int},RVs T ι H xs us->ydM xs=some bs->us=bs.map V.int
 | _,_,_,.nil,e=>by cases e;rfl
 | _,_,bs,.cons (x:=x) r rs,e=>by
  unfold ydM at e
  split at e
  ·rename_i hh;cases hh
  ·rename_i b r' hh
   cases hh
   obtain ⟨bs',e1,rfl⟩:=Option.map_eq_some_iff.mp e
   rw [yaK r,zfu rs e1];rfl
  ·cases e
theorem b_sum (hK:X.K=T.K) (hc:X.calm=true:=by rfl):∃ r,CallR X (.builtin "sum") r/\ydw T fSum r:=by
 refine ⟨_,zhF hc,fun ι h H xs us E Q S r q=>?_⟩
 unfold fSum at q
 split at q
 ·split at q
  ·rename_i bs hb
   cases r with
   | cons r r' =>
    cases r'
    obtain ⟨a,us,rfl,sq,rs⟩:=ybU S r rfl
    rw [zfu rs hb] at sq
    exact ⟨a,bs,rfl,hK▸sq,q.now S (.int _)⟩
  ·exact q.elim
 ·exact q.elim
theorem zge {ι:Ix} {H:Hp} {lo c:Int} {n:Nat}:ItR T (Itr3 lo c n) ι H ((List.range n).map (fun m:Nat=>AV.int (lo+m*c))) none:=by
 constructor
 ·intro i ι' h' H' y g S _ e
  rw [List.getElem?_map] at e
  obtain ⟨m,e1,rfl⟩:=Option.map_eq_some_iff.mp e
  have hi:i<n:=by
   have:=(List.getElem?_eq_some_iff.mp e1).1
   simpa using this
  rw [List.getElem?_range hi] at e1
  cases e1
  refine ⟨hi,?_⟩
  rintro u H2 ⟨rfl,rfl⟩
  exact ⟨S.refl,S,.int _⟩
 ·intro i ι' h' H' g S _ hl
  have hl':n<=i:=by simpa using hl
  exact hl'
theorem zdz {tg:Expr} {p:Pos} (hg:Gl X "range") (hm:X.mg "range" = none) (ha:PEA T E X a sa) (hb:PEA T E X b sb) (hc:PEA T E X c sc) (hs:starEach [a,b,c] X.env=[(false,eval a X.env),(false,eval b X.env),(false,eval c X.env)]:=by rfl) (hs2:starEach [b,c] X.env=[(false,eval b X.env),(false,eval c X.env)]:=by rfl) (hs3:starEach [c] X.env=[(false,eval c X.env)]:=by rfl) :
  PIA T X tg (.Call (.Name "range" p) [a,b,c] [] pos) (ycg sa sb sc) :=
 ye7 (zgN hg hm (zaa ha (zaa hb (zaa hc yac hs3) (by rw [hs2,hs3])) (by rw [hs,hs2])) hs hs2) fun σ H R ⟨ι,h,en,S,er,q⟩=>by
  unfold ycg at q
  refine ⟨ι,h,en,S,er,?_⟩
  unfold yab
  cases e:sa en h with
  | bad=>rw [e] at q;exact q
  | ex c h1=>rw [e] at q;exact q.elim
  | ok v h1 =>
   rw [e] at q
   dsimp only [Out.bind] at q ⊢
   cases e':sb en h1 with
   | bad=>rw [e'] at q;exact q
   | ex c h1=>rw [e'] at q;exact q.elim
   | ok v' h2 =>
    rw [e'] at q
    dsimp only at q ⊢
    cases e'':sc en h2 with
    | bad=>rw [e''] at q;exact q
    | ex c h1=>rw [e''] at q;exact q.elim
    | ok v'' h3 =>
     rw [e''] at q
     dsimp only at q
     intro ι1 H1 u g1 S1 r1
     split at q
     ·rename_i hx
      split at hx
      ·split at hx
       ·rename_i hb
        cases hx
        cases r1 with
        | cons r r' =>
         cases r' with
         | cons r2 r3 =>
          cases r3 with
          | cons r4 r5 =>
           cases r5
           rw [yaK r,yaK r2,yaK r4]
           exact ⟨_,_,_,rfl,hb,q ι1 H1 _ g1 S1 zge⟩
       ·cases hx
      ·cases hx
     ·exact q.elim
theorem yez {sts:List Stmt} {E:St->XK}:PSsA T E X sts (fun _ _=>.bad):=fun pins s σ H D I ⟨ι,h,en,S,er,q⟩=>q.elim
theorem yeA:Op T X (compareOp .IsNot) ydx:=by
 refine ⟨_,ziJ,fun ι h H x y u w E Q S rx ry p=>?_⟩
 unfold ydx at p
 split at p
 ·rw [ycB rx,ycB ry];exact ⟨_,_,rfl,rfl,p.now S (.bl _)⟩
 ·exact p.elim
end
theorem el1:∀ {us:List Value},us.length=1->∃ a:Value,us=[a]
 | [a],_=>⟨a,rfl⟩
theorem el2:∀ {us:List Value},us.length=2->∃ a b:Value,us=[a,b]
 | [a,b],_=>⟨a,b,rfl⟩
theorem el3:∀ {us:List Value},us.length=3->∃ a b c:Value,us=[a,b,c]
 | [a,b,c],_=>⟨a,b,c,rfl⟩
theorem el4:∀ {us:List Value},us.length=4->∃ a b c d:Value,us=[a,b,c,d]
 | [a,b,c,d],_=>⟨a,b,c,d,rfl⟩
@[simp] def ycW:FM:=fun x vs h=>match x,vs with
 | .ref n,[.ref k]=>match h[n]?,h[k]? with
  | some (.lst xs),some (.lst ys)=>if xs.length+ys.length<=sizeLine then .ok .non (h.set n (.lst (xs++ys))) else .bad
  | _,_=>.bad
 | _,_=>.bad
theorem yfM {T:Tb} {X:Cx}:∃ r,MtR X "list.extend" r/\MtS T ycW r:=by
 refine ⟨_,zgz,fun ι h H x xs u us E Q S rx rs q=>?_⟩
 unfold ycW at q
 split at q
 ·rename_i n k
  split at q
  ·rename_i ys zs hn hk
   split at q
   ·rename_i hl
    cases rx with
    | @ref _ ad hr =>
     cases rs with
     | @cons _ uu _ _ r r' =>
      cases r'
      cases r with
      | @ref _ bd hb =>
       obtain ⟨o,e1,ws,rfl,rw_⟩:=S.obj n _ ad hn hr
       obtain ⟨o2,e2,ws2,rfl,rw2⟩:=S.obj k _ bd hk hb
       have g:=S.growSet (u:=.lst (ws++ws2)) hr
       exact ⟨ad,bd,ws,ws2,rfl,rfl,e1,e2,by rw [<- rw_.length,<- rw2.length];exact hl,q ι _ _ g (S.set hr ⟨_,rfl,(rw_.mono g).append (rw2.mono g)⟩) .non⟩
   ·exact q.elim
  ·exact q.elim
 ·exact q.elim
def ya1:Nat:=100000000
end Sm
namespace Sm
open PySem PySem.Spec L2
def yeB:FM:=fun x vs h=>match x,vs with
 | .str z,[]=>if (Txt.upper z).length<=sizeLine/\(Txt.upper z).cps.all (· < 0x110000)=true then .ok (.str (Txt.upper z)) h else .bad
 | _,_=>.bad
theorem ziX {T:Tb} {X:Cx}:∃ r,MtR X "str.upper" r/\MtS T yeB r:=by
 refine ⟨_,zhJ,fun ι h H x xs u us E Q S rx rs q=>?_⟩
 unfold yeB at q
 split at q
 ·split at q
  ·rename_i hz
   cases rs
   obtain ⟨rfl,_⟩:=ybr rx
   exact ⟨_,rfl,rfl,hz.1,q.now S (.str hz.1 hz.2)⟩
  ·exact q.elim
 ·exact q.elim
def ydU (a:SE) (t:Tg) (b:SS):SS:=fun en h=>match a en h with
 | .ok (.fl xs) h1=>ya0 none xs t b xs.reverse en h1
 | .ok (.ref n) h1=>(match h1[n]? with
  | some (.lst xs)=>ya0 (some n) xs t b xs.reverse en h1
  | _=>.bad)
 | _=>.bad
structure ItG (T:Tb) (J:It) (ι:Ix) (H:Hp) (ys:List AV) (L:AH->Bool):Prop where
 go:∀ (i:Nat) (ι':Ix) (h':AH) (H':Hp) (x:AV),Ext ι H ι' H'->Sim T ι' h' H'->L h'=true->ys[i]? = some x->J.go i H'/\∀ u H2,J.yld i H' u H2->Grow ι' H' ι' H2/\Sim T ι' h' H2/\RV T ι' H2 x u
 stop:∀ (i:Nat) (ι':Ix) (h':AH) (H':Hp),Ext ι H ι' H'->Sim T ι' h' H'->L h'=true->ys.length<=i->J.stop i H'
section
variable {T:Tb} {E:St->XK} {X:Cx} {pos:Pos} {a:Expr} {sa:SE} {sts:List Stmt} {s1:SS}
theorem ye9 {ι:Ix} {H:Hp} {a:Addr} {us:List V} {xs:List AV} {K:PySem.W.Frag} {w:Option Nat} (keep:∀ (ι':Ix) (h':AH) (H':Hp),Ext ι H ι' H'->Sim T ι' h' H'->ybj w xs h'=true->∃ us',us'.length=us.length/\SqL K H' a us'/\RVs T ι' H' xs us') (hl:xs.length=us.length):ItG T (Itv K a us.length) ι H xs.reverse (ybj w xs):=by
 refine ⟨fun i ι' h' H' x x' S' lv hx=>?_,fun i ι' h' H' _ _ _ hi=>?_⟩
 ·obtain ⟨us',hl',sq,rs⟩:=keep ι' h' H' x' S' lv
  have hi:i<xs.length:=by have:=(List.getElem?_eq_some_iff.mp hx).1;rwa [List.length_reverse] at this
  rw [List.getElem?_reverse hi] at hx
  rw [hl] at hx
  obtain ⟨u,hu,ru⟩:=rs.get hx
  refine ⟨⟨us',u,sq,hl',by omega,hu⟩,fun v H2 y=>?_⟩
  obtain ⟨rfl,y2⟩:=y
  have:=y2 us' sq
  rw [hu] at this
  cases this
  exact ⟨S'.refl,S',ru⟩
 ·show us.length<=i
  rw [List.length_reverse] at hi
  omega
def yhf (g:TG) (tb:TS) (D:Ends) (σ:St) (H1:Hp) (J:It):Prop:=∃ W:Nat->Nat->St->Hp->Prop,(∃ m,W 0 m σ H1)/\∀ i m σ H,W i m σ H->(J.stop i H/\D.nx σ H)\/(J.go i H/\∃ N:St->Hp->Prop,(∀ σ' H',N σ' H'->∃ m',m'<m/\W (i+1) m' σ' H')/\∀ x H',J.yld i H x H'->g x σ H' fun σ' H'' => tb { D with nx:=N,ct:=N,bk:=D.nx } σ' H'')
theorem zb2 {g:TG} {t:Tg} {J:It} {ι1:Ix} {h1:AH} {H1:Hp} {en:En} {σ:St} {D:Ends} {w:Option Nat} {all ys:List AV}
  (hg2:∀ {ι:Ix} {h:AH} {H:Hp} {en e:En} {σ:St} {v:AV} {u:V} {Q:St->Hp->Prop},Sim T ι h H->ER T ι H en σ->RV T ι H v u->setT t v en=some e->(∀ σ',ER T ι H e σ'->Q σ' H)->g u σ H Q)
  (S1:Sim T ι1 h1 H1) (er:ER T ι1 H1 en σ) (IR:ItG T J ι1 H1 ys (ybj w all)) (q:PostS T ι1 H1 E (ya0 w all t s1 ys en h1) D):yhf g (tS T EN s1) D σ H1 J:=by
 refine ⟨fun i m σ H=>m=ys.length-i/\i<=ys.length/\∃ ι' h' en',Grow ι1 H1 ι' H/\Sim T ι' h' H/\ER T ι' H en' σ/\PostS T ι' H E (ya0 w all t s1 (ys.drop i) en' h') D,
  ⟨ys.length,by simp,Nat.zero_le _,ι1,h1,en,S1.refl,S1,er,q⟩,?_⟩
 rintro i m σ H ⟨rfl,hi,ι',h',en',g',S',er',q'⟩
 by_cases hl:i<ys.length
 ·rw [zbi hl] at q'
  unfold ya0 at q'
  split at q'
  ·rename_i hlive
   obtain ⟨go,yld⟩:=IR.go i ι' h' H ys[i] g'.ext S' hlive (by simp [hl])
   refine .inr ⟨go,fun σ H=>∃ ι' h' en',Grow ι1 H1 ι' H/\Sim T ι' h' H/\ER T ι' H en' σ/\PostS T ι' H E (ya0 w all t s1 (ys.drop (i+1)) en' h') D,
    fun σ' H' w' => ⟨ys.length-(i+1),by omega,rfl,hl,w'⟩,fun x H' y=>?_⟩
   obtain ⟨g2,S2,r2⟩:=yld x H' y
   split at q'
   ·rename_i e1 he1
    refine hg2 S2 (er'.mono g2) r2 he1 fun σ' er2=>⟨ι',h',e1,S2,er2,?_⟩
    have q2:=PostS.shift q' g2
    cases e2:s1 e1 h' with
    | nx e3 h3=>rw [e2] at q2;exact fun ι3 H3 σ3 g3 S3 er3=>⟨ι3,h3,e3,g'.trans (g2.trans g3),S3,er3,q2.shift g3⟩
    | ct e3 h3=>rw [e2] at q2;exact fun ι3 H3 σ3 g3 S3 er3=>⟨ι3,h3,e3,g'.trans (g2.trans g3),S3,er3,q2.shift g3⟩
    | bk e3 h3=>rw [e2] at q2;exact q2
    | rt v h3=>rw [e2] at q2;exact q2
    | ex c e3 h3=>rw [e2] at q2;exact (show False from q2).elim
    | bad=>rw [e2] at q2;exact q2
   ·exact (show False from q').elim
  ·exact (show False from q').elim
 ·have ei:i=ys.length:=by omega
  subst ei
  rw [List.drop_length] at q'
  unfold ya0 at q'
  split at q'
  ·rename_i hlive
   exact .inl ⟨IR.stop _ ι' h' H g'.ext S' hlive (Nat.le_refl _),q' ι' H σ S'.refl S' er'⟩
  ·exact (show False from q').elim
theorem yhg {tg:Expr} {t:Tg} {p ppos:Pos} (hK:X.K=T.K) (hc:X.calm=true) (hg0:Gl X.nox "reversed") (hm:X.nox.mg "reversed" = none) (ha:PEA T EN X.nox a sa) (hg:PGA T X.nox tg t) (hb:PSsA T EN X.nox sts s1) (hs1:starEach [a] X.nox.env=[(false,eval a X.nox.env)]:=by rfl)
  (hs:∀ x,foldedSetIterable (.Call (.Name "reversed" p) [a] [] ppos) X.nox.env x=pure x:=by intro _;rfl):PSA T E X (.For tg (.Call (.Name "reversed" p) [a] [] ppos) sts [] pos) (ydU sa t s1):=by
 obtain ⟨g,hg1,hg2⟩:=hg
 refine ybZ (ye2 (yfs PassesOwn.never hc (yg2 hg0 hm (zaa ha yac hs1) hs1) hg1 hb hs)) fun D σ H ⟨ι,h,en,S,er,q⟩=>⟨ι,h,en,S,er,?_⟩
 unfold ydU at q
 show Post T ι H _ (RVs T) ((sa en h).bind fun x h1=>.ok [x] h1) _
 cases e:sa en h with
 | bad=>rw [e] at q;exact q
 | ex c h1=>rw [e] at q;exact (show False from q).elim
 | ok v h1 =>
  rw [e] at q
  intro ι1 H1 us g1 S1 r1
  cases r1 with
  | cons r r' =>
  cases r'
  cases v with
  | fl xs =>
   dsimp only at q
   cases r with
   | fl n hr rs=>exact ⟨_,_,rfl,yew hK (.inl hr),zb2 hg2 S1 (er.mono g1) (by
     have:=ye9 (T:=T) (w:=none) (K:=T.K) (a:=_) (us:=_) (xs:=xs) (ι:=ι1) (H:=H1) (fun ι' h' H' x' S' _=>⟨_,rfl,yga n hr ι' H' x',rs.ext x'⟩) rs.length
     exact hK▸this) (PostS.shift q g1)⟩
   | kfl hr rs=>exact ⟨_,_,rfl,yew hK (.inr hr),zb2 hg2 S1 (er.mono g1) (by
     have:=ye9 (T:=T) (w:=none) (K:=T.K) (a:=_) (us:=_) (xs:=xs) (ι:=ι1) (H:=H1) (fun ι' h' H' x' S' _=>⟨_,rfl,.inr hr,rs.ext x'⟩) rs.length
     exact hK▸this) (PostS.shift q g1)⟩
  | ref n =>
   dsimp only at q
   cases e2:h1[n]? with
   | none=>rw [e2] at q;exact (show False from q).elim
   | some o =>
    rw [e2] at q
    cases o with
    | lst xs =>
     cases r with
     | ref hr =>
      obtain ⟨u,e1,us,rfl,rs⟩:=S1.obj n _ _ e2 hr
      refine ⟨_,us,rfl,.inl (.of e1),zb2 hg2 S1 (er.mono g1) (ye9 (fun ι' h' H' x' S' lv=>?_) rs.length) (PostS.shift q g1)⟩
      unfold ybj at lv
      dsimp only at lv
      split at lv
      ·rename_i ys hy
       have z:=of_decide_eq_true lv
       subst z
       obtain ⟨u2,e3,us2,rfl,r2⟩:=S'.obj n _ _ hy (x'.at_ hr)
       exact ⟨us2,by rw [<- r2.length,rs.length],.inl (.of e3),r2⟩
      ·cases lv
    | _=>exact (show False from q).elim
  | _=>exact (show False from q).elim
end
end Sm
namespace L2
open PySem PySem.Spec PyProof.Rows
section
variable {X:Cx}
end
end L2
namespace Sm
open PySem PySem.Spec L2
def yiT:F2:=fun x y h=>match x,y with
 | .tup [],.tup ys=>.ok (.tup ys) h
 | x,y=>fAdd x y h
def yeT (n:Nat) (y z:AV) (h:AH):Out AV:=match h[n]? with
 | some (.dct false [])=>if ycz false y then .ok (.ref n) (h.set n (.dct false [(y,z)])) else .bad
 | _=>.bad
def yeC (k v:SE):SE:=fun en h=>(k en (h++[.dct false []])).bind fun y h1=>(v en h1).bind fun z h2=>yeT h.length y z h2
section
variable {T:Tb} {E:St->XK} {X:Cx} {pos:Pos} {a b:Expr} {sa sb:SE}
theorem ziY (ha:PEA T E X a sa) (hb:PEA T E X b sb):PEA T E X (.Dict [some a] [b] pos) (yeC sa sb):=by
 refine yaR (ziD (zhq ha hb ziC) rfl rfl (by simp) (by simp)) fun σ H Q ⟨ι,h,en,S,er,q⟩ p n=>?_
 have g:=S.growAdd (u:=.dK []) n
 have S0:=S.add (o:=.dct false []) (u:=.dK []) n ⟨[],rfl,.nil⟩
 have at0:=S.addAt (p:=p)
 have q0:=Post.shift q g
 refine ⟨_,_,en,S0,er.mono g,q0.bind fun y h1 ι1 H1 u g1 S1 r1 q1=>⟨ι1,h1,en,S1,(er.mono g).mono g1,q1.bind fun z h2 ι2 H2 w g2 S2 r2 q2=>?_⟩⟩
 unfold yeT at q2
 split at q2
 ·rename_i hn
  split at q2
  ·rename_i hk
   have hr:ι2.refs[h.length]? = some p:=(g1.trans g2).ext.at_ at0
   obtain ⟨H',dp,g3,S3⟩:=zfp S2 hn hr (r1.mono g2) r2 hk (by decide)
   rcases dp with ⟨kvs,k,e1,rfl,_,rfl⟩ | ⟨kvs,k,b',e1,_⟩
   ·obtain ⟨ob,e2,kus,rfl,r⟩:=S2.obj _ _ p hn hr
    cases r
    have e3:=e1.symm.trans e2
    cases e3
    exact ⟨e1,[(k,w)],rfl,by simp,q2 _ _ _ g3 S3 (.ref hr)⟩
   ·obtain ⟨ob,e2,kus,rfl,r⟩:=S2.obj _ _ p hn hr
    rw [e1] at e2;cases e2
  ·exact q2.elim
 ·exact q2.elim
end
end Sm
namespace Sm
open PySem PySem.Spec L2
def yfN:Expr->Bool
 | .Starred _ _=>false
 | _=>true
theorem yix (a:Expr) (es:List Expr) (env:Env) (h:yfN a=true):starEach (a::es) env=(false,eval a env)::starEach es env:=by
 cases a<;>first | rfl | cases h
section
variable {T:Tb} {E:St->XK} {X:Cx} {a:Expr} {es:List Expr} {sa:SE}
theorem zag (ha:PEA T E X a sa) (hr:PAA T E X es as) (hn:yfN a=true:=by rfl):PAA T E X (a::es) (yab sa as):=zaa ha hr (yix _ _ _ hn)
end
section
variable {T:Tb} {E:St->XK} {X:Cx} {pos:Pos} {a b:Expr} {sa sb:SE} {sts:List Stmt} {s1:SS}
end
end Sm
namespace Sm
open PySem PySem.Spec L2
section
variable {T:Tb} {E:L2.St->XK} {X:Cx} {pos p:Pos} {a:Expr} {sa:SE}
theorem yhh {t t2:Str} {k:Nat} {p2 p3 p4:Pos} {pr pr2:Nat->Bool} (hK:X.K=T.K) (hg:Gl X "isinstance") (hm:X.mg "isinstance" = none) (ha:PEA T E X a sa) (hgt:Gl X t) (hgt2:Gl X t2)
  (hp:∃ C,X.mg t=some (.ref C)/\∀ c C',T.exc c=some C'->ExcK T.K C'/\PySem.W.kitOne T.K (.ref C') (.ref C)=some (pr c)) (hp2:∃ C,X.mg t2=some (.ref C)/\∀ c C',T.exc c=some C'->ExcK T.K C'/\PySem.W.kitOne T.K (.ref C') (.ref C)=some (pr2 c))
  (hd:(t == ("__debug__" : Str))=false:=by decide) (hd2:(t2 == ("__debug__" : Str))=false:=by decide)
  (he:starEach [a,.Tuple [.Name t p2,.Name t2 p3] k p4] X.env=(false,eval a X.env)::starEach [.Tuple [.Name t p2,.Name t2 p3] k p4] X.env:=by rfl):PEA T E X (.Call (.Name "isinstance" p) [a,.Tuple [.Name t p2,.Name t2 p3] k p4] [] pos) (sIsX (fun c=>pr c || pr2 c) sa):=by
 obtain ⟨C,h1,h2⟩:=hp
 obtain ⟨C2,g1,g2⟩:=hp2
 have pa:PA X [.Name t p2,.Name t2 p3] (fun _ H Q=>Q [.ref C,.ref C2] H):=zaN (zcc (v:=.ref C) hgt h1 rfl hd) (zaN (zcc (v:=.ref C2) hgt2 g1 rfl hd2) yd2)
 refine yhb (tt:=a) (cVs:=[.ref C,.ref C2]) (cvs:=[.ref C,.ref C2]) hK hg hm ha pa (by show 2<=_;decide) (fun us r=>?_) (fun c C' e=>⟨(h2 c C' e).1,?_⟩) he
 ·obtain ⟨u,w,rfl,ru,rw'⟩:=ydP r
  rw [ye0 C _ ru,ye0 C2 _ rw']
 ·have q1:=(h2 c C' e).2
  have q2:=(g2 c C' e).2
  simp only [PySem.W.kitAny,q1,q2]
  cases pr c<;>cases pr2 c<;>rfl
end
end Sm
namespace L2
open PySem PySem.Spec
theorem Room.m {j k:Nat} {A:Around} (hr:Room k A) (h:Nat.ble j k=true:=by rfl):Room j A:=hr.mono (Nat.le_of_ble_eq_true h)
end L2
namespace Sm
open PySem PySem.Spec L2
def DK (K:PySem.W.Frag) (x:Str) (st:Stmt):Prop:=∃ f fd,PySem.W.nsIn K mainGlobals x=some (some (.ref f))/\Fun K x x st f fd
def DN (K:PySem.W.Frag) (C:Addr) (m q:Str) (st:Stmt):Prop:=∃ f fd,Meth K C m f/\Fun K m q st f fd
def DMm (K:PySem.W.Frag) (cls:Nat->Option Addr) (c:Nat) (m q:Str) (st:Stmt) (ps:List Str):Prop:=∃ C f fd,cls c=some C/\Cls K C/\Meth K C m f/\Binds K fd ps []/\Fun K m q st f fd
def DI (K:PySem.W.Frag) (cls:Nat->Option Addr) (mg:Str->Option Value) (c:Nat) (x q:Str) (st:Stmt) (ps:List Str):Prop:=∃ C f fd,cls c=some C/\mg x=some (.ref C)/\Mk K C f/\Binds K fd ps []/\Fun K "__init__" q st f fd
section
variable {P:Program} {w:World} {K:PySem.W.Frag} {mg:Str->Option Value} {base h:Heap} {T:Tb} {x m q:Str} {st:Stmt} {f C:Addr} {N ps:List Str} {k c:Nat} {b:SS} {cls:Nat->Option Addr}
section
variable {oc:Value} {od an:Option Addr} {osl:Array (Option Value)} {kV doc pm cdv ct:Value}
theorem dk (a:PySem.W.nsIn K mainGlobals x=some (some (.ref f))) (l:K.lookup f=some ⟨oc,od,.func (PySem.W.fnOf x x (ycK st) (yb2 st) (yag st) .none kV doc pm an cdv ct),osl⟩)
  (c:PySem.W.codeIn K cdv x=true) (k:PySem.W.keepIn K (.ref f)=true):DK K x st:=⟨f,_,a,yfz l c k⟩
theorem dn (a:PySem.W.findIn K (.ref C) m=some (some (.ref f))) (i:PySem.W.isFn K (.ref f)=true) (l:K.lookup f=some ⟨oc,od,.func (PySem.W.fnOf m q (ycK st) (yb2 st) (yag st) .none kV doc pm an cdv ct),osl⟩)
  (c:PySem.W.codeIn K cdv q=true) (k:PySem.W.keepIn K (.ref f)=true):DN K C m q st:=⟨f,_,⟨a,i,k⟩,yfz l c k⟩
end
abbrev BA (x q:Str) (st:Stmt) (us:List Value) (r:List (Str×Value)):Prop:=∀ (kV doc pm:Value) (an:Option Addr) (cdv ct:Value),bindArgs (PySem.W.fnOf x q (ycK st) (yb2 st) (yag st) .none kV doc pm an cdv ct) ⟨us,[]⟩=pure r
def BL (x q:Str) (st:Stmt) (ps:List Str):Prop:=∀ (us:List Value),us.length=ps.length->BA x q st us (ps.zip us)
theorem bl1 {p1:Str} (h:∀ a,BA x q st [a] [(p1,a)]:=by exact fun _ _ _ _ _ _ _=>rfl):BL x q st [p1]:=fun us e=>by obtain ⟨_,rfl⟩:=el1 e;exact h _
theorem bl2 {p1 p2:Str} (h:∀ a b,BA x q st [a,b] [(p1,a),(p2,b)]:=by exact fun _ _ _ _ _ _ _ _=>rfl):BL x q st [p1,p2]:=fun us e=>by obtain ⟨_,_,rfl⟩:=el2 e;exact h _ _
theorem bl3 {p1 p2 p3:Str} (h:∀ a b c,BA x q st [a,b,c] [(p1,a),(p2,b),(p3,c)]:=by exact fun _ _ _ _ _ _ _ _ _=>rfl):BL x q st [p1,p2,p3]:=fun us e=>by obtain ⟨_,_,_,rfl⟩:=el3 e;exact h _ _ _
theorem bl4 {p1 p2 p3 p4:Str} (h:∀ a b c d,BA x q st [a,b,c,d] [(p1,a),(p2,b),(p3,c),(p4,d)]:=by exact fun _ _ _ _ _ _ _ _ _ _=>rfl):BL x q st [p1,p2,p3,p4]:=fun us e=>by obtain ⟨_,_,_,_,rfl⟩:=el4 e;exact h _ _ _ _
theorem dg (X:K.In h) (G:h.Ns mainGlobals mg) (d:DK K x st) (hb:BL x x st ps):DG K mg x st ps:=by
 obtain ⟨f,fd,a,F⟩:=d
 exact ⟨f,fd,PySem.W.mg_of X G a,F.kp,F.binds fun _ _ _ _ _ _ us hl=>hb us hl _ _ _ _ _ _,F⟩
theorem dm (hc:cls c=some C) (k:Cls K C) (d:DN K C m q st) (hb:BL m q st ps):DMm K cls c m q st ps:=by
 obtain ⟨f,fd,M,F⟩:=d
 exact ⟨C,f,fd,hc,k,M,F.binds fun _ _ _ _ _ _ us hl=>hb us hl _ _ _ _ _ _,F⟩
theorem di (hc:cls c=some C) (hx:mg x=some (.ref C)) (mk:PySem.W.makesIn K C=true) (kc:PySem.W.keepIn K (.ref C)=true) (d:DN K C "__init__" q st) (hb:BL "__init__" q st ps):DI K cls mg c x q st ps:=by
 obtain ⟨f,fd,M,F⟩:=d
 exact ⟨C,f,fd,hc,hx,⟨mk,M.at_,M.fn,kc⟩,F.binds fun _ _ _ _ _ _ us hl=>hb us hl _ _ _ _ _ _,F⟩
theorem dlaw {fa:Addr} {p:Str} (X:K.In h) (G:h.Ns mainGlobals mg) (hfa:mg x=some (.ref fa)) (d:DK K x st) (hb:BL x x st [p]):∃ fd:FuncData,(∀ (s:Shared) (v:Value),BindsTo s fd ⟨[v],[]⟩ [(p,v)])/\Fun K x x st fa fd:=by
 obtain ⟨f,fd,a,F⟩:=d
 have e:=hfa.symm.trans (PySem.W.mg_of X G a)
 cases e
 refine ⟨fd,fun s v=>?_,F⟩
 obtain ⟨oc,od,kV,doc,pm,an,cdv,ct,osl,rfl,lk,hcd⟩:=F.ex
 exact .of_eq (hb [v] rfl _ _ _ _ _ _)
theorem fsk {sc:Scope} (h1:sc.kind = .function:=by rfl) (h2:sc.isCoroutine=false:=by rfl) (h3:sc.isGenerator=false:=by rfl) (h4:N.Nodup:=by decide +kernel) (h5:N.take ps.length=ps:=by rfl)
  (h6:∀ x∈ps,sc.names.lookup x=some .local\/sc.names.lookup x=some .cell:=by decide +kernel) (h7:∀ y∈sc.names,y.2 ≠ .free:=by decide +kernel):FnScope N ps sc:=⟨h1,h2,h3,h4,h5,h6,h7⟩
abbrev yeU (P:Program) (w:World) (mg:Str->Option Value) (base:Heap) (T:Tb) (q:Str) (st:Stmt) (f:Addr) (N:List Str) (k:Nat) (b:SS):Prop :=
 ∀ {cdv:Value} {A:Around} {outer:List Env} {s:Shared} {H:Hp} {E:XK},Room k (A.deeper (PyProof.Rows.envOfC q (yag st) s.heap.objs.size f cdv))->CA T (fun _=>E) (cxOf (CXE P w) P w T.K mg base N q (yag st) f cdv A outer s H E) ->
  (A.deeper (PyProof.Rows.envOfC q (yag st) s.heap.objs.size f cdv)).units+64<cLine->N.Nodup->PSsA T (fun _=>E) (cxOf (CXE P w) P w T.K mg base N q (yag st) f cdv A outer s H E) (yb2 st) b
theorem gf (d:DG T.K mg x st ps) (S:FnScope N ps (yag st)) (hb:∀ {f},yeU P w mg base T x st f N k b):GF P w T mg base (k+1) x (mkFn ps.length N.length b):=by
 obtain ⟨f,fd,h1,h2,h3,h4⟩:=d
 exact ⟨f,fd,_,h1,h2,h3,okA h4 rfl S fun cdv A outer s H E hr C=>hb hr C (hu64 hr) S.nd⟩
theorem gm (d:DMm T.K T.cls c m q st ps) (S:FnScope N ps (yag st)) (no:m∉T.fields c) (hb:∀ {f},yeU P w mg base T q st f N k b):GM P w T mg base (k+1) c m (mkFn ps.length N.length b):=by
 obtain ⟨C,f,fd,h0,hc,h1,h3,h4⟩:=d
 exact ⟨⟨C,f,fd,_,h0,hc,h1,h3,okA h4 rfl S fun cdv A outer s H E hr C=>hb hr C (hu64 hr) S.nd⟩,no⟩
theorem gk (d:DI T.K T.cls mg c x q st ps) (S:FnScope N ps (yag st)) (hb:∀ {f},yeU P w mg base T q st f N k b):GK P w T mg base (k+1) c x (mkFn ps.length N.length b):=by
 obtain ⟨C,f,fd,h0,h1,h2,h3,h4⟩:=d
 exact ⟨C,f,fd,_,h0,h1,h2,h3,okA h4 rfl S fun cdv A outer s H E hr C=>hb hr C (hu64 hr) S.nd⟩
theorem gl {f:Addr} {fd:FuncData} (h4:Fun T.K x x st f fd) (S:FnScope N ps (yag st)) (hb:yeU P w mg base T x st f N k b):FnOk P w T.K mg base (CXE P w) (k+1) f fd ps (spA T (mkFn ps.length N.length b)) :=
 okA h4 rfl S fun cdv A outer s H E hr C=>hb hr C (hu64 hr) S.nd
def XI (K:PySem.W.Frag) (X:Addr):Prop:=PySem.W.excIn K X [.type "ValueError",.type "Exception",.type "BaseException",.type "object"] "ValueError.__new__" = true
theorem xi {X:Addr} (h:PySem.W.excIn K X [.type "ValueError",.type "Exception",.type "BaseException",.type "object"] "ValueError.__new__" = true):XI K X:=h
theorem gx {X:Addr} {n:Nat} {g:Heap} (KB:K.In g) (KX:K.In h) (G:h.Ns mainGlobals mg) (hc:T.exc n=some X) (e:PySem.W.nsIn K mainGlobals x=some (some (.ref X))) (hx:XI K X):GX T mg g n x:=⟨X,hc,zhE KB (PySem.W.mg_of KX G e) hx⟩
def KO (K:PySem.W.Frag) (a b:Addr) (v:Bool):Prop:=PySem.W.kitOne K (.ref a) (.ref b)=some v
theorem ko {a d:Addr} {v:Bool} (h:PySem.W.kitOne K (.ref a) (.ref d)=some v):KO K a d v:=h
def XO (K:PySem.W.Frag) (a b:Addr):Prop:=PySem.W.exmOne K (.ref a) (.ref b)=some true
theorem xo {a d:Addr} (h:PySem.W.exmOne K (.ref a) (.ref d)=some true):XO K a d:=h
def NA (K:PySem.W.Frag) (x:Str) (v:Option Value):Prop:=PySem.W.nsIn K mainGlobals x=some v
theorem na {v:Option Value} (h:PySem.W.nsIn K mainGlobals x=some v):NA K x v:=h
def FA (K:PySem.W.Frag) (C:Addr) (x:Str):Prop:=PySem.W.findIn K (.ref C) x=some none
theorem fatt (h:PySem.W.findIn K (.ref C) x=some none):FA K C x:=h
end
end Sm
namespace L2
open PySem PySem.Spec PyProof.Rows
theorem zbT {h h' B B':Heap} {C:Addr} (hs:∀ b,b≠C->h'.get? b=h.get? b) (hB:∀ b,B.get? b=none->B'.get? b=none):∀ {l:List Env},h.FunFrames B l->C∉l.filterMap (·.frame)->h'.FunFrames B' l
 | [],_,_=>by rw [Heap.FunFrames.eq_1];trivial
 | e::l,f,n=>by
  rw [Heap.FunFrames.eq_2] at f ⊢
  obtain ⟨f1,⟨L,o,f2,f3,f4,f5⟩,f6⟩:=f
  have ne:L≠C:=fun z=>n (by rw [List.filterMap_cons,f2];simp [z])
  refine ⟨f1,⟨L,o,f2,hB L f3,by rw [hs L ne];exact f4,f5⟩,zbT hs hB f6 fun z=>n ?_⟩
  rw [List.filterMap_cons,f2]
  exact List.mem_cons_of_mem _ z
theorem zek {h B:Heap} {a:Addr} {cls a0 fl x:Value} {l:List Env} (st:B.StaysIn h) (ff:h.FunFrames B l) (tr:h.TracedAtW B a cls a0 fl) :
  ∃ (oe:Obj) (vs:Array Value) (T:Addr) (oT:Obj) (ts:Array Value),h.get? a=some oe/\oe.data = .fields vs/\vs[1]? = some (.ref T)/\h.get? T=some oT/\oT.data = .fields ts/\ts[3]? = some fl/\oe.cls=cls/\vs[0]? = some a0 /\
   B.StaysIn (h.update T (Obj.mapFields fun y=>y.setIfInBounds 3 x))/\(h.update T (Obj.mapFields fun y=>y.setIfInBounds 3 x)).FunFrames B l/\(h.update T (Obj.mapFields fun y=>y.setIfInBounds 3 x)).TracedAtW B a cls a0 x/\h.UpToSlots (h.update T (Obj.mapFields fun y=>y.setIfInBounds 3 x))/\(h.update T (Obj.mapFields fun y=>y.setIfInBounds 3 x)).get? a=some oe:=by
 obtain ⟨oe,vs,T,oT,ts,e1,⟨e2,e3⟩,e4,e5,e6,e7,e8,e9,e10⟩:=tr
 have ne:∀ b,b≠T->(h.update T (Obj.mapFields fun y=>y.setIfInBounds 3 x)).get? b=h.get? b:=fun b hb=>Heap.get?_update_ne _ _ _ _ hb
 obtain ⟨c,d,dt,sl⟩:=oT
 have ed:dt = .fields ts:=e9
 subst ed
 have fT:Obj.mapFields (fun y=>y.setIfInBounds 3 x) { cls:=c,dict:=d,data:=.fields ts,slots:=sl }={ cls:=c,dict:=d,data:=.fields (ts.setIfInBounds 3 x),slots:=sl }:=rfl
 have hT:(h.update T (Obj.mapFields fun y=>y.setIfInBounds 3 x)).get? T=some { cls:=c,dict:=d,data:=.fields (ts.setIfInBounds 3 x),slots:=sl }:=by
  rw [<- fT]
  refine Heap.get?_update_self _ e8 ?_
  rw [fT]
  rfl
 have sz:3<ts.size:=(Array.getElem?_eq_some_iff.mp e10).1
 have keep:∀ b o,h.get? b=some o->(∀ us,o.data ≠ .fields us)->(h.update T (Obj.mapFields fun y=>y.setIfInBounds 3 x)).get? b=some o:=fun b o q nf=>by
  rw [ne b (fun z=>by rw [z,e8] at q;cases q;exact nf _ rfl)];exact q
 refine ⟨oe,vs,T,_,ts,e1,e4,e5,e8,rfl,e10,e2,e3,fun b o q=>?_,ff.of_keeps fun b o q nf=>⟨o,keep b o q nf,rfl⟩,⟨oe,vs,T,_,_,by rw [ne a (Ne.symm e7)];exact e1,⟨e2,e3⟩,e4,e5,e6,e7,hT,rfl,by simp [sz]⟩,fun b o q nf=>⟨o.slots,by rw [keep b o q nf]⟩,by rw [ne a (Ne.symm e7)];exact e1⟩
 rw [ne b (fun z=>by rw [z,e6] at q;cases q)]
 exact st b o q
theorem zhM {M:Model} {A:Around} {E:Value->Shared->Prop} {s:Shared} {B:Heap} {env:Env} {outer:List Env} {L a:Addr} {cls a0 fl:Value} {Q:Unit->Shared->Prop} (hfr:A.frames=some (env::outer)) (hf:env.frame=some L) (st:B.StaysIn s.heap) (hb:B.get? a=none) (ff:s.heap.FunFrames B (env::outer)) (tr:s.heap.TracedAtW B a cls a0 fl)
  (hQ:∀ h',B.HeldW (env::outer) a cls a0 L h'->s.heap.UpToSlots h'->Q () { s with heap:=h' }):wpAny M A (noteFrame (.ref a) env) Q E s:=by
 obtain ⟨oe,vs,T,oT,ts,e1,e2,e3,e4,e5,e6,e7,e8,s1,s2,s3,s4,s5⟩:=zek (x:=Value.none) st ff tr
 have tr' := tr
 unfold noteFrame
 simp only [hf]
 refine wpAny_bind (wpAny_field e1 e2 e3 ?_)
 rw [if_pos (show (Value.ref T != Value.none)=true from rfl)]
 refine wpAny_bind (wpAny_field e4 e5 e6 ?_)
 by_cases q:(fl == rawInt (↑L:Int))=true
 ·rw [if_pos q]
  refine wpAny_pure ?_
  have:fl=rawInt (↑L:Int):=eq_of_beq q
  subst this
  exact hQ s.heap ⟨st,hb,ff,tr⟩ (Heap.UpToSlots.refl _)
 ·rw [if_neg q]
  have sz3:3<ts.size:=(Array.getElem?_eq_some_iff.mp e6).1
  have sz1:1<vs.size:=(Array.getElem?_eq_some_iff.mp e3).1
  refine wpAny_bind (wpAny_setField e4 e5 sz3 ?_)
  have e7' := e7
  subst e7'
  refine wpAny_entryW (s:={ s with heap:=s.heap.update T (Obj.mapFields fun y=>y.setIfInBounds 3 Value.none) }) hfr s2 hf s5 s1 hb e2 sz1 e8 fun h4 hN=>?_
  obtain ⟨k1,k2,k3,k4⟩:=hN
  exact hQ h4 ⟨k1,hb,k2,k3⟩ (s4.trans k4)
structure ArrS (X:Cx) (pins:List (Addr×Obj)) (σ:St) (H:Hp) (a:Addr) (cls:Value) (s:Shared):Prop where
 inv:Inv X pins σ H s
 un:H a=none
 new:X.s₀.heap.get? a=none
 fly:∃ B a0 fl,Firm X pins H s.heap B/\B.StaysIn s.heap/\B.get? a=none/\s.heap.FunFrames B X.stack/\s.heap.TracedAtW B a cls a0 fl
section
variable {X:Cx} {pins:List (Addr×Obj)} {σ:St} {H:Hp} {s:Shared}
theorem ArrS.land {a:Addr} {cls:Value} {Q:Unit->Shared->Prop} {E:Value->Shared->Prop} {M:Model} {A:Around} (R:ArrS X pins σ H a cls s) (hex:X.ex=[]) (hfr:A.frames=some X.stack) {outer:List Env} (hst:X.stack=X.env::outer) (hf:X.env.frame=some X.env.locals)
  (hQ:∀ h' B a0,Firm X pins H s.heap B->Heap.FlyingW B X.stack a cls a0 h'->s.heap.UpToSlots h'->Inv X pins σ H { s with heap:=h' }->Q () { s with heap:=h' }) :
  wpAny M A (noteFrame (.ref a) X.env) (fun _ s₂=>wpAny M A (setFlight (.ref a) none) Q E s₂) E s:=by
 obtain ⟨B,a0,fl,fm,st,hb,ff,tr⟩:=R.fly
 rw [hst] at hfr ff
 refine zhM hfr hf st hb ff tr fun h4 hh sm=>?_
 refine wpAny_landsW (s:={ s with heap:=h4 }) hh fun h5 fl sm5=>?_
 have sm':s.heap.UpToSlots h5:=sm.trans sm5
 exact hQ h5 B a0 fm (by rw [hst];exact fl) sm' (R.inv.flown (t' := s.toks) hex fm fl.1 sm')
theorem Arr.note {a:Addr} {cls:Value} {Q:Unit->Shared->Prop} {E:Value->Shared->Prop} {M:Model} {A:Around} (R:Arr X pins σ H a cls s) (hfr:A.frames=some X.stack) {outer:List Env} (hst:X.stack=X.env::outer) (hf:X.env.frame=some X.env.locals)
  (hQ:∀ h' B a0,Firm X pins H s.heap B->Heap.HeldW B X.stack a cls a0 X.env.locals h'->s.heap.UpToSlots h'->Q () { s with heap:=h' }) :
  wpAny M A (noteFrame (.ref a) X.env) Q E s:=by
 obtain ⟨B,a0,fm,st,hb,ff,alt⟩:=R.fly
 rw [hst] at hfr
 rw [hst] at ff
 rcases alt with ⟨oe,vs,he,hc,hd,h0,h1⟩ | tr
 ·subst hc
  have hsz:1<vs.size:=(Array.getElem?_eq_some_iff.mp h1).1
  unfold noteFrame
  simp only [hf]
  refine wpAny_bind (wpAny_field he hd h1 ?_)
  rw [if_neg (by decide)]
  refine wpAny_entryW hfr ff hf he st hb hd hsz h0 fun h4 hN=>?_
  obtain ⟨k1,k2,k3,k4⟩:=hN
  exact hQ h4 B a0 fm (by rw [hst];exact ⟨k1,hb,k2,k3⟩) k4
 ·exact wpAny_looks_onW hfr hf ⟨st,hb,ff,tr⟩ fun h4 hh sm=>hQ h4 B a0 fm (by rw [hst];exact hh) sm
end
def ydN (X:Cx) (Ex:St->XK):Prop:=∀ (pins:List (Addr×Obj)) (σ:St) (H:Hp) (s:Shared) (a:Addr) (cls:Value),ArrS X pins σ H a cls s->Ex σ cls none H->X.xe (.ref a) s
section
variable {P:Program} {w:World} {K:PySem.W.Frag} {mg:Str->Option Value} {base:Heap} {N:List Str} {qual:Str} {scope:Scope} {f:Addr} {cd:Value} {A:Around} {outer:List Env} {s0:Shared} {H0:Hp} {E:XK}
theorem ziZ:ydN (cxOf (CXE P w) P w K mg base N qual scope f cd A outer s0 H0 E) (fun _=>E):=fun pins σ H s a cls R q=>by
 show wpAny _ _ (leaving _ _) _ _ s
 unfold leaving
 refine wpAny_bind (R.land (E:=fun e' s'' => CXE P w outer H0 s0 E e' s'') rfl R.inv.ok.frames rfl rfl fun h' B a0 fm fl sm I' => ?_)
 have I:=R.inv
 obtain ⟨k1,k2,⟨_,_,k3⟩,k4⟩:=fl
 refine ⟨a,cls,a0,H,B,rfl,I'.os,I'.bare,I'.base,I'.hok,⟨k1,k2,k3,k4⟩,fun b o e nb alt=>?_,R.un,R.new,q⟩
 have nstk:b∉frs (cxOf (CXE P w) P w K mg base N qual scope f cd A outer s0 H0 E).stack:=by
  rcases alt with ⟨u,z⟩ | ⟨o',z⟩
  ·exact I.nofrT z
  ·exact I.nofr z nb
 have there:∃ o1,s.heap.get? b=some o1:=by
  rcases alt with ⟨u,z⟩ | ⟨o',z⟩
  ·exact (I.hok b u z).some
  ·exact I.base.there b o' z (fun z=>absurd (show b∈([]:List Addr) from z) (by simp))
 obtain ⟨o1,q1⟩:=there
 have z:B.get? b=some o1:=fm b o1 q1 nstk (by
  rcases alt with ⟨u,z⟩ | ⟨o',z⟩
  ·exact .inl ⟨u,z⟩
  ·exact .inr (.inl ⟨o',z⟩))
 have z2:=k1 b o1 z
 rw [show (Heap.get? h' b)=some o from e] at z2
 cases z2
 exact z
end
section
variable {X:Cx} {pins:List (Addr×Obj)} {σ:St} {H:Hp} {s:Shared}
theorem zhN {a C:Addr} {cls:Value} {m:Str->Option Value} {Ex:St->XK} {outer:List Env} {scope:Scope} {cl:List (Str×Addr)} {use:Option (Value->Sem Unit)} {Qf:Value->Shared->Prop} {acc:Value} {E':Value->Shared->Prop} (R:Arr X pins σ H a cls s) (hex:X.ex=[]) (hst:X.stack=X.env::outer) (hf:X.env.frame=some X.env.locals)
  (f6:FpOk X pins H C) (n6:s.heap.Ns C m) (ra:ydN X Ex) (q:Ex σ cls none H) :
  wpAny (model X.prog X.w) X.A (noteFrame (.ref a) (compEnvC scope cl C X.env)) (fun _ s'' => compPost (model X.prog X.w) X.A X.xe use Qf acc C (.error (.ref a)) s'') E' s:=by
 show wpAny (model X.prog X.w) X.A (noteFrame (.ref a) X.env) _ _ s
 refine R.note R.inv.ok.frames hst hf fun h4 B a0 fm hh sm=>?_
 obtain ⟨st4,hb4,ff4,tr4⟩:=hh
 have I4:Inv X pins σ H { s with heap:=h4 }:=R.inv.flown (t' := s.toks) hex fm st4 sm
 have n4:h4.Ns C m:=Heap.UpToSlots.ns sm n6
 refine ⟨m,n4,fun h' sb cenv hc=>?_⟩
 obtain ⟨oC,es,ep,eC,dC,_,_⟩:=id n4
 have same:∀ b,b≠C->h'.get? b=h4.get? b:=fun b nb=>sb.2 b nb
 obtain ⟨oe,vs,T,oT,ts,e1,e2,e3,e4,e5,e6,e7,e8,e9⟩:=id tr4
 have aC:a≠C:=fun z=>by rw [z,eC] at e1;cases e1;rw [dC] at e3;cases e3
 have TC:T≠C:=fun z=>by rw [z,eC] at e7;cases e7;rw [dC] at e8;cases e8
 have Bn:∀ b,B.get? b=none->(PySem.W.hideAll B [C]).get? b=none:=fun b hb=>by
  cases q:(PySem.W.hideAll B [C]).get? b with
  | none=>rfl
  | some o=>rw [PySem.W.of_hideAll _ q] at hb;cases hb
 have nstk:C∉frs X.stack:=fun z=>by
  rcases List.mem_cons.mp (R.inv.stkSub C z) with w | w
  ·exact f6.2.1 w
  ·exact f6.2.2.1 w
 have st':(PySem.W.hideAll B [C]).StaysIn h' := fun b o qb=>by
  have ne:b≠C:=fun z=>by rw [z,PySem.W.hideAll_none [C] (by simp)] at qb;cases qb
  rw [same b ne]
  exact st4 b o (PySem.W.of_hideAll _ qb)
 have ff':h'.FunFrames (PySem.W.hideAll B [C]) X.stack:=zbT same Bn ff4 nstk
 have tr':h'.TracedAtW (PySem.W.hideAll B [C]) a cls a0 (rawInt X.env.locals):=⟨oe,vs,T,oT,ts,by rw [same a aC];exact e1,e2,e3,e4,Bn T e5,e6,by rw [same T TC];exact e7,e8,e9⟩
 have I':Inv X pins σ H { s with heap:=h' }:=Inv.turnedL (s:={ s with heap:=h4 }) (h' := h') (fp:=[C]) (t' := s.toks) I4 (fun b o hb qb=>(sb.2 b (fun z=>hb (by simp [z]))).trans qb) (fun b hb=>by
  have e:b=C:=by simpa using hb
  subst e
  exact f6)
 have fm':Firm X pins H h' (PySem.W.hideAll B [C]):=fun b o qb nb alt=>by
  have ne:b≠C:=fun z=>by
   subst z
   rcases alt with ⟨u,w⟩ | ⟨o',w⟩ | ⟨p,hp,w⟩
   ·rw [f6.1] at w;cases w
   ·rcases f6.2.2.2.1 with z | z
    ·rw [hex] at z;cases z
    ·exact absurd (Heap.lt_size w) (Nat.not_lt.mpr z)
   ·exact f6.2.2.2.2.2 p hp w
  have there:∃ o1,s.heap.get? b=some o1:=by
   rcases alt with ⟨u,w⟩ | ⟨o',w⟩ | ⟨p,hp,w⟩
   ·exact (R.inv.hok b u w).some
   ·exact R.inv.base.there b o' w (fun z=>by rw [hex] at z;cases z)
   ·exact ⟨_,w▸(R.inv.pin p hp).1⟩
  obtain ⟨o1,q1⟩:=there
  have qB:=fm b o1 q1 nb alt
  have q4:=st4 b o1 qB
  rw [same b ne,q4] at qb
  cases qb
  exact PySem.W.hideAll_get _ qB (by simpa using ne)
 obtain ⟨oe',vs',T',oT',ts',g1,g2,g3,g4,g5,g6,g7,g8,s1,s2,s3,s4,s5⟩:=zek (x:=cenv.frame.elim Value.none fun f=>rawInt f) st' ff' tr'
 show wpAny _ _ (PySem.passOn _ _ cenv:Sem Value) _ _ { s with heap:=h' }
 unfold PySem.passOn
 refine wpAny_bind (wpAny_field g1 g2 g3 ?_)
 rw [if_neg (fun z=>by have e:(Value.ref T' == Value.none)=false:=rfl;rw [e] at z;cases z)]
 refine wpAny_bind ?_
 unfold setFlight
 refine wpAny_bind (wpAny_field g1 g2 g3 ?_)
 rw [if_pos (show (Value.ref T' != Value.none)=true from rfl)]
 refine wpAny_setField g4 g5 (Array.getElem?_eq_some_iff.mp g6).1 ?_
 refine wpAny_throw (ra pins σ H _ a cls ⟨I'.flown (t' := s.toks) hex fm' s1 s4,R.un,R.new,_,a0,_,?_,s1,Bn a hb4,s2,s3⟩ q)
 exact fun b o qb nb alt=>by
  have there:∃ o1,h'.get? b=some o1:=by
   rcases alt with ⟨u,w⟩ | ⟨o',w⟩ | ⟨p,hp,w⟩
   ·exact (I'.hok b u w).some
   ·exact I'.base.there b o' w (fun z=>by rw [hex] at z;cases z)
   ·exact ⟨_,w▸(I'.pin p hp).1⟩
  obtain ⟨o1,q1⟩:=there
  have qB:=fm' b o1 q1 nb alt
  have:=s1 b o1 qB
  rw [show (Heap.get? _ b)=some o from qb] at this
  cases this
  exact qB
end
end L2
namespace L2
open PySem PySem.Spec PyProof.Rows
def XCx (X:Cx) (pins:List (Addr×Obj)) (σ:St) (C:Addr) (E:XK):Value->Shared->Prop:=fun e s' => ∃ a cls H' m,e = .ref a/\Arr X pins σ H' a cls s'/\E cls none H'/\FpOk X pins H' C/\s'.heap.Ns C m
theorem yhi {X:Cx} {pins:List (Addr×Obj)} {σ:St} {H:Hp} {s:Shared} {xe:Value->Shared->Prop} (I:Inv X pins σ H s):Inv (tryC X [] xe) pins σ H s:=⟨I.ok.tryC,I.os,I.bare,I.base,I.loc,I.cell,I.free,I.freeC,fun p hp=>I.pin p (by simpa [tryC] using hp),I.hok,I.len⟩
theorem yfO {X:Cx} {pins:List (Addr×Obj)} {σ:St} {H:Hp} {s:Shared} {xe:Value->Shared->Prop} (I:Inv (tryC X [] xe) pins σ H s):Inv X pins σ H s:=⟨I.ok.untry,I.os,I.bare,I.base,I.loc,I.cell,I.free,I.freeC,fun p hp=>I.pin p (by simpa [tryC] using hp),I.hok,I.len⟩
theorem zeS {X:Cx} {pins:List (Addr×Obj)} {σ:St} {H0:Hp} {s0:Shared} {x₁:Str} {jf:List (Nat×Str)} {scope:Scope} {cl:List (Str×Addr)} {fp:List Addr} {E:XK} (I3:Inv X pins σ H0 s0) (hex:X.ex=[])
  (hfp:∀ b∈fp,(b∈X.ex\/X.s₀.heap.objs.size<=b)/\b≠X.env.locals/\(∀ x c,X.env.cells.lookup x=some c->c≠b)/\∀ p∈X.pn++pins,p.1≠b) :
  ybT (CXE X.prog X.w) (tryC (yaA X pins x₁ jf scope cl s0 H0 fp) [] (XCx X pins σ s0.heap.objs.size E)) (fun _=>E):=fun pins' σ' H s e s' I' hq=>by
 have I:=yfO I'
 have IX:Inv X pins σ H s:=I3.call' (ch:=fp) I.os I.base I.hok I.bare hfp
 have hq2:CXE X.prog X.w X.stack H s E e s' := hq
 obtain ⟨a,cls,a0,H',B,rfl,os,bare,un,hok,fl,ext,na,ns,q⟩:=hq2
 have hq3:CXE X.prog X.w X.stack H s (fun c o h=>E c o h/\h=H') (.ref a) s' := ⟨a,cls,a0,H',B,rfl,os,bare,un,hok,fl,ext,na,ns,q,rfl⟩
 obtain ⟨a',cls',H'',ea,R,qE,eH⟩:=zcx IX hex hq3
 subst eH
 have I1:=I.call' (ch:=[]) os un hok bare (fun b z=>absurd z (by simp))
 obtain ⟨m,hn,_⟩:=id I1.loc
 exact ⟨a',cls',H'',m,ea,R,qE,I3.fpOk (Nat.le_refl _) I1.free,hn⟩
theorem zdQ {prog:Program} {w:World} {A:Around} {R:Result->Shared->Prop} {s:Shared} {elt target iter:Expr} {ifs:List Expr} {scope:Scope} {pos:Pos} {it acc:Value} {env:Env} (I:Nat->Shared->Prop)
  (turn:∀ n s,I n s->wpAny (model prog w) A (pyNext it) (fun r s₁=>match r with
   | none=>R (.ok .next) s₁
   | some v=>wpAny (model prog w) A (letOwnedTupleGo target it v) (fun _ s₂=>wpAny (model prog w) A (assign target env v) (fun _ s₃ =>
     wpAny (model prog w) A (forIn ifs true fun c r=>if r=true then do let ok <- isTrue c env (eval c env);pure (ForInStep.yield ok) else pure (ForInStep.yield r)) (fun ok s₄ =>
      if ok=true then wpAny (model prog w) A (eval elt env) (fun x s₅=>wpAny (model prog w) A (call (.builtin "list.append") [acc,x]) (fun _ s₆=>∃ m,m<n/\I m s₆) (fun _ _=>False) s₅) (notedBy (model prog w) A env fun x s' => R (.error x) s') s₄
      else ∃ m,m<n/\I m s₄) (fun _ _=>False) s₃) (fun _ _=>False) s₂) (fun _ _=>False) s₁) (fun _ _=>False) s)
  (n:Nat) (h:I n s):codeAny (model prog w) A (.compLoop (.ListComp elt [⟨target,iter,ifs,0⟩] scope pos) 0 it acc env) R s:=by
 refine codeAny_loop rfl I (fun n s hI=>?_) n h
 show wpAny _ A ((compTurn (.ListComp elt [⟨target,iter,ifs,0⟩] scope pos) 0 it acc env).onRaise (fun x=>do noteFrame x env;theTreesLotGoes x)) _ _ s
 refine wpAny_noted ?_
 rw [compTurn_list]
 refine wpAny_bind (wpAny_standAt (wpAny_bind (wpAny_mono (turn n s hI) (fun r s₁ h₁=>?_) fun _ _ z=>z.elim)))
 cases r with
 | none=>exact wpAny_pure h₁
 | some v =>
  refine wpAny_bind (wpAny_mono h₁ (fun _ s₂ h₂=>?_) fun _ _ z=>z.elim)
  refine wpAny_bind (wpAny_mono h₂ (fun _ s₃ h₃=>wpAny_bind (wpAny_mono h₃ (fun ok s₄ h₄=>?_) fun _ _ z=>z.elim)) fun _ _ z=>z.elim)
  cases ok with
  | false=>exact wpAny_pure ⟨rfl,h₄⟩
  | true =>
   exact wpAny_bind (wpAny_bind (wpAny_mono h₄ (fun x s₅ h₅=>wpAny_bind (wpAny_mono h₅ (fun _ s₆ h₆=>wpAny_pure (wpAny_pure ⟨rfl,h₆⟩)) fun _ _ z=>z.elim)) fun _ _ z=>z))
section
variable {X:Cx} {x₁:Str} {px:Pos} {jf:List (Nat×Str)} {scope:Scope} {iter elt:Expr} {ifs:List Expr} {pos:Pos} {wi:TI} {tc:TT} {te:(St->XK)->TE}
theorem zgU (hcalm:X.calm=true) (hi:PI X (.Name x₁ px) iter wi) (hc:∀ pins cl s H fp,PTs (yaA X pins x₁ jf scope cl s H fp) ifs tc) (he:∀ pins cl s H fp xe Ex,ybT (CXE X.prog X.w) (tryC (yaA X pins x₁ jf scope cl s H fp) [] xe) Ex->PE (tryC (yaA X pins x₁ jf scope cl s H fp) [] xe) elt (te Ex)) (hex:X.ex=[]) {outer:List Env} (hst:X.stack=X.env::outer) (hf:X.env.frame=some X.env.locals) {Ex:St->XK} (ra:ydN X Ex)
  (hN:(x₁::jf.map (·.2)).Nodup) (hx:scope.names.lookup x₁=some .local) (hjf:∀ p∈jf,X.N[p.1]? = some p.2) (hjl:∀ p∈jf,scope.names.lookup p.2=some .free) (hkind:scope.kind = .function)
  (hcell:∀ y∈scope.names,y.2 ≠ .cell) (hfr:∀ y∈scope.names,y.2 = .free->X.env.kindOf y.1=some .cell\/X.env.kindOf y.1=some .free)
  (hnames:∀ y∈scope.names,y.2 = .local->scope.names.lookup y.1=some .local) {use:Option (Value->Sem Unit)} {Qf:Value->Shared->Prop} {cpos:Pos}
  {pins:List (Addr×Obj)} {σ:St} {H:Hp} {s:Shared} {Q:VK} (I:Inv X pins σ H s) (h:ycT jf wi tc (te fun _=>Ex σ) σ H Q)
  (fin:∀ D C s6 H6 m6,Inv X pins σ H6 s6->Q (.ref D) H6->FpOk X pins H6 C->s6.heap.Ns C m6->compPost (model X.prog X.w) X.A X.xe use Qf (.ref D) C (.ok .next) s6) (hs:∀ x,foldedSetIterable iter X.env x=pure x) :
  wpAny (model X.prog X.w) X.A (comprehension (.ListComp elt [⟨.Name x₁ px,iter,ifs,0⟩] scope pos) scope X.env cpos (newList []) false (eval iter X.env) use) Qf X.xe s:=by
 have hsome:∀ y∈scope.names,y.2 = .free->(X.env.cells.lookup y.1).isSome=true:=fun y hy hyf=>Option.isSome_iff_exists.mpr (I.ok.has y.1 (hfr y hy hyf))
 refine wpAny_comprehension_free (use:=use) rfl hs (zcO hsome) hkind hnames (thn (hi pins s σ H _ I h) fun xv s1 h1=>thn h1 fun itv s2 h2=>?_)
 obtain ⟨it,fp,tn,J,H2,e,I2,T,st2,f2,h⟩:=h2
 subst e
 refine wpAny_newObj_type (wpAny_newFunctionEnv hcell (by intro y hy;simp at hy) (fun h₁ hns₁ hsb₁=>?_) hkind)
 have hD0:H2 s2.heap.objs.size=none:=I2.hok.fresh (Nat.le_refl _)
 obtain ⟨W,⟨m0,w0⟩,step⟩:=h s2.heap.objs.size hD0
 dsimp only at hns₁ hsb₁ ⊢
 have I3:Inv X pins σ (upd H2 s2.heap.objs.size (.lst [])) { s2 with heap:=s2.heap.push { cls:=.type "list",dict:=none,data:=.seq ([]:List Value).toArray } } :=
  I2.laid (t' := s2.toks) (fun b u q=>Heap.get?_push_of_some _ q) (Nat.le_refl _) ⟨Nat.zero_le _,[],0,.nil,Heap.get?_push_size _ rfl⟩
 generalize hH3:s2.heap.push { cls:=.type "list",dict:=none,data:=.seq ([]:List Value).toArray }=hp3 at hns₁ hsb₁ I3 ⊢
 have hsz3:hp3.objs.size=s2.heap.objs.size+1:=by rw [<- hH3,Heap.size_push]
 have k23:∀ b o,s2.heap.get? b=some o->hp3.get? b=some o:=fun b o q=>by rw [<- hH3];exact Heap.get?_push_of_some _ q
 have flt:∀ b∈fp,b<s2.heap.objs.size:=fun b hb=>by
  obtain ⟨o,q,_⟩:=T.obj 0 _ st2 b hb
  exact Heap.lt_size q
 have f3:∀ b∈fp,FpOk X pins (upd H2 s2.heap.objs.size (.lst [])) b:=fun b hb=>by
  obtain ⟨g0,g⟩:=f2 b hb
  exact ⟨by rw [yax (Nat.ne_of_lt (flt b hb))];exact g0,g⟩
 have kC:∀ b o,hp3.get? b=some o->h₁.get? b=some o:=fun b o q=>(hsb₁.2 b (Nat.ne_of_lt (Heap.lt_size q))).trans (Heap.get?_push_of_some _ q)
 have B0:=I3.block (x₁:=x₁) (jf:=jf) (scope:=scope) (fp:=fp) (h1:=h₁) (tk:=s2.toks+([]:List (Str×Value)).length) f3 (fun b hb=>by show b<hp3.objs.size;rw [hsz3];exact Nat.lt_succ_of_lt (flt b hb)) hjf hjl hkind hcell hfr (by simpa using hns₁) kC
 have st4:tn 0 h₁:=T.keep _ _ _ st2 fun b _ o q=>kC b o (k23 b o q)
 have w0' := w0
 have stat:∀ {H':Hp},(∀ b∈fp,H' b=none)->∀ b∈fp,FpOk (yaA X pins x₁ jf scope (yay X.env scope.names []) { s2 with heap:=hp3 } (upd H2 s2.heap.objs.size (.lst [])) fp) [] H' b:=fun hn b hb=>by
  obtain ⟨_,g1,g2,g3,g4,g5⟩:=f2 b hb
  refine ⟨hn b hb,Nat.ne_of_lt (by show b<hp3.objs.size;rw [hsz3];exact Nat.lt_succ_of_lt (flt b hb)),fun z=>?_,.inl hb,fun y c q=>g4 y c (zbC hsome (fun y c e=>by simp at e) y c q),fun p hp=>g5 p (by simpa [yaA] using hp)⟩
  rcases List.mem_cons.mp (I2.stkSub b z) with q | q
  ·exact g1 q
  ·exact g2 q
 have hPass:ybT (CXE X.prog X.w) (tryC (yaA X pins x₁ jf scope (yay X.env scope.names []) { s2 with heap:=hp3 } (upd H2 s2.heap.objs.size (.lst [])) fp) [] (XCx X pins σ hp3.objs.size (Ex σ))) (fun _=>Ex σ) :=
  zeS I3 hex (fun b hb=>by
   obtain ⟨_,g1,g2,g3,g4,g5⟩:=f2 b hb
   exact ⟨g3,g1,g4,g5⟩)
 have loop:codeAny (model X.prog X.w) X.A (.compLoop (.ListComp elt [⟨.Name x₁ px,iter,ifs,0⟩] scope pos) 0 (.ref it) (.ref s2.heap.objs.size) (compEnvC scope (yay X.env scope.names []) hp3.objs.size X.env))
   (compPost (model X.prog X.w) X.A X.xe use Qf (.ref s2.heap.objs.size) hp3.objs.size) { s2 with heap:=h₁,toks:=s2.toks+([]:List (Str×Value)).length }:=by
  refine zdQ (fun n s' => ∃ i ys H',Inv (yaA X pins x₁ jf scope (yay X.env scope.names []) { s2 with heap:=hp3 } (upd H2 s2.heap.objs.size (.lst [])) fp) [] (ybb none jf σ) H' s'/\tn i s'.heap/\(∀ b∈fp,H' b=none)/\W i n ys H') ?_ m0
   ⟨0,[],_,B0,st4,fun b hb=>(f3 b hb).1,w0⟩
  rintro n s5 ⟨i,ys,H5,I5,st5,fr5,w5⟩
  obtain ⟨hD5,alt⟩:=step i n ys H5 w5
  rcases alt with ⟨stop,q5⟩ | ⟨go,hlen,next⟩
  ·refine wpAny_mono (T.done (yaA X pins x₁ jf scope (yay X.env scope.names []) { s2 with heap:=hp3 } (upd H2 s2.heap.objs.size (.lst [])) fp) rfl rfl rfl hcalm i [] s5 _ H5 (fun _ _=>False) I5 (stat fr5) st5 stop) (fun r s6 ⟨hr,I6⟩=>?_) fun _ _ z=>z
   subst hr
   obtain ⟨m6,hn6,_⟩:=id I6.loc
   refine fin _ _ s6 H5 m6 ?_ q5 (I3.fpOk (Nat.le_refl _) I6.free) hn6
   refine I3.call' (ch:=fp) I6.os I6.base I6.hok I6.bare (fun b hb=>?_)
   obtain ⟨_,g1,g2,g3,g4,g5⟩:=f2 b hb
   exact ⟨g3,g1,g4,g5⟩
  ·refine wpAny_mono (T.item (yaA X pins x₁ jf scope (yay X.env scope.names []) { s2 with heap:=hp3 } (upd H2 s2.heap.objs.size (.lst [])) fp) rfl rfl rfl hcalm i [] s5 _ H5 (fun _ _=>False) I5 (stat fr5) st5 go) (fun r s6 ⟨u,hr,h6⟩=>?_) fun _ _ z=>z
   subst hr
   refine wpAny_mono h6 (fun _ s7 ⟨x,H7,I7,r7,y7,st7,fr7⟩=>?_) fun _ _ z=>z
   have I7' := I7.pinned (stat fr7) (T.obj _ _ st7)
   have hloc:Loc (yaA X pins x₁ jf scope (yay X.env scope.names []) { s2 with heap:=hp3 } (upd H2 s2.heap.objs.size (.lst [])) fp).env.scope x₁:=.inl (lookup_relabel_local hx)
   refine wpAny_assign_Name (za9 (i:=0) I7' hN rfl hloc r7 (fun s8 I8=>?_) (.inr (lookup_relabel_local hx)))
   have q8:=next x H7 y7
   have I8':Inv (yaA X pins x₁ jf scope (yay X.env scope.names []) { s2 with heap:=hp3 } (upd H2 s2.heap.objs.size (.lst [])) fp) ([]++ybQ fp s7.heap) (ybb (some x) jf σ) H7 s8:=I8
   have again:∀ {s9:Shared} {H9:Hp} {zs:List V} {m':Nat},Inv (yaA X pins x₁ jf scope (yay X.env scope.names []) { s2 with heap:=hp3 } (upd H2 s2.heap.objs.size (.lst [])) fp) ([]++ybQ fp s7.heap) (ybb (some x) jf σ) H9 s9->m'<n->W (i+1) m' zs H9 ->
     ∃ m,m<n/\∃ i ys H',Inv (yaA X pins x₁ jf scope (yay X.env scope.names []) { s2 with heap:=hp3 } (upd H2 s2.heap.objs.size (.lst [])) fp) [] (ybb none jf σ) H' s9/\tn i s9.heap/\(∀ b∈fp,H' b=none)/\W i m ys H' := fun {s9 H9 zs m'} I9 hm w9=>by
    refine ⟨m',hm,i+1,zs,H9,I9.unpinned.weak (by simp [ybb]) (fun j v e=>?_),T.keep _ _ _ st7 fun b hb o e=>(I9.pin (b,o) (List.mem_append_right _ (List.mem_append_right _ (zaM hb e)))).1,fun b hb=>?_,w9⟩
    ·cases j with
     | zero=>simp [ybb] at e
     | succ j=>simpa [ybb] using e
    ·obtain ⟨o,e,d⟩:=T.obj _ _ st7 b hb
     exact (I9.pin (b,o) (List.mem_append_right _ (List.mem_append_right _ (zaM hb e)))).2.1
   refine wpAny_mono (hc pins _ _ _ fp ([]++ybQ fp s7.heap) s8 _ H7 _ I8' q8) (fun ok s9 ⟨H9,I9,q9⟩=>?_) fun _ _ z=>z
   cases ok with
   | false =>
    rw [if_neg Bool.false_ne_true] at q9 ⊢
    obtain ⟨m',hm,w9⟩:=q9
    exact again I9 hm w9
   | true =>
    rw [if_pos rfl] at q9 ⊢
    refine wpAny_mono (he pins _ _ _ fp (XCx X pins σ hp3.objs.size (Ex σ)) (fun _=>Ex σ) hPass ([]++ybQ fp s7.heap) s9 _ H9 _ (yhi I9) q9) (fun y s10 ⟨v,H10,I10',r10,hD10,m',hm,w10⟩=>?ok) fun e s' hx=>?err
    case err =>
     obtain ⟨a,cls,H',m,rfl,R,qE,fp6,n6⟩:=hx
     exact zhN R hex hst hf fp6 n6 ra qE
    have I10:=yfO I10'
    refine wpAny_mono (zb0 (X:=(yaA X pins x₁ jf scope (yay X.env scope.names []) { s2 with heap:=hp3 } (upd H2 s2.heap.objs.size (.lst [])) fp)) ([]++ybQ fp s7.heap) s10 (ybb (some x) jf σ) H10 (.ref s2.heap.objs.size) [v] (.ref s2.heap.objs.size) [y] (fun _ H' => H'=upd H10 s2.heap.objs.size (.lst (ys++[v]))) I10 rfl (.cons r10 .nil) ⟨_,ys,v,rfl,rfl,hD10,hlen,rfl⟩)
     (fun _ s11 ⟨_,H11,I11,_,e11⟩=>?_) fun _ _ z=>z
    subst e11
    exact again I11 hm w10
 exact codeAny_compStart_list loop (T.self _ 0 _ _ _ st4 loop)
end
end L2
namespace L2
open PySem PySem.Spec PyProof.Rows
section
variable {X:Cx} {x₁:Str} {px:Pos} {jf:List (Nat×Str)} {scope:Scope} {iter elt:Expr} {ifs:List Expr} {pos:Pos} {wi:TI} {tc:TT} {te:(St->XK)->TE}
theorem zhO (hcalm:X.calm=true) (hi:PI X (.Name x₁ px) iter wi) (hc:∀ pins cl s H fp,PTs (yaA X pins x₁ jf scope cl s H fp) ifs tc)
  (he:∀ pins cl s H fp xe Ex,ybT (CXE X.prog X.w) (tryC (yaA X pins x₁ jf scope cl s H fp) [] xe) Ex->PE (tryC (yaA X pins x₁ jf scope cl s H fp) [] xe) elt (te Ex)) (hex:X.ex=[]) {outer:List Env} (hst:X.stack=X.env::outer) (hf:X.env.frame=some X.env.locals) {Ex:St->XK} (ra:ydN X Ex)
  (hN:(x₁::jf.map (·.2)).Nodup) (hx:scope.names.lookup x₁=some .local) (hjf:∀ p∈jf,X.N[p.1]? = some p.2) (hjl:∀ p∈jf,scope.names.lookup p.2=some .free) (hkind:scope.kind = .function)
  (hcell:∀ y∈scope.names,y.2 ≠ .cell) (hfr:∀ y∈scope.names,y.2 = .free->X.env.kindOf y.1=some .cell\/X.env.kindOf y.1=some .free)
  (hnames:∀ y∈scope.names,y.2 = .local->scope.names.lookup y.1=some .local) (hs:∀ x,foldedSetIterable iter X.env x=pure x) :
  PE X (.ListComp elt [⟨.Name x₁ px,iter,ifs,0⟩] scope pos) (fun σ H Q=>ycT jf wi tc (te fun _=>Ex σ) σ H Q):=by
 intro pins s σ H Q I h
 rw [eval_ListComp]
 refine zgU hcalm hi hc he hex hst hf ra hN hx hjf hjl hkind hcell hfr hnames (use:=none) (Qf:=EP X pins σ Q) I h (fun D C s6 H6 m6 I6 q6 f6 n6=>?_) hs
 refine ⟨m6,n6,fun h' hs' => ⟨.ref D,H6,?_,rfl,q6⟩⟩
 exact I6.turnedL (fp:=[C]) (t' := s6.toks) (fun b o hb q=>(hs'.2 b (fun z=>hb (by simp [z]))).trans q) (fun b hb=>by
  have e:b=C:=by simpa using hb
  subst e
  exact f6)
end
end L2
namespace Sm
open PySem PySem.Spec L2
def ybe (js:List Nat) (en:En) (w:Option Nat) (all:List AV) (c:SB) (e:SE):List AV->List AV->AH->Out (List AV)
 | [],ys,h=>if ybj w all h=true then .ok ys h else .bad
 | x::xs,ys,h=>if ybj w all h=true/\ys.length<sizeLine then
   (match c (some x::js.map fun j=>(en[j]?).join) h with
   | .ok true h1=>(match e (some x::js.map fun j=>(en[j]?).join) h1 with
    | .ok v h2=>ybe js en w all c e xs (ys++[v]) h2
    | .ex k h2=>.ex k h2
    | .bad=>.bad)
   | .ok false h1=>ybe js en w all c e xs ys h1
   | _=>.bad) else .bad
@[simp] def ycl (js:List Nat) (it:SI) (c:SB) (e:SE):SE:=fun en h=>match it en h with
 | .ok (xs,w) h1=>(match ybe js en w xs c e xs [] h1 with
  | .ok ys h2=>.ok (.fl ys) h2
  | .ex k h2=>.ex k h2
  | .bad=>.bad)
 | _=>.bad
section
variable {T:Tb}
theorem zhP {E:XK} {jf:List (Nat×Str)} {it:SI} {cc:SB} {ce:SE} {σ:St} {H:Hp} {Q:VK} {ι:Ix} {h:AH} {en:En} (S:Sim T ι h H) (er:ER T ι H en σ)
  (q:match it en h with | .ok (xs,w) h1=>(match ybe (jf.map (·.1)) en w xs cc ce xs [] h1 with | .ok ys h2=>∀ ι' H' D vs,Grow ι H ι' H'->Sim T (ι'.hide D) h2 H'->RVs T (ι'.hide D) H' ys vs->H' D=some (.lst vs)->D∉ι'.all->(∀ n,ι'.refs=ι.refs++n->∀ a∈n++[D],H a=none)->Q (.ref D) H' | .ex c h2=>∀ ι' H' C,Grow ι H ι' H'->Sim T ι' h2 H'->T.exc c=some C->E (.ref C) none H' | .bad=>False) | _=>False) :
  ycT jf (tI T it) (tT T EN cc) (tE T (fun _=>E) ce) σ H Q:=by
 refine ⟨ι,h,en,S,er,?_⟩
 cases e:it en h with
 | bad=>rw [e] at q;exact q
 | ex c h1=>rw [e] at q;exact q
 | ok p h1 =>
  obtain ⟨xs,w⟩:=p
  rw [e] at q
  dsimp only at q
  intro ι1 H1 J g1 S1 IR D hD
  refine ⟨fun i m ys H2=>m=xs.length-i/\i<=xs.length/\H2 D=some (.lst ys)/\∃ ι' h' vs,Grow ι1 H1 ι' H2/\Ext ι1 H1 (ι'.hide D) H2/\Sim T (ι'.hide D) h' H2/\ER T (ι'.hide D) H2 en σ/\RVs T (ι'.hide D) H2 vs ys/\D∉ι'.refs /\
   (match ybe (jf.map (·.1)) en w xs cc ce (xs.drop i) vs h' with | .ok ys h2=>∀ ι' H' D vs,Grow ι H ι' H'->Sim T (ι'.hide D) h2 H'->RVs T (ι'.hide D) H' ys vs->H' D=some (.lst vs)->D∉ι'.all->(∀ n,ι'.refs=ι.refs++n->∀ a∈n++[D],H a=none)->Q (.ref D) H' | .ex c h2=>∀ ι' H' C,Grow ι H ι' H'->Sim T ι' h2 H'->T.exc c=some C->E (.ref C) none H' | .bad=>False),?_,?_⟩
  ·exact ⟨xs.length,by simp,Nat.zero_le _,zao,ι1,h1,[],S1.growNew hD,Ext.hide hD,S1.hide hD,(er.mono g1).ext (Ext.hide hD),.nil,fun z=>S1.fresh hD (List.mem_append_left _ z),q⟩
  ·rintro i m ys H2 ⟨rfl,hi,hH2,ι',h',vs,g',x',S',er',rv',nD',q'⟩
   refine ⟨hH2,?_⟩
   by_cases hl:i<xs.length
   ·rw [zbi hl] at q'
    unfold ybe at q'
    by_cases hs:ybj w xs h'=true/\vs.length<sizeLine
    ·rw [if_pos hs] at q'
     obtain ⟨hs1,hs2⟩:=hs
     obtain ⟨go,yld⟩:=IR.go i _ h' H2 xs[i] x' S' hs1 (by simp [hl])
     refine .inr ⟨go,by rw [<- rv'.length];exact hs2,fun x H3 y=>?_⟩
     obtain ⟨g3,S3,r3⟩:=yld x H3 y
     have er3:=er'.mono g3
     refine ⟨ι'.hide D,h',_,S3,ER.comp er3 r3,?_⟩
     cases ec:cc (some xs[i]::(jf.map (·.1)).map fun j=>(en[j]?).join) h' with
     | bad=>rw [ec] at q';exact q'
     | ex c h5=>rw [ec] at q';exact q'.elim
     | ok bb h5 =>
      rw [ec] at q'
      intro ι5 H5 b5 g5 S5 r5
      subst r5
      have g35:=g3.trans g5
      have hD5:H5 D=some (.lst ys):=g35.keep D _ nD' hH2
      have eι:ι5=Ix.hide ⟨ι5.refs,ι'.priv⟩ D:=by
       have:=g5.priv
       cases ι5
       simp only at this
       subst this
       rfl
      have nD5:D∉ι5.refs:=g35.outR nD' hH2
      have gG5:Grow ι1 H1 ⟨ι5.refs,ι'.priv⟩ H5:=by
       obtain ⟨n,en1,hn⟩:=g'.pre
       obtain ⟨k,ek,hk⟩:=g35.pre
       refine ⟨⟨n++k,?_,fun a ha=>?_⟩,g'.priv,fun a o na ea=>?_,fun a ha=>?_⟩
       ·show ι5.refs=_;rw [ek];show ι'.refs++k=_;rw [en1];simp
       ·rcases List.mem_append.mp ha with z | z
        ·exact hn a z
        ·have z2:=hk a z
         by_cases hr:a∈ι1.refs
         ·exact absurd z2 (g'.live a (List.mem_append_left _ hr))
         ·cases e9:H1 a with
          | none=>rfl
          | some o=>rw [g'.keep a o hr e9] at z2;cases z2
       ·exact g35.keep a o (g'.outR na ea) (g'.keep a o na ea)
       ·have:a∈(ι'.hide D).all:=by
         rcases List.mem_append.mp ha with z | z
         ·exact List.mem_append_left _ (by show a∈ι'.refs;rw [en1];exact List.mem_append_left _ z)
         ·exact List.mem_append_right _ (List.mem_cons_of_mem _ (by rw [g'.priv];exact z))
        exact g35.live a this
      have x5:Ext ι1 H1 (Ix.hide ⟨ι5.refs,ι'.priv⟩ D) H5:=eι▸x'.trans g35.ext
      have er5:=er3.mono g5
      have rv5:=(rv'.mono g35)
      cases bb with
      | false =>
       rw [if_neg Bool.false_ne_true]
       refine ⟨xs.length-(i+1),by omega,rfl,hl,hD5,⟨ι5.refs,ι'.priv⟩,h5,vs,gG5,x5,eι▸S5,eι▸er5,eι▸rv5,nD5,q'⟩
      | true =>
       rw [if_pos rfl]
       refine ⟨ι5,h5,_,S5,(ER.comp er3 r3).mono g5,?_⟩
       dsimp only at q'
       cases ee:ce (some xs[i]::(jf.map (·.1)).map fun j=>(en[j]?).join) h5 with
       | bad=>rw [ee] at q';exact q'
       | ex c h6 =>
        rw [ee] at q'
        intro ι6 H6 C6 g6 S6 t6
        have eι6:ι6=Ix.hide ⟨ι6.refs,ι'.priv⟩ D:=by
         have h1:=g6.priv
         have h2:=g5.priv
         rw [h2] at h1
         cases ι6
         simp only at h1
         subst h1
         rfl
        have gG6:Grow ι1 H1 ⟨ι6.refs,ι'.priv⟩ H6:=by
         obtain ⟨n,en1,hn⟩:=gG5.pre
         obtain ⟨k,ek,hk⟩:=g6.pre
         refine ⟨⟨n++k,?_,fun a ha=>?_⟩,g'.priv,fun a o na ea=>?_,fun a ha=>?_⟩
         ·show ι6.refs=_;rw [ek];have z:ι5.refs=ι1.refs++n:=en1;rw [z];simp
         ·rcases List.mem_append.mp ha with z | z
          ·exact hn a z
          ·have z2:=hk a z
           by_cases hr:a∈ι1.refs
           ·exact absurd z2 (gG5.live a (List.mem_append_left _ hr))
           ·cases e9:H1 a with
            | none=>rfl
            | some o=>rw [gG5.keep a o hr e9] at z2;cases z2
         ·exact g6.keep a o (gG5.outR na ea) (gG5.keep a o na ea)
         ·have:a∈ι5.all:=by
           rcases List.mem_append.mp ha with z | z
           ·exact List.mem_append_left _ (by have z':ι5.refs=ι1.refs++n:=en1;rw [z'];exact List.mem_append_left _ z)
           ·rw [eι];exact List.mem_append_right _ (List.mem_cons_of_mem _ (by show a∈ι'.priv;rw [g'.priv];exact z))
          exact g6.live a this
        have S7:Sim T (Ix.hide ⟨ι6.refs,ι'.priv⟩ D) h6 H6:=eι6▸S6
        exact q' _ H6 C6 (g1.trans gG6) S7.show t6
       | ok v h6 =>
        rw [ee] at q'
        intro ι6 H6 u6 g6 S6 r6
        have g56:=g6
        have hD6:H6 D=some (.lst ys):=g56.keep D _ nD5 hD5
        have eι6:ι6=Ix.hide ⟨ι6.refs,ι'.priv⟩ D:=by
         have h1:=g6.priv
         have h2:=g5.priv
         rw [h2] at h1
         cases ι6
         simp only at h1
         subst h1
         rfl
        have nD6:D∉ι6.refs:=g56.outR nD5 hD5
        have gG6:Grow ι1 H1 ⟨ι6.refs,ι'.priv⟩ (upd H6 D (.lst (ys++[u6]))):=by
         obtain ⟨n,en1,hn⟩:=gG5.pre
         obtain ⟨k,ek,hk⟩:=g56.pre
         have hD1:∀ a o,H1 a=some o->a≠D:=fun a o ea=>zam ea hD
         refine ⟨⟨n++k,?_,fun a ha=>?_⟩,g'.priv,fun a o na ea=>?_,fun a ha=>?_⟩
         ·show ι6.refs=_;rw [ek];have z:ι5.refs=ι1.refs++n:=en1;rw [z];simp
         ·rcases List.mem_append.mp ha with z | z
          ·exact hn a z
          ·have z2:=hk a z
           by_cases hr:a∈ι1.refs
           ·exact absurd z2 (gG5.live a (List.mem_append_left _ hr))
           ·cases e9:H1 a with
            | none=>rfl
            | some o=>rw [gG5.keep a o hr e9] at z2;cases z2
         ·rw [yax (hD1 a o ea)]
          exact g56.keep a o (gG5.outR na ea) (gG5.keep a o na ea)
         ·by_cases zD:a=D
          ·subst zD;rw [zao];simp
          ·rw [yax zD]
           have:a∈ι5.all:=by
            rcases List.mem_append.mp ha with z | z
            ·exact List.mem_append_left _ (by have z':ι5.refs=ι1.refs++n:=en1;rw [z'];exact List.mem_append_left _ z)
            ·rw [eι];exact List.mem_append_right _ (List.mem_cons_of_mem _ (by show a∈ι'.priv;rw [g'.priv];exact z))
           exact g56.live a this
        refine ⟨hD6,xs.length-(i+1),by omega,rfl,hl,zao,⟨ι6.refs,ι'.priv⟩,h6,vs++[v],gG6,?_,?_,?_,?_,nD6,q'⟩
        ·exact (eι6▸(x'.trans (g35.ext.trans g6.ext))).trans Ext.poke
        ·exact Sim.poke (eι6▸S6) nD6
        ·exact ER.ext (eι6▸er5.mono g6) Ext.poke
        ·have:RVs T ι6 H6 (vs++[v]) (ys++[u6]):=(rv5.mono g6).append (.cons r6 .nil)
         exact RVs.ext Ext.poke (eι6▸this)
    ·rw [if_neg hs] at q';exact q'.elim
   ·have ei:i=xs.length:=by omega
    subst ei
    rw [List.drop_length] at q'
    unfold ybe at q'
    by_cases hs:ybj w xs h'=true
    ·rw [if_pos hs] at q'
     have hp:D∉ι'.priv:=fun z=>by rw [g'.priv] at z;exact S1.plive D z hD
     refine .inl ⟨IR.stop _ _ h' H2 x' S' hs (Nat.le_refl _),q' ι' H2 D ys (g1.trans g') S' rv' hH2 (fun z=>(List.mem_append.mp z).elim nD' hp) fun n en1 a ha=>?_⟩
     obtain ⟨k,ek,hk⟩:=(g1.trans g').pre
     have:n=k:=List.append_cancel_left (en1.symm.trans ek)
     subst this
     rcases List.mem_append.mp ha with z | z
     ·exact hk a z
     ·have z':a=D:=by simpa using z
      subst z'
      cases e9:H a with
      | none=>rfl
      | some o =>
       by_cases hr:a∈ι.refs
       ·have z1:a∈ι1.refs:=by
         obtain ⟨k1,ek1,_⟩:=g1.pre
         rw [ek1];exact List.mem_append_left _ hr
        exact absurd hD (S1.live a (List.mem_append_left _ z1))
       ·rw [g1.keep a o hr e9] at hD;cases hD
    ·rw [if_neg hs] at q';exact q'.elim
end
section
variable {T:Tb} {E:St->XK} {X:Cx} {pos px:Pos} {iter elt:Expr} {ifs:List Expr} {scope:Scope} {x₁:Str} {jf:List (Nat×Str)} {it:SI} {cc:SB} {ce:SE}
theorem zhQ {σ:St} {H:Hp} {Q:VK} (q:tE T E (ycl (jf.map (·.1)) it cc ce) σ H Q):ycT jf (tI T it) (tT T EN cc) (tE T (fun _=>E σ) ce) σ H Q:=by
 obtain ⟨ι,h,en,S,er,q⟩:=q
 refine zhP S er ?_
 unfold ycl at q
 cases e:it en h with
 | bad=>rw [e] at q;exact q
 | ex c h1=>rw [e] at q;exact q.elim
 | ok p h1 =>
  obtain ⟨xs,w⟩:=p
  rw [e] at q
  dsimp only at q ⊢
  cases e2:ybe (jf.map (·.1)) en w xs cc ce xs [] h1 with
  | bad=>rw [e2] at q;exact q
  | ex c h1=>rw [e2] at q;exact q
  | ok ys h2 =>
   rw [e2] at q
   exact fun ι' H' D vs g S' r hD nD _=>q ι' H' _ g S'.show (.fl nD (.inl hD) (r.ext Ext.show))
theorem zi0 (hK:X.K=T.K) (C:CompOk X x₁ jf scope) (hcalm:X.calm=true) (hi:PIA T X (.Name x₁ px) iter it) (hc:∀ pins cl s H fp,PTs (yaA X pins x₁ jf scope cl s H fp) ifs (tT T EN cc))
  (he:∀ pins cl s H fp xe Ex,CA T Ex (tryC (yaA X pins x₁ jf scope cl s H fp) [] xe)->PEA T Ex (tryC (yaA X pins x₁ jf scope cl s H fp) [] xe) elt ce) (ra:ydN X E) (hex:X.ex=[]:=by rfl) {outer:List Env} (hst:X.stack=X.env::outer:=by rfl) (hf:X.env.frame=some X.env.locals:=by rfl)
  (hs:∀ x,foldedSetIterable iter X.env x=pure x:=by intro _;rfl):PEA T E X (.ListComp elt [⟨.Name x₁ px,iter,ifs,0⟩] scope pos) (ycl (jf.map (·.1)) it cc ce) :=
 yaR (zhO (te:=fun Ex=>tE T Ex ce) hcalm hi hc (fun pins cl s H fp xe Ex hp=>he pins cl s H fp xe Ex ⟨hK,hp⟩) hex hst hf ra C.hN C.hx C.hjf C.hjl C.hkind C.hcell C.hfr C.hnames hs) fun _ _ _ q=>zhQ q
end
end Sm
namespace Sk
open PySem PySem.Spec L2 Sm
abbrev ygm:Nat:=0
abbrev yiQ:Nat:=1
abbrev yaM:Nat:=2
abbrev yf3:Nat:=3
abbrev yfm:Nat:=4
abbrev yfn:Nat:=5
abbrev yiy:Nat:=6
def yda (c:Nat):Bool:=[false,false,true,false,false,false,false].getD c false
def ydb (c:Nat):Bool:=[false,false,false,false,false,false,true].getD c false
def ydy (c:Nat):Bool:=[false,true,false,false,false,false,false].getD c false
def ycr (c:Nat):Bool:=[true,true,true,true,true,true,true].getD c false
def ybW (c:Nat):Bool:=[true,true,true,true,true,true,true].getD c false
def yb9:Fn:=mkFn 1 1
  (sSeq (ycf 0 0 (sVar 0) (ybH sNil))
  (sSeq (ycf 0 1 (sVar 0) (yeN true))
  (sSeq (ycf 0 2 (sVar 0) (ybH (yab (sLit (.int 0)) sNil)))
  (sSeq (ycf 0 3 (sVar 0) (ybH (yab (sLit (.int 0)) sNil)))
  (sSeq (ycf 0 4 (sVar 0) (ybH (yab (sLit (.int 0)) sNil)))
  (sSeq (ycf 0 5 (sVar 0) (ybH (yab (sOp1 fNeg (sLit (.int 1))) sNil)))
  (sSeq (ycf 0 6 (sVar 0) (ybH (yab (sLit (.int 0)) sNil)))
  (ycf 0 7 (sVar 0) (ybH (yab (sLit (.int 0)) sNil))))))))))
def yaC:Fn:=mkFn 2 3
  (sSeq (sSet 2 (sOp2 fMod (sOp2 fIx (sVar 0) (sLit (.int 0))) (sVar 1)))
  (sSeq (yet (sVar 0) (sLit (.int 0)) (sOp2 fDiv (sOp2 fIx (sVar 0) (sLit (.int 0))) (sVar 1)))
  (sRet (sVar 2))))
def ybE:SS :=
  (sSet 5 (sOp2 fAdd (sVar 5) (sOp2 fIx (sVar 4) (yah yaC (yab (sVar 0) (yab (yah fLen (yab (sVar 4) sNil)) sNil))))))
def ycm:Fn:=mkFn 2 7
  (sSeq (sSet 2 (sLit (.str "abcdefghijklmnopqrstuvwxyz")))
  (sSeq (sSet 3 (sOp2 fAdd (sOp2 fAdd (sVar 2) (sBM0 yeP yeB (sVar 2))) (sLit (.str " !#$&'()*+,-./0123456789:;<=>?\x40[]^_{|}~\n\\"))))
  (sSeq (sSet 4 (sOp2 fIx (sLst (yab (sLit (.str "a")) (yab (sLit (.str "ab")) (yab (sLit (.str "ab\n")) (yab (sLit (.str "a \n~")) (yab (sVar 3) sNil)))))) (yah yaC (yab (sVar 0) (yab (sLit (.int 5)) sNil)))))
  (sSeq (sSet 5 (sLit (.str "")))
  (sSeq (sFor (ycM (yah yaC (yab (sVar 0) (yab (sOp2 fAdd (sVar 1) (sLit (.int 1))) sNil)))) (.nm 6) ybE)
  (sRet (sVar 5)))))))
def yaW:Fn:=mkFn 1 1
  (sRet (ydQ (sIsB "int" (sVar 0)) (yf8 (sIsB "bool" (sVar 0)))))
def yas:Fn:=mkFn 2 2
  (sRet (ydQ (yah yaW (yab (sVar 1) sNil)) (yd5 fLe fLe (sLit (.int 1)) (sVar 1) (yah fLen (yab (Sm.sFld 0 0 (sVar 0)) sNil)))))
def yaU:Fn:=mkFn 2 2
  (sIf (sNot (ybI (yaj 0 yas (sVar 0) (yab (sVar 1) sNil)))) (ycy 2 (yab (sLit (.str "no piece of the shelf has this number")) sNil)) yaD)
def ya7:Fn:=mkFn 3 4
  (sSeq (yaQ (yaj 0 yaU (sVar 0) (yab (sVar 1) sNil)))
  (sSeq (yaQ (yaj 0 yaU (sVar 0) (yab (sVar 2) sNil)))
  (sSeq (sSet 3 (sOp2 fAdd (sOp2 fIx (Sm.sFld 0 2 (sVar 0)) (sOp2 fIx (Sm.sFld 0 7 (sVar 0)) (sVar 1))) (sOp2 fIx (Sm.sFld 0 2 (sVar 0)) (sOp2 fIx (Sm.sFld 0 6 (sVar 0)) (sVar 2)))))
  (sSeq (sIf (yau (sOp2 fLe (sVar 3) (sLit (.int 8)))) (ycy 3 (yab (sLit (.str "the leaves where the parts meet have no more than eight signs together")) sNil)) yaD)
  (sSeq (sIf (yau (sOp2 fGt (yah fAbs (yab (sOp2 fSub (sOp2 fIx (Sm.sFld 0 5 (sVar 0)) (sVar 1)) (sOp2 fIx (Sm.sFld 0 5 (sVar 0)) (sVar 2))) sNil)) (sLit (.int 1)))) (ycy 4 (yab (sLit (.str "the heights of the parts differ by more than one")) sNil)) yaD)
  (sIf (yau (sOp2 fGt (sOp2 fAdd (sOp2 fIx (Sm.sFld 0 2 (sVar 0)) (sVar 1)) (sOp2 fIx (Sm.sFld 0 2 (sVar 0)) (sVar 2))) (sLit (.int 1000000000000000000)))) (ycy 5 (yab (sLit (.str "the fork would have more than 10 ** 18 signs")) sNil)) yaD))))))
def ycn:Fn:=mkFn 2 3
  (sSeq (yaQ (sBM yar yao (Sm.sFld 0 0 (sVar 0)) (yab (sVar 1) sNil)))
  (sSeq (sSet 2 (yah fLen (yab (Sm.sFld 0 0 (sVar 0)) sNil)))
  (sSeq (yet (Sm.sFld 0 1 (sVar 0)) (sVar 1) (sVar 2))
  (sRet (sVar 2)))))
def ybM:Fn:=mkFn 2 4
  (sSeq (yaQ (yaj 0 ycn (sVar 0) (yab (sVar 1) sNil)))
  (sSeq (sSet 2 (sOp2 fIx (sVar 1) (sLit (.int 1))))
  (sSeq (sSet 3 (sOp2 fIx (sVar 1) (sLit (.int 2))))
  (sSeq (yaQ (sBM yar yao (Sm.sFld 0 2 (sVar 0)) (yab (sOp2 fAdd (sOp2 fIx (Sm.sFld 0 2 (sVar 0)) (sVar 2)) (sOp2 fIx (Sm.sFld 0 2 (sVar 0)) (sVar 3))) sNil)))
  (sSeq (yaQ (sBM yar yao (Sm.sFld 0 3 (sVar 0)) (yab (sOp2 fAdd (sOp2 fIx (Sm.sFld 0 3 (sVar 0)) (sVar 2)) (sOp2 fIx (Sm.sFld 0 3 (sVar 0)) (sVar 3))) sNil)))
  (sSeq (yaQ (sBM yar yao (Sm.sFld 0 4 (sVar 0)) (yab (sOp2 fAdd (sOp2 fIx (Sm.sFld 0 4 (sVar 0)) (sVar 2)) (sOp2 fIx (Sm.sFld 0 4 (sVar 0)) (sVar 3))) sNil)))
  (sSeq (yaQ (sBM yar yao (Sm.sFld 0 5 (sVar 0)) (yab (sOp2 fAdd (yah yfk (yab (sOp2 fIx (Sm.sFld 0 5 (sVar 0)) (sVar 2)) (yab (sOp2 fIx (Sm.sFld 0 5 (sVar 0)) (sVar 3)) sNil))) (sLit (.int 1))) sNil)))
  (sSeq (yaQ (sBM yar yao (Sm.sFld 0 6 (sVar 0)) (yab (sOp2 fIx (Sm.sFld 0 6 (sVar 0)) (sVar 2)) sNil)))
  (yaQ (sBM yar yao (Sm.sFld 0 7 (sVar 0)) (yab (sOp2 fIx (Sm.sFld 0 7 (sVar 0)) (sVar 3)) sNil)))))))))))
def yae:Fn:=mkFn 3 4
  (sSeq (yaQ (yaj 0 ya7 (sVar 0) (yab (sVar 1) (yab (sVar 2) sNil))))
  (sSeq (sSet 3 (sTup (yab (sLit (.str "fork")) (yab (sVar 1) (yab (sVar 2) sNil)))))
  (sSeq (sIf (yau (sOp2 ye5 (sVar 3) (Sm.sFld 0 1 (sVar 0)))) (yaQ (yaj 0 ybM (sVar 0) (yab (sVar 3) sNil))) yaD)
  (sRet (sOp2 fIx (Sm.sFld 0 1 (sVar 0)) (sVar 3))))))
def yek (G:Fn):Fn:=mkFn 2 3
  (sSeq (sIf (yau (sOp2 fEq (yah fLen (yab (sVar 1) sNil)) (sLit (.int 1)))) (sRet (sOp2 fIx (sVar 1) (sLit (.int 0)))) yaD)
  (sSeq (sSet 2 (sOp2 fDiv (yah fLen (yab (sVar 1) sNil)) (sLit (.int 2))))
  (sRet (yaj 0 yae (sVar 0) (yab (yah G (yab (sVar 0) (yab (sCut (sVar 1) none (some (sVar 2))) sNil))) (yab (yah G (yab (sVar 0) (yab (sCut (sVar 1) (some (sVar 2)) none) sNil))) sNil))))))
def ybN:Nat->Fn
 | 0=>mkFn 2 3 (fun _ _=>.bad)
 | d+1=>yek (ybN d)
def ybR:Fn:=mkFn 1 1
  (sRet (sOrV (sOp2 fEq (sVar 0) (sLit (.str "\n"))) (yd5 fLe fLe (sLit (.str " ")) (sVar 0) (sLit (.str "~")))))
def ybt:Fn:=mkFn 1 1
  (sSeq (sIf (sNot (ybI (sIsB "str" (sVar 0)))) (sRet (sLit (.bl false))) yaD)
  (sRet (yah fAll (yab (ycU [] (iVal (sVar 0)) sYes (yah ybR (yab (sVar 0) sNil))) sNil))))
def ybc:Fn:=mkFn 1 1
  (sRet (ydQ (yah ybt (yab (sVar 0) sNil)) (yd5 fLe fLe (sLit (.int 1)) (yah fLen (yab (sVar 0) sNil)) (sLit (.int 8)))))
def ydz:Fn:=mkFn 1 1
  (sRet (sBM yeP yeJ (sVar 0) (yab (sLit (.str "\n")) sNil)))
def ybO:Fn:=mkFn 2 4
  (sSeq (sSet 2 (yaj 0 ycn (sVar 0) (yab (sVar 1) sNil)))
  (sSeq (sSet 3 (sOp2 fIx (sVar 1) (sLit (.int 1))))
  (sSeq (yaQ (sBM yar yao (Sm.sFld 0 2 (sVar 0)) (yab (yah fLen (yab (sVar 3) sNil)) sNil)))
  (sSeq (yaQ (sBM yar yao (Sm.sFld 0 3 (sVar 0)) (yab (yah ydz (yab (sVar 3) sNil)) sNil)))
  (sSeq (yaQ (sBM yar yao (Sm.sFld 0 4 (sVar 0)) (yab (sLit (.int 1)) sNil)))
  (sSeq (yaQ (sBM yar yao (Sm.sFld 0 5 (sVar 0)) (yab (sLit (.int 0)) sNil)))
  (sSeq (yaQ (sBM yar yao (Sm.sFld 0 6 (sVar 0)) (yab (sVar 2) sNil)))
  (yaQ (sBM yar yao (Sm.sFld 0 7 (sVar 0)) (yab (sVar 2) sNil))))))))))
def ya2:Fn:=mkFn 2 3
  (sSeq (sIf (sNot (ybI (yah ybc (yab (sVar 1) sNil)))) (ycy 1 (yab (sLit (.str "a leaf is a plain text of one to eight signs")) sNil)) yaD)
  (sSeq (sSet 2 (sTup (yab (sLit (.str "leaf")) (yab (sVar 1) sNil))))
  (sSeq (sIf (yau (sOp2 ye5 (sVar 2) (Sm.sFld 0 1 (sVar 0)))) (yaQ (yaj 0 ybO (sVar 0) (yab (sVar 2) sNil))) yaD)
  (sRet (sOp2 fIx (Sm.sFld 0 1 (sVar 0)) (sVar 2))))))
def ycN:Fn:=mkFn 2 3
  (sSeq (sIf (sNot (ybI (yah ybt (yab (sVar 1) sNil)))) (ycy 1 (yab (sLit (.str "a text is built of a plain text")) sNil)) yaD)
  (sSeq (sIf (yau (sOp2 fGt (yah fLen (yab (sVar 1) sNil)) (sLit (.int 10000)))) (ycy 5 (yab (sLit (.str "a text is built of ten thousand signs at most")) sNil)) yaD)
  (sSeq (sIf (yau (sOp2 fEq (sVar 1) (sLit (.str "")))) (sRet (sLit (.int 0))) yaD)
  (sSeq (sSet 2 (ycU [0,1] (ycg (sLit (.int 0)) (yah fLen (yab (sVar 1) sNil)) (sLit (.int 8))) sYes (yaj 0 ya2 (sVar 1) (yab (sCut (sVar 2) (some (sVar 0)) (some (sOp2 fAdd (sVar 0) (sLit (.int 8))))) sNil))))
  (sRet (yah (ybN 20) (yab (sVar 0) (yab (sVar 2) sNil))))))))
def ych:Fn:=mkFn 1 1
  (sIf (yau (sOp2 fGt (sVar 0) (sLit (.int 1000000000000000000)))) (ycy 5 (yab (sLit (.str "the text would have more than 10 ** 18 signs")) sNil)) yaD)
def yaI:Fn:=mkFn 2 2
  (sIf (yau (sOp2 fNe (sVar 1) (sLit (.int 0)))) (yaQ (yaj 0 yaU (sVar 0) (yab (sVar 1) sNil))) yaD)
def ybg:Fn:=mkFn 2 2
  (sSeq (yaQ (yaj 0 yaI (sVar 0) (yab (sVar 1) sNil)))
  (sRet (sOp2 fIx (Sm.sFld 0 2 (sVar 0)) (sVar 1))))
def ybG:Fn:=mkFn 2 2
  (sSeq (yaQ (yaj 0 yaI (sVar 0) (yab (sVar 1) sNil)))
  (sRet (sOp2 fIx (Sm.sFld 0 7 (sVar 0)) (sVar 1))))
def ybB:Fn:=mkFn 2 2
  (sSeq (yaQ (yaj 0 yaI (sVar 0) (yab (sVar 1) sNil)))
  (sRet (sOp2 fIx (Sm.sFld 0 6 (sVar 0)) (sVar 1))))
def ycX:Fn:=mkFn 3 3
  (sRet (sOp2 fGt (sOp2 fAdd (yaj 0 ybg (sVar 0) (yab (yaj 0 ybG (sVar 0) (yab (sVar 1) sNil)) sNil)) (yaj 0 ybg (sVar 0) (yab (yaj 0 ybB (sVar 0) (yab (sVar 2) sNil)) sNil))) (sLit (.int 8))))
def yaB:Fn:=mkFn 2 2
  (sSeq (yaQ (yaj 0 yaU (sVar 0) (yab (sVar 1) sNil)))
  (sRet (sOp2 fIx (Sm.sFld 0 0 (sVar 0)) (sOp2 fSub (sVar 1) (sLit (.int 1))))))
def ydC (G:Fn):Fn:=mkFn 3 4
  (sSeq (sSet 3 (yaj 0 yaB (sVar 0) (yab (sVar 1) sNil)))
  (sSeq (sIf (yau (sOp2 fEq (sOp2 fIx (sVar 3) (sLit (.int 0))) (sLit (.str "leaf")))) (sRet (sVar 2)) yaD)
  (sRet (yaj 0 yae (sVar 0) (yab (sOp2 fIx (sVar 3) (sLit (.int 1))) (yab (yah G (yab (sVar 0) (yab (sOp2 fIx (sVar 3) (sLit (.int 2))) (yab (sVar 2) sNil)))) sNil))))))
def ybh:Nat->Fn
 | 0=>mkFn 3 4 (fun _ _=>.bad)
 | d+1=>ydC (ybh d)
def yaX:Fn:=mkFn 2 2
  (sSeq (yaQ (yaj 0 yaI (sVar 0) (yab (sVar 1) sNil)))
  (sRet (sOp2 fIx (Sm.sFld 0 5 (sVar 0)) (sVar 1))))
def yaZ:Fn:=mkFn 3 7
  (sSeq (sIf (yau (sOp2 fLt (sOp2 fSub (yaj 0 yaX (sVar 0) (yab (sVar 2) sNil)) (yaj 0 yaX (sVar 0) (yab (sVar 1) sNil))) (sLit (.int 2)))) (sRet (yaj 0 yae (sVar 0) (yab (sVar 1) (yab (sVar 2) sNil)))) yaD)
  (sSeq (sSet 3 (yaj 0 yaB (sVar 0) (yab (sVar 2) sNil)))
  (sSeq (sSet 4 (sOp2 fIx (sVar 3) (sLit (.int 1))))
  (sSeq (sSet 5 (sOp2 fIx (sVar 3) (sLit (.int 2))))
  (sSeq (sIf (yau (sOp2 fLe (yaj 0 yaX (sVar 0) (yab (sVar 4) sNil)) (yaj 0 yaX (sVar 0) (yab (sVar 5) sNil)))) (sRet (yaj 0 yae (sVar 0) (yab (yaj 0 yae (sVar 0) (yab (sVar 1) (yab (sVar 4) sNil))) (yab (sVar 5) sNil)))) yaD)
  (sSeq (sSet 6 (yaj 0 yaB (sVar 0) (yab (sVar 4) sNil)))
  (sRet (yaj 0 yae (sVar 0) (yab (yaj 0 yae (sVar 0) (yab (sVar 1) (yab (sOp2 fIx (sVar 6) (sLit (.int 1))) sNil))) (yab (yaj 0 yae (sVar 0) (yab (sOp2 fIx (sVar 6) (sLit (.int 2))) (yab (sVar 5) sNil))) sNil))))))))))
def yb4 (G:Fn):Fn:=mkFn 2 4
  (sSeq (sSet 2 (yaj 0 yaB (sVar 0) (yab (sVar 1) sNil)))
  (sSeq (sIf (yau (sOp2 fEq (sOp2 fIx (sVar 2) (sLit (.int 0))) (sLit (.str "leaf")))) (sRet (sLit (.int 0))) yaD)
  (sSeq (sSet 3 (yah G (yab (sVar 0) (yab (sOp2 fIx (sVar 2) (sLit (.int 1))) sNil))))
  (sSeq (sIf (yau (sOp2 fEq (sVar 3) (sLit (.int 0)))) (sRet (sOp2 fIx (sVar 2) (sLit (.int 2)))) yaD)
  (sRet (yah yaZ (yab (sVar 0) (yab (sVar 3) (yab (sOp2 fIx (sVar 2) (sLit (.int 2))) sNil)))))))))
def yaE:Nat->Fn
 | 0=>mkFn 2 4 (fun _ _=>.bad)
 | d+1=>yb4 (yaE d)
def ya3:Fn:=mkFn 3 7
  (sSeq (sIf (yau (sOp2 fLt (sOp2 fSub (yaj 0 yaX (sVar 0) (yab (sVar 1) sNil)) (yaj 0 yaX (sVar 0) (yab (sVar 2) sNil))) (sLit (.int 2)))) (sRet (yaj 0 yae (sVar 0) (yab (sVar 1) (yab (sVar 2) sNil)))) yaD)
  (sSeq (sSet 3 (yaj 0 yaB (sVar 0) (yab (sVar 1) sNil)))
  (sSeq (sSet 4 (sOp2 fIx (sVar 3) (sLit (.int 1))))
  (sSeq (sSet 5 (sOp2 fIx (sVar 3) (sLit (.int 2))))
  (sSeq (sIf (yau (sOp2 fLe (yaj 0 yaX (sVar 0) (yab (sVar 5) sNil)) (yaj 0 yaX (sVar 0) (yab (sVar 4) sNil)))) (sRet (yaj 0 yae (sVar 0) (yab (sVar 4) (yab (yaj 0 yae (sVar 0) (yab (sVar 5) (yab (sVar 2) sNil))) sNil)))) yaD)
  (sSeq (sSet 6 (yaj 0 yaB (sVar 0) (yab (sVar 5) sNil)))
  (sRet (yaj 0 yae (sVar 0) (yab (yaj 0 yae (sVar 0) (yab (sVar 4) (yab (sOp2 fIx (sVar 6) (sLit (.int 1))) sNil))) (yab (yaj 0 yae (sVar 0) (yab (sOp2 fIx (sVar 6) (sLit (.int 2))) (yab (sVar 2) sNil))) sNil))))))))))
def ydV (G:Fn):Fn:=mkFn 3 5
  (sSeq (sSet 3 (sOp2 fSub (yaj 0 yaX (sVar 0) (yab (sVar 1) sNil)) (yaj 0 yaX (sVar 0) (yab (sVar 2) sNil))))
  (sSeq (sIf (yau (sOp2 fGt (sVar 3) (sLit (.int 1)))) (sSeq (sSet 4 (yaj 0 yaB (sVar 0) (yab (sVar 1) sNil)))
  (sRet (yah yaZ (yab (sVar 0) (yab (sOp2 fIx (sVar 4) (sLit (.int 1))) (yab (yah G (yab (sVar 0) (yab (sOp2 fIx (sVar 4) (sLit (.int 2))) (yab (sVar 2) sNil)))) sNil)))))) yaD)
  (sSeq (sIf (yau (sOp2 fLt (sVar 3) (sOp1 fNeg (sLit (.int 1))))) (sSeq (sSet 4 (yaj 0 yaB (sVar 0) (yab (sVar 2) sNil)))
  (sRet (yah ya3 (yab (sVar 0) (yab (yah G (yab (sVar 0) (yab (sVar 1) (yab (sOp2 fIx (sVar 4) (sLit (.int 1))) sNil)))) (yab (sOp2 fIx (sVar 4) (sLit (.int 2))) sNil)))))) yaD)
  (sRet (yaj 0 yae (sVar 0) (yab (sVar 1) (yab (sVar 2) sNil)))))))
def ybf:Nat->Fn
 | 0=>mkFn 3 5 (fun _ _=>.bad)
 | d+1=>ydV (ybf d)
def ycv:Fn:=mkFn 3 6
  (sSeq (sSet 3 (sOp2 fAdd (sOp2 fIx (yaj 0 yaB (sVar 0) (yab (yaj 0 ybG (sVar 0) (yab (sVar 1) sNil)) sNil)) (sLit (.int 1))) (sOp2 fIx (yaj 0 yaB (sVar 0) (yab (yaj 0 ybB (sVar 0) (yab (sVar 2) sNil)) sNil)) (sLit (.int 1)))))
  (sSeq (sSet 4 (yah (ybh 90) (yab (sVar 0) (yab (sVar 1) (yab (yaj 0 ya2 (sVar 0) (yab (sVar 3) sNil)) sNil)))))
  (sSeq (sSet 5 (yah (yaE 90) (yab (sVar 0) (yab (sVar 2) sNil))))
  (sSeq (sIf (yau (sOp2 fEq (sVar 5) (sLit (.int 0)))) (sRet (sVar 4)) yaD)
  (sRet (yah (ybf 90) (yab (sVar 0) (yab (sVar 4) (yab (sVar 5) sNil)))))))))
def ybF:Fn:=mkFn 3 3
  (sSeq (yaQ (yah ych (yab (sOp2 fAdd (yaj 0 ybg (sVar 0) (yab (sVar 1) sNil)) (yaj 0 ybg (sVar 0) (yab (sVar 2) sNil))) sNil)))
  (sSeq (sIf (yau (sOp2 fEq (sVar 1) (sLit (.int 0)))) (sRet (sVar 2)) yaD)
  (sSeq (sIf (yau (sOp2 fEq (sVar 2) (sLit (.int 0)))) (sRet (sVar 1)) yaD)
  (sSeq (sIf (ybI (yah ycX (yab (sVar 0) (yab (sVar 1) (yab (sVar 2) sNil))))) (sRet (yah (ybf 90) (yab (sVar 0) (yab (sVar 1) (yab (sVar 2) sNil))))) yaD)
  (sRet (yah ycv (yab (sVar 0) (yab (sVar 1) (yab (sVar 2) sNil)))))))))
def ybC:SS :=
  (sSeq (sSet 5 (sOp2 fAdd (sLit (.int 1)) (yah yaC (yab (sVar 1) (yab (sLit (.int 12)) sNil)))))
  (sSeq (yaQ (sBM yar yao (sVar 4) (yab (sCut (sVar 2) none (some (sVar 5))) sNil)))
  (sSet 2 (sCut (sVar 2) (some (sVar 5)) none))))
def ybu:SS :=
  (sSet 6 (yah ybF (yab (sVar 0) (yab (sVar 6) (yab (yah ycN (yab (sVar 0) (yab (sVar 7) sNil))) sNil)))))
def ybv:SS :=
  (sSet 6 (yah ybF (yab (sVar 0) (yab (yah ycN (yab (sVar 0) (yab (sVar 7) sNil))) (yab (sVar 6) sNil)))))
def yci:Fn:=mkFn 3 8
  (sSeq (sSet 3 (yah yaC (yab (sVar 1) (yab (sLit (.int 3)) sNil))))
  (sSeq (sIf (yau (sOp2 fEq (sVar 3) (sLit (.int 0)))) (sRet (yah ycN (yab (sVar 0) (yab (sVar 2) sNil)))) yaD)
  (sSeq (sSet 4 (ybH sNil))
  (sSeq (yav (yau (sOp2 fNe (sVar 2) (sLit (.str "")))) ybC ya1)
  (sSeq (sSet 6 (sLit (.int 0)))
  (sSeq (sIf (yau (sOp2 fEq (sVar 3) (sLit (.int 1)))) (sFor (iVal (sVar 4)) (.nm 7) ybu) (ydU (sVar 4) (.nm 7) ybv))
  (sRet (sVar 6))))))))
def ycY:Fn:=mkFn 2 3
  (sSeq (sSet 2 (sOp2 fMod (sOp2 fMul (sOp2 fAdd (sOp2 fAdd (sOp2 fMod (sVar 0) (sLit (.int 1000000007))) (sOp2 fMul (sLit (.int 7919)) (sVar 1))) (sLit (.int 101))) (sLit (.int 48271))) (sLit (.int 2147483647))))
  (sRet (sOp2 fMod (sOp2 fMul (sOp2 fMod (sOp2 fMul (sVar 2) (sVar 2)) (sLit (.int 2147483629))) (sLit (.int 69621))) (sLit (.int 2147483647)))))
def ybJ:SS :=
  (sSet 2 (sOp2 fAdd (sOp2 fMul (sVar 2) (sOp2 fMul (sOp2 fPow (sLit (.int 10)) (sLit (.int 60))) (sOp2 fPow (sLit (.int 10)) (sLit (.int 60))))) (sOp2 fMod (sOp2 fIx (sVar 0) (sVar 3)) (sOp2 fMul (sOp2 fPow (sLit (.int 10)) (sLit (.int 60))) (sOp2 fPow (sLit (.int 10)) (sLit (.int 60)))))))
def ybK:SS :=
  (sSet 4 (sOp2 fAdd (sOp2 fMul (sVar 4) (sLit (.int 2147483647))) (yah ycY (yab (sOp2 fAdd (sOp2 fAdd (sVar 2) (sOp2 fMul (sLit (.int 1009)) (sVar 1))) (yah fLen (yab (sVar 0) sNil))) (yab (sVar 3) sNil)))))
def ybl:Fn:=mkFn 2 5
  (sSeq (sSet 2 (sLit (.int 0)))
  (sSeq (sFor (ycg (sVar 1) (yah fLen (yab (sVar 0) sNil)) (sLit (.int 12))) (.nm 3) ybJ)
  (sSeq (sIf (yau (sOp2 fGe (sVar 2) (sOp2 fPow (sLit (.int 10)) (sLit (.int 18))))) (sRet (ybH (yab (sVar 2) sNil))) yaD)
  (sSeq (sSet 2 (sOp2 fAdd (sVar 2) (yah fSum (yab (ycU [] (iVal (sVar 0)) sYes (sOp2 fMod (sVar 0) (sOp2 fPow (sLit (.int 10)) (sLit (.int 18))))) sNil))))
  (sSeq (sSet 4 (sLit (.int 0)))
  (sSeq (sFor (ycM (sLit (.int 12))) (.nm 3) ybK)
  (sRet (ybH (yab (sVar 4) sNil)))))))))
def yaS:SS :=
  (sSeq (sIf (sAnd (yau (sOp2 fNe (sVar 2) (sLst sNil))) (sAnd (ybI (sIsB "str" (sVar 3))) (ybI (sIsB "str" (sOp2 fIx (sVar 2) (sOp1 fNeg (sLit (.int 1)))))))) (sIf (sAnd (yau (sOp2 fLt (sOp2 fAdd (yah fLen (yab (sOp2 fIx (sVar 2) (sOp1 fNeg (sLit (.int 1)))) sNil)) (yah fLen (yab (sVar 3) sNil))) (sLit (.int 9)))) (yau (sOp2 fGt (yah yaC (yab (sVar 1) (yab (sLit (.int 3)) sNil))) (sLit (.int 0))))) (sSet 3 (sOp2 fAdd (sBM0 yar mPop (sVar 2)) (sVar 3))) yaD) yaD)
  (yaQ (sBM yar yao (sVar 2) (yab (sVar 3) sNil))))
def ycD:Fn:=mkFn 2 4
  (sSeq (sSet 2 (ybH sNil))
  (sSeq (sFor (iVal (sVar 0)) (.nm 3) yaS)
  (sRet (sVar 2))))
def ya4:Fn:=mkFn 1 1
  (sRet (yah fLen (yab (Sm.sFld 0 0 (sVar 0)) sNil)))
def ybV:Fn:=mkFn 2 4
  (sSeq (sSet 2 (sOp2 fAdd (sOp2 fAdd (yaj 0 ya4 (sVar 0) sNil) (sLit (.int 1))) (yah yaC (yab (sVar 1) (yab (sOp2 fPow (sLit (.int 10)) (sLit (.int 29))) sNil)))))
  (sSeq (sSet 3 (sLst (yab (sLit (.int 0)) (yab (sOp1 fNeg (sLit (.int 1))) (yab (sOp2 fSub (sLit (.int 0)) (sVar 2)) (yab (sOp2 fAdd (yaj 0 ya4 (sVar 0) sNil) (sLit (.int 1))) (yab (sVar 2) (yab (sLit (.bl true)) (yab (sLit (.bl false)) (yab (sLit .non) (yab (sLit (.str "")) (yab (sLit (.str "abcdefghi")) (yab (sLit (.str "a\t")) (yab (sLit (.str "\t")) sNil))))))))))))))
  (sRet (sOp2 fAdd (sVar 3) (sLst (yab (sLst sNil) (yab (sLst (yab (sLit (.str "a")) sNil)) (yab (sLst (yab (sLit (.int 1)) sNil)) (yab (sTup (yab (sLit (.str "a")) sNil)) (yab (sTup (yab (sLit (.int 1)) sNil)) (yab (yeN false) (yab (yeC (sLit (.str "a")) (sLit (.int 1))) sNil))))))))))))
def yaT:SS :=
  (sSeq (sSet 5 (sBM0 yar mPop (sVar 4)))
  (sIf (yau (sOp2 fNe (sVar 5) (sLit (.int 0)))) (sSeq (sSet 6 (yaj 0 yaB (sVar 0) (yab (sVar 5) sNil)))
  (sSeq (sSet 7 (yah yaC (yab (sVar 2) (yab (sLit (.int 4)) sNil))))
  (sIf (yau (sOp2 fEq (sVar 7) (sLit (.int 0)))) (yaQ (sBM yar yao (sVar 3) (yab (sVar 5) sNil))) (sIf (yau (sOp2 fEq (sOp2 fIx (sVar 6) (sLit (.int 0))) (sLit (.str "fork")))) (yaQ (sBM yar ycW (sVar 4) (yab (ybH (yab (sOp2 fIx (sVar 6) (sLit (.int 2))) (yab (sOp2 fIx (sVar 6) (sLit (.int 1))) sNil))) sNil))) (sIf (yau (sOp2 fEq (sVar 7) (sLit (.int 1)))) (yaQ (sBM yar yao (sVar 3) (yab (sOp2 fIx (sVar 6) (sLit (.int 1))) sNil))) (yaQ (sBM yar ycW (sVar 3) (yab (ydh [] (iVal (sOp2 fIx (sVar 6) (sLit (.int 1)))) sYes (sVar 0)) sNil)))))))) yaD))
def yb0:Fn:=mkFn 3 8
  (sSeq (sSet 3 (ybH sNil))
  (sSeq (sSet 4 (ybH (yab (sVar 1) sNil)))
  (sSeq (yav (yau (sOp2 fNe (sVar 4) (sLst sNil))) yaT ya1)
  (sRet (sVar 3)))))
def ybD:Fn:=mkFn 2 2
  (sSeq (yaQ (yaj 0 yaI (sVar 0) (yab (sVar 1) sNil)))
  (sRet (sIfE (yau (sOp2 fEq (sVar 1) (sLit (.int 0)))) (sLst sNil) (ybH (yab (sVar 1) sNil)))))
def ybw:Fn:=mkFn 3 4
  (sSeq (sIf (ybI (sIsB "str" (sVar 2))) (sRet (sLit (.bl false))) yaD)
  (sSeq (sSet 3 (yaj 0 yaB (sVar 0) (yab (sVar 2) sNil)))
  (sSeq (sIf (yau (sOp2 fEq (sOp2 fIx (sVar 3) (sLit (.int 0))) (sLit (.str "leaf")))) (sRet (sLit (.bl false))) yaD)
  (sSeq (yaQ (sBM yar yao (sVar 1) (yab (sOp2 fIx (sVar 3) (sLit (.int 2))) sNil)))
  (sSeq (yaQ (sBM yar yao (sVar 1) (yab (sOp2 fIx (sVar 3) (sLit (.int 1))) sNil)))
  (sRet (sLit (.bl true))))))))
def yaF:SS :=
  (sSeq (sSet 3 (sBM0 yar mPop (sVar 1)))
  (sSeq (sIf (yau (sOp2 fEq (sVar 3) (sVar 2))) (sRet (sLit (.bl true))) yaD)
  (sIf (sNot (ybI (yah ybw (yab (sVar 0) (yab (sVar 1) (yab (sVar 3) sNil)))))) (sRet (sLit (.bl false))) yaD)))
def ybn:Fn:=mkFn 3 4
  (sSeq (yav (yau (sOp2 fNe (sVar 1) (sLst sNil))) yaF ya1)
  (sRet (sLit (.bl false))))
def yaO:SS :=
  (sSeq (sSet 2 (sBM0 yar mPop (sVar 1)))
  (sSeq (sIf (ybI (sIsB "str" (sVar 2))) (sRet (sVar 2)) yaD)
  (sIf (sNot (ybI (yah ybw (yab (sVar 0) (yab (sVar 1) (yab (sVar 2) sNil)))))) (sRet (sOp2 fIx (yaj 0 yaB (sVar 0) (yab (sVar 2) sNil)) (sLit (.int 1)))) yaD)))
def ybP:Fn:=mkFn 2 3
  (sSeq (yav (yau (sOp2 fNe (sVar 1) (sLst sNil))) yaO ya1)
  (sRet (sLit (.str ""))))
def yco:Fn:=mkFn 2 2
  (sIf (yau (sOp2 fNe (sVar 1) (sLit (.str "")))) (yaQ (sBM yar yao (sVar 0) (yab (sVar 1) sNil))) yaD)
def yaL:SS :=
  (sSeq (sSet 4 (yah ybP (yab (sVar 0) (yab (sVar 1) sNil))))
  (sSeq (sSet 5 (yah ycA (yab (yah fLen (yab (sVar 4) sNil)) (yab (yah fLen (yab (sVar 3) sNil)) sNil))))
  (sSeq (sIf (sOr (yau (sOp2 fEq (sVar 5) (sLit (.int 0)))) (yau (sOp2 fNe (sCut (sVar 4) none (some (sVar 5))) (sCut (sVar 3) none (some (sVar 5)))))) (sRet (sLit (.bl false))) yaD)
  (sSeq (yaQ (yah yco (yab (sVar 1) (yab (sCut (sVar 4) (some (sVar 5)) none) sNil))))
  (sSet 3 (sCut (sVar 3) (some (sVar 5)) none))))))
def yby:Fn:=mkFn 3 6
  (sSeq (sSet 3 (sVar 2))
  (sSeq (yav (yau (sOp2 fNe (sVar 3) (sLit (.str "")))) yaL ya1)
  (sRet (sLit (.bl true)))))
def yaJ:Fn:=mkFn 3 3
  (sSeq (sIf (ybI (yaj 0 yas (sVar 0) (yab (sVar 2) sNil))) (sRet (yah ybn (yab (sVar 0) (yab (sVar 1) (yab (sVar 2) sNil))))) yaD)
  (sRet (ydQ (yah ybc (yab (sVar 2) sNil)) (yah yby (yab (sVar 0) (yab (sVar 1) (yab (sVar 2) sNil)))))))
def yaG:SS :=
  (sIf (sNot (ybI (yah yaJ (yab (sVar 0) (yab (sVar 3) (yab (sVar 4) sNil)))))) (sRet (sLit .non)) yaD)
def ybz:Fn:=mkFn 3 5
  (sSeq (sSet 3 (yah ybD (yab (sVar 0) (yab (sVar 1) sNil))))
  (sSeq (sFor (iVal (sVar 2)) (.nm 4) yaG)
  (sRet (sVar 3))))
def ybX:Fn:=mkFn 3 3
  (sRet (sOp2 fEq (yah ybz (yab (sVar 0) (yab (sVar 1) (yab (sVar 2) sNil)))) (sLst sNil)))
def ybo:Fn:=mkFn 3 3
  (sRet (sOp2 yeb (yah ybz (yab (sVar 0) (yab (sVar 1) (yab (sVar 2) sNil)))) (sLit .non)))
def ya5:Fn:=mkFn 2 2
  (sSeq (sIf (sNot (ybI (yah yaW (yab (sVar 1) sNil)))) (sRet (yah fLen (yab (sVar 1) sNil))) yaD)
  (sSeq (yaQ (yaj 0 yaU (sVar 0) (yab (sVar 1) sNil)))
  (sRet (yaj 0 ybg (sVar 0) (yab (sVar 1) sNil)))))
def ybi:Fn:=mkFn 2 2
  (sRet (yah fSum (yab (ycl [0] (iVal (sVar 1)) sYes (yah ya5 (yab (sVar 1) (yab (sVar 0) sNil)))) sNil)))
def ya9:Fn:=mkFn 4 6
  (sSeq (sSet 4 (sLit .non))
  (sSeq (sTry 5 ybW (sIf (yau (sOp2 fEq (sVar 1) (sLit (.int 0)))) (yaQ (yah ybX (yab (sVar 0) (yab (sVar 2) (yab (sVar 3) sNil))))) (sIf (yau (sOp2 fEq (sVar 1) (sLit (.int 1)))) (yaQ (yah ybo (yab (sVar 0) (yab (sVar 2) (yab (sVar 3) sNil))))) (yaQ (yah ybi (yab (sVar 0) (yab (sVar 3) sNil)))))) (sSet 4 (sVar 5)))
  (sSeq (sIf (sOr (yau (sOp2 fIsN (sVar 4) (sLit .non))) (ybI (sIsX (fun c=>ydb c || ydy c) (sVar 4)))) (sRet (sLit (.bl false))) yaD)
  (sRet (ydQ (sIsX yda (sVar 4)) (sIsX ycr (sVar 4)))))))
def yde:SS :=
  (sSeq (sIf (sOr (yau (sOp2 ydx (yah ybX (yab (sVar 1) (yab (sVar 3) (yab (sVar 9) sNil)))) (sLit (.bl false)))) (yau (sOp2 ydx (yah ybo (yab (sVar 1) (yab (sVar 3) (yab (sVar 9) sNil)))) (sLit (.bl false))))) (sRet (sLit (.bl false))) yaD)
  (sIf (sOr (yau (sOp2 ydx (yah ybX (yab (sVar 1) (yab (sLit (.int 0)) (yab (sVar 9) sNil)))) (sLit (.bl false)))) (yau (sOp2 ydx (yah ybo (yab (sVar 1) (yab (sLit (.int 0)) (yab (sVar 9) sNil)))) (sLit (.bl false))))) (sRet (sLit (.bl false))) yaD))
def ycO:SS :=
  (sSeq (sSet 8 (yah yaC (yab (sVar 4) (yab (sOp2 fAdd (yah fLen (yab (sVar 5) sNil)) (sLit (.int 1))) sNil))))
  (sFor (iVal (sLst (yab (sOp2 fAdd (sOp2 fAdd (sCut (sVar 5) none (some (sVar 8))) (sLst (yab (sVar 7) sNil))) (sCut (sVar 5) (some (sVar 8)) none)) (yab (sLst (yab (sVar 7) sNil)) (yab (sOp2 fAdd (sVar 5) (sLst (yab (sVar 7) sNil))) sNil))))) (.nm 9) yde))
def ydf:SS :=
  (sIf (sOr (sNot (ybI (yah ya9 (yab (sVar 1) (yab (sLit (.int 0)) (yab (sVar 11) (yab (sVar 12) sNil))))))) (sNot (ybI (yah ya9 (yab (sVar 1) (yab (sLit (.int 1)) (yab (sVar 11) (yab (sVar 12) sNil)))))))) (sRet (sLit (.bl false))) yaD)
def ycP:SS :=
  (sSeq (sFor (iVal (sLst (yab (sVar 5) (yab (sLst sNil) (yab (sLst (yab (sLit (.str "a")) (yab (sLit .non) sNil))) sNil))))) (.nm 12) ydf)
  (sSeq (sSet 8 (yah yaC (yab (sVar 4) (yab (sOp2 fAdd (yah fLen (yab (sVar 5) sNil)) (sLit (.int 1))) sNil))))
  (sIf (sNot (ybI (yah ya9 (yab (sVar 1) (yab (sLit (.int 2)) (yab (sVar 3) (yab (sOp2 fAdd (sOp2 fAdd (sCut (sVar 5) none (some (sVar 8))) (sLst (yab (sVar 11) sNil))) (sCut (sVar 5) (some (sVar 8)) none)) sNil))))))) (sRet (sLit (.bl false))) yaD)))
def yfo:Fn:=mkFn 1 13
  (sSeq (sSet 1 (yeO 0 8 yb9 sNil))
  (sSeq (sSet 2 (yah ycm (yab (yah ybl (yab (sVar 0) (yab (sLit (.int 0)) sNil))) (yab (sLit (.int 40)) sNil))))
  (sSeq (sSet 3 (yah yci (yab (sVar 1) (yab (yah ybl (yab (sVar 0) (yab (sLit (.int 1)) sNil))) (yab (sVar 2) sNil)))))
  (sSeq (sSet 4 (yah ybl (yab (sVar 0) (yab (sLit (.int 2)) sNil))))
  (sSeq (sSet 5 (yah ycD (yab (yah yb0 (yab (sVar 1) (yab (sVar 3) (yab (sVar 4) sNil)))) (yab (sVar 4) sNil))))
  (sSeq (sSet 6 (yaj 0 ya4 (sVar 1) sNil))
  (sSeq (sIf (sOr (yau (sOp2 fNe (yah ybi (yab (sVar 1) (yab (sVar 5) sNil))) (yah fLen (yab (sVar 2) sNil)))) (yau (sOp2 fNe (yah ybi (yab (sVar 1) (yab (sLst sNil) sNil))) (sLit (.int 0))))) (sRet (sLit (.bl false))) yaD)
  (sSeq (sFor (iVal (yah ybV (yab (sVar 1) (yab (sVar 4) sNil)))) (.nm 7) ycO)
  (sSeq (sSet 10 (yah yaC (yab (sVar 4) (yab (sOp2 fPow (sLit (.int 10)) (sLit (.int 29))) sNil))))
  (sSeq (sFor (iVal (sLst (yab (sOp1 fNeg (sLit (.int 1))) (yab (sOp2 fSub (sOp2 fSub (sLit (.int 0)) (sLit (.int 1))) (sVar 10)) (yab (sOp2 fAdd (yaj 0 ya4 (sVar 1) sNil) (sLit (.int 1))) (yab (sOp2 fAdd (sOp2 fAdd (yaj 0 ya4 (sVar 1) sNil) (sLit (.int 1))) (sVar 10)) (yab (sOp2 fSub (sOp2 fPow (sLit (.int 10)) (sLit (.int 30))) (sLit (.int 1))) sNil))))))) (.nm 11) ycP)
  (sRet (ydQ (yah ya9 (yab (sVar 1) (yab (sLit (.int 2)) (yab (sVar 3) (yab (sOp2 fAdd (sVar 5) (sLst (yab (sLit (.int 0)) sNil))) sNil))))) (sOp2 fEq (yaj 0 ya4 (sVar 1) sNil) (sVar 6))))))))))))))
end Sk
set_option exponentiation.threshold 2000
namespace Sk
open PySem PySem.Spec L2 Sm
theorem zfv {w:Option Nat} {all:List AV} {t:Tg} {b:SS} (P:Nat->En->AH->Prop):∀ (xs:List AV) (i:Nat) (en:En) (h:AH),P i en h ->
  (∀ i en h,P i en h->ybj w all h=true) ->
  (∀ (j:Nat) (x:AV) (en:En) (h:AH),xs[j]? = some x->P (i+j) en h->∃ e1 e2 h2,setT t x en=some e1/\(b e1 h = .nx e2 h2\/b e1 h = .ct e2 h2)/\P (i+j+1) e2 h2) ->
  ∃ e' h',ya0 w all t b xs en h = .nx e' h'/\P (i+xs.length) e' h'
 | [],i,en,h,p,lv,_=>⟨en,h,by unfold ya0;rw [if_pos (lv _ _ _ p)],p⟩
 | x::xs,i,en,h,p,lv,s=>by
  obtain ⟨e1,e2,h2,q1,q2,q3⟩:=s 0 x en h rfl p
  obtain ⟨e',h',r1,r2⟩:=zfv P xs (i+1) e2 h2 q3 lv fun j y en h e q=>by
   have:=s (j+1) y en h (by simpa using e) (by rw [show i+(j+1)=i+1+j by lia];exact q)
   rw [show i+(j+1)+1=i+1+j+1 by lia] at this
   exact this
  refine ⟨e',h',?_,by rw [List.length_cons,show i+(xs.length+1)=i+1+xs.length by lia];exact r2⟩
  unfold ya0
  rw [if_pos (lv _ _ _ p)]
  simp only [q1]
  rcases q2 with q2 | q2
  ·rw [q2];exact r1
  ·rw [q2];exact r1
theorem zb3 {α:Type} {js:List Nat} {en:En} {w:Option Nat} {all:List AV} {c:SB} {e:SE} {g f:α->AV} {p:α->Bool} {h:AH} (lv:ybj w all h=true):∀ (cs:List α) (ys:List AV),(∀ x∈cs,c (some (g x)::js.map fun j=>(en[j]?).join) h = .ok (p x) h)->(∀ x∈cs,p x=true->e (some (g x)::js.map fun j=>(en[j]?).join) h = .ok (f x) h)->ys.length+cs.length<=sizeLine ->
  ya8 js en w all c e (cs.map g) ys h = .ok (ys++(cs.filter p).map f) h
 | [],ys,_,_,_=>by rw [List.map_nil];unfold ya8;rw [if_pos lv];simp
 | x::xs,ys,hc,he,hl=>by
  have hl':ys.length<sizeLine:=by simp at hl;lia
  rw [List.map_cons]
  unfold ya8
  rw [if_pos ⟨lv,hl'⟩,hc x (by simp)]
  cases hp:p x with
  | false =>
   dsimp only
   rw [zb3 lv xs ys (fun y hy=>hc y (by simp [hy])) (fun y hy=>he y (by simp [hy])) (by simp at hl ⊢;lia)]
   simp [List.filter_cons,hp]
  | true =>
   dsimp only
   rw [he x (by simp) hp]
   dsimp only
   rw [zb3 lv xs (ys++[f x]) (fun y hy=>hc y (by simp [hy])) (fun y hy=>he y (by simp [hy])) (by simp at hl ⊢;lia)]
   simp [List.filter_cons,hp]
theorem zel {α:Type} {js:List Nat} {en:En} {w:Option Nat} {all:List AV} {e:SE} {g f:α->AV} {h:AH} (lv:ybj w all h=true) (cs:List α) (ys:List AV) (he:∀ x∈cs,e (some (g x)::js.map fun j=>(en[j]?).join) h = .ok (f x) h) (hl:ys.length+cs.length<=sizeLine) :
  ya8 js en w all sYes e (cs.map g) ys h = .ok (ys++cs.map f) h:=by
 rw [zb3 (p:=fun _=>true) lv cs ys (fun _ _=>rfl) (fun x hx _=>he x hx) hl,List.filter_eq_self.mpr (fun _ _=>rfl)]
theorem zdA {c:SB} {b:SS} (P:Nat->En->AH->Prop) (Q:En->AH->Prop):∀ (fuel n:Nat) (en:En) (h:AH),P n en h->n<fuel ->
  (∀ n en h,P n en h->(∃ h1,c en h = .ok false h1/\Q en h1)\/(∃ n' h1 e2 h2,n'<n/\c en h = .ok true h1/\(b en h1 = .nx e2 h2\/b en h1 = .ct e2 h2)/\P n' e2 h2)) ->
  ∃ e' h',yav c b fuel en h = .nx e' h'/\Q e' h'
 | 0,n,en,h,_,l,_=>absurd l (Nat.not_lt_zero _)
 | fuel+1,n,en,h,p,l,s=>by
  rcases s n en h p with ⟨h1,q1,q2⟩ | ⟨n',h1,e2,h2,q0,q1,q2,q3⟩
  ·refine ⟨en,h1,?_,q2⟩
   unfold yav;rw [q1]
  ·obtain ⟨e',h',r1,r2⟩:=zdA P Q fuel n' e2 h2 q3 (by lia) s
   refine ⟨e',h',?_,r2⟩
   unfold yav;rw [q1]
   rcases q2 with q2 | q2
   ·simp only [q2];exact r1
   ·simp only [q2];exact r1
@[simp] def thn (o:OutS) (Q:En->AH->Prop):Prop:=match o with
 | .nx e h=>Q e h
 | .ct e h=>Q e h
 | _=>False
theorem yfP {o:OutS} {Q:En->AH->Prop} (t:thn o Q):∃ e h,(o = .nx e h\/o = .ct e h)/\Q e h:=by
 cases o with
 | nx e h=>exact ⟨e,h,.inl rfl,t⟩
 | ct e h=>exact ⟨e,h,.inr rfl,t⟩
 | _=>exact t.elim
@[simp] def yhj (o:Option En) (Q:En->Prop):Prop:=match o with
 | some e=>Q e
 | none=>False
theorem ydA {w:Option Nat} {all:List AV} {t:Tg} {b:SS} {xs:List AV} {en:En} {h:AH} (P:Nat->En->AH->Prop) (p0:P 0 en h) (lv:∀ i en h,P i en h->ybj w all h=true)
  (st:∀ (j:Nat) (x:AV) (en:En) (h:AH),xs[j]? = some x->P j en h->yhj (setT t x en) fun e1=>thn (b e1 h) (P (j+1))) :
  ∃ e' h',ya0 w all t b xs en h = .nx e' h'/\P xs.length e' h' := by
 have:=zfv (w:=w) (all:=all) (t:=t) (b:=b) P xs 0 en h p0 lv fun j x en h hx hp=>by
  have q:=st j x en h hx (by simpa using hp)
  cases z:setT t x en with
  | none=>rw [z] at q;exact q.elim
  | some e1 =>
   rw [z] at q
   obtain ⟨e,h2,a,c⟩:=yfP q
   exact ⟨e1,e,h2,rfl,a,by simpa using c⟩
 simpa using this
theorem zfw {c:SB} {b:SS} {fuel n:Nat} {en:En} {h:AH} (P:Nat->En->AH->Prop) (Q:En->AH->Prop) (p0:P n en h) (hn:n<fuel)
  (st:∀ n en h,P n en h->match c en h with
   | .ok true h1=>thn (b en h1) fun e2 h2=>∃ n',n'<n/\P n' e2 h2
   | .ok false h1=>Q en h1
   | _=>False) :
  ∃ e' h',yav c b fuel en h = .nx e' h'/\Q e' h' := by
 refine zdA P Q fuel n en h p0 hn fun n en h p=>?_
 have q:=st n en h p
 cases z:c en h with
 | ok x h1 =>
  rw [z] at q
  cases x with
  | true =>
   obtain ⟨e,h2,a,n',l,c⟩:=yfP q
   exact .inr ⟨n',h1,e,h2,l,rfl,a,c⟩
  | false=>exact .inl ⟨h1,rfl,q⟩
 | ex _ _=>rw [z] at q;exact q.elim
 | bad=>rw [z] at q;exact q.elim
@[simp] def yiz (o:Out AV) (Q:AV->AH->Prop):Prop:=match o with
 | .ok v h=>Q v h
 | _=>False
theorem zfx {js:List Nat} {en:En} {all:List AV} {e:SE} (P:Nat->List AV->AH->Prop):∀ (xs ys:List AV) (i:Nat) (h:AH),P i ys h ->
  (∀ j x ys h,xs[j]? = some x->P (i+j) ys h->∃ v h2,e (some x::js.map fun j=>(en[j]?).join) h = .ok v h2/\P (i+j+1) (ys++[v]) h2)->ys.length+xs.length<=sizeLine ->
  ∃ zs h',ya8 js en none all sYes e xs ys h = .ok zs h'/\P (i+xs.length) zs h'
 | [],ys,i,h,p,_,_=>⟨ys,h,by simp [ya8],p⟩
 | x::xs,ys,i,h,p,s,hl=>by
  obtain ⟨v,h2,q1,q2⟩:=s 0 x ys h rfl p
  obtain ⟨zs,h',r1,r2⟩:=zfx P xs (ys++[v]) (i+1) h2 q2 (fun j y ys h hy hp=>by
   have:=s (j+1) y ys h (by simpa using hy) (by rw [show i+(j+1)=i+1+j by lia];exact hp)
   rw [show i+(j+1)+1=i+1+j+1 by lia] at this
   exact this) (by simp at hl ⊢;lia)
  refine ⟨zs,h',?_,by rw [List.length_cons,show i+(xs.length+1)=i+1+xs.length by lia];exact r2⟩
  unfold ya8
  rw [if_pos ⟨rfl,by simp at hl;lia⟩]
  simp only [sYes]
  rw [q1]
  exact r1
theorem yhk {js:List Nat} {en:En} {all:List AV} {e:SE} {xs:List AV} {h:AH} (P:Nat->List AV->AH->Prop) (p0:P 0 [] h)
  (st:∀ j x ys h,xs[j]? = some x->P j ys h->yiz (e (some x::js.map fun j=>(en[j]?).join) h) fun v h2=>P (j+1) (ys++[v]) h2) (hl:xs.length<=sizeLine) :
  ∃ zs h',ya8 js en none all sYes e xs [] h = .ok zs h'/\P xs.length zs h' := by
 have:=zfx (js:=js) (en:=en) (all:=all) (e:=e) P xs [] 0 h p0 (fun j x ys h hx p=>by
  have q:=st j x ys h hx (by simpa using p)
  cases z:e (some x::js.map fun j=>(en[j]?).join) h with
  | ok v h2=>rw [z] at q;exact ⟨v,h2,rfl,by simpa using q⟩
  | ex _ _=>rw [z] at q;exact q.elim
  | bad=>rw [z] at q;exact q.elim) (by simpa using hl)
 simpa using this
theorem zdB:∀ (n:Nat) (lo:Int) (i:Nat),(ybq lo n)[i]? = if i<n then some (.int (lo+i)) else none
 | 0,lo,i=>by simp [ybq]
 | n+1,lo,0=>by simp [ybq]
 | n+1,lo,i+1=>by
  unfold ybq
  rw [List.getElem?_cons_succ,zdB n (lo+1) i]
  by_cases q:i<n
  ·rw [if_pos q,if_pos (by lia)];congr 2;lia
  ·rw [if_neg q,if_neg (by lia)]
theorem zbF:∀ (n:Nat) (lo:Int),(ybq lo n).length=n
 | 0,_=>rfl
 | n+1,lo=>by unfold ybq;rw [List.length_cons,zbF n]
theorem zdC {a:SE} {en:En} {h h1:AH} {n:Nat} (e:a en h = .ok (.int n) h1) (hn:n<=10000000):ycM a en h = .ok (ybq 0 n,none) h1:=by
 have h1':(n:Int).natAbs<2 ^ 62:=by lia
 simp only [ycM,e,Out.bind]
 rw [if_pos h1'];rfl
theorem yca {it:SI} {t:Tg} {b:SS} {en:En} {h h1:AH} {xs:List AV} {w:Option Nat} (e:it en h = .ok (xs,w) h1):sFor it t b en h=ya0 w xs t b xs en h1:=by simp only [sFor,e]
theorem yhl {i j:Int} {h:AH} (hi:i.natAbs<2 ^ 64):fMul (.int i) (.int j) h = .ok (.int (i*j)) h:=if_pos (.inl (.inl hi))
theorem yhm {i j:Int} {h:AH} (hj:j.natAbs<2 ^ 64):fMul (.int i) (.int j) h = .ok (.int (i*j)) h:=if_pos (.inl (.inr hj))
theorem zhR {α:Type} {f:α->AV} {l:List α} {j:Nat} {q:α} (e:l[j]? = some q):atI (l.map f) (j:Int)=some (f q):=zc0 (by simp [e])
end Sk
set_option exponentiation.threshold 5000
namespace Sk
open PySem PySem.Spec L2 Sm
def ydi (c:Nat):Bool:=decide (c=10) || (decide (32<=c) && decide (c<=126))
theorem lt1 (a b:Nat):([a]<[b]) ↔ a<b:=by
 simp [List.cons_lt_cons_iff]
theorem yfQ:(Str.ofString "\n")=⟨#[10]⟩:=by decide +kernel
theorem yhn:(Str.ofString " ")=⟨#[32]⟩:=by decide +kernel
theorem yho:(Str.ofString "~")=⟨#[126]⟩:=by decide +kernel
theorem yhp (c:Nat) (h:AH):ybR [.str ⟨#[c]⟩] h = .ok (.bl (ydi c)) h:=by
 simp [ybR,yfQ,yhn,yho,lt1,ydi]
 by_cases h1:c=10
 ·simp [h1]
 ·by_cases h2:c<32
  ·have : ¬ 32<=c:=by lia
   simp [h1,h2,this]
  ·have h3:32<=c:=by lia
   by_cases h4:c<=126
   ·have : ¬ 126<c:=by lia
    simp [h1,h2,h3,h4,this]
   ·have:126<c:=by lia
    simp [h1,h2,h3,h4,this]
theorem zem {α:Type} {js:List Nat} {en:En} {all:List AV} {e:SE} {g f:α->AV} {h:AH}:∀ (cs:List α) (ys:List AV),(∀ c∈cs,e (some (g c)::js.map fun j=>(en[j]?).join) h = .ok (f c) h)->ys.length+cs.length<=sizeLine->ya8 js en none all sYes e (cs.map g) ys h = .ok (ys++cs.map f) h
 | [],ys,_,_=>by simp [ya8]
 | x::xs,ys,he,hl=>by
  have hl':ys.length<sizeLine:=by simp at hl;lia
  rw [List.map_cons]
  unfold ya8
  rw [if_pos ⟨rfl,hl'⟩]
  simp only [sYes]
  rw [he x (by simp)]
  dsimp only
  rw [zem xs (ys++[f x]) (fun y hy=>he y (by simp [hy])) (by simp at hl ⊢;lia)]
  simp
theorem zdD (f:Nat->Bool):∀ cs:List Nat,ydJ (cs.map fun c=>.bl (f c))=some (cs.map f)
 | []=>rfl
 | c::cs=>by simp [zdD f cs]
def yaq (x:Str):Bool:=x.cps.toList.all ydi
theorem zfy (x:Str) (h:AH) (hl:x.length<=sizeLine):ybt [.str x] h = .ok (.bl (yaq x)) h:=by
 have e:=zem (js:=[]) (en:=[some (.str x)]) (all:=x.cps.toList.map fun c=>AV.str ⟨#[c]⟩) (e:=yah ybR (yab (sVar 0) sNil)) (g:=fun c=>AV.str ⟨#[c]⟩) (f:=fun c=>AV.bl (ydi c)) (h:=h) x.cps.toList [] (by
  intro c hc
  simp [yhp]) (by simp;exact hl)
 simp only [List.nil_append] at e
 simp [ybt]
 rw [e]
 simp [zdD,yaq]
def yba (x:Str):Bool:=yaq x && (decide (1<=x.length) && decide (x.length<=8))
theorem zbu (x:Str) (h:AH) (hl:x.length<=sizeLine):ybc [.str x] h = .ok (.bl (yba x)) h:=by
 simp [ybc,zfy x h hl,yba]
 by_cases h1:yaq x=true
 ·by_cases h2:1<=x.length
  ·have:(1:Int)<=x.length:=by lia
   by_cases h3:x.length<=8
   ·have:(x.length:Int)<=8:=by lia
    simp [*]
   ·have : ¬ (x.length:Int)<=8:=by lia
    simp [*]
  ·have : ¬ (1:Int)<=x.length:=by lia
   simp [*]
 ·simp [h1]
def ydc (x:Str):Nat:=(Builtin.Str.occurrences x ⟨#[10]⟩ 0 x.length (x.length+1)).length
theorem yhq (x:Str) (h:AH):ydz [.str x] h = .ok (.int (ydc x)) h:=by
 simp [ydz,yfQ,ydc]
theorem zi1 (i:Int) (h:AH):yaW [.int i] h = .ok (.bl true) h:=by
 simp [yaW]
inductive Pc where
 | leaf (x:Str)
 | fork (a b:Nat)
 deriving DecidableEq
def Pc.av:Pc->AV
 | .leaf x=>.tup [.str "leaf",.str x]
 | .fork a b=>.tup [.str "fork",.int a,.int b]
theorem Pc.av_inj:∀ {p q:Pc},p.av=q.av->p=q
 | .leaf x,.leaf y,e=>by simp [Pc.av] at e;rw [e]
 | .leaf x,.fork a b,e=>by simp [Pc.av] at e
 | .fork a b,.leaf x,e=>by simp [Pc.av] at e
 | .fork a b,.fork c d,e=>by simp [Pc.av] at e;rw [Int.ofNat.inj e.1,Int.ofNat.inj e.2]
structure Ms where
 sg:Nat
 en:Nat
 lv:Nat
 ht:Int
 fl:Nat
 ll:Nat
def ms0:Ms:=⟨0,0,0,-1,0,0⟩
def ycE (ms:List Ms):Pc->Ms
 | .leaf x=>⟨x.length,ydc x,1,0,ms.length,ms.length⟩
 | .fork a b=>⟨(ms.getD a ms0).sg+(ms.getD b ms0).sg,(ms.getD a ms0).en+(ms.getD b ms0).en,(ms.getD a ms0).lv+(ms.getD b ms0).lv,max (ms.getD a ms0).ht (ms.getD b ms0).ht+1,(ms.getD a ms0).fl,(ms.getD b ms0).ll⟩
def meas (ps:List Pc):List Ms:=ps.foldl (fun ms q=>ms++[ycE ms q]) [ms0]
theorem zb4 (ps:List Pc) (q:Pc):meas (ps++[q])=meas ps++[ycE (meas ps) q]:=by simp [meas]
theorem zat:∀ ps:List Pc,(meas ps).length=ps.length+1:=by
 have all:∀ (ps:List Pc) (ms:List Ms),(ps.foldl (fun ms q=>ms++[ycE ms q]) ms).length=ms.length+ps.length:=by
  intro ps
  induction ps with
  | nil=>intro ms;rfl
  | cons q r ih=>intro ms;rw [List.foldl_cons,ih];simp;lia
 intro ps
 rw [meas,all];simp;lia
def ybA (k:Nat):List Pc->List (AV×AV)
 | []=>[]
 | q::r=>(q.av,.int k)::ybA (k+1) r
def tab (ps:List Pc):List (AV×AV):=ybA 1 ps
theorem zaW (q:Pc):∀ (ps:List Pc) (k:Nat),ybA k (ps++[q])=ybA k ps++[(q.av,.int ((k+ps.length:Nat):Int))]
 | [],k=>by simp [ybA]
 | p::r,k=>by
  simp only [List.cons_append,ybA,zaW q r (k+1)]
  rw [show k+1+r.length=k+(p::r).length by simp;lia]
theorem zfz:∀ (ps:List Pc) (k:Nat),(ybA k ps).length=ps.length
 | [],_=>rfl
 | p::r,k=>by simp [ybA,zfz r]
theorem zbG {q:Pc}:∀ {ps:List Pc} {k:Nat},q∉ps->valA (ybA k ps) q.av=none
 | [],k,_=>rfl
 | p::r,k,h=>by
  have h1 : ¬ p.av=q.av:=fun e=>h (by rw [Pc.av_inj e];simp)
  have h2:=zbG (q:=q) (ps:=r) (k:=k+1) fun z=>h (by simp [z])
  unfold valA at h2 ⊢
  simp only [ybA,List.find?_cons,decide_eq_false h1]
  exact h2
theorem zcy {q:Pc}:∀ {ps:List Pc} {k i:Nat},ps.Nodup->ps[i]? = some q->valA (ybA k ps) q.av=some (.int ((k+i:Nat):Int))
 | [],k,i,_,e=>by simp at e
 | p::r,k,0,n,e=>by simp at e;subst e;simp [valA,ybA]
 | p::r,k,i+1,n,e=>by
  simp at e
  have h1 : ¬ p.av=q.av:=fun z=>(List.nodup_cons.mp n).1 (by rw [Pc.av_inj z];exact List.mem_of_getElem? e)
  have h2:=zcy (q:=q) (k:=k+1) (List.nodup_cons.mp n).2 e
  unfold valA at h2 ⊢
  simp only [ybA,List.find?_cons,decide_eq_false h1]
  rw [h2]
  congr 3
  lia
theorem zi2 {q:Pc} {ps:List Pc} (h:q∉ps):putA (tab ps) q.av (.int ((ps.length+1:Nat):Int))=tab (ps++[q]):=by
 unfold putA
 rw [zfn,tab,zbG h,tab,zaW]
 simp [Nat.add_comm]
structure ShelfAt (h:AH) (p:Nat) (ps:List Pc):Prop where
 ob:h[p]? = some (.ins 0 [some (.ref (p+1)),some (.ref (p+2)),some (.ref (p+3)),some (.ref (p+4)),some (.ref (p+5)),some (.ref (p+6)),some (.ref (p+7)),some (.ref (p+8))])
 h1:h[p+1]? = some (.lst (ps.map Pc.av))
 h2:h[p+2]? = some (.dct true (tab ps))
 h3:h[p+3]? = some (.lst ((meas ps).map fun m=>.int m.sg))
 h4:h[p+4]? = some (.lst ((meas ps).map fun m=>.int m.en))
 h5:h[p+5]? = some (.lst ((meas ps).map fun m=>.int m.lv))
 h6:h[p+6]? = some (.lst ((meas ps).map fun m=>.int m.ht))
 h7:h[p+7]? = some (.lst ((meas ps).map fun m=>.int m.fl))
 h8:h[p+8]? = some (.lst ((meas ps).map fun m=>.int m.ll))
def yb5 (h:AH) (p:Nat) (ps:List Pc):AH :=
 (((((((h.set (p+1) (.lst (ps.map Pc.av))).set (p+2) (.dct true (tab ps))).set (p+3) (.lst ((meas ps).map fun m=>.int m.sg))).set (p+4) (.lst ((meas ps).map fun m=>.int m.en))).set (p+5) (.lst ((meas ps).map fun m=>.int m.lv))).set
  (p+6) (.lst ((meas ps).map fun m=>.int m.ht))).set (p+7) (.lst ((meas ps).map fun m=>.int m.fl))).set (p+8) (.lst ((meas ps).map fun m=>.int m.ll))
theorem yaz {h:AH} {i:Nat} {o:AO} (e:h[i]? = some o):i<h.length:=(List.getElem?_eq_some_iff.mp e).1
theorem zdE (h:AH) (p:Nat) (ps:List Pc):(yb5 h p ps).length=h.length:=by simp [yb5]
theorem zen {h:AH} {p q:Nat} {ps:List Pc} (hq:q<=p\/p+8<q):(yb5 h p ps)[q]? = h[q]? := by
 unfold yb5
 repeat rw [List.getElem?_set_ne (by lia)]
theorem zbH {h:AH} {p:Nat} {ps ps':List Pc} (S:ShelfAt h p ps):ShelfAt (yb5 h p ps') p ps' := by
 have b:=yaz S.h8
 have l1:p+1<h.length:=Nat.lt_of_le_of_lt (Nat.add_le_add_left (by decide) p) b
 have l2:p+2<h.length:=Nat.lt_of_le_of_lt (Nat.add_le_add_left (by decide) p) b
 have l3:p+3<h.length:=Nat.lt_of_le_of_lt (Nat.add_le_add_left (by decide) p) b
 have l4:p+4<h.length:=Nat.lt_of_le_of_lt (Nat.add_le_add_left (by decide) p) b
 have l5:p+5<h.length:=Nat.lt_of_le_of_lt (Nat.add_le_add_left (by decide) p) b
 have l6:p+6<h.length:=Nat.lt_of_le_of_lt (Nat.add_le_add_left (by decide) p) b
 have l7:p+7<h.length:=Nat.lt_of_le_of_lt (Nat.add_le_add_left (by decide) p) b
 have ob:=S.ob
 constructor<;>simp [yb5,List.getElem?_set,l1,l2,l3,l4,l5,l6,l7,b,ob,-List.getElem?_eq_getElem]
theorem lenA {α:Type} (l:List α) (f:α->AV):(l.map f).length=l.length:=by simp
theorem yd7 {h:AH} {p:Nat} {ps:List Pc} (S:ShelfAt h p ps):ya4 [.ref p] h = .ok (.int ps.length) h:=by
 simp [ya4,S.ob,S.h1]
theorem yeD {h:AH} {p:Nat} {ps:List Pc} {i:Int} (S:ShelfAt h p ps):yas [.ref p,.int i] h = .ok (.bl (decide (1<=i/\i<=ps.length))) h:=by
 simp [yas,zi1,S.ob,S.h1]
 by_cases h1:1<=i<;>simp [h1]
theorem zbb {h:AH} {p:Nat} {ps:List Pc} {i:Int} (S:ShelfAt h p ps) (hi:1<=i/\i<=ps.length):yaU [.ref p,.int i] h = .ok .non h:=by
 simp [yaU,yeD S,S.ob,hi.1,hi.2]
theorem zeo {h:AH} {p:Nat} {ps:List Pc} {i:Int} (S:ShelfAt h p ps) (hi : ¬ (1<=i/\i<=ps.length)):yaU [.ref p,.int i] h = .ex yaM h:=by
 simp [yaU,yeD S,S.ob,hi]
theorem zak {α:Type} {f:α->AV} {l:List α} {j:Nat} {q:α} (e:l[j]? = some q):atI (l.map f) (j:Int)=some (f q):=zc0 (by simp [e])
theorem zi3 {h:AH} {p:Nat} {ps:List Pc} {j:Nat} {q:Pc} (S:ShelfAt h p ps) (e:ps[j]? = some q):yaB [.ref p,.int ((j:Int)+1)] h = .ok q.av h:=by
 have hj:=(List.getElem?_eq_some_iff.mp e).1
 have h1:=zbb S (i:=(j:Int)+1) ⟨by lia,by lia⟩
 simp [yaB,h1,S.ob,S.h1,zak e]
theorem ygd {h:AH} {p:Nat} {ps:List Pc} {q:Pc} (S:ShelfAt h p ps) (hq:q∉ps) (hl:ps.length<16000000) :
  ycn [.ref p,q.av] h = .ok (.int ((ps.length+1:Nat):Int)) ((h.set (p+1) (.lst ((ps++[q]).map Pc.av))).set (p+2) (.dct true (tab (ps++[q])))):=by
 have b:=yaz S.h8
 have hs:ps.length<sizeLine:=Nat.lt_trans hl (by decide)
 have ht:(tab ps).length<sizeLine:=by rw [tab,zfz];exact hs
 have hk:ycz true q.av=true:=by cases q<;>simp [Pc.av]
 have e1:(h.set (p+1) (.lst (ps.map Pc.av++[q.av])))[p]? = h[p]? := List.getElem?_set_ne (by lia)
 have e2:(h.set (p+1) (.lst (ps.map Pc.av++[q.av])))[p+1]? = some (.lst (ps.map Pc.av++[q.av])):=List.getElem?_set_self (by lia)
 have e3:(h.set (p+1) (.lst (ps.map Pc.av++[q.av])))[p+2]? = h[p+2]? := List.getElem?_set_ne (by lia)
 have tp:=zi2 hq
 simp [ycn,S.ob,S.h1,hs,e1,e2,e3,S.h2,hk,ht,-ycz]
 rw [show ((ps.length:Int)+1)=((ps.length+1:Nat):Int) by simp,tp]
theorem zgV {h:AH} {p:Nat} {ps:List Pc} {x:Str} (S:ShelfAt h p ps) (hq:Pc.leaf x∉ps) (hl:ps.length<16000000) :
  ybO [.ref p,(Pc.leaf x).av] h = .ok .non (yb5 h p (ps++[.leaf x])):=by
 have b:=yaz S.h8
 have hs:ps.length+1<sizeLine:=Nat.lt_of_lt_of_le (Nat.succ_lt_succ hl) (by decide)
 have hm:(meas ps).length<sizeLine:=by rw [zat];exact hs
 have e:=ygd S hq hl
 have b2:((meas ps).length:Int)=(ps.length:Int)+1:=by rw [zat];simp
 have e2:fIx (Pc.leaf x).av (.int 1)=fun h=>Out.ok (.str x) h:=by funext h;rfl
 have l1:p+1<h.length:=by lia
 have l2:p+2<h.length:=by lia
 have l3:p+3<h.length:=by lia
 have l4:p+4<h.length:=by lia
 have l5:p+5<h.length:=by lia
 have l6:p+6<h.length:=by lia
 have l7:p+7<h.length:=by lia
 simp [ybO,e,S.ob,S.h3,S.h4,S.h5,S.h6,S.h7,S.h8,hm,yhq,List.getElem?_set,zb4,ycE,yb5,e2,zat,hs,-fIx,-List.getElem?_eq_getElem]
theorem zfA {α:Type} {l:List α} {i:Nat} {d x:α} (e:l[i]? = some x):l.getD i d=x:=by simp [List.getD,e]
theorem zgW {h:AH} {p:Nat} {ps:List Pc} {a b:Nat} {ma mb:Ms} (S:ShelfAt h p ps) (hq:Pc.fork a b∉ps) (hl:ps.length<16000000) (ha:(meas ps)[a]? = some ma) (hb:(meas ps)[b]? = some mb) :
  ybM [.ref p,(Pc.fork a b).av] h = .ok .non (yb5 h p (ps++[.fork a b])):=by
 have bb:=yaz S.h8
 have hs:ps.length+1<sizeLine:=Nat.lt_of_lt_of_le (Nat.succ_lt_succ hl) (by decide)
 have hm:(meas ps).length<sizeLine:=by rw [zat];exact hs
 have e:=ygd S hq hl
 have e2:fIx (Pc.fork a b).av (.int 1)=fun h=>Out.ok (.int a) h:=by funext h;rfl
 have e3:fIx (Pc.fork a b).av (.int 2)=fun h=>Out.ok (.int b) h:=by funext h;rfl
 have l1:p+1<h.length:=by lia
 have l2:p+2<h.length:=by lia
 have l3:p+3<h.length:=by lia
 have l4:p+4<h.length:=by lia
 have l5:p+5<h.length:=by lia
 have l6:p+6<h.length:=by lia
 have l7:p+7<h.length:=by lia
 have fx:∀ (n:Nat) (g:Ms->AV) (h':AH),h'[n]? = some (.lst ((meas ps).map g))->fIx (.ref n) (.int a) h' = .ok (g ma) h'/\fIx (.ref n) (.int b) h' = .ok (g mb) h' := fun n g h' e=>by
  simp [fIx,e,zak ha,zak hb]
 have f3:=fun (h':AH) (e:h'[p+3]? = some (.lst ((meas ps).map fun m=>.int m.sg)))=>fx _ _ h' e
 have f4:=fun (h':AH) (e:h'[p+4]? = some (.lst ((meas ps).map fun m=>.int m.en)))=>fx _ _ h' e
 have f5:=fun (h':AH) (e:h'[p+5]? = some (.lst ((meas ps).map fun m=>.int m.lv)))=>fx _ _ h' e
 have f6:=fun (h':AH) (e:h'[p+6]? = some (.lst ((meas ps).map fun m=>.int m.ht)))=>fx _ _ h' e
 have f7:=fun (h':AH) (e:h'[p+7]? = some (.lst ((meas ps).map fun m=>.int m.fl)))=>fx _ _ h' e
 have f8:=fun (h':AH) (e:h'[p+8]? = some (.lst ((meas ps).map fun m=>.int m.ll)))=>fx _ _ h' e
 have hmax:∀ i j:Int,(if j > i then j else i)=max i j:=fun i j=>by split<;>lia
 simp [ybM,e,S.ob,S.h3,S.h4,S.h5,S.h6,S.h7,S.h8,hm,List.getElem?_set,zb4,ycE,yb5,e2,e3,zat,hs,zak ha,zak hb,zfA ha,zfA hb,-fIx,-List.getElem?_eq_getElem,-List.getD_eq_getElem?_getD,f3,f4,f5,f6,f7,f8,hmax]
theorem zbI {h:AH} {p:Nat} {ps:List Pc} {x:Str} {i:Nat} (S:ShelfAt h p ps) (nd:ps.Nodup) (hx:yba x=true) (hl:x.length<=sizeLine) (e:ps[i]? = some (.leaf x)):ya2 [.ref p,.str x] h = .ok (.int ((i+1:Nat):Int)) h:=by
 have t:=zcy (k:=1) nd e
 have t':valA (tab ps) (.tup [.str "leaf",.str x])=some (.int ((i+1:Nat):Int)):=by rw [Nat.add_comm];exact t
 simp [ya2,zbu x h hl,hx,S.ob,S.h2,t']
theorem zgf {h:AH} {p:Nat} {ps:List Pc} {x:Str} (S:ShelfAt h p ps) (hx:yba x=true) (hl:x.length<=sizeLine) (hq:Pc.leaf x∉ps) (hz:ps.length<16000000):ya2 [.ref p,.str x] h = .ok (.int ((ps.length+1:Nat):Int)) (yb5 h p (ps++[.leaf x])):=by
 have t:valA (tab ps) (.tup [.str "leaf",.str x])=none:=zbG (q:=.leaf x) (k:=1) hq
 have S2:=zbH (ps' := ps++[.leaf x]) S
 have e:=zgV S hq hz
 have t2:valA (tab (ps++[.leaf x])) (.tup [.str "leaf",.str x])=some (.int ((ps.length+1:Nat):Int)):=by
  unfold tab
  rw [zaW]
  unfold valA at t ⊢
  rw [List.find?_append]
  have t3:(ybA 1 ps).find? (fun p=>decide (p.1 = .tup [.str "leaf",.str x]))=none:=by simpa [tab] using t
  rw [t3]
  simp [Pc.av,Nat.add_comm]
 have e':ybO [.ref p,.tup [.str "leaf",.str x]] h = .ok .non (yb5 h p (ps++[.leaf x])):=e
 simp [ya2,zbu x h hl,hx,S.ob,S.h2,t,e',S2.ob,S2.h2,t2]
theorem zhS {h:AH} {p:Nat} {ps:List Pc} {a b:Nat} {ma mb la fb:Ms} (S:ShelfAt h p ps) (ha:(meas ps)[a]? = some ma) (hb:(meas ps)[b]? = some mb) (pa:1<=a) (pb:1<=b) (hla:(meas ps)[ma.ll]? = some la) (hfb:(meas ps)[mb.fl]? = some fb) :
  ya7 [.ref p,.int a,.int b] h=if la.sg+fb.sg<=8 then .ex yf3 h else if 1<(ma.ht-mb.ht).natAbs then .ex yfm h else if 1000000000000000000<ma.sg+mb.sg then .ex yfn h else .ok .non h:=by
 have la_:=(List.getElem?_eq_some_iff.mp ha).1
 have lb_:=(List.getElem?_eq_some_iff.mp hb).1
 rw [zat] at la_ lb_
 have c1:=zbb S (i:=(a:Int)) ⟨by lia,by lia⟩
 have c2:=zbb S (i:=(b:Int)) ⟨by lia,by lia⟩
 by_cases d1:la.sg+fb.sg<=8
 ·have d1':((la.sg:Int)+fb.sg)<=8:=by lia
  simp [ya7,c1,c2,S.ob,S.h3,S.h5,S.h6,S.h7,S.h8,zak ha,zak hb,zak hla,zak hfb,d1,d1']
 ·have d1' : ¬ ((la.sg:Int)+fb.sg)<=8:=by lia
  by_cases d2:1<(ma.ht-mb.ht).natAbs
  ·have d2':(1:Int)<(if ma.ht-mb.ht<0 then -(ma.ht-mb.ht) else ma.ht-mb.ht):=by split<;>lia
   simp [ya7,c1,c2,S.ob,S.h3,S.h5,S.h6,S.h7,S.h8,zak ha,zak hb,zak hla,zak hfb,d1,d1',d2,d2',-Int.neg_sub]
  ·have d2' : ¬ (1:Int)<(if ma.ht-mb.ht<0 then -(ma.ht-mb.ht) else ma.ht-mb.ht):=by split<;>lia
   by_cases d3:1000000000000000000<ma.sg+mb.sg
   ·have d3':(1000000000000000000:Int)<(ma.sg:Int)+mb.sg:=by lia
    simp [ya7,c1,c2,S.ob,S.h3,S.h5,S.h6,S.h7,S.h8,zak ha,zak hb,zak hla,zak hfb,d1,d1',d2,d2',d3,d3',-Int.neg_sub]
   ·have d3' : ¬ (1000000000000000000:Int)<(ma.sg:Int)+mb.sg:=by lia
    simp [ya7,c1,c2,S.ob,S.h3,S.h5,S.h6,S.h7,S.h8,zak ha,zak hb,zak hla,zak hfb,d1,d1',d2,d2',d3,d3',-Int.neg_sub]
structure ForkOk (ps:List Pc) (a b:Nat):Prop where
 pa:1<=a
 pb:1<=b
 ex:∃ ma mb la fb,(meas ps)[a]? = some ma/\(meas ps)[b]? = some mb/\(meas ps)[ma.ll]? = some la/\(meas ps)[mb.fl]? = some fb/\8<la.sg+fb.sg/\(ma.ht-mb.ht).natAbs<=1/\ma.sg+mb.sg<=1000000000000000000
theorem zcr {h:AH} {p:Nat} {ps:List Pc} {a b:Nat} (S:ShelfAt h p ps) (F:ForkOk ps a b):ya7 [.ref p,.int a,.int b] h = .ok .non h:=by
 obtain ⟨ma,mb,la,fb,h1,h2,h3,h4,h5,h6,h7⟩:=F.ex
 rw [zhS S h1 h2 F.pa F.pb h3 h4,if_neg (by lia),if_neg (by lia),if_neg (by lia)]
theorem zbJ {h:AH} {p:Nat} {ps:List Pc} {a b i:Nat} (S:ShelfAt h p ps) (nd:ps.Nodup) (F:ForkOk ps a b) (e:ps[i]? = some (.fork a b)):yae [.ref p,.int a,.int b] h = .ok (.int ((i+1:Nat):Int)) h:=by
 have t:=zcy (k:=1) nd e
 have t':valA (tab ps) (.tup [.str "fork",.int a,.int b])=some (.int ((i+1:Nat):Int)):=by rw [Nat.add_comm];exact t
 simp [yae,zcr S F,S.ob,S.h2,t']
theorem zgg {h:AH} {p:Nat} {ps:List Pc} {a b:Nat} (S:ShelfAt h p ps) (F:ForkOk ps a b) (hq:Pc.fork a b∉ps) (hz:ps.length<16000000):yae [.ref p,.int a,.int b] h = .ok (.int ((ps.length+1:Nat):Int)) (yb5 h p (ps++[.fork a b])):=by
 have t:valA (tab ps) (.tup [.str "fork",.int a,.int b])=none:=zbG (q:=.fork a b) (k:=1) hq
 have S2:=zbH (ps' := ps++[.fork a b]) S
 obtain ⟨ma,mb,la,fb,h1,h2,_⟩:=F.ex
 have e:=zgW S hq hz h1 h2
 have t2:valA (tab (ps++[.fork a b])) (.tup [.str "fork",.int a,.int b])=some (.int ((ps.length+1:Nat):Int)):=by
  unfold tab
  rw [zaW]
  unfold valA at t ⊢
  rw [List.find?_append]
  have t3:(ybA 1 ps).find? (fun p=>decide (p.1 = .tup [.str "fork",.int a,.int b]))=none:=by simpa [tab] using t
  rw [t3]
  simp [Pc.av,Nat.add_comm]
 have e':ybM [.ref p,.tup [.str "fork",.int a,.int b]] h = .ok .non (yb5 h p (ps++[.fork a b])):=e
 simp [yae,zcr S F,S.ob,S.h2,t,e',S2.ob,S2.h2,t2]
def ycs (n:Nat):List AO:=[.ins 0 [some (.ref (n+1)),some (.ref (n+2)),some (.ref (n+3)),some (.ref (n+4)),some (.ref (n+5)),some (.ref (n+6)),some (.ref (n+7)),some (.ref (n+8))],.lst [],.dct true [],.lst [.int 0],.lst [.int 0],.lst [.int 0],.lst [.int (-1)],.lst [.int 0],.lst [.int 0]]
theorem zi4 {h:AH} {o o':AO} {r:AH}:(h++o::r).set h.length o'=h++o'::r:=by
 induction h with
 | nil=>rfl
 | cons x t ih=>simp [ih]
theorem yhr (en:En) (h:AH):yeO 0 8 yb9 sNil en h = .ok (.ref h.length) (h++ycs h.length):=by
 simp [yb9,ycs,List.getElem?_append,zi4]
theorem yfR {h r:AH} {k:Nat}:(h++r)[h.length+k]? = r[k]? := by
 rw [List.getElem?_append_right (by lia)];simp
theorem yhs (h r:AH):ShelfAt (h++(ycs h.length++r)) h.length []:=by
 refine ⟨?_,?_,?_,?_,?_,?_,?_,?_,?_⟩
 ·rw [show h.length=h.length+0 from rfl,yfR];rfl
 all_goals (rw [yfR];rfl)
theorem zfB (x:Str) (c i:Nat) (hi:i<x.length):Builtin.Str.subAt x ⟨#[c]⟩ i=decide (x.cps.toList[i]? = some c):=by
 have hi':i<x.cps.size:=hi
 unfold Builtin.Str.subAt
 have e:x.cps.extract i (i+1) = #[x.cps[i]]:=by
  apply Array.ext
  ·simp;lia
  ·intro j h1 h2
   have:j=0:=by simp at h2;lia
   subst this
   simp
 show (x.cps.extract i (i+1) == #[c])=_
 rw [e]
 have:x.cps.toList[i]? = some x.cps[i]:=by simp [hi']
 rw [this]
 by_cases q:x.cps[i]=c
 ·simp [q]
 ·simp [q]
theorem yeE (x:Str) (c:Nat):∀ (n i:Nat) (st:Array Nat×Nat),i+n=x.length+1->st.2<=i->st.1.size<=i->(forIn (List.range' i n) st (StrLaws.occBody x ⟨#[c]⟩ x.length (x.length+1))).run.fst.size=st.1.size+(x.cps.toList.drop i).count c
 | 0,i,st,hn,_,_=>by
  rw [List.drop_of_length_le (by simp;simp only [Str.length] at hn;lia)]
  simp
 | n+1,i,st,hn,h2,h3=>by
  rw [List.range'_succ,List.forIn_cons]
  unfold StrLaws.occBody
  by_cases hi:i<x.length
  ·have hi':i<x.cps.size:=hi
   have hd:x.cps.toList.drop i=x.cps[i]'hi'::x.cps.toList.drop (i+1):=by
    rw [List.drop_eq_getElem_cons (show i<x.cps.toList.length by simpa using hi')];simp
   have hg:x.cps.toList[i]? = some (x.cps[i]'hi'):=by
    simp [hi']
   by_cases q:x.cps[i]'hi'=c
   ·have hs:Builtin.Str.subAt x ⟨#[c]⟩ i=true:=by rw [zfB x c i hi,hg,q];simp
    rw [if_pos ⟨⟨⟨by lia,h2⟩,hi⟩,hs⟩]
    show (forIn (List.range' (i+1) n) (st.1.push i,i+1) (StrLaws.occBody x ⟨#[c]⟩ x.length (x.length+1))).run.fst.size=_
    rw [yeE x c n (i+1) _ (by lia) (Nat.le_refl _) (by simp;lia),hd,q]
    simp;lia
   ·have hs:Builtin.Str.subAt x ⟨#[c]⟩ i=false:=by rw [zfB x c i hi,hg];simp [q]
    rw [if_neg (by simp [hs])]
    show (forIn (List.range' (i+1) n) (st.1,st.2) (StrLaws.occBody x ⟨#[c]⟩ x.length (x.length+1))).run.fst.size=_
    rw [yeE x c n (i+1) _ (by lia) (by show st.2<=i+1;lia) (by show st.1.size<=i+1;lia),hd]
    simp [q]
  ·rw [if_neg (by rintro ⟨⟨_,z⟩,_⟩;exact hi z)]
   show (forIn (List.range' (i+1) n) (st.1,st.2) (StrLaws.occBody x ⟨#[c]⟩ x.length (x.length+1))).run.fst.size=_
   rw [yeE x c n (i+1) _ (by lia) (by show st.2<=i+1;lia) (by show st.1.size<=i+1;lia)]
   rw [List.drop_of_length_le (by simp;simp only [Str.length] at hi;lia),List.drop_of_length_le (by simp;simp only [Str.length] at hi;lia)]
theorem zgX (x:Str) (c:Nat):(Builtin.Str.occurrences x ⟨#[c]⟩ 0 x.length (x.length+1)).length=x.cps.toList.count c:=by
 rw [StrLaws.occ_eq,Array.length_toList]
 rw [show x.length+1-0=x.length+1 from rfl,yeE x c (x.length+1) 0 _ (by lia) (Nat.le_refl _) (by simp)]
 simp
theorem zbK (x:Str):ydc x=x.cps.toList.count 10:=zgX x 10
theorem zap (x y:Str):(x++y).cps.toList=x.cps.toList++y.cps.toList:=by
 show (x.cps++y.cps).toList=_
 simp
theorem zhT (x y:Str):ydc (x++y)=ydc x+ydc y:=by
 rw [zbK,zbK,zbK,zap,List.count_append]
theorem zad (x:Str):x.length=x.cps.toList.length:=by simp [Str.length]
theorem zaq (x y:Str):(x++y).length=x.length+y.length:=by
 rw [zad,zad,zad,zap,List.length_append]
def ydW (rs:List Str):Pc->Str
 | .leaf x=>x
 | .fork a b=>rs.getD a "" ++ rs.getD b ""
def reads (ps:List Pc):List Str:=ps.foldl (fun rs q=>rs++[ydW rs q]) [""]
theorem zgh (ps:List Pc) (q:Pc):reads (ps++[q])=reads ps++[ydW (reads ps) q]:=by simp [reads]
theorem zbc {α β:Type} (g:List β->α->β):∀ (qs:List α) (ms:List β),∃ r,qs.foldl (fun ms q=>ms++[g ms q]) ms=ms++r/\r.length=qs.length
 | [],ms=>⟨[],by simp,rfl⟩
 | q::qs,ms=>by
  obtain ⟨r,e,l⟩:=zbc g qs (ms++[g ms q])
  exact ⟨g ms q::r,by rw [List.foldl_cons,e];simp,by simp [l]⟩
theorem zbj (ps:List Pc):(reads ps).length=ps.length+1:=by
 obtain ⟨r,e,l⟩:=zbc ydW ps [""]
 rw [reads,e];simp [l,Nat.add_comm]
theorem zhU (ps qs:List Pc):∃ r,meas (ps++qs)=meas ps++r:=by
 unfold meas
 rw [List.foldl_append]
 obtain ⟨r,e,_⟩:=zbc ycE qs (ps.foldl (fun ms q=>ms++[ycE ms q]) [ms0])
 exact ⟨r,e⟩
theorem zgY (ps qs:List Pc):∃ r,reads (ps++qs)=reads ps++r:=by
 unfold reads
 rw [List.foldl_append]
 obtain ⟨r,e,_⟩:=zbc ydW qs (ps.foldl (fun ms q=>ms++[ydW ms q]) [""])
 exact ⟨r,e⟩
theorem zac {ps ps':List Pc} (h:ps <+: ps') {n:Nat} {m:Ms} (e:(meas ps)[n]? = some m):(meas ps')[n]? = some m:=by
 obtain ⟨qs,rfl⟩:=h
 obtain ⟨r,q⟩:=zhU ps qs
 rw [q,List.getElem?_append_left (List.getElem?_eq_some_iff.mp e).1];exact e
theorem zbk {ps ps':List Pc} (h:ps <+: ps') {n:Nat} {m:Str} (e:(reads ps)[n]? = some m):(reads ps')[n]? = some m:=by
 obtain ⟨qs,rfl⟩:=h
 obtain ⟨r,q⟩:=zgY ps qs
 rw [q,List.getElem?_append_left (List.getElem?_eq_some_iff.mp e).1];exact e
theorem zbL (ps:List Pc) (i:Nat):ps.take i <+: ps:=List.take_prefix i ps
theorem zcz {ps:List Pc} {i:Nat} {q:Pc} (e:ps[i]? = some q):(ps.take i++[q]) <+: ps/\(ps.take i).length=i:=by
 have hi:=(List.getElem?_eq_some_iff.mp e).1
 have:ps.take (i+1)=ps.take i++[q]:=by
  rw [List.take_succ,e];rfl
 exact ⟨this▸List.take_prefix _ _,by simp;lia⟩
theorem zfC {ps:List Pc} {i:Nat} {q:Pc} (e:ps[i]? = some q):(meas ps)[i+1]? = some (ycE (meas (ps.take i)) q):=by
 obtain ⟨h,l⟩:=zcz e
 refine zac h ?_
 rw [zb4,List.getElem?_append_right (by rw [zat,l];lia),zat,l]
 simp
theorem zep {ps:List Pc} {i:Nat} {q:Pc} (e:ps[i]? = some q):(reads ps)[i+1]? = some (ydW (reads (ps.take i)) q):=by
 obtain ⟨h,l⟩:=zcz e
 refine zbk h ?_
 rw [zgh,List.getElem?_append_right (by rw [zbj,l];lia),zbj,l]
 simp
def PcOk (ps:List Pc):Pc->Prop
 | .leaf x=>yba x=true
 | .fork a b=>ForkOk ps a b
inductive Good:List Pc->Prop
 | nil:Good []
 | snoc {ps:List Pc} {q:Pc}:Good ps->q∉ps->PcOk ps q->Good (ps++[q])
theorem Good.nodup {ps:List Pc} (g:Good ps):ps.Nodup:=by
 induction g with
 | nil=>exact List.nodup_nil
 | snoc g n ok ih=>exact List.nodup_append.mpr ⟨ih,by simp,fun a ha b hb=>by simp at hb;subst hb;exact fun e=>n (e▸ha)⟩
theorem Good.get {ps:List Pc} (g:Good ps):∀ {i:Nat} {q:Pc},ps[i]? = some q->PcOk (ps.take i) q:=by
 induction g with
 | nil=>intro i q e;simp at e
 | @snoc ps q' g n ok ih =>
  intro i q e
  by_cases hi:i<ps.length
  ·rw [List.getElem?_append_left hi] at e
   rw [List.take_append_of_le_length (by lia)]
   exact ih e
  ·have hi2:i=ps.length:=by
    have:=(List.getElem?_eq_some_iff.mp e).1
    simp at this;lia
   subst hi2
   simp at e
   subst e
   simpa using ok
theorem ForkOk.pre {ps ps':List Pc} {a b:Nat} (F:ForkOk ps a b) (h:ps <+: ps'):ForkOk ps' a b:=by
 obtain ⟨ma,mb,la,fb,h1,h2,h3,h4,h5⟩:=F.ex
 exact ⟨F.pa,F.pb,ma,mb,la,fb,zac h h1,zac h h2,zac h h3,zac h h4,h5⟩
structure Ky (ps:List Pc) (m:Ms) (x:Str) (f l:Ms):Prop where
 fl:(meas ps)[m.fl]? = some f
 ll:(meas ps)[m.ll]? = some l
 sg:m.sg=x.length
 en:m.en=ydc x
 f1:1<=f.sg
 f8:f.sg<=8
 l1:1<=l.sg
 l8:l.sg<=8
 lv:1<=m.lv
 ht:0<=m.ht
 most:m.sg<=1000000000000000000
 cnt:∃ k,(m.lv=2*k+1/\9*k+f.sg<=m.sg/\9*k+l.sg<=m.sg)\/(m.lv=2*k+2/\9*k+9<=m.sg/\9*k+f.sg+l.sg<=m.sg)
 pl:yaq x=true
structure Tx (ps:List Pc) (n:Nat) (m:Ms) (x:Str) (f l:Ms):Prop where
 n1:1<=n
 ms:(meas ps)[n]? = some m
 rd:(reads ps)[n]? = some x
 ky:Ky ps m x f l
theorem Ky.pre {ps ps':List Pc} {m:Ms} {x:Str} {f l:Ms} (k:Ky ps m x f l) (h:ps <+: ps'):Ky ps' m x f l :=
 { k with fl:=zac h k.fl,ll:=zac h k.ll }
theorem Tx.pre {ps ps':List Pc} {n:Nat} {m:Ms} {x:Str} {f l:Ms} (k:Tx ps n m x f l) (h:ps <+: ps'):Tx ps' n m x f l :=
 ⟨k.n1,zac h k.ms,zbk h k.rd,k.ky.pre h⟩
theorem Tx.le {ps:List Pc} {n:Nat} {m:Ms} {x:Str} {f l:Ms} (k:Tx ps n m x f l):n<=ps.length:=by
 have:=(List.getElem?_eq_some_iff.mp k.ms).1
 rw [zat] at this;lia
def ycp (ma mb:Ms):Ms:=⟨ma.sg+mb.sg,ma.en+mb.en,ma.lv+mb.lv,max ma.ht mb.ht+1,ma.fl,mb.ll⟩
theorem zaT (x y:Str):yaq (x++y)=(yaq x && yaq y):=by unfold yaq;rw [zap,List.all_append]
theorem kf1 {n n' s s' f l f' l':Nat} (a:∃ k,(n=2*k+1/\9*k+f<=s/\9*k+l<=s)\/(n=2*k+2/\9*k+9<=s/\9*k+f+l<=s)) (b:∃ k,(n'=2*k+1/\9*k+f'<=s'/\9*k+l'<=s')\/(n'=2*k+2/\9*k+9<=s'/\9*k+f'+l'<=s')) (hs:8<l+f') :
  ∃ k,(n+n'=2*k+1/\9*k+f<=s+s'/\9*k+l'<=s+s')\/(n+n'=2*k+2/\9*k+9<=s+s'/\9*k+f+l'<=s+s'):=by
 obtain ⟨k,⟨rfl,a1,a2⟩ | ⟨rfl,a1,a2⟩⟩:=a<;>obtain ⟨k',⟨rfl,b1,b2⟩ | ⟨rfl,b1,b2⟩⟩:=b
 ·exact ⟨k+k',.inr ⟨by lia,by lia,by lia⟩⟩
 ·exact ⟨k+k'+1,.inl ⟨by lia,by lia,by lia⟩⟩
 ·exact ⟨k+k'+1,.inl ⟨by lia,by lia,by lia⟩⟩
 ·exact ⟨k+k'+1,.inr ⟨by lia,by lia,by lia⟩⟩
theorem Ky.fork {ps:List Pc} {ma mb fa la fb lb:Ms} {x y:Str} (A:Ky ps ma x fa la) (B:Ky ps mb y fb lb) (hs:8<la.sg+fb.sg) (hm:ma.sg+mb.sg<=1000000000000000000):Ky ps (ycp ma mb) (x++y) fa lb:=by
 have k:=kf1 A.cnt B.cnt hs
 refine ⟨A.fl,B.ll,?_,?_,A.f1,A.f8,B.l1,B.l8,Nat.le_trans A.lv (Nat.le_add_right _ _),?_,hm,k,?_⟩
 ·show ma.sg+mb.sg=_;rw [zaq,A.sg,B.sg]
 ·show ma.en+mb.en=_;rw [zhT,A.en,B.en]
 ·have a4:=A.ht
  show 0<=max ma.ht mb.ht+1
  clear k hs hm;lia
 ·rw [zaT,A.pl,B.pl];rfl
theorem zaz {x:Str} (h:yba x=true):1<=x.length/\x.length<=8/\yaq x=true:=by
 simp [yba] at h;exact ⟨h.2.1,h.2.2,h.1⟩
theorem zaL {α:Type} {l:List α} {i:Nat} {d x:α} (e:l[i]? = some x):l.getD i d=x:=by simp [List.getD,e]
def lfMs (x:Str) (n:Nat):Ms:=⟨x.length,ydc x,1,0,n,n⟩
theorem zbv {ps:List Pc} (g:Good ps) {i:Nat} {x:Str} (e:ps[i]? = some (.leaf x)):Tx ps (i+1) (lfMs x (i+1)) x (lfMs x (i+1)) (lfMs x (i+1)):=by
 have hi:=(List.getElem?_eq_some_iff.mp e).1
 have ok:yba x=true:=g.get e
 obtain ⟨s1,s2,s3⟩:=zaz ok
 have li:(ps.take i).length=i:=by simp;lia
 have ml:(meas (ps.take i)).length=i+1:=by rw [zat,li]
 have e1':(meas ps)[i+1]? = some (lfMs x (i+1)):=by rw [zfC e];simp only [ycE,lfMs];rw [ml]
 exact ⟨by lia,e1',zep e,⟨e1',e1',rfl,rfl,s1,s2,s1,s2,Nat.le_refl 1,Int.le_refl 0,by show x.length<=_;lia,⟨0,.inl ⟨rfl,Nat.le_of_eq (Nat.zero_add _),Nat.le_of_eq (Nat.zero_add _)⟩⟩,s3⟩⟩
theorem zbw {ps:List Pc} (g:Good ps) {i a b:Nat} {ma mb fa la fb lb:Ms} {x y:Str} (e:ps[i]? = some (.fork a b)) (A:Tx ps a ma x fa la) (B:Tx ps b mb y fb lb):Tx ps (i+1) (ycp ma mb) (x++y) fa lb:=by
 have hi:=(List.getElem?_eq_some_iff.mp e).1
 have ok':ForkOk (ps.take i) a b:=g.get e
 have li:(ps.take i).length=i:=by simp;lia
 have tp:=zbL ps i
 obtain ⟨ma',mb',la',fb',q1,q2,q3,q4,q5,q6,q7⟩:=ok'.ex
 have ba:=(List.getElem?_eq_some_iff.mp q1).1
 have bb:=(List.getElem?_eq_some_iff.mp q2).1
 rw [zat,li] at ba bb
 have z1:=A.ms.symm.trans (zac tp q1);cases z1
 have z2:=B.ms.symm.trans (zac tp q2);cases z2
 have z3:=A.ky.ll.symm.trans (zac tp q3);cases z3
 have z4:=B.ky.fl.symm.trans (zac tp q4);cases z4
 have r1:(reads (ps.take i))[a]? = some x:=by
  obtain ⟨w,ew⟩:∃ w,(reads (ps.take i))[a]? = some w:=⟨(reads (ps.take i))[a]'(by rw [zbj,li];lia),by simp⟩
  have:=(zbk tp ew).symm.trans A.rd;cases this;exact ew
 have r2:(reads (ps.take i))[b]? = some y:=by
  obtain ⟨w,ew⟩:∃ w,(reads (ps.take i))[b]? = some w:=⟨(reads (ps.take i))[b]'(by rw [zbj,li];lia),by simp⟩
  have:=(zbk tp ew).symm.trans B.rd;cases this;exact ew
 refine ⟨by lia,?_,?_,A.ky.fork B.ky q5 q7⟩
 ·rw [zfC e];simp only [ycE,zaL q1,zaL q2];rfl
 ·rw [zep e];simp only [ydW,zaL r1,zaL r2]
theorem Good.tx {ps:List Pc} (g:Good ps):∀ n,1<=n->n<=ps.length->∃ m x f l,Tx ps n m x f l:=by
 intro n
 induction n using Nat.strongRecOn with
 | ind n ih =>
  intro h1 h2
  obtain ⟨i,rfl⟩:∃ i,n=i+1:=⟨n-1,(Nat.sub_add_cancel h1).symm⟩
  obtain ⟨q,eq⟩:∃ q,ps[i]? = some q:=⟨ps[i],by simp⟩
  have ok:=g.get eq
  have li:(ps.take i).length=i:=(zcz eq).2
  cases q with
  | leaf x=>exact ⟨_,_,_,_,zbv g eq⟩
  | fork a b =>
   have ok':ForkOk (ps.take i) a b:=ok
   obtain ⟨ma,mb,la,fb,q1,q2,_⟩:=ok'.ex
   have ba:=(List.getElem?_eq_some_iff.mp q1).1
   have bb:=(List.getElem?_eq_some_iff.mp q2).1
   rw [zat,li] at ba bb
   obtain ⟨_,_,_,_,A⟩:=ih a ba ok'.pa (Nat.le_trans (Nat.le_of_lt ba) h2)
   obtain ⟨_,_,_,_,B⟩:=ih b bb ok'.pb (Nat.le_trans (Nat.le_of_lt bb) h2)
   exact ⟨_,_,_,_,zbw g eq A B⟩
structure Dd (p:Nat) (h h':AH) (ps ps':List Pc) (k:Nat):Prop where
 sh:ShelfAt h' p ps'
 gd:Good ps'
 pre:ps <+: ps'
 len:ps'.length<=ps.length+k
 fr:∀ i,i<=p\/p+8<i->h'[i]? = h[i]?
 hl:h'.length=h.length
theorem ShelfAt.keep {h h':AH} {p:Nat} {ps:List Pc} (S:ShelfAt h p ps) (e:∀ i,p<=i->i<=p+8->h'[i]? = h[i]?):ShelfAt h' p ps:=by
 have k:∀ j,j<=8->h'[p+j]? = h[p+j]? := fun j hj=>e _ (Nat.le_add_right p j) (Nat.add_le_add_left hj p)
 exact ⟨(k 0 (by decide)).trans S.ob,(k 1 (by decide)).trans S.h1,(k 2 (by decide)).trans S.h2,(k 3 (by decide)).trans S.h3,(k 4 (by decide)).trans S.h4,(k 5 (by decide)).trans S.h5,(k 6 (by decide)).trans S.h6,(k 7 (by decide)).trans S.h7,(k 8 (by decide)).trans S.h8⟩
theorem ShelfAt.app {h:AH} {p:Nat} {ps:List Pc} (S:ShelfAt h p ps) (r:AH):ShelfAt (h++r) p ps:=by
 have:=yaz S.h8
 exact S.keep fun i _ b=>List.getElem?_append_left (Nat.lt_of_le_of_lt b this)
structure Wk (p r:Nat) (h h':AH) (ps ps':List Pc) (k:Nat):Prop where
 sh:ShelfAt h' p ps'
 gd:Good ps'
 pre:ps <+: ps'
 len:ps'.length<=ps.length+k
 row:∃ N:Int,h'[r]? = some (.lst [.int N])
 fr:∀ i,i<=p\/p+8<i->i≠r->h'[i]? = h[i]?
 hl:h'.length=h.length
theorem Wk.refl {p r:Nat} {h:AH} {ps:List Pc} (S:ShelfAt h p ps) (g:Good ps) (e:∃ N:Int,h[r]? = some (.lst [.int N])):Wk p r h h ps ps 0 :=
 ⟨S,g,List.prefix_refl _,by lia,e,fun _ _ _=>rfl,rfl⟩
theorem zaX {h:AH} {p:Nat} {ps:List Pc} {i:Nat} (S:ShelfAt h p ps) (hi:i<=ps.length):yaI [.ref p,.int i] h = .ok .non h:=by
 by_cases z:i=0
 ·subst z;simp [yaI]
 ·have c:=zbb S (i:=(i:Int)) ⟨by lia,by lia⟩
  simp [yaI,z,S.ob,c]
theorem zaP {h:AH} {p:Nat} {ps:List Pc} {i:Nat} {m:Ms} (S:ShelfAt h p ps) (e:(meas ps)[i]? = some m):ybg [.ref p,.int i] h = .ok (.int m.sg) h:=by
 have hi:=(List.getElem?_eq_some_iff.mp e).1
 rw [zat] at hi
 simp [ybg,zaX S (show i<=ps.length by lia),S.ob,S.h3,zak e]
theorem zae {h:AH} {p:Nat} {ps:List Pc} {i:Nat} {m:Ms} (S:ShelfAt h p ps) (e:(meas ps)[i]? = some m):yaX [.ref p,.int i] h = .ok (.int m.ht) h:=by
 have hi:=(List.getElem?_eq_some_iff.mp e).1
 rw [zat] at hi
 simp [yaX,zaX S (show i<=ps.length by lia),S.ob,S.h6,zak e]
theorem zfD {h:AH} {p:Nat} {ps:List Pc} {i:Nat} {m:Ms} (S:ShelfAt h p ps) (e:(meas ps)[i]? = some m):ybB [.ref p,.int i] h = .ok (.int m.fl) h:=by
 have hi:=(List.getElem?_eq_some_iff.mp e).1
 rw [zat] at hi
 simp [ybB,zaX S (show i<=ps.length by lia),S.ob,S.h7,zak e]
theorem yfS {h:AH} {p:Nat} {ps:List Pc} {i:Nat} {m:Ms} (S:ShelfAt h p ps) (e:(meas ps)[i]? = some m):ybG [.ref p,.int i] h = .ok (.int m.ll) h:=by
 have hi:=(List.getElem?_eq_some_iff.mp e).1
 rw [zat] at hi
 simp [ybG,zaX S (show i<=ps.length by lia),S.ob,S.h8,zak e]
def lp:Nat->Nat×Nat
 | 0=>(1,2)
 | n+1=>((lp n).2,(lp n).1+(lp n).2)
def ll (n:Nat):Nat:=(lp n).1
def ls (n:Nat):Nat:=9*(ll n / 2)+ll n % 2
theorem ll_2 (n:Nat):ll (n+2)=ll n+ll (n+1):=rfl
theorem zeq:∀ n,ll n<=ll (n+1)
 | 0=>by decide
 | n+1=>by rw [show n+1+1=n+2 from rfl,ll_2];lia
theorem zi5 {a b:Nat} (h:a<=b):ll a<=ll b:=by
 induction h with
 | refl=>exact Nat.le_refl _
 | step h ih=>exact Nat.le_trans ih (zeq _)
theorem zi6 {a b:Nat} (h:a<=b):ls a<=ls b:=by
 have:=zi5 h
 unfold ls;lia
theorem yht {i j a b:Nat} (h1:i<=j+1) (h2:j<=i+1) (u1:ll i<=a) (u2:ll j<=b):ll (max i j+1)<=a+b:=by
 rcases Nat.lt_trichotomy i j with c | c | c
 ·have e':j=i+1:=Nat.le_antisymm h2 c
  subst e'
  rw [Nat.max_eq_right (Nat.le_succ i),ll_2];exact Nat.add_le_add u1 u2
 ·subst c
  rw [Nat.max_self]
  refine Nat.le_trans ?_ (Nat.add_le_add u1 u2)
  cases i with
  | zero=>exact Nat.le_refl 2
  | succ k=>rw [show k+1+1=k+2 from rfl,ll_2];exact Nat.add_le_add_right (zeq k) _
 ·have e':i=j+1:=Nat.le_antisymm h1 c
  subst e'
  rw [Nat.max_eq_left (Nat.le_succ j),ll_2,Nat.add_comm];exact Nat.add_le_add u1 u2
theorem yhu {x y:Int} {a b:Nat} (hx:0<=x) (hy:0<=y) (q:(x-y).natAbs<=1) (u1:ll x.toNat<=a) (u2:ll y.toNat<=b):ll (max x y+1).toNat<=a+b:=by
 obtain ⟨i,rfl⟩:=Int.eq_ofNat_of_zero_le hx
 obtain ⟨j,rfl⟩:=Int.eq_ofNat_of_zero_le hy
 have e:(max (i:Int) j+1).toNat=max i j+1:=by clear u1 u2 q;lia
 rw [e]
 exact yht (by clear u1 u2 e;lia) (by clear u1 u2 e;lia) u1 u2
theorem Good.lv {ps:List Pc} (g:Good ps):∀ n m x f l,Tx ps n m x f l->ll m.ht.toNat<=m.lv:=by
 intro n
 induction n using Nat.strongRecOn with
 | ind n ih =>
  intro m x f l T
  have hn:=T.n1
  have hle:=T.le
  obtain ⟨i,rfl⟩:∃ i,n=i+1:=⟨n-1,by lia⟩
  obtain ⟨q,eq⟩:∃ q,ps[i]? = some q:=⟨ps[i],by simp⟩
  cases q with
  | leaf y =>
   have z:=(zbv g eq).ms.symm.trans T.ms;cases z
   exact Nat.le_refl 1
  | fork a b =>
   have ok':ForkOk (ps.take i) a b:=g.get eq
   have li:(ps.take i).length=i:=by simp;lia
   obtain ⟨ma,mb,la,fb,q1,q2,q3,q4,q5,q6,q7⟩:=ok'.ex
   have ba:=(List.getElem?_eq_some_iff.mp q1).1
   have bb:=(List.getElem?_eq_some_iff.mp q2).1
   rw [zat,li] at ba bb
   obtain ⟨ma',x1,fa,la',A⟩:=g.tx a ok'.pa (by lia)
   obtain ⟨mb',y1,fb',lb,B⟩:=g.tx b ok'.pb (by lia)
   have tp:=zbL ps i
   have z1:=A.ms.symm.trans (zac tp q1);cases z1
   have z2:=B.ms.symm.trans (zac tp q2);cases z2
   have u1:=ih a (by lia) _ _ _ _ A
   have u2:=ih b (by lia) _ _ _ _ B
   have z:=(zbw g eq A B).ms.symm.trans T.ms;cases z
   exact yhu A.ky.ht B.ky.ht q6 u1 u2
theorem Tx.ls {ps:List Pc} (g:Good ps) {n:Nat} {m:Ms} {x:Str} {f l:Ms} (T:Tx ps n m x f l):Sk.ls m.ht.toNat<=m.sg:=by
 have u:=g.lv _ _ _ _ _ T
 have f1:=T.ky.f1
 unfold Sk.ls
 obtain ⟨k,⟨e,a,_⟩ | ⟨e,a,_⟩⟩:=T.ky.cnt
 ·rw [e] at u;generalize ll m.ht.toNat=q at *;clear e;lia
 ·rw [e] at u;generalize ll m.ht.toNat=q at *;clear e;lia
theorem Good.kind {ps:List Pc} (g:Good ps) {n:Nat} {m:Ms} {x:Str} {f l:Ms} (T:Tx ps n m x f l) :
  (ps[n-1]? = some (.leaf x)/\m.ht=0/\m=lfMs x n/\1<=x.length/\x.length<=8)\/∃ a b ma mb y z fa la fb lb,ps[n-1]? = some (.fork a b)/\a<n/\b<n/\Tx ps a ma y fa la/\Tx ps b mb z fb lb/\x=y++z/\m=ycp ma mb/\(ma.ht-mb.ht).natAbs<=1:=by
 have hn:=T.n1
 have hle:=T.le
 obtain ⟨i,rfl⟩:∃ i,n=i+1:=⟨n-1,by lia⟩
 obtain ⟨q,eq⟩:∃ q,ps[i]? = some q:=⟨ps[i],by simp⟩
 cases q with
 | leaf y =>
  have L:=zbv g eq
  have z:=L.ms.symm.trans T.ms;cases z
  have z2:=L.rd.symm.trans T.rd;cases z2
  have ok:yba x=true:=g.get eq
  obtain ⟨s1,s2,s3⟩:=zaz ok
  exact .inl ⟨eq,rfl,rfl,s1,s2⟩
 | fork a b =>
  have ok':ForkOk (ps.take i) a b:=g.get eq
  have li:(ps.take i).length=i:=by simp;lia
  obtain ⟨ma,mb,la,fb,q1,q2,q3,q4,q5,q6,q7⟩:=ok'.ex
  have ba:=(List.getElem?_eq_some_iff.mp q1).1
  have bb:=(List.getElem?_eq_some_iff.mp q2).1
  rw [zat,li] at ba bb
  obtain ⟨ma',y,fa,la',A⟩:=g.tx a ok'.pa (by lia)
  obtain ⟨mb',z,fb',lb,B⟩:=g.tx b ok'.pb (by lia)
  have tp:=zbL ps i
  have z1:=A.ms.symm.trans (zac tp q1);cases z1
  have z2:=B.ms.symm.trans (zac tp q2);cases z2
  have F:=zbw g eq A B
  have z3:=F.ms.symm.trans T.ms;cases z3
  have z4:=F.rd.symm.trans T.rd;cases z4
  exact .inr ⟨a,b,ma,mb,y,z,fa,la',fb',lb,eq,by lia,by lia,A,B,rfl,rfl,q6⟩
theorem zer {h:AH} {p:Nat} {ps:List Pc} {n:Nat} {q:Pc} (S:ShelfAt h p ps) (n1:1<=n) (e:ps[n-1]? = some q):yaB [.ref p,.int n] h = .ok q.av h:=by
 have:=zi3 S e
 rw [show ((n-1:Nat):Int)+1=(n:Int) by lia] at this
 exact this
theorem hs1 {m a b:Int} (e:m=max a b+1) (ha:0<=a) (hb:0<=b):∃ j:Nat,m.toNat=j+1/\a.toNat<=j/\b.toNat<=j/\0<m:=by
 obtain ⟨x,rfl⟩:=Int.eq_ofNat_of_zero_le ha
 obtain ⟨y,rfl⟩:=Int.eq_ofNat_of_zero_le hb
 subst e
 exact ⟨max x y,by lia,Nat.le_max_left _ _,Nat.le_max_right _ _,by lia⟩
end Sk
namespace Sk
open PySem PySem.Spec L2 Sm
theorem zaf {x y:Str} (e:x.cps.toList=y.cps.toList):x=y:=by
 cases x;cases y
 simpa using e
theorem zaj (x y z:Str):(x++y)++z=x++(y++z):=zaf (by simp only [zap,List.append_assoc])
theorem ls83:1000000000000000000<ls 83:=by decide +kernel
theorem ht82 {ps:List Pc} (g:Good ps) {n:Nat} {m:Ms} {x:Str} {f l:Ms} (T:Tx ps n m x f l):m.ht<=82:=by
 have h1:=T.ls g
 have h2:=T.ky.most
 have h3:=T.ky.ht
 apply Classical.byContradiction
 intro h4
 have:=zi6 (show 83<=m.ht.toNat by lia)
 have:=ls83
 lia
theorem Good.cut {ps:List Pc} (g:Good ps) {n:Nat} {m:Ms} {x:Str} {f l:Ms} (T:Tx ps n m x f l) (hh:0<m.ht) :
  ∃ a b ma mb y z la fb,ps[n-1]? = some (.fork a b)/\Tx ps a ma y f la/\Tx ps b mb z fb l/\x=y++z/\m=ycp ma mb /\ -1<=ma.ht-mb.ht/\ma.ht-mb.ht<=1/\8<la.sg+fb.sg:=by
 rcases g.kind T with ⟨_,e,_⟩ | ⟨a,b,ma,mb,y,z,fa,la,fb,lb,e1,e2,e3,A,B,e4,e5,e6⟩
 ·lia
 ·have ok:ForkOk (ps.take (n-1)) a b:=g.get e1
  obtain ⟨ma',mb',la',fb',q1,q2,q3,q4,q5,_⟩:=(ok.pre (zbL ps _)).ex
  have z1:=A.ms.symm.trans q1;cases z1
  have z2:=B.ms.symm.trans q2;cases z2
  have z3:=A.ky.ll.symm.trans q3;cases z3
  have z4:=B.ky.fl.symm.trans q4;cases z4
  have f1:=T.ky.fl
  have l1:=T.ky.ll
  rw [e5] at f1 l1
  have z5:=f1.symm.trans A.ky.fl;cases z5
  have z6:=l1.symm.trans B.ky.ll;cases z6
  exact ⟨a,b,ma,mb,y,z,la,fb,e1,A,B,e4,e5,by lia,by lia,q5⟩
structure Dn (F:AH->Out AV) (p:Nat) (h h':AH) (ps ps':List Pc) (k n:Nat):Prop where
 ev:F h = .ok (.int n) h'
 dd:Dd p h h' ps ps' k
 re:∀ h2 ps2,ShelfAt h2 p ps2->Good ps2->ps' <+: ps2->F h2 = .ok (.int n) h2
theorem Dd.trans {p:Nat} {h h' h'':AH} {ps ps' ps'':List Pc} {k k' k2:Nat} (a:Dd p h h' ps ps' k) (b:Dd p h' h'' ps' ps'' k') (hk:k+k'<=k2):Dd p h h'' ps ps'' k2 :=
 ⟨b.sh,b.gd,a.pre.trans b.pre,by have:=a.len;have:=b.len;lia,fun i hi=>(b.fr i hi).trans (a.fr i hi),b.hl.trans a.hl⟩
theorem Dd.refl {p:Nat} {h:AH} {ps:List Pc} (S:ShelfAt h p ps) (g:Good ps):Dd p h h ps ps 0:=⟨S,g,List.prefix_refl _,by lia,fun _ _=>rfl,rfl⟩
theorem Dn.seq {F F1:AH->Out AV} {F2:AV->AH->Out AV} {p:Nat} {h h1 h2:AH} {ps ps1 ps2:List Pc} {k1 k2 k n1 n2:Nat} (S:ShelfAt h p ps) (g:Good ps) (d1:Dn F1 p h h1 ps ps1 k1 n1) (d2:Dn (F2 (.int n1)) p h1 h2 ps1 ps2 k2 n2)
  (eq:∀ hh pp,ShelfAt hh p pp->Good pp->ps <+: pp->F hh=(F1 hh).bind F2) (hk:k1+k2<=k):Dn F p h h2 ps ps2 k n2:=by
 refine ⟨?_,d1.dd.trans d2.dd hk,fun h3 ps3 S3 g3 p3=>?_⟩
 ·rw [eq h ps S g (List.prefix_refl _),d1.ev];exact d2.ev
 ·rw [eq h3 ps3 S3 g3 (d1.dd.pre.trans (d2.dd.pre.trans p3)),d1.re h3 ps3 S3 g3 (d2.dd.pre.trans p3)]
  exact d2.re h3 ps3 S3 g3 p3
theorem Dn.as {F F1:AH->Out AV} {p:Nat} {h h1:AH} {ps ps1:List Pc} {k1 k n1:Nat} (S:ShelfAt h p ps) (g:Good ps) (d1:Dn F1 p h h1 ps ps1 k1 n1) (eq:∀ hh pp,ShelfAt hh p pp->Good pp->ps <+: pp->F hh=F1 hh) (hk:k1<=k):Dn F p h h1 ps ps1 k n1:=by
 refine ⟨?_,{ d1.dd with len:=Nat.le_trans d1.dd.len (Nat.add_le_add_left hk _) },fun h3 ps3 S3 g3 p3=>?_⟩
 ·rw [eq h ps S g (List.prefix_refl _)];exact d1.ev
 ·rw [eq h3 ps3 S3 g3 (d1.dd.pre.trans p3)];exact d1.re h3 ps3 S3 g3 p3
theorem Dn.val {F:AH->Out AV} {p n:Nat} {h:AH} {ps:List Pc} (S:ShelfAt h p ps) (g:Good ps) (eq:∀ hh pp,ShelfAt hh p pp->Good pp->ps <+: pp->F hh = .ok (.int n) hh):Dn F p h h ps ps 0 n :=
 ⟨eq h ps S g (List.prefix_refl _),Dd.refl S g,fun h3 ps3 S3 g3 p3=>eq h3 ps3 S3 g3 p3⟩
theorem ybm {ps ps':List Pc} (h:ps <+: ps') {i:Nat} {q:Pc} (e:ps[i]? = some q):ps'[i]? = some q:=by
 obtain ⟨r,rfl⟩:=h
 rw [List.getElem?_append_left (List.getElem?_eq_some_iff.mp e).1];exact e
theorem zfE {h:AH} {p:Nat} {ps:List Pc} {x:Str} (S:ShelfAt h p ps) (g:Good ps) (hx:yba x=true) (hz:ps.length<16000000) :
  ∃ (n:Nat) (ps':List Pc) (h':AH),Dn (ya2 [.ref p,.str x]) p h h' ps ps' 1 n/\Tx ps' n (lfMs x n) x (lfMs x n) (lfMs x n):=by
 obtain ⟨s1,s2,s3⟩:=zaz hx
 have hs:x.length<=sizeLine:=Nat.le_trans s2 (by decide)
 by_cases hq:Pc.leaf x∈ps
 ·obtain ⟨i,hi,e⟩:=List.getElem_of_mem hq
  have e':ps[i]? = some (.leaf x):=by rw [List.getElem?_eq_getElem hi,e]
  exact ⟨i+1,ps,h,⟨zbI S g.nodup hx hs e',⟨S,g,List.prefix_refl _,by lia,fun _ _=>rfl,rfl⟩,fun h2 ps2 S2 g2 p2=>zbI S2 g2.nodup hx hs (ybm p2 e')⟩,zbv g e'⟩
 ·have g':Good (ps++[.leaf x]):=.snoc g hq hx
  have e':(ps++[Pc.leaf x])[ps.length]? = some (.leaf x):=by simp
  exact ⟨ps.length+1,_,_,⟨zgf S hx hs hq hz,⟨zbH S,g',List.prefix_append _ _,by simp,fun i hi=>zen hi,zdE _ _ _⟩,fun h2 ps2 S2 g2 p2=>zbI S2 g2.nodup hx hs (ybm p2 e')⟩,zbv g' e'⟩
theorem zay {h:AH} {p:Nat} {ps:List Pc} {a b:Nat} {ma mb fa la fb lb:Ms} {x y:Str} (S:ShelfAt h p ps) (g:Good ps) (A:Tx ps a ma x fa la) (B:Tx ps b mb y fb lb) (hc:8<la.sg+fb.sg) (v1 : -1<=ma.ht-mb.ht) (v2:ma.ht-mb.ht<=1) (hm:ma.sg+mb.sg<=1000000000000000000) (hz:ps.length<16000000) :
  ∃ (n:Nat) (ps':List Pc) (h':AH),Dn (yae [.ref p,.int a,.int b]) p h h' ps ps' 1 n/\Tx ps' n (ycp ma mb) (x++y) fa lb:=by
 have F:ForkOk ps a b:=⟨A.n1,B.n1,ma,mb,la,fb,A.ms,B.ms,A.ky.ll,B.ky.fl,hc,by lia,hm⟩
 by_cases hq:Pc.fork a b∈ps
 ·obtain ⟨i,hi,e⟩:=List.getElem_of_mem hq
  have e':ps[i]? = some (.fork a b):=by rw [List.getElem?_eq_getElem hi,e]
  exact ⟨i+1,ps,h,⟨zbJ S g.nodup F e',⟨S,g,List.prefix_refl _,by lia,fun _ _=>rfl,rfl⟩,fun h2 ps2 S2 g2 p2=>zbJ S2 g2.nodup (F.pre p2) (ybm p2 e')⟩,zbw g e' A B⟩
 ·have g':Good (ps++[.fork a b]):=.snoc g hq F
  have e':(ps++[Pc.fork a b])[ps.length]? = some (.fork a b):=by simp
  have pr:ps <+: ps++[Pc.fork a b]:=List.prefix_append _ _
  exact ⟨ps.length+1,_,_,⟨zgg S F hq hz,⟨zbH S,g',pr,by simp,fun i hi=>zen hi,zdE _ _ _⟩,fun h2 ps2 S2 g2 p2=>zbJ S2 g2.nodup (F.pre (pr.trans p2)) (ybm p2 e')⟩,zbw g' e' (A.pre pr) (B.pre pr)⟩
theorem fmS (ma mb:Ms):(ycp ma mb).sg=ma.sg+mb.sg:=rfl
theorem fmH (ma mb:Ms):(ycp ma mb).ht=max ma.ht mb.ht+1:=rfl
theorem i1 (s:Str) (a b:Int) (h:AH):fIx (.tup [.str s,.int a,.int b]) (.int 1) h = .ok (.int a) h:=rfl
theorem i2 (s:Str) (a b:Int) (h:AH):fIx (.tup [.str s,.int a,.int b]) (.int 2) h = .ok (.int b) h:=rfl
theorem zaC {h:AH} {p:Nat} {ps:List Pc} {n a b:Nat} (S:ShelfAt h p ps) (n1:1<=n) (e:ps[n-1]? = some (.fork a b)):yaB [.ref p,.int n] h = .ok (.tup [.str "fork",.int a,.int b]) h:=zer S n1 e
theorem tl_1 {h:AH} {p:Nat} {ps:List Pc} {a b:Nat} {ma mb:Ms} (S:ShelfAt h p ps) (ea:(meas ps)[a]? = some ma) (eb:(meas ps)[b]? = some mb) (hd:mb.ht-ma.ht<2) :
  yaZ [.ref p,.int a,.int b] h=yae [.ref p,.int a,.int b] h:=by
 have f1:=zae S ea
 have f2:=zae S eb
 generalize hF:yae [.ref p,.int a,.int b] h=R
 simp [yaZ,S.ob,f1,f2,hd,hF]
 cases R<;>rfl
theorem tl_2 {h:AH} {p:Nat} {ps:List Pc} {a b c d:Nat} {ma mb mc md:Ms} (S:ShelfAt h p ps) (b1:1<=b) (ea:(meas ps)[a]? = some ma) (eb:(meas ps)[b]? = some mb) (e:ps[b-1]? = some (.fork c d)) (ec:(meas ps)[c]? = some mc) (ed:(meas ps)[d]? = some md) (hd : ¬ mb.ht-ma.ht<2) (hh:mc.ht<=md.ht) :
  yaZ [.ref p,.int a,.int b] h=(yae [.ref p,.int a,.int c] h).bind fun v h1=>yae [.ref p,v,.int d] h1:=by
 have f1:=zae S ea
 have f2:=zae S eb
 have f3:=zaC S b1 e
 have f4:=zae S ec
 have f5:=zae S ed
 generalize hF:yae [.ref p,.int a,.int c] h=R
 simp [yaZ,S.ob,f1,f2,hd,f3,i1,i2,f4,f5,hh,hF,-fIx]
 cases R with
 | ok v h1=>dsimp only;cases yae [.ref p,v,.int d] h1<;>rfl
 | ex c h1=>rfl
 | bad=>rfl
def onSh (p:Nat) (F:AH->Out AV) (h:AH):Out AV:=match h[p]? with
 | some (.ins c' _)=>if c'=0 then F h else .bad
 | _=>.bad
theorem zfF {h:AH} {p:Nat} {ps:List Pc} (S:ShelfAt h p ps) (F:AH->Out AV):onSh p F h=F h:=by simp [onSh,S.ob]
theorem tl_3 {h:AH} {p:Nat} {ps:List Pc} {a b c d i j:Nat} {ma mb mc md:Ms} (S:ShelfAt h p ps) (b1:1<=b) (c1:1<=c) (ea:(meas ps)[a]? = some ma) (eb:(meas ps)[b]? = some mb) (e:ps[b-1]? = some (.fork c d)) (ec:(meas ps)[c]? = some mc) (ed:(meas ps)[d]? = some md) (e2:ps[c-1]? = some (.fork i j)) (hd : ¬ mb.ht-ma.ht<2) (hh : ¬ mc.ht<=md.ht) :
  yaZ [.ref p,.int a,.int b] h=(yae [.ref p,.int a,.int i] h).bind fun v h1=>(onSh p (yae [.ref p,.int j,.int d]) h1).bind fun w h2=>yae [.ref p,v,w] h2:=by
 have f1:=zae S ea
 have f2:=zae S eb
 have f3:=zaC S b1 e
 have f4:=zae S ec
 have f5:=zae S ed
 have f6:=zaC S c1 e2
 generalize hF:yae [.ref p,.int a,.int i] h=R
 simp [yaZ,S.ob,f1,f2,hd,f3,i1,i2,f4,f5,hh,f6,hF,-fIx]
 cases R with
 | ok v h1 =>
  unfold onSh
  dsimp only
  cases hx:h1[p]? with
  | none=>rfl
  | some o =>
   cases o with
   | lst l=>rfl
   | dct q l=>rfl
   | ins c' l =>
    dsimp only
    by_cases z:c'=0
    ·rw [if_pos z]
     cases yae [.ref p,.int j,.int d] h1 with
     | ok w h2=>dsimp only;cases yae [.ref p,v,w] h2<;>rfl
     | ex c h2=>rfl
     | bad=>rfl
    ·rw [if_neg z]
 | ex c h1=>rfl
 | bad=>rfl
theorem tlh1 {a b m:Int} (h1 : -1<=b-a) (h2:b-a<2) (e:m=max a b+1):max a b<=m/\m<=max a b+1/\(b-a<=1->m=max a b+1):=by lia
theorem zfG {h:AH} {p:Nat} {ps:List Pc} {a b:Nat} {ma mb fa la fb lb:Ms} {x y:Str} (S:ShelfAt h p ps) (g:Good ps) (A:Tx ps a ma x fa la) (B:Tx ps b mb y fb lb) (hc:8<la.sg+fb.sg) (v1 : -1<=mb.ht-ma.ht) (v2:mb.ht-ma.ht<=2) (hm:ma.sg+mb.sg<=1000000000000000000) (hz:ps.length+3<16000000) :
  ∃ (n:Nat) (ps':List Pc) (h':AH) (m:Ms),Dn (yaZ [.ref p,.int a,.int b]) p h h' ps ps' 3 n/\Tx ps' n m (x++y) fa lb/\max ma.ht mb.ht<=m.ht/\m.ht<=max ma.ht mb.ht+1/\(mb.ht-ma.ht<=1->m.ht=max ma.ht mb.ht+1):=by
 by_cases q:mb.ht-ma.ht<2
 ·obtain ⟨n,ps',h',d,T⟩:=zay S g A B hc (by lia) (by lia) hm (by lia)
  exact ⟨n,ps',h',_,d.as S g (fun hh pp S' _ pr=>tl_1 S' (zac pr A.ms) (zac pr B.ms) q) (by lia),T,tlh1 v1 q (fmH ma mb)⟩
 ·obtain ⟨c,d,mc,md,y1,y2,lc,fd,e,C,D,rfl,em,w1,w2,w3⟩:=g.cut B (by have:=A.ky.ht;lia)
  have sg:=congrArg Ms.sg em
  have ht:=congrArg Ms.ht em
  rw [fmS] at sg
  rw [fmH] at ht
  by_cases r:mc.ht<=md.ht
  ·obtain ⟨n1,ps1,h1,d1,T1⟩:=zay S g A C hc (by lia) (by lia) (by lia) (by lia)
   obtain ⟨n2,ps2,h2,d2,T2⟩:=zay d1.dd.sh d1.dd.gd T1 (D.pre d1.dd.pre) w3 (by rw [fmH];lia) (by rw [fmH];lia) (by rw [fmS];lia) (by have:=d1.dd.len;lia)
   rw [zaj] at T2
   refine ⟨n2,ps2,h2,_,Dn.seq S g d1 d2 (fun hh pp S' _ pr=>tl_2 S' B.n1 (zac pr A.ms) (zac pr B.ms) (ybm pr e) (zac pr C.ms) (zac pr D.ms) q r) (by lia),T2,?_⟩
   rw [fmH,fmH];lia
  ·obtain ⟨i,j,mi,mj,z1,z2,li,fj,e2,I,J,rfl,em2,u1,u2,u3⟩:=g.cut C (by have:=D.ky.ht;lia)
   have sg2:=congrArg Ms.sg em2
   have ht2:=congrArg Ms.ht em2
   rw [fmS] at sg2
   rw [fmH] at ht2
   obtain ⟨n1,ps1,h1,d1,T1⟩:=zay S g A I hc (by lia) (by lia) (by lia) (by lia)
   obtain ⟨n2,ps2,h2,d2,T2⟩:=zay d1.dd.sh d1.dd.gd (J.pre d1.dd.pre) (D.pre d1.dd.pre) w3 (by lia) (by lia) (by lia) (by have:=d1.dd.len;lia)
   obtain ⟨n3,ps3,h3,d3,T3⟩:=zay d2.dd.sh d2.dd.gd (T1.pre d2.dd.pre) T2 u3 (by rw [fmH,fmH];lia) (by rw [fmH,fmH];lia) (by rw [fmS,fmS];lia) (by have:=d1.dd.len;have:=d2.dd.len;lia)
   have d2':Dn (onSh p (yae [.ref p,.int j,.int d])) p h1 h2 ps1 ps2 1 n2:=d2.as d1.dd.sh d1.dd.gd (fun hh pp S' _ _=>zfF S' _) (Nat.le_refl _)
   have d23:=Dn.seq (F:=fun h1=>(onSh p (yae [.ref p,.int j,.int d]) h1).bind fun w h2=>yae [.ref p,.int n1,w] h2) (F2:=fun w h2=>yae [.ref p,.int n1,w] h2) d1.dd.sh d1.dd.gd d2' d3 (fun _ _ _ _ _=>rfl) (k:=2) (by lia)
   have ea:(x++z1)++(z2++y2)=x++(z1++z2++y2):=by rw [zaj,zaj]
   rw [ea] at T3
   refine ⟨n3,ps3,h3,_,Dn.seq (F2:=fun v h1=>(onSh p (yae [.ref p,.int j,.int d]) h1).bind fun w h2=>yae [.ref p,v,w] h2) S g d1 d23 (fun hh pp S' _ pr=>tl_3 S' B.n1 C.n1 (zac pr A.ms) (zac pr B.ms) (ybm pr e) (zac pr C.ms) (zac pr D.ms) (ybm pr e2) q r) (by lia),T3,?_⟩
   rw [fmH,fmH,fmH];lia
theorem tr_1 {h:AH} {p:Nat} {ps:List Pc} {a b:Nat} {ma mb:Ms} (S:ShelfAt h p ps) (ea:(meas ps)[a]? = some ma) (eb:(meas ps)[b]? = some mb) (hd:ma.ht-mb.ht<2) :
  ya3 [.ref p,.int a,.int b] h=yae [.ref p,.int a,.int b] h:=by
 have f1:=zae S ea
 have f2:=zae S eb
 generalize hF:yae [.ref p,.int a,.int b] h=R
 simp [ya3,S.ob,f1,f2,hd,hF]
 cases R<;>rfl
theorem tr_2 {h:AH} {p:Nat} {ps:List Pc} {a b c d:Nat} {ma mb mc md:Ms} (S:ShelfAt h p ps) (a1:1<=a) (ea:(meas ps)[a]? = some ma) (eb:(meas ps)[b]? = some mb) (e:ps[a-1]? = some (.fork c d)) (ec:(meas ps)[c]? = some mc) (ed:(meas ps)[d]? = some md) (hd : ¬ ma.ht-mb.ht<2) (hh:md.ht<=mc.ht) :
  ya3 [.ref p,.int a,.int b] h=(yae [.ref p,.int d,.int b] h).bind fun v h1=>yae [.ref p,.int c,v] h1:=by
 have f1:=zae S ea
 have f2:=zae S eb
 have f3:=zaC S a1 e
 have f4:=zae S ec
 have f5:=zae S ed
 generalize hF:yae [.ref p,.int d,.int b] h=R
 simp [ya3,S.ob,f1,f2,hd,f3,i1,i2,f4,f5,hh,hF,-fIx]
 cases R with
 | ok v h1=>dsimp only;cases yae [.ref p,.int c,v] h1<;>rfl
 | ex c h1=>rfl
 | bad=>rfl
theorem tr_3 {h:AH} {p:Nat} {ps:List Pc} {a b c d i j:Nat} {ma mb mc md:Ms} (S:ShelfAt h p ps) (a1:1<=a) (d1:1<=d) (ea:(meas ps)[a]? = some ma) (eb:(meas ps)[b]? = some mb) (e:ps[a-1]? = some (.fork c d)) (ec:(meas ps)[c]? = some mc) (ed:(meas ps)[d]? = some md) (e2:ps[d-1]? = some (.fork i j)) (hd : ¬ ma.ht-mb.ht<2) (hh : ¬ md.ht<=mc.ht) :
  ya3 [.ref p,.int a,.int b] h=(yae [.ref p,.int c,.int i] h).bind fun v h1=>(onSh p (yae [.ref p,.int j,.int b]) h1).bind fun w h2=>yae [.ref p,v,w] h2:=by
 have f1:=zae S ea
 have f2:=zae S eb
 have f3:=zaC S a1 e
 have f4:=zae S ec
 have f5:=zae S ed
 have f6:=zaC S d1 e2
 generalize hF:yae [.ref p,.int c,.int i] h=R
 simp [ya3,S.ob,f1,f2,hd,f3,i1,i2,f4,f5,hh,f6,hF,-fIx]
 cases R with
 | ok v h1 =>
  unfold onSh
  dsimp only
  cases hx:h1[p]? with
  | none=>rfl
  | some o =>
   cases o with
   | lst l=>rfl
   | dct q l=>rfl
   | ins c' l =>
    dsimp only
    by_cases z:c'=0
    ·rw [if_pos z]
     cases yae [.ref p,.int j,.int b] h1 with
     | ok w h2=>dsimp only;cases yae [.ref p,v,w] h2<;>rfl
     | ex c h2=>rfl
     | bad=>rfl
    ·rw [if_neg z]
 | ex c h1=>rfl
 | bad=>rfl
theorem zhV {h:AH} {p:Nat} {ps:List Pc} {a b:Nat} {ma mb fa la fb lb:Ms} {x y:Str} (S:ShelfAt h p ps) (g:Good ps) (A:Tx ps a ma x fa la) (B:Tx ps b mb y fb lb) (hc:8<la.sg+fb.sg) (v1 : -1<=ma.ht-mb.ht) (v2:ma.ht-mb.ht<=2) (hm:ma.sg+mb.sg<=1000000000000000000) (hz:ps.length+3<16000000) :
  ∃ (n:Nat) (ps':List Pc) (h':AH) (m:Ms),Dn (ya3 [.ref p,.int a,.int b]) p h h' ps ps' 3 n/\Tx ps' n m (x++y) fa lb/\max ma.ht mb.ht<=m.ht/\m.ht<=max ma.ht mb.ht+1/\(ma.ht-mb.ht<=1->m.ht=max ma.ht mb.ht+1):=by
 by_cases q:ma.ht-mb.ht<2
 ·obtain ⟨n,ps',h',d,T⟩:=zay S g A B hc (by lia) (by lia) hm (by lia)
  refine ⟨n,ps',h',_,d.as S g (fun hh pp S' _ pr=>tr_1 S' (zac pr A.ms) (zac pr B.ms) q) (by lia),T,?_⟩
  rw [fmH];lia
 ·obtain ⟨c,d,mc,md,y1,y2,lc,fd,e,C,D,rfl,em,w1,w2,w3⟩:=g.cut A (by have:=B.ky.ht;lia)
  have sg:=congrArg Ms.sg em
  have ht:=congrArg Ms.ht em
  rw [fmS] at sg
  rw [fmH] at ht
  by_cases r:md.ht<=mc.ht
  ·obtain ⟨n1,ps1,h1,d1,T1⟩:=zay S g D B hc (by lia) (by lia) (by lia) (by lia)
   obtain ⟨n2,ps2,h2,d2,T2⟩:=zay d1.dd.sh d1.dd.gd (C.pre d1.dd.pre) T1 w3 (by rw [fmH];lia) (by rw [fmH];lia) (by rw [fmS];lia) (by have:=d1.dd.len;lia)
   rw [<- zaj] at T2
   refine ⟨n2,ps2,h2,_,Dn.seq (F2:=fun v h1=>yae [.ref p,.int c,v] h1) S g d1 d2 (fun hh pp S' _ pr=>tr_2 S' A.n1 (zac pr A.ms) (zac pr B.ms) (ybm pr e) (zac pr C.ms) (zac pr D.ms) q r) (by lia),T2,?_⟩
   rw [fmH,fmH];lia
  ·obtain ⟨i,j,mi,mj,z1,z2,li,fj,e2,I,J,rfl,em2,u1,u2,u3⟩:=g.cut D (by have:=C.ky.ht;lia)
   have sg2:=congrArg Ms.sg em2
   have ht2:=congrArg Ms.ht em2
   rw [fmS] at sg2
   rw [fmH] at ht2
   obtain ⟨n1,ps1,h1,d1,T1⟩:=zay S g C I w3 (by lia) (by lia) (by lia) (by lia)
   obtain ⟨n2,ps2,h2,d2,T2⟩:=zay d1.dd.sh d1.dd.gd (J.pre d1.dd.pre) (B.pre d1.dd.pre) hc (by lia) (by lia) (by lia) (by have:=d1.dd.len;lia)
   obtain ⟨n3,ps3,h3,d3,T3⟩:=zay d2.dd.sh d2.dd.gd (T1.pre d2.dd.pre) T2 u3 (by rw [fmH,fmH];lia) (by rw [fmH,fmH];lia) (by rw [fmS,fmS];lia) (by have:=d1.dd.len;have:=d2.dd.len;lia)
   have d2':Dn (onSh p (yae [.ref p,.int j,.int b])) p h1 h2 ps1 ps2 1 n2:=d2.as d1.dd.sh d1.dd.gd (fun hh pp S' _ _=>zfF S' _) (Nat.le_refl _)
   have d23:=Dn.seq (F:=fun h1=>(onSh p (yae [.ref p,.int j,.int b]) h1).bind fun w h2=>yae [.ref p,.int n1,w] h2) (F2:=fun w h2=>yae [.ref p,.int n1,w] h2) d1.dd.sh d1.dd.gd d2' d3 (fun _ _ _ _ _=>rfl) (k:=2) (by lia)
   have ea:(y1++z1)++(z2++y)=y1++(z1++z2)++y:=by rw [zaj,zaj,zaj]
   rw [ea] at T3
   refine ⟨n3,ps3,h3,_,Dn.seq (F2:=fun v h1=>(onSh p (yae [.ref p,.int j,.int b]) h1).bind fun w h2=>yae [.ref p,v,w] h2) S g d1 d23 (fun hh pp S' _ pr=>tr_3 S' A.n1 D.n1 (zac pr A.ms) (zac pr B.ms) (ybm pr e) (zac pr C.ms) (zac pr D.ms) (ybm pr e2) q r) (by lia),T3,?_⟩
   rw [fmH,fmH,fmH];lia
end Sk
namespace Sk
open PySem PySem.Spec L2 Sm
theorem Dn.seq' {F F1 F2:AH->Out AV} {p:Nat} {h h1 h2:AH} {ps ps1 ps2:List Pc} {k1 k2 k n1 n2:Nat} (S:ShelfAt h p ps) (g:Good ps) (d1:Dn F1 p h h1 ps ps1 k1 n1) (d2:Dn F2 p h1 h2 ps1 ps2 k2 n2)
  (eq:∀ hh hh1 pp,ShelfAt hh p pp->Good pp->ps <+: pp->F1 hh = .ok (.int n1) hh1->F hh=F2 hh1) (hk:k1+k2<=k):Dn F p h h2 ps ps2 k n2:=by
 refine ⟨?_,d1.dd.trans d2.dd hk,fun h3 ps3 S3 g3 p3=>?_⟩
 ·rw [eq h h1 ps S g (List.prefix_refl _) d1.ev];exact d2.ev
 ·rw [eq h3 h3 ps3 S3 g3 (d1.dd.pre.trans (d2.dd.pre.trans p3)) (d1.re h3 ps3 S3 g3 (d2.dd.pre.trans p3))]
  exact d2.re h3 ps3 S3 g3 p3
theorem lk_1 {h:AH} {p:Nat} {ps:List Pc} {a b d:Nat} {ma mb:Ms} (S:ShelfAt h p ps) (ea:(meas ps)[a]? = some ma) (eb:(meas ps)[b]? = some mb) (h1:ma.ht-mb.ht<=1) (h2 : -1<=ma.ht-mb.ht) :
  ybf (d+1) [.ref p,.int a,.int b] h=yae [.ref p,.int a,.int b] h:=by
 have f1:=zae S ea
 have f2:=zae S eb
 have c1 : ¬ 1<ma.ht-mb.ht:=by lia
 have c2 : ¬ ma.ht-mb.ht < -1:=by lia
 generalize hF:yae [.ref p,.int a,.int b] h=R
 simp [ybf,ydV,S.ob,f1,f2,c1,c2,hF]
 cases R<;>rfl
theorem lk_2 {h h1:AH} {p:Nat} {ps:List Pc} {a b c e d:Nat} {v:Int} {ma mb:Ms} (S:ShelfAt h p ps) (a1:1<=a) (ea:(meas ps)[a]? = some ma) (eb:(meas ps)[b]? = some mb) (ep:ps[a-1]? = some (.fork c e)) (hd:1<ma.ht-mb.ht) (ev:ybf d [.ref p,.int e,.int b] h = .ok (.int v) h1) :
  ybf (d+1) [.ref p,.int a,.int b] h=yaZ [.ref p,.int c,.int v] h1:=by
 have f1:=zae S ea
 have f2:=zae S eb
 have f3:=zaC S a1 ep
 generalize hF:yaZ [.ref p,.int c,.int v] h1=R
 simp [ybf,ydV,S.ob,f1,f2,hd,f3,i1,i2,ev,hF,-fIx]
 cases R<;>rfl
theorem lk_3 {h h1:AH} {p:Nat} {ps:List Pc} {a b c e d:Nat} {v:Int} {ma mb:Ms} (S:ShelfAt h p ps) (b1:1<=b) (ea:(meas ps)[a]? = some ma) (eb:(meas ps)[b]? = some mb) (ep:ps[b-1]? = some (.fork c e)) (hd:ma.ht-mb.ht < -1) (ev:ybf d [.ref p,.int a,.int c] h = .ok (.int v) h1) :
  ybf (d+1) [.ref p,.int a,.int b] h=ya3 [.ref p,.int v,.int e] h1:=by
 have f1:=zae S ea
 have f2:=zae S eb
 have f3:=zaC S b1 ep
 have c1 : ¬ 1<ma.ht-mb.ht:=by lia
 generalize hF:ya3 [.ref p,.int v,.int e] h1=R
 simp [ybf,ydV,S.ob,f1,f2,c1,hd,f3,i1,i2,ev,hF,-fIx]
 cases R<;>rfl
theorem zbM {p:Nat}:∀ (d t:Nat) {h:AH} {ps:List Pc} {a b:Nat} {ma mb fa la fb lb:Ms} {x y:Str} (S:ShelfAt h p ps) (g:Good ps) (A:Tx ps a ma x fa la) (B:Tx ps b mb y fb lb) (hc:8<la.sg+fb.sg) (hm:ma.sg+mb.sg<=1000000000000000000)
  (ht:(ma.ht-mb.ht).natAbs<=t) (hd:t<d) (hz:ps.length+3*t+4<16000000),
  ∃ (n:Nat) (ps':List Pc) (h':AH) (m:Ms),Dn (ybf d [.ref p,.int a,.int b]) p h h' ps ps' (3*t+1) n/\Tx ps' n m (x++y) fa lb/\max ma.ht mb.ht<=m.ht/\m.ht<=max ma.ht mb.ht+1
 | 0,t,h,ps,a,b,ma,mb,fa,la,fb,lb,x,y,S,g,A,B,hc,hm,ht,hd,hz=>absurd hd (Nat.not_lt_zero t)
 | d+1,t,h,ps,a,b,ma,mb,fa,la,fb,lb,x,y,S,g,A,B,hc,hm,ht,hd,hz=>by
  by_cases q1:1<ma.ht-mb.ht
  ·obtain ⟨c,e,mc,me,y1,y2,lc,fe,ep,C,E,rfl,em,w1,w2,w3⟩:=g.cut A (by have:=B.ky.ht;lia)
   have sg:=congrArg Ms.sg em
   have hh:=congrArg Ms.ht em
   rw [fmS] at sg
   rw [fmH] at hh
   obtain ⟨n1,ps1,h1,m1,d1,T1,u1,u2⟩:=zbM d (t-1) S g E B hc (by lia) (by lia) (by lia) (by lia)
   have s1:m1.sg=me.sg+mb.sg:=by rw [T1.ky.sg,zaq,<- E.ky.sg,<- B.ky.sg]
   obtain ⟨n2,ps2,h2,m2,d2,T2,u3,u4,u5⟩:=zfG d1.dd.sh d1.dd.gd (C.pre d1.dd.pre) T1 w3 (by lia) (by lia) (by lia) (by have:=d1.dd.len;lia)
   rw [<- zaj] at T2
   exact ⟨n2,ps2,h2,m2,Dn.seq' S g d1 d2 (fun hh hh1 pp S' _ pr ev=>lk_2 S' A.n1 (zac pr A.ms) (zac pr B.ms) (ybm pr ep) q1 ev) (by lia),T2,by lia,by lia⟩
  ·by_cases q2:ma.ht-mb.ht < -1
   ·obtain ⟨c,e,mc,me,y1,y2,lc,fe,ep,C,E,rfl,em,w1,w2,w3⟩:=g.cut B (by have:=A.ky.ht;lia)
    have sg:=congrArg Ms.sg em
    have hh:=congrArg Ms.ht em
    rw [fmS] at sg
    rw [fmH] at hh
    obtain ⟨n1,ps1,h1,m1,d1,T1,u1,u2⟩:=zbM d (t-1) S g A C hc (by lia) (by lia) (by lia) (by lia)
    have s1:m1.sg=ma.sg+mc.sg:=by rw [T1.ky.sg,zaq,<- A.ky.sg,<- C.ky.sg]
    obtain ⟨n2,ps2,h2,m2,d2,T2,u3,u4,u5⟩:=zhV d1.dd.sh d1.dd.gd T1 (E.pre d1.dd.pre) w3 (by lia) (by lia) (by lia) (by have:=d1.dd.len;lia)
    rw [zaj] at T2
    exact ⟨n2,ps2,h2,m2,Dn.seq' S g d1 d2 (fun hh hh1 pp S' _ pr ev=>lk_3 S' B.n1 (zac pr A.ms) (zac pr B.ms) (ybm pr ep) q2 ev) (by lia),T2,by lia,by lia⟩
   ·obtain ⟨n,ps',h',dn,T⟩:=zay S g A B hc (by lia) (by lia) hm (by lia)
    exact ⟨n,ps',h',_,dn.as S g (fun hh pp S' _ pr=>lk_1 S' (zac pr A.ms) (zac pr B.ms) (by lia) (by lia)) (by lia),T,by rw [fmH];lia,by rw [fmH];lia⟩
theorem zaU {h:AH} {p:Nat} {ps:List Pc} {n:Nat} {x:Str} (S:ShelfAt h p ps) (n1:1<=n) (e:ps[n-1]? = some (.leaf x)):yaB [.ref p,.int n] h = .ok (.tup [.str "leaf",.str x]) h:=zer S n1 e
theorem i0L (x:Str) (h:AH):fIx (.tup [.str "leaf",.str x]) (.int 0) h = .ok (.str "leaf") h:=rfl
theorem i0F (a b:Int) (h:AH):fIx (.tup [.str "fork",.int a,.int b]) (.int 0) h = .ok (.str "fork") h:=rfl
theorem i1L (x:Str) (h:AH):fIx (.tup [.str "leaf",.str x]) (.int 1) h = .ok (.str x) h:=rfl
theorem eqL (h:AH):fEq (.str "leaf") (.str "leaf") h = .ok (.bl true) h:=by simp
theorem eqF (h:AH):fEq (.str "fork") (.str "leaf") h = .ok (.bl false) h:=by
 have : ¬ (Str.ofString "fork" = Str.ofString "leaf"):=by decide +kernel
 simp [this]
theorem wl_1 {h:AH} {p:Nat} {ps:List Pc} {a d:Nat} {L:Int} {x:Str} (S:ShelfAt h p ps) (a1:1<=a) (ep:ps[a-1]? = some (.leaf x)):ybh (d+1) [.ref p,.int a,.int L] h = .ok (.int L) h:=by
 simp [ybh,ydC,S.ob,zaU S a1 ep,i0L,eqL,-fIx,-fEq]
theorem wl_2 {h h1:AH} {p:Nat} {ps:List Pc} {a d c e:Nat} {L v:Int} (S:ShelfAt h p ps) (a1:1<=a) (ep:ps[a-1]? = some (.fork c e)) (ev:ybh d [.ref p,.int e,.int L] h = .ok (.int v) h1) :
  ybh (d+1) [.ref p,.int a,.int L] h=yae [.ref p,.int c,.int v] h1:=by
 generalize hF:yae [.ref p,.int c,.int v] h1=R
 simp [ybh,ydC,S.ob,zaC S a1 ep,i0F,i1,i2,eqF,ev,hF,-fIx,-fEq]
 cases R<;>rfl
theorem zcf {ps:List Pc} {n:Nat} {m:Ms} {x:Str} {f l:Ms} (T:Tx ps n m x f l) (e:m=lfMs x n):f=m/\l=m:=by
 have h1:=T.ky.fl
 have h2:=T.ky.ll
 have h3:=T.ms
 rw [e] at h1 h2
 exact ⟨Option.some.inj (h1.symm.trans h3),Option.some.inj (h2.symm.trans h3)⟩
theorem zfH {p:Nat}:∀ (d:Nat) {h:AH} {ps:List Pc} {a L:Nat} {m f l:Ms} {x w:Str} (S:ShelfAt h p ps) (g:Good ps) (T:Tx ps a m x f l) (N:Tx ps L (lfMs w L) w (lfMs w L) (lfMs w L)) (hw:l.sg<=w.length) (hm:m.sg+w.length<=1000000000000000000+l.sg) (hd:m.ht.toNat<d) (hz:ps.length+m.ht.toNat<16000000),
  ∃ (n:Nat) (ps':List Pc) (h':AH) (m' f':Ms) (u v:Str),Dn (ybh d [.ref p,.int a,.int L]) p h h' ps ps' m.ht.toNat n/\x=u++v/\v.length=l.sg/\Tx ps' n m' (u++w) f' (lfMs w L)/\m'.ht=m.ht/\f.sg<=f'.sg
 | 0,h,ps,a,L,m,f,l,x,w,S,g,T,N,hw,hm,hd,hz=>absurd hd (Nat.not_lt_zero _)
 | d+1,h,ps,a,L,m,f,l,x,w,S,g,T,N,hw,hm,hd,hz=>by
  by_cases q:0<m.ht
  ·obtain ⟨c,e,mc,me,y1,y2,lc,fe,ep,C,E,rfl,em,w1,w2,w3⟩:=g.cut T q
   have sg:=congrArg Ms.sg em
   have hh:=congrArg Ms.ht em
   rw [fmS] at sg
   rw [fmH] at hh
   have c0:=C.ky.ht
   have e0:=E.ky.ht
   obtain ⟨n1,ps1,h1,m1,f1,u,v,d1,rfl,lv,T1,k1,k2⟩:=zfH d S g E N hw (by lia) (by lia) (by lia)
   have s1:m1.sg+l.sg=me.sg+w.length:=by rw [T1.ky.sg,E.ky.sg,zaq,zaq];lia
   obtain ⟨n2,ps2,h2,d2,T2⟩:=zay d1.dd.sh d1.dd.gd (C.pre d1.dd.pre) T1 (by lia) (by lia) (by lia) (by lia) (by have:=d1.dd.len;lia)
   rw [<- zaj] at T2
   exact ⟨n2,ps2,h2,_,f,y1++u,v,Dn.seq' S g d1 d2 (fun hh hh1 pp S' _ pr ev=>wl_2 S' T.n1 (ybm pr ep) ev) (by lia),by rw [zaj],lv,T2,by rw [fmH,k1,hh],Nat.le_refl _⟩
  ·rcases g.kind T with ⟨e1,e2,e3,e4,e5⟩ | ⟨c,e,mc,me,y1,y2,fc,lc,fe,le,e1,e2,e3,C,E,e4,e5,e6⟩
   ·obtain ⟨z1,z2⟩:=zcf T e3
    subst z1 z2
    have em:("" : Str)++x=x:=zaf (by rw [zap];rfl)
    have em2:("" : Str)++w=w:=zaf (by rw [zap];rfl)
    have dv:Dn (ybh (d+1) [.ref p,.int a,.int L]) p h h ps ps 0 L:=Dn.val S g fun hh pp S' _ pr=>wl_1 S' T.n1 (ybm pr e1)
    refine ⟨L,ps,h,_,_, "",x,dv.as S g (fun _ _ _ _ _=>rfl) (Nat.zero_le _),em.symm,T.ky.sg.symm,by rw [em2];exact N,e2.symm,hw⟩
   ·have:=congrArg Ms.ht e5
    rw [fmH] at this
    have c0:=C.ky.ht
    lia
theorem wf_1 {h:AH} {p:Nat} {ps:List Pc} {a d:Nat} {x:Str} (S:ShelfAt h p ps) (a1:1<=a) (ep:ps[a-1]? = some (.leaf x)):yaE (d+1) [.ref p,.int a] h = .ok (.int (0:Nat)) h:=by
 simp [yaE,yb4,S.ob,zaU S a1 ep,i0L,eqL,-fIx,-fEq]
theorem wf_2 {h h1:AH} {p:Nat} {ps:List Pc} {a d c e:Nat} (S:ShelfAt h p ps) (a1:1<=a) (ep:ps[a-1]? = some (.fork c e)) (ev:yaE d [.ref p,.int c] h = .ok (.int (0:Nat)) h1) :
  yaE (d+1) [.ref p,.int a] h = .ok (.int e) h1:=by
 have z:fEq (.int 0) (.int 0) h1 = .ok (.bl true) h1:=by simp
 simp [yaE,yb4,S.ob,zaC S a1 ep,i0F,i1,i2,eqF,ev,z,-fIx,-fEq]
theorem wf_3 {h h1:AH} {p:Nat} {ps:List Pc} {a d c e v:Nat} (S:ShelfAt h p ps) (a1:1<=a) (ep:ps[a-1]? = some (.fork c e)) (v1:1<=v) (ev:yaE d [.ref p,.int c] h = .ok (.int v) h1) :
  yaE (d+1) [.ref p,.int a] h=yaZ [.ref p,.int v,.int e] h1:=by
 have z:fEq (.int (v:Int)) (.int 0) h1 = .ok (.bl false) h1:=by
  have : ¬ (v=0):=by lia
  simp [this]
 generalize hF:yaZ [.ref p,.int v,.int e] h1=R
 simp [yaE,yb4,S.ob,zaC S a1 ep,i0F,i1,i2,eqF,ev,z,hF,-fIx,-fEq]
 cases R<;>rfl
end Sk
namespace Sk
open PySem PySem.Spec L2 Sm
theorem zes {p:Nat}:∀ (d:Nat) {h:AH} {ps:List Pc} {a:Nat} {m f l:Ms} {x:Str} (S:ShelfAt h p ps) (g:Good ps) (T:Tx ps a m x f l) (hd:m.ht.toNat<d) (hz:ps.length+3*m.ht.toNat<16000000),
  (m.ht=0/\f.sg=x.length/\Dn (yaE d [.ref p,.int a]) p h h ps ps 0 0) \/
  (0<m.ht/\∃ (n:Nat) (ps':List Pc) (h':AH) (m' f2:Ms) (u v:Str),Dn (yaE d [.ref p,.int a]) p h h' ps ps' (3*m.ht.toNat) n/\x=u++v/\u.length=f.sg/\Tx ps' n m' v f2 l/\m.ht-1<=m'.ht/\m'.ht<=m.ht/\8<f.sg+f2.sg)
 | 0,h,ps,a,m,f,l,x,S,g,T,hd,hz=>absurd hd (Nat.not_lt_zero _)
 | d+1,h,ps,a,m,f,l,x,S,g,T,hd,hz=>by
  by_cases q:0<m.ht
  ·obtain ⟨c,e,mc,me,y1,y2,lc,fe,ep,C,E,rfl,em,w1,w2,w3⟩:=g.cut T q
   have sg:=congrArg Ms.sg em
   have hh:=congrArg Ms.ht em
   rw [fmS] at sg
   rw [fmH] at hh
   have c0:=C.ky.ht
   have e0:=E.ky.ht
   have most:=T.ky.most
   refine .inr ⟨q,?_⟩
   rcases zes d S g C (by lia) (by lia) with ⟨k1,k2,d1⟩ | ⟨k1,n1,ps1,h1,m1,f2,u,v,d1,rfl,lu,T1,r1,r2,r3⟩
   ·rcases g.kind C with ⟨e1,e2,e3,e4,e5⟩ | ⟨_,_,mx,my,_,_,_,_,_,_,_,_,_,X,Y,_,e5,_⟩
    ·obtain ⟨z1,z2⟩:=zcf C e3
     have dv:Dn (yaE (d+1) [.ref p,.int a]) p h h ps ps 0 e:=by
      refine ⟨wf_2 S T.n1 ep d1.ev,Dd.refl S g,fun h3 ps3 S3 g3 p3=>wf_2 S3 T.n1 (ybm p3 ep) (d1.re h3 ps3 S3 g3 p3)⟩
     exact ⟨e,ps,h,me,fe,y1,y2,dv.as S g (fun _ _ _ _ _=>rfl) (Nat.zero_le _),rfl,k2.symm,E,by lia,by lia,by rw [z1];rw [z2] at w3;exact w3⟩
    ·have:=congrArg Ms.ht e5
     rw [fmH] at this
     have:=X.ky.ht
     lia
   ·have s1:m1.sg+f.sg=mc.sg:=by rw [T1.ky.sg,C.ky.sg,zaq];lia
    obtain ⟨n2,ps2,h2,m2,d2,T2,u3,u4,u5⟩:=zfG d1.dd.sh d1.dd.gd T1 (E.pre d1.dd.pre) w3 (by lia) (by lia) (by lia) (by have:=d1.dd.len;lia)
    refine ⟨n2,ps2,h2,m2,f2,u,v++y2,Dn.seq' S g d1 d2 (fun hh hh1 pp S' _ pr ev=>wf_3 S' T.n1 (ybm pr ep) T1.n1 ev) (by lia),by rw [zaj],lu,T2,?_,?_,r3⟩
    ·lia
    ·lia
  ·rcases g.kind T with ⟨e1,e2,e3,e4,e5⟩ | ⟨_,_,mx,my,_,_,_,_,_,_,_,_,_,X,Y,_,e5,_⟩
   ·obtain ⟨z1,z2⟩:=zcf T e3
    exact .inl ⟨e2,by rw [z1];exact T.ky.sg,Dn.val S g fun hh pp S' _ pr=>wf_1 S' T.n1 (ybm pr e1)⟩
   ·have:=congrArg Ms.ht e5
    rw [fmH] at this
    have:=X.ky.ht
    lia
theorem Good.ends {ps:List Pc} (g:Good ps):∀ (k n:Nat) {m f l:Ms} {x:Str},n<=k->Tx ps n m x f l ->
  (∃ w u:Str,1<=m.fl/\ps[m.fl-1]? = some (.leaf w)/\x=w++u/\w.length=f.sg)/\(∃ w u:Str,1<=m.ll/\ps[m.ll-1]? = some (.leaf w)/\x=u++w/\w.length=l.sg)
 | 0,n,m,f,l,x,hn,T=>absurd T.n1 (by lia)
 | k+1,n,m,f,l,x,hn,T=>by
  rcases g.kind T with ⟨e1,e2,e3,e4,e5⟩ | ⟨a,b,ma,mb,y,z,fa,la,fb,lb,e1,e2,e3,A,B,rfl,e5,e6⟩
  ·obtain ⟨z1,z2⟩:=zcf T e3
   have em:("" : Str)++x=x:=zaf (by rw [zap];rfl)
   have em2:x++("" : Str)=x:=zaf (by rw [zap];simp;rfl)
   have hf:m.fl=n:=by rw [e3];rfl
   have hl:m.ll=n:=by rw [e3];rfl
   have hx:=T.ky.sg
   refine ⟨⟨x, "",by rw [hf];exact T.n1,by rw [hf];exact e1,em2.symm,by rw [z1];exact hx.symm⟩,⟨x, "",by rw [hl];exact T.n1,by rw [hl];exact e1,em.symm,by rw [z2];exact hx.symm⟩⟩
  ·have q1:=g.ends k a (by lia) A
   have q2:=g.ends k b (by lia) B
   obtain ⟨⟨w,u,a1,a2,rfl,a4⟩,_⟩:=q1
   obtain ⟨_,⟨w2,u2,b1,b2,rfl,b4⟩⟩:=q2
   have f1:=T.ky.fl
   have l1:=T.ky.ll
   have hf:m.fl=ma.fl:=by rw [e5];rfl
   have hl:m.ll=mb.ll:=by rw [e5];rfl
   rw [hf] at f1
   rw [hl] at l1
   have z5:=f1.symm.trans A.ky.fl;cases z5
   have z6:=l1.symm.trans B.ky.ll;cases z6
   rw [hf,hl]
   exact ⟨⟨w,u++(u2++w2),a1,a2,by rw [zaj],a4⟩,⟨w2,w++u++u2,b1,b2,by rw [zaj (w++u)],b4⟩⟩
theorem zfI {a b c d:Str} (e:a++b=c++d) (h:a.length=c.length):a=c/\b=d:=by
 have:=congrArg (fun z:Str=>z.cps.toList) e
 simp only [zap] at this
 obtain ⟨h1,h2⟩:=List.append_inj this (by rw [<- zad,<- zad];exact h)
 exact ⟨zaf h1,zaf h2⟩
theorem zhW {a b c d:Str} (e:a++b=c++d) (h:b.length=d.length):a=c/\b=d:=by
 refine zfI e ?_
 have:=congrArg Str.length e
 rw [zaq,zaq] at this
 lia
theorem zi7 {h:AH} {p:Nat} {ps:List Pc} {a b:Nat} {ma mb la fb:Ms} (S:ShelfAt h p ps) (ea:(meas ps)[a]? = some ma) (eb:(meas ps)[b]? = some mb) (el:(meas ps)[ma.ll]? = some la) (ef:(meas ps)[mb.fl]? = some fb) :
  ycX [.ref p,.int a,.int b] h = .ok (.bl (decide (8<la.sg+fb.sg))) h:=by
 have e1:=yfS S ea
 have e2:=zfD S eb
 have e3:=zaP S el
 have e4:=zaP S ef
 have:decide ((8:Int)<(la.sg:Int)+fb.sg)=decide (8<la.sg+fb.sg):=by apply decide_eq_decide.mpr;lia
 simp [ycX,S.ob,e1,e2,e3,e4,this]
theorem zhX {w v:Str} (hw:w.length+v.length<=100) (h:AH):fAdd (.str w) (.str v) h = .ok (.str (w++v)) h:=by
 have:w.length+v.length<=sizeLine:=Nat.le_trans hw (by decide)
 simp [fAdd,this]
theorem wd_1 {h h1 h2 h3:AH} {p:Nat} {ps:List Pc} {a b:Nat} {L n k:Int} {ma mb:Ms} {w v:Str} (S:ShelfAt h p ps) (ea:(meas ps)[a]? = some ma) (eb:(meas ps)[b]? = some mb) (l1:1<=ma.ll) (f1:1<=mb.fl) (el:ps[ma.ll-1]? = some (.leaf w)) (ef:ps[mb.fl-1]? = some (.leaf v)) (hw:w.length+v.length<=100)
  (e1:ya2 [.ref p,.str (w++v)] h = .ok (.int L) h1) (e2:ybh 90 [.ref p,.int a,.int L] h1 = .ok (.int n) h2) (e3:yaE 90 [.ref p,.int b] h2 = .ok (.int k) h3) :
  ycv [.ref p,.int a,.int b] h=if k=0 then .ok (.int n) h3 else ybf 90 [.ref p,.int n,.int k] h3:=by
 have q1:=yfS S ea
 have q2:=zfD S eb
 have q3:=zaU S l1 el
 have q4:=zaU S f1 ef
 have ad:=zhX hw h
 unfold ycv
 generalize ybh 90=WL at *
 generalize yaE 90=WF at *
 generalize hF:ybf 90=LK at *
 by_cases z:k=0
 ·subst z
  have zz:fEq (.int 0) (.int 0) h3 = .ok (.bl true) h3:=by simp
  simp [S.ob,q1,q2,q3,q4,i1L,ad,e1,e2,e3,zz,-fIx,-fEq,-fAdd]
 ·have zz:fEq (.int k) (.int 0) h3 = .ok (.bl false) h3:=by simp [z]
  rw [if_neg z]
  generalize hR:LK [.ref p,.int n,.int k] h3=R
  simp [S.ob,q1,q2,q3,q4,i1L,ad,e1,e2,e3,zz,hR,-fIx,-fEq,-fAdd]
  cases R<;>rfl
end Sk
namespace Sk
open PySem PySem.Spec L2 Sm
theorem zgZ {w v:Str} (h1:1<=w.length) (h2:w.length+v.length<=8) (pw:yaq w=true) (pv:yaq v=true):yba (w++v)=true:=by
 unfold yba
 rw [zaT,zaq,pw,pv]
 simp;lia
theorem zhY {h:AH} {p:Nat} {ps:List Pc} {a b:Nat} {ma mb fa la fb lb:Ms} {x y:Str} (S:ShelfAt h p ps) (g:Good ps) (A:Tx ps a ma x fa la) (B:Tx ps b mb y fb lb) (hc : ¬ 8<la.sg+fb.sg) (hm:ma.sg+mb.sg<=1000000000000000000) (hz:ps.length<15000000) :
  ∃ (n:Nat) (ps':List Pc) (h':AH) (m f l:Ms),Dn (ycv [.ref p,.int a,.int b]) p h h' ps ps' (7*(max ma.ht mb.ht).toNat+2) n/\Tx ps' n m (x++y) f l/\m.ht<=max ma.ht mb.ht+1:=by
 obtain ⟨_,w,u,l1,el,ex,lw⟩:=g.ends a a (Nat.le_refl _) A
 obtain ⟨⟨v,t,f1,ef,ey,lv⟩,_⟩:=g.ends b b (Nat.le_refl _) B
 have a0:=A.ky.ht
 have b0:=B.ky.ht
 have ha:=ht82 g A
 have hb:=ht82 g B
 have px:yaq x=true:=A.ky.pl
 have py:yaq y=true:=B.ky.pl
 have pw:yaq w=true:=by rw [ex,zaT,Bool.and_eq_true] at px;exact px.2
 have pv:yaq v=true:=by rw [ey,zaT,Bool.and_eq_true] at py;exact py.1
 have la1:=A.ky.l1
 have fb1:=B.ky.f1
 have sx:=A.ky.sg
 have sy:=B.ky.sg
 have lx:x.length=u.length+w.length:=by rw [ex,zaq]
 have ly:y.length=v.length+t.length:=by rw [ey,zaq]
 have lwv:(w++v).length=w.length+v.length:=zaq w v
 obtain ⟨L,ps1,h1,d1,N⟩:=zfE S g (zgZ (w:=w) (v:=v) (by lia) (by lia) pw pv) (by lia)
 have z1:=d1.dd.len
 obtain ⟨n2,ps2,h2,m2,f2,u2,v2,d2,ex2,lv2,T2,k1,k2⟩:=zfH 90 d1.dd.sh d1.dd.gd (A.pre d1.dd.pre) N (by lia) (by lia) (by lia) (by lia)
 have z2:=d2.dd.len
 obtain ⟨rfl,rfl⟩:u=u2/\w=v2:=zhW (ex.symm.trans ex2) (by lia)
 have s2:m2.sg=u.length+(w.length+v.length):=by rw [T2.ky.sg,zaq,zaq]
 have p12:=d1.dd.pre.trans d2.dd.pre
 have lm:(lfMs (w++v) L).sg=w.length+v.length:=zaq w v
 have tb:∀ q:Int,0<=q->q<=max ma.ht mb.ht->q.toNat<=(max ma.ht mb.ht).toNat:=fun q _ _=>by lia
 rcases zes 90 d2.dd.sh d2.dd.gd (B.pre p12) (by lia) (by lia) with ⟨r1,r2,d3⟩ | ⟨r1,n3,ps3,h3,m3,f3,u3,v3,d3,ey3,lu3,T3,r2,r3,r4⟩
 ·have t0:t.length=0:=by lia
  have te:t = "" := zaf (by rw [zad] at t0;rw [List.length_eq_zero_iff.mp t0];rfl)
  have rd:u++(w++v)=x++y:=by
   rw [ex,ey,te,zaj]
   congr 2
  rw [rd] at T2
  refine ⟨n2,ps2,h2,m2,f2,_,⟨?_,d1.dd.trans d2.dd (by lia),fun h4 ps4 S4 g4 p4=>?_⟩,T2,by lia⟩
  ·rw [wd_1 S A.ms B.ms l1 f1 el ef (by lia) d1.ev d2.ev d3.ev];rfl
  ·have q1:=d1.re h4 ps4 S4 g4 (d2.dd.pre.trans p4)
   have q2:=d2.re h4 ps4 S4 g4 p4
   have q3:=d3.re h4 ps4 S4 g4 p4
   rw [wd_1 S4 (zac (p12.trans p4) A.ms) (zac (p12.trans p4) B.ms) l1 f1 (ybm (p12.trans p4) el) (ybm (p12.trans p4) ef) (by lia) q1 q2 q3];rfl
 ·obtain ⟨rfl,rfl⟩:v=u3/\t=v3:=zfI (ey.symm.trans ey3) (by lia)
  have z3:=d3.dd.len
  have s3:m3.sg=t.length:=T3.ky.sg
  have m30:=T3.ky.ht
  obtain ⟨n4,ps4,h4,m4,d4,T4,r5,r6⟩:=zbM 90 (max ma.ht mb.ht).toNat d3.dd.sh d3.dd.gd (T2.pre d3.dd.pre) T3 (by lia) (by lia) (by lia) (by lia) (by lia)
  have rd:(u++(w++v))++t=x++y:=by rw [ex,ey,zaj,zaj,zaj]
  rw [rd] at T4
  have n3z : ¬ (n3:Int)=0:=by have:=T3.n1;lia
  have p123:=p12.trans d3.dd.pre
  refine ⟨n4,ps4,h4,m4,f2,lb,⟨?_,((d1.dd.trans d2.dd (Nat.le_refl _)).trans d3.dd (Nat.le_refl _)).trans d4.dd (by lia),fun h5 ps5 S5 g5 p5=>?_⟩,T4,by lia⟩
  ·rw [wd_1 S A.ms B.ms l1 f1 el ef (by lia) d1.ev d2.ev d3.ev,if_neg n3z];exact d4.ev
  ·have p45:=d4.dd.pre.trans p5
   have q1:=d1.re h5 ps5 S5 g5 (d2.dd.pre.trans (d3.dd.pre.trans p45))
   have q2:=d2.re h5 ps5 S5 g5 (d3.dd.pre.trans p45)
   have q3:=d3.re h5 ps5 S5 g5 p45
   have q4:=d4.re h5 ps5 S5 g5 p5
   have pa:=p123.trans p45
   rw [wd_1 S5 (zac pa A.ms) (zac pa B.ms) l1 f1 (ybm pa el) (ybm pa ef) (by lia) q1 q2 q3,if_neg n3z];exact q4
def TxZ (ps:List Pc) (n:Nat) (y:Str):Prop:=(n=0/\y = "")\/∃ m f l,Tx ps n m y f l
theorem TxZ.pre {ps ps':List Pc} {n:Nat} {y:Str} (t:TxZ ps n y) (h:ps <+: ps'):TxZ ps' n y:=by
 rcases t with t | ⟨m,f,l,t⟩
 ·exact .inl t
 ·exact .inr ⟨m,f,l,t.pre h⟩
theorem zbl (ps:List Pc):(meas ps)[0]? = some ms0:=by
 obtain ⟨r,e,_⟩:=zbc ycE ps [ms0]
 rw [meas,e];rfl
def htOf (ps:List Pc) (n:Nat):Int:=((meas ps).getD n ms0).ht
theorem yeV {ps:List Pc} {n:Nat} {m:Ms} (e:(meas ps)[n]? = some m):htOf ps n=m.ht:=by unfold htOf;rw [zaL e]
theorem zi8 (ps:List Pc):htOf ps 0 = -1:=yeV (zbl ps)
theorem zbN {i:Int} (hi:i<=1000000000000000000) (h:AH):ych [.int i] h = .ok .non h:=by
 have : ¬ (1000000000000000000:Int)<i:=by lia
 simp [ych,this]
theorem jn_0 {h:AH} {p:Nat} {ps:List Pc} {b:Nat} {mb:Ms} (S:ShelfAt h p ps) (eb:(meas ps)[b]? = some mb) (hm:mb.sg<=1000000000000000000):ybF [.ref p,.int (0:Nat),.int b] h = .ok (.int b) h:=by
 have e1:=zaP S (zbl ps)
 have e2:=zaP S eb
 have z:ms0.sg=0:=rfl
 rw [z] at e1
 have e1':ybg [.ref p,.int 0] h = .ok (.int 0) h:=e1
 have ck:=zbN (i:=(0:Int)+mb.sg) (by lia) h
 have zz:fEq (.int 0) (.int 0) h = .ok (.bl true) h:=by simp
 have ad:fAdd (.int 0) (.int mb.sg) h = .ok (.int (0+mb.sg)) h:=rfl
 simp [ybF,S.ob,e1',e2,ad,ck,zz,-fEq,-fAdd,-Int.zero_add]
theorem jn_1 {h:AH} {p:Nat} {ps:List Pc} {a:Nat} {ma:Ms} (S:ShelfAt h p ps) (a1:1<=a) (ea:(meas ps)[a]? = some ma) (hm:ma.sg<=1000000000000000000):ybF [.ref p,.int a,.int (0:Nat)] h = .ok (.int a) h:=by
 have e1:=zaP S (zbl ps)
 have e2:=zaP S ea
 have z:ms0.sg=0:=rfl
 rw [z] at e1
 have e1':ybg [.ref p,.int 0] h = .ok (.int 0) h:=e1
 have ck:=zbN (i:=(ma.sg:Int)+0) (by lia) h
 have zz:fEq (.int 0) (.int 0) h = .ok (.bl true) h:=by simp
 have z2:fEq (.int a) (.int 0) h = .ok (.bl false) h:=by
  have : ¬ a=0:=by lia
  simp [this]
 have ad:fAdd (.int ma.sg) (.int 0) h = .ok (.int (ma.sg+0)) h:=rfl
 simp [ybF,S.ob,e1',e2,ad,ck,zz,z2,-fEq,-fAdd,-Int.add_zero]
theorem jn_2 {h:AH} {p:Nat} {ps:List Pc} {a b:Nat} {ma mb la fb:Ms} (S:ShelfAt h p ps) (a1:1<=a) (b1:1<=b) (ea:(meas ps)[a]? = some ma) (eb:(meas ps)[b]? = some mb) (el:(meas ps)[ma.ll]? = some la) (ef:(meas ps)[mb.fl]? = some fb) (hm:ma.sg+mb.sg<=1000000000000000000) :
  ybF [.ref p,.int a,.int b] h=if 8<la.sg+fb.sg then ybf 90 [.ref p,.int a,.int b] h else ycv [.ref p,.int a,.int b] h:=by
 have e1:=zaP S ea
 have e2:=zaP S eb
 have cl:=zi7 S ea eb el ef
 have ck:=zbN (i:=(ma.sg:Int)+mb.sg) (by lia) h
 have z1:fEq (.int a) (.int 0) h = .ok (.bl false) h:=by
  have : ¬ a=0:=by lia
  simp [this]
 have z2:fEq (.int b) (.int 0) h = .ok (.bl false) h:=by
  have : ¬ b=0:=by lia
  simp [this]
 have ad:fAdd (.int ma.sg) (.int mb.sg) h = .ok (.int (ma.sg+mb.sg)) h:=rfl
 unfold ybF
 generalize ybf 90=LK at *
 by_cases q:8<la.sg+fb.sg
 ·rw [if_pos q]
  generalize hR:LK [.ref p,.int a,.int b] h=R
  simp [S.ob,e1,e2,ad,ck,z1,z2,cl,q,hR,-fEq,-fAdd]
  cases R<;>rfl
 ·rw [if_neg q]
  generalize hR:ycv [.ref p,.int a,.int b] h=R
  simp [S.ob,e1,e2,ad,ck,z1,z2,cl,q,hR,-fEq,-fAdd]
  cases R<;>rfl
theorem TxZ.meas {ps:List Pc} {n:Nat} {y:Str} (t:TxZ ps n y):∃ m,(meas ps)[n]? = some m/\m.sg=y.length:=by
 rcases t with ⟨rfl,rfl⟩ | ⟨m,f,l,T⟩
 ·exact ⟨ms0,zbl ps,rfl⟩
 ·exact ⟨m,T.ms,T.ky.sg⟩
theorem zet {h:AH} {p:Nat} {ps:List Pc} {a b:Nat} {x y:Str} (S:ShelfAt h p ps) (g:Good ps) (A:TxZ ps a x) (B:TxZ ps b y) (hm:x.length+y.length<=1000000000000000000) (hz:ps.length<15000000) :
  ∃ (n:Nat) (ps':List Pc) (h':AH),Dn (ybF [.ref p,.int a,.int b]) p h h' ps ps' (16*(max (htOf ps a) (htOf ps b)+1).toNat) n/\TxZ ps' n (x++y):=by
 rcases A with ⟨rfl,rfl⟩ | ⟨ma,fa,la,A⟩
 ·obtain ⟨mb,eb,sb⟩:=B.meas
  have em:("" : Str)++y=y:=zaf (by rw [zap];rfl)
  have dv:Dn (ybF [.ref p,.int (0:Nat),.int b]) p h h ps ps 0 b:=Dn.val S g fun hh pp S' _ pr=>jn_0 S' (zac pr eb) (by rw [sb];lia)
  exact ⟨b,ps,h,dv.as S g (fun _ _ _ _ _=>rfl) (Nat.zero_le _),by rw [em];exact B⟩
 ·rcases B with ⟨rfl,rfl⟩ | ⟨mb,fb,lb,B⟩
  ·have em:x++("" : Str)=x:=zaf (by rw [zap];simp;rfl)
   have dv:Dn (ybF [.ref p,.int a,.int (0:Nat)]) p h h ps ps 0 a:=Dn.val S g fun hh pp S' _ pr=>jn_1 S' A.n1 (zac pr A.ms) A.ky.most
   exact ⟨a,ps,h,dv.as S g (fun _ _ _ _ _=>rfl) (Nat.zero_le _),by rw [em];exact .inr ⟨_,_,_,A⟩⟩
  ·have sa:=A.ky.sg
   have sb:=B.ky.sg
   have a0:=A.ky.ht
   have b0:=B.ky.ht
   have ha:=ht82 g A
   have hb:=ht82 g B
   rw [yeV A.ms,yeV B.ms]
   by_cases q:8<la.sg+fb.sg
   ·obtain ⟨n,ps',h',m,d,T,_⟩:=zbM 90 (max ma.ht mb.ht).toNat S g A B q (by lia) (by lia) (by lia) (by lia)
    exact ⟨n,ps',h',d.as S g (fun hh pp S' _ pr=>by rw [jn_2 S' A.n1 B.n1 (zac pr A.ms) (zac pr B.ms) (zac pr A.ky.ll) (zac pr B.ky.fl) (by lia),if_pos q]) (by lia),.inr ⟨_,_,_,T⟩⟩
   ·obtain ⟨n,ps',h',m,f,l,d,T,_⟩:=zhY S g A B q (by lia) hz
    exact ⟨n,ps',h',d.as S g (fun hh pp S' _ pr=>by rw [jn_2 S' A.n1 B.n1 (zac pr A.ms) (zac pr B.ms) (zac pr A.ky.ll) (zac pr B.ky.fl) (by lia),if_neg q]) (by lia),.inr ⟨_,_,_,T⟩⟩
end Sk
namespace Sk
open PySem PySem.Spec L2 Sm
theorem zi9 {b e:Nat} {y:Str} (be:b<=e):(cutS y (some (b:Int)) (some (e:Int))).cps.toList=(y.cps.toList.drop b).take (e-b):=by
 unfold cutS
 rw [HT.sIx_nat,HT.sIx_nat]
 generalize y.cps.toList=l
 show (l.drop (min b l.length)).take (min e l.length-min b l.length)=_
 apply List.ext_getElem?
 intro i
 rw [List.getElem?_take,List.getElem?_take,List.getElem?_drop,List.getElem?_drop]
 by_cases q:b<=l.length
 ·rw [Nat.min_eq_left q]
  by_cases c1:i<e-b
  ·rw [if_pos c1]
   by_cases c2:i<min e l.length-b
   ·rw [if_pos c2]
   ·rw [if_neg c2,List.getElem?_eq_none (by lia)]
  ·rw [if_neg c1,if_neg (by lia)]
 ·rw [if_neg (by lia),List.getElem?_eq_none (l:=l) (i:=b+i) (by lia)]
  split<;>rfl
def cat:List Str->Str
 | [] => ""
 | w::ws=>w++cat ws
theorem zbx:∀ as bs:List Str,cat (as++bs)=cat as++cat bs
 | [],bs=>(zaf (by rw [zap];rfl):cat bs=("" : Str)++cat bs)
 | w::as,bs=>by
  show w++cat (as++bs)=(w++cat as)++cat bs
  rw [zbx as bs,zaj]
theorem zcg (w:Str):cat [w]=w:=zaf (by show (w++("" : Str)).cps.toList=_;rw [zap];simp;rfl)
def LS (ps:List Pc) (ns:List Nat) (ws:List Str):Prop:=ns.length=ws.length/\∀ (i n:Nat) (w:Str),ns[i]? = some n->ws[i]? = some w->Tx ps n (lfMs w n) w (lfMs w n) (lfMs w n)
theorem LS.pre {ps ps':List Pc} {ns:List Nat} {ws:List Str} (s:LS ps ns ws) (h:ps <+: ps'):LS ps' ns ws:=⟨s.1,fun i n w a b=>(s.2 i n w a b).pre h⟩
theorem LS.take {ps:List Pc} {ns:List Nat} {ws:List Str} (s:LS ps ns ws) (k:Nat):LS ps (ns.take k) (ws.take k):=by
 refine ⟨by simp [s.1],fun i n w a b=>?_⟩
 rw [List.getElem?_take] at a b
 by_cases q:i<k
 ·rw [if_pos q] at a b;exact s.2 i n w a b
 ·rw [if_neg q] at a;cases a
theorem LS.drop {ps:List Pc} {ns:List Nat} {ws:List Str} (s:LS ps ns ws) (k:Nat):LS ps (ns.drop k) (ws.drop k):=by
 refine ⟨by simp [s.1],fun i n w a b=>?_⟩
 rw [List.getElem?_drop] at a b
 exact s.2 _ n w a b
abbrev ivs (ns:List Nat):List AV:=ns.map fun n:Nat=>AV.int (n:Int)
theorem hv_1 {h:AH} {p d n:Nat}:ybN (d+1) [.ref p,.fl (ivs [n])] h = .ok (.int n) h:=by
 have ix:fIx (.fl [.int (n:Int)]) (.int 0) h = .ok (.int n) h:=rfl
 simp [ybN,yek,ix,-fIx]
theorem zg0 {α:Type} (l:List α) {k:Nat} (hk:k<=l.length):cutA l none (some (k:Int))=l.take k:=by
 unfold cutA
 rw [HT.sIx_nat,HT.sIx_none,Nat.min_eq_left hk];simp
theorem zg1 {α:Type} (l:List α) {k:Nat} (hk:k<=l.length):cutA l (some (k:Int)) none=l.drop k:=by
 unfold cutA
 rw [HT.sIx_nat,HT.sIx_none,Nat.min_eq_left hk,List.take_of_length_le (by simp)]
theorem hv_2 {h h1 h2:AH} {p d:Nat} {ps:List Pc} {ns:List Nat} {v1 v2:Int} (S:ShelfAt h p ps) (hl:2<=ns.length) (e1:ybN d [.ref p,.fl (ivs (ns.take (ns.length / 2)))] h = .ok (.int v1) h1) (e2:ybN d [.ref p,.fl (ivs (ns.drop (ns.length / 2)))] h1 = .ok (.int v2) h2) :
  ybN (d+1) [.ref p,.fl (ivs ns)] h=yae [.ref p,.int v1,.int v2] h2:=by
 have hh:ns.length / 2<=ns.length:=Nat.div_le_self _ _
 have ln:fLen [.fl (ivs ns)] h = .ok (.int ns.length) h:=by simp [fLen]
 have q:fEq (.int ns.length) (.int 1) h = .ok (.bl false) h:=by
  have : ¬ (ns.length:Int)=1:=by lia
  simp [this]
 have dv:fDiv (.int ns.length) (.int 2) h = .ok (.int (ns.length / 2:Nat)) h:=rfl
 have c1:ybk (.fl (ivs ns)) none (some (ns.length / 2:Nat)) h = .ok (.fl (ivs (ns.take (ns.length / 2)))) h:=by
  have:=zg0 (ivs ns) (k:=ns.length / 2) (by simpa using hh)
  simp only [ybk,this,ivs,List.map_take]
 have c2:∀ h,ybk (.fl (ivs ns)) (some (ns.length / 2:Nat)) none h = .ok (.fl (ivs (ns.drop (ns.length / 2)))) h:=fun h=>by
  have:=zg1 (ivs ns) (k:=ns.length / 2) (by simpa using hh)
  simp only [ybk,this,ivs,List.map_drop]
 generalize hF:yae [.ref p,.int v1,.int v2] h2=R
 unfold ybN yek
 generalize ivs ns=Z at *
 generalize ivs (ns.take (ns.length / 2))=Z1 at *
 generalize ivs (ns.drop (ns.length / 2))=Z2 at *
 generalize ((ns.length / 2:Nat):Int)=M at *
 generalize (ns.length:Int)=K at *
 simp [S.ob,ln,q,dv,c1,c2,e1,e2,hF,-fLen,-fEq,-fDiv,-ybk]
 cases R<;>rfl
theorem pw1 {a b ha hb:Nat} (ab:b<=a+1) (h1:a<=2 ^ ha) (h2:hb=0\/2 ^ (hb-1)<b):hb<=ha+1:=by
 rcases h2 with h2 | h2
 ·lia
 ·have:2 ^ (hb-1)<=2 ^ ha:=by lia
  have:=(Nat.pow_le_pow_iff_right (a:=2) (by decide)).mp this
  lia
theorem pw2 {a b ha hb:Nat} (ab:a<=b) (h1:b<=2 ^ hb) (h2:ha=0\/2 ^ (ha-1)<a):ha<=hb:=by
 rcases h2 with h2 | h2
 ·lia
 ·have:2 ^ (ha-1)<2 ^ hb:=by lia
  have:=(Nat.pow_lt_pow_iff_right (a:=2) (by decide)).mp this
  lia
theorem pw3 {k b hb:Nat} (h1:k<=2*b) (h2:2*b<=k+1) (h3:2<=k) (h4:b<=2 ^ hb) (h5:hb=0\/2 ^ (hb-1)<b):k<=2 ^ (hb+1)/\2 ^ (hb+1-1)<k:=by
 rw [Nat.pow_succ,Nat.add_sub_cancel]
 refine ⟨by lia,?_⟩
 rcases h5 with h5 | h5
 ·subst h5;simp;lia
 ·cases hb with
  | zero=>simp;lia
  | succ n =>
   rw [Nat.add_sub_cancel] at h5
   rw [Nat.pow_succ];lia
theorem pw4 {k e:Nat} (h:k<=2 ^ (e+1)):k / 2<=2 ^ e/\k-k / 2<=2 ^ e:=by rw [Nat.pow_succ] at h;lia
theorem zcA {p:Nat}:∀ (d e:Nat) {h:AH} {ps:List Pc} {ns:List Nat} {ws:List Str},ShelfAt h p ps->Good ps->LS ps ns ws->1<=ns.length->ns.length<=2 ^ e->e<d->(∀ (i:Nat) (w:Str),ws[i]? = some w->i+1<ws.length->w.length=8)->ps.length+ns.length<16000000->ns.length<=10000 ->
  ∃ (n:Nat) (ps':List Pc) (h':AH) (m f l:Ms) (H:Nat),ybN d [.ref p,.fl (ivs ns)] h = .ok (.int n) h'/\Dd p h h' ps ps' (ns.length-1)/\Tx ps' n m (cat ws) f l/\m.ht=H/\ns.length<=2 ^ H/\(H=0\/2 ^ (H-1)<ns.length)/\((∀ w∈ws,w.length=8)->l.sg=8)/\m.sg<=8*ns.length
 | 0,e,h,ps,ns,ws,S,g,LL,h1,h2,h3,h4,h5,h6=>absurd h3 (Nat.not_lt_zero _)
 | d+1,e,h,ps,ns,ws,S,g,LL,h1,h2,h3,h4,h5,h6=>by
  by_cases q:ns.length=1
  ·obtain ⟨n,rfl⟩:∃ n,ns=[n]:=List.length_eq_one_iff.mp q
   obtain ⟨w,rfl⟩:∃ w,ws=[w]:=List.length_eq_one_iff.mp (LL.1.symm.trans q)
   have T:=LL.2 0 n w rfl rfl
   refine ⟨n,ps,h,_,_,_,0,hv_1,{ Dd.refl S g with len:=by lia },by rw [zcg];exact T,rfl,by simp,.inl rfl,fun hw=>hw w (by simp),?_⟩
   have:=T.ky.f8
   simpa using this
  ·have hh:2<=ns.length:=by lia
   obtain ⟨e',rfl⟩:∃ e',e=e'+1:=by
    cases e with
    | zero=>simp at h2;lia
    | succ e' => exact ⟨e',rfl⟩
   obtain ⟨w1,w2⟩:=pw4 h2
   have lt:(ns.take (ns.length / 2)).length=ns.length / 2:=by rw [List.length_take];lia
   have ld:(ns.drop (ns.length / 2)).length=ns.length-ns.length / 2:=List.length_drop ..
   have lw:=LL.1
   obtain ⟨n1,ps1,hh1,m1,f1,l1,H1,a1,a2,a3,a4,a5,a6,a7,a8⟩:=zcA d e' S g (LL.take (ns.length / 2)) (by lia) (by lia) (by lia) (fun i w ew hi=>by
    rw [List.getElem?_take] at ew
    split at ew
    ·rw [List.length_take] at hi;exact h4 i w ew (by lia)
    ·cases ew) (by lia) (by lia)
   have z1:=a2.len
   obtain ⟨n2,ps2,hh2,m2,f2,l2,H2,b1,b2,b3,b4,b5,b6,b7,b8⟩:=zcA d e' a2.sh a2.gd ((LL.drop (ns.length / 2)).pre a2.pre) (by lia) (by lia) (by lia) (fun i w ew hi=>by
    rw [List.getElem?_drop] at ew
    rw [List.length_drop] at hi
    exact h4 _ w ew (by lia)) (by lia) (by lia)
   have z2:=b2.len
   rw [lt] at a5 a6 a8
   rw [ld] at b5 b6 b8
   have g1:=pw1 (a:=ns.length / 2) (b:=ns.length-ns.length / 2) (by lia) a5 b6
   have g2:=pw2 (a:=ns.length / 2) (b:=ns.length-ns.length / 2) (by lia) b5 a6
   have l8:l1.sg=8:=a7 fun w hw=>by
    obtain ⟨i,hi,ei⟩:=List.getElem_of_mem hw
    have hi' := hi
    rw [List.length_take] at hi'
    have:(ws.take (ns.length / 2))[i]? = some w:=by rw [List.getElem?_eq_getElem hi,ei]
    rw [List.getElem?_take] at this
    split at this
    ·exact h4 i w this (by lia)
    ·cases this
   have f1' := b3.ky.f1
   obtain ⟨n3,ps3,hh3,d3,T3⟩:=zay b2.sh b2.gd (a3.pre b2.pre) b3 (by lia) (by lia) (by lia) (by lia) (by lia)
   have rd:cat (ws.take (ns.length / 2))++cat (ws.drop (ns.length / 2))=cat ws:=by rw [<- zbx,List.take_append_drop]
   rw [rd] at T3
   have hv:=hv_2 S hh a1 b1
   obtain ⟨y1,y2⟩:=pw3 (k:=ns.length) (b:=ns.length-ns.length / 2) (by lia) (by lia) hh b5 b6
   refine ⟨n3,ps3,hh3,_,f1,l2,H2+1,hv.trans d3.ev,(a2.trans b2 (Nat.le_refl _)).trans d3.dd (by lia),T3,by rw [fmH,a4,b4];lia,y1,.inr y2,fun hw=>b7 fun w hm=>hw w (List.mem_of_mem_drop hm),by rw [fmS];lia⟩
end Sk
namespace Sk
open PySem PySem.Spec L2 Sm
def ycF (x:Str) (k:Nat):Str:=cutS x (some ((8*k:Nat):Int)) (some ((8*k+8:Nat):Int))
theorem zb5 (x:Str) (k:Nat):(ycF x k).cps.toList=(x.cps.toList.drop (8*k)).take 8:=by
 unfold ycF
 rw [zi9 (by lia),show 8*k+8-8*k=8 by lia]
theorem zdF (x:Str) (k:Nat):(ycF x k).length=min 8 (x.length-8*k):=by
 rw [zad,zb5,List.length_take,List.length_drop,<- zad]
theorem zeT {x:Str} (px:yaq x=true) (k:Nat):yaq (ycF x k)=true:=by
 unfold yaq at *
 rw [zb5,List.all_eq_true]
 rw [List.all_eq_true] at px
 exact fun c hc=>px c (List.mem_of_mem_drop (List.mem_of_mem_take hc))
theorem zcR (x:Str):∀ j,(cat ((List.range j).map (ycF x))).cps.toList=x.cps.toList.take (8*j)
 | 0=>rfl
 | j+1=>by
  rw [List.range_succ,List.map_append,zbx,zap,zcR x j]
  show _++(cat [ycF x j]).cps.toList=_
  rw [zcg,zb5,show 8*(j+1)=8*j+8 by lia,List.take_add]
theorem zdG {α:Type} {f:Nat->α} {N i:Nat} {w:α} (e:((List.range N).map f)[i]? = some w):i<N/\w=f i:=by
 rw [List.getElem?_map] at e
 obtain ⟨j,ej,ew⟩:=Option.map_eq_some_iff.mp e
 have h1:=(List.getElem?_eq_some_iff.mp ej).1
 rw [List.length_range] at h1
 rw [List.getElem?_range h1] at ej
 cases ej
 exact ⟨h1,ew.symm⟩
theorem LS.snoc {ps ps':List Pc} {ns:List Nat} {ws:List Str} {n:Nat} {w:Str} (s:LS ps ns ws) (h:ps <+: ps') (T:Tx ps' n (lfMs w n) w (lfMs w n) (lfMs w n)):LS ps' (ns++[n]) (ws++[w]):=by
 have l:=s.1
 refine ⟨by simp [s.1],fun i a b ea eb=>?_⟩
 by_cases q:i<ns.length
 ·rw [List.getElem?_append_left q] at ea
  rw [List.getElem?_append_left (by lia)] at eb
  exact (s.2 i a b ea eb).pre h
 ·have h1:=(List.getElem?_eq_some_iff.mp ea).1
  have hi:i=ns.length:=by simp at h1;lia
  subst hi
  rw [List.getElem?_append_right (by lia)] at ea eb
  simp at ea
  rw [show ns.length-ws.length=0 by lia] at eb
  simp at eb
  subst ea eb
  exact T
theorem zeU {h:AH} {p:Nat} {ps:List Pc} {x:Str} (S:ShelfAt h p ps) (g:Good ps) (px:yaq x=true) (N:Nat) (hN:8*N<x.length+8) (hx:x.length<=10000) (hz:ps.length+N<16000000) (all:List AV) (js:List Nat) (en:En) (hj:js.map (fun j=>(en[j]?).join)=[some (.ref p),some (.str x)]) :
  ∃ (ns:List Nat) (ps':List Pc) (h':AH),ya8 js en none all sYes (yaj 0 ya2 (sVar 1) (yab (sCut (sVar 2) (some (sVar 0)) (some (sOp2 fAdd (sVar 0) (sLit (.int 8))))) sNil)) ((List.range N).map fun m:Nat=>AV.int (0+(m:Int)*8)) [] h = .ok (ivs ns) h'/\Dd p h h' ps ps' N/\LS ps' ns ((List.range N).map (ycF x)):=by
 obtain ⟨zs,h',c1,ns,ps',e1,D,LL⟩:=yhk (js:=js) (en:=en) (all:=all) (e:=yaj 0 ya2 (sVar 1) (yab (sCut (sVar 2) (some (sVar 0)) (some (sOp2 fAdd (sVar 0) (sLit (.int 8))))) sNil)) (xs:=(List.range N).map fun m:Nat=>AV.int (0+(m:Int)*8)) (h:=h)
  (fun j ys h' => ∃ (ns:List Nat) (ps':List Pc),ys=ivs ns/\Dd p h h' ps ps' j/\LS ps' ns ((List.range j).map (ycF x))) ⟨[],ps,rfl,Dd.refl S g,rfl,fun i n w a _=>by simp at a⟩ (by
   rintro j v ys h' hv ⟨ns,ps',rfl,D,LL⟩
   obtain ⟨jN,rfl⟩:=zdG hv
   have z:=D.len
   have lc:=zdF x j
   have sc:yba (ycF x j)=true:=by
    unfold yba
    rw [zeT px j,lc]
    simp;lia
   obtain ⟨n,ps2,h2,d2,T⟩:=zfE D.sh D.gd sc (by lia)
   have i1:(0:Int)+(j:Int)*8=((8*j:Nat):Int):=by lia
   have i2:((8*j:Nat):Int)+8=((8*j+8:Nat):Int):=by lia
   have ct:ybk (.str x) (some ((8*j:Nat):Int)) (some ((8*j+8:Nat):Int)) h' = .ok (.str (ycF x j)) h' := rfl
   have ev:=d2.ev
   rw [hj]
   have e:yaj 0 ya2 (sVar 1) (yab (sCut (sVar 2) (some (sVar 0)) (some (sOp2 fAdd (sVar 0) (sLit (.int 8))))) sNil) [some (.int (0+(j:Int)*8)),some (.ref p),some (.str x)] h' = .ok (.int n) h2:=by
    rw [i1]
    have ad:fAdd (.int ((8*j:Nat):Int)) (.int 8) h' = .ok (.int ((8*j+8:Nat):Int)) h' := by rw [<- i2];rfl
    generalize ((8*j:Nat):Int)=B1 at *
    generalize ((8*j+8:Nat):Int)=B2 at *
    simp [D.sh.ob,ad,ct,ev,-fAdd,-ybk]
   rw [e]
   refine ⟨ns++[n],ps2,by simp [ivs],D.trans d2.dd (by lia),?_⟩
   rw [List.range_succ,List.map_append]
   exact LL.snoc d2.dd.pre T) (by simp;exact Nat.le_trans (show N<=10000 by lia) (by decide))
 rw [List.length_map,List.length_range] at D LL
 exact ⟨ns,ps',h',by rw [c1,e1],D,LL⟩
theorem zfJ {h:AH} {p:Nat} {ps:List Pc} {x:Str} (S:ShelfAt h p ps) (g:Good ps) (px:yaq x=true) (hx:x.length<=10000) (hz:ps.length+2*x.length<16000000) :
  ∃ (n:Nat) (ps':List Pc) (h':AH),ycN [.ref p,.str x] h = .ok (.int n) h'/\Dd p h h' ps ps' (2*x.length)/\TxZ ps' n x:=by
 have sl:x.length<=sizeLine:=Nat.le_trans hx (by decide)
 have fp:=zfy x h sl
 rw [px] at fp
 have c1 : ¬ (10000:Int)<x.length:=by lia
 by_cases q:x.length=0
 ·have xe:x = "" := zaf (by rw [zad] at q;rw [List.length_eq_zero_iff.mp q];rfl)
  subst xe
  refine ⟨0,ps,h,?_,{ Dd.refl S g with len:=by lia },.inl ⟨rfl,rfl⟩⟩
  simp [ycN,fp,c1]
 ·obtain ⟨N,eN⟩:∃ N,N=(x.length-1) / 8+1:=⟨_,rfl⟩
  obtain ⟨ns,ps1,h1,e1,D1,LL⟩:=zeU S g px N (by lia) hx (by lia) ((List.range N).map fun m:Nat=>AV.int (0+(m:Int)*8)) [0,1] [some (.ref p),some (.str x),none] rfl
  have z1:=D1.len
  have ln:ns.length=N:=by rw [LL.1];simp
  obtain ⟨n,ps2,h2,m,f,l,H,b1,b2,b3,_⟩:=zcA (p:=p) 20 11 D1.sh D1.gd LL (by lia) (by rw [ln];have:(2:Nat) ^ 11=2048:=rfl;lia) (by decide) (fun i w ew hi=>by
   obtain ⟨iN,rfl⟩:=zdG ew
   rw [List.length_map,List.length_range] at hi
   rw [zdF];lia) (by lia) (by lia)
  have rd:cat ((List.range N).map (ycF x))=x:=zaf (by rw [zcR,List.take_of_length_le (by rw [<- zad];lia)])
  rw [rd] at b3
  have ir:ycg (sLit (.int 0)) (yah fLen (yab (sVar 1) sNil)) (sLit (.int 8)) [some (.ref p),some (.str x),none] h = .ok ((List.range N).map (fun m:Nat=>AV.int (0+(m:Int)*8)),none) h:=by
   have r1:((if (0:Int)<x.length then ((x.length:Int)-0-1) / 8+1 else 0:Int)).toNat=N:=by
    rw [if_pos (by lia)];lia
   have r2:(0:Int).natAbs<2 ^ 40/\(x.length:Int).natAbs<2 ^ 40/\(0:Int)<8/\(8:Int)<2 ^ 20:=⟨by decide,by lia,by decide,by decide⟩
   show (if _ then _ else _)=_
   rw [if_pos r2,r1]
  have cp:ycU [0,1] (ycg (sLit (.int 0)) (yah fLen (yab (sVar 1) sNil)) (sLit (.int 8))) sYes (yaj 0 ya2 (sVar 1) (yab (sCut (sVar 2) (some (sVar 0)) (some (sOp2 fAdd (sVar 0) (sLit (.int 8))))) sNil)) [some (.ref p),some (.str x),none] h = .ok (.fl (ivs ns)) h1:=by
   simp only [ycU,ir,e1]
  have ne:fEq (.str x) (.str "") h = .ok (.bl false) h:=by
   have : ¬ x=Str.ofString "" := fun z=>q (by rw [z];rfl)
   simp [this]
  refine ⟨n,ps2,h2,?_,D1.trans b2 (by lia),.inr ⟨_,_,_,b3⟩⟩
  unfold ycN
  generalize ycU [0,1] (ycg (sLit (.int 0)) (yah fLen (yab (sVar 1) sNil)) (sLit (.int 8))) sYes (yaj 0 ya2 (sVar 1) (yab (sCut (sVar 2) (some (sVar 0)) (some (sOp2 fAdd (sVar 0) (sLit (.int 8))))) sNil))=CP at *
  generalize ybN 20=HV at *
  simp [fp,c1,ne,cp,b1,-fEq]
end Sk
namespace Sk
open PySem PySem.Spec L2 Sm
def tkS (x:Str) (a:Nat):Str:=⟨(x.cps.toList.take a).toArray⟩
def dpS (x:Str) (a:Nat):Str:=⟨(x.cps.toList.drop a).toArray⟩
theorem ycG (x:Str) (a:Nat):(tkS x a).cps.toList=x.cps.toList.take a:=rfl
theorem ybS (x:Str) (a:Nat):(dpS x a).cps.toList=x.cps.toList.drop a:=rfl
theorem ycq (x:Str) (a:Nat):(dpS x a).length=x.length-a:=by
 rw [zad,zad x,ybS,List.length_drop]
theorem dp_0 (x:Str):dpS x 0=x:=zaf rfl
theorem yhv {x:Str} {a:Nat} (h:x.length<=a):tkS x a=x:=zaf (by rw [ycG,List.take_of_length_le (by rw [<- zad];exact h)])
theorem yhw {x:Str} {a:Nat} (h:x.length<=a):dpS x a = "" := zaf (by rw [ybS,List.drop_of_length_le (by rw [<- zad];exact h)];rfl)
theorem zhZ {x:Str} (h:yaq x=true) (a:Nat):yaq (tkS x a)=true:=by
 unfold yaq at *
 rw [ycG,List.all_eq_true]
 rw [List.all_eq_true] at h
 exact fun c hc=>h c (List.mem_of_mem_take hc)
theorem zh0 {x:Str} (h:yaq x=true) (a:Nat):yaq (dpS x a)=true:=by
 unfold yaq at *
 rw [ybS,List.all_eq_true]
 rw [List.all_eq_true] at h
 exact fun c hc=>h c (List.mem_of_mem_drop hc)
theorem yfa {x:Str} {a:Nat} (h:AH):ybk (.str x) none (some (a:Int)) h = .ok (.str (tkS x a)) h:=by
 have:cutS x none (some (a:Int))=tkS x a:=zaf (by
  unfold cutS
  rw [HT.sIx_nat,HT.sIx_none,ycG]
  show (x.cps.toList.drop 0).take (min a x.cps.toList.length-0)=_
  rw [List.drop_zero,Nat.sub_zero]
  by_cases q:a<=x.cps.toList.length
  ·rw [Nat.min_eq_left q]
  ·rw [Nat.min_eq_right (by lia),List.take_length,List.take_of_length_le (by lia)])
 simp only [ybk,this]
theorem yfb {x:Str} {a:Nat} (ha:a<=x.length) (h:AH):ybk (.str x) (some (a:Int)) none h = .ok (.str (dpS x a)) h:=by
 have:cutS x (some (a:Int)) none=dpS x a:=zaf (by
  unfold cutS
  rw [HT.sIx_nat,HT.sIx_none,ybS]
  rw [zad] at ha
  rw [Nat.min_eq_left ha]
  show (x.cps.toList.drop a).take (x.cps.toList.length-a)=_
  rw [List.take_of_length_le (by rw [List.length_drop];exact Nat.le_refl _)])
 simp only [ybk,this]
def cst (z:Int):Nat:=8*((z+1).toNat*(z+2).toNat)
theorem zeu {ps:List Pc} (g:Good ps) {a b:Nat} {x y:Str} (A:TxZ ps a x) (B:TxZ ps b y):16*(max (htOf ps a) (htOf ps b)+1).toNat<=1400:=by
 have key:∀ {n:Nat} {y:Str},TxZ ps n y->htOf ps n<=82:=fun {n y} t=>by
  rcases t with ⟨rfl,rfl⟩ | ⟨m,f,l,T⟩
  ·rw [zi8];lia
  ·rw [yeV T.ms];exact ht82 g T
 have:=key A
 have:=key B
 lia
end Sk
namespace Sk
open PySem PySem.Spec L2 Sm
inductive Un where
 | n (k:Nat)
 | s (z:Str)
@[simp] def uv:Un->AV
 | .n k=>.int k
 | .s z=>.str z
def ud:Un->PyData
 | .n k=>.int k
 | .s z=>.str z
def rdU (ps:List Pc):Un->List Nat
 | .n k=>((reads ps).getD k "").cps.toList
 | .s z=>z.cps.toList
def rdS (ps:List Pc):List Un->List Nat
 | []=>[]
 | u::r=>rdU ps u++rdS ps r
theorem zfK (ps:List Pc):∀ a b:List Un,rdS ps (a++b)=rdS ps a++rdS ps b
 | [],b=>rfl
 | u::a,b=>by rw [List.cons_append,rdS,rdS,zfK ps a b,List.append_assoc]
inductive OkU (ps:List Pc):Un->Prop
 | n {k:Nat} {m f l:Ms} {x:Str} (T:Tx ps k m x f l):OkU ps (.n k)
 | s {z:Str} (a:1<=z.length) (b:z.length<=8):OkU ps (.s z)
theorem ybY {ps:List Pc} {k:Nat} {m f l:Ms} {x:Str} (T:Tx ps k m x f l):rdU ps (.n k)=x.cps.toList:=by
 show ((reads ps).getD k "").cps.toList=_
 rw [zaL T.rd]
theorem OkU.pos {ps:List Pc} {u:Un} (o:OkU ps u):1<=(rdU ps u).length:=by
 cases o with
 | n T =>
  rw [ybY T,<- zad,<- T.ky.sg]
  obtain ⟨k,c⟩:=T.ky.cnt
  have:=T.ky.f1
  rcases c with c | c<;>lia
 | @s z a b =>
  show 1<=z.cps.toList.length
  rw [<- zad];exact a
def hU (ps:List Pc):List Un->Nat
 | .n k::_=>((meas ps).getD k ms0).ht.toNat+1
 | _=>0
theorem ybd {ps:List Pc} {k:Nat} {m f l:Ms} {x:Str} (T:Tx ps k m x f l) (st:List Un):hU ps (.n k::st)=m.ht.toNat+1:=by
 show ((meas ps).getD k ms0).ht.toNat+1=_
 rw [zaL T.ms]
theorem yb6 {ps:List Pc} (g:Good ps) {st:List Un} (ok:∀ u∈st,OkU ps u):hU ps st<=83:=by
 match st,ok with
 | [],_=>exact Nat.zero_le _
 | .s _::_,_=>exact Nat.zero_le _
 | .n k::st,ok =>
  cases ok _ (List.mem_cons_self ..) with
  | @n _ m f l x T =>
   rw [ybd T]
   have:=ht82 g T
   have:=T.ky.ht
   lia
theorem zaV {ps:List Pc} {a b:Nat} {ma mb fa la fb lb:Ms} {y z:Str} {u:Un} {st:List Un} (A:Tx ps a ma y fa la) (B:Tx ps b mb z fb lb) (ok:∀ v∈u::st,OkU ps v):∀ v∈(.n a :: .n b::st:List Un),OkU ps v:=by
 intro v hv
 rcases List.mem_cons.mp hv with rfl | hv
 ·exact .n A
 ·rcases List.mem_cons.mp hv with rfl | hv
  ·exact .n B
  ·exact ok v (List.mem_cons_of_mem _ hv)
def nxF (ps:List Pc):Nat->List Un->Str×List Un
 | _,[]=>("",[])
 | _,.s z::st=>(z,st)
 | 0,.n _::st=>("",st)
 | c+1,.n k::st=>match ps[k-1]? with
  | some (.fork a b)=>nxF ps c (.n a :: .n b::st)
  | some (.leaf z)=>(z,st)
  | none=>("",st)
structure NxOk (ps:List Pc) (c:Nat) (st:List Un) (r:Str×List Un):Prop where
 rd:rdS ps st=r.1.cps.toList++rdS ps r.2
 ok:∀ u∈r.2,OkU ps u
 z1:st≠[]->1<=r.1.length/\r.1.length<=8
 z0:st=[]->r=(("" : Str),([]:List Un))
 ln:r.2.length<=st.length+c
theorem yeg {ps:List Pc} (g:Good ps):∀ (c:Nat) (st:List Un),(∀ u∈st,OkU ps u)->hU ps st<=c->NxOk ps c st (nxF ps c st)
 | c,[],ok,_=>by
  have e:nxF ps c []=(("" : Str),([]:List Un)):=by cases c<;>rfl
  rw [e]
  exact ⟨rfl,ok,fun z=>absurd rfl z,fun _=>rfl,Nat.zero_le _⟩
 | c,.s z::st,ok,_=>by
  have e:nxF ps c (.s z::st)=(z,st):=by cases c<;>rfl
  rw [e]
  cases ok _ (List.mem_cons_self ..) with
  | s a b=>exact ⟨rfl,fun u hu=>ok u (List.mem_cons_of_mem _ hu),fun _=>⟨a,b⟩,fun z=>(by cases z),by show st.length<=(st.length+1)+c;lia⟩
 | 0,.n k::st,ok,h=>by
  cases ok _ (List.mem_cons_self ..) with
  | n T=>rw [ybd T] at h;lia
 | c+1,.n k::st,ok,h=>by
  cases ok _ (List.mem_cons_self ..) with
  | @n _ m f l x T =>
   rw [ybd T] at h
   rcases g.kind T with ⟨e1,e2,e3,e4,e5⟩ | ⟨a,b,ma,mb,y,z,fa,la,fb,lb,e1,e2,e3,A,B,e4,e5,e6⟩
   ·have e:nxF ps (c+1) (.n k::st)=(x,st):=by unfold nxF;rw [e1]
    rw [e]
    exact ⟨by rw [rdS,ybY T],fun u hu=>ok u (List.mem_cons_of_mem _ hu),fun _=>⟨e4,e5⟩,fun z=>(by cases z),by show st.length<=(st.length+1)+_;lia⟩
   ·have e:nxF ps (c+1) (.n k::st)=nxF ps c (.n a :: .n b::st):=by rw [nxF,e1]
    rw [e]
    have hh:=congrArg Ms.ht e5
    rw [fmH] at hh
    have a0:=A.ky.ht
    have b0:=B.ky.ht
    have r:=yeg g c (.n a :: .n b::st) (zaV A B ok) (by rw [ybd A];lia)
    refine ⟨?_,r.ok,fun _=>r.z1 (fun z=>by cases z),fun z=>(by cases z),?_⟩
    ·rw [<- r.rd,rdS,rdS,rdS,ybY T,ybY A,ybY B,e4,zap,List.append_assoc]
    ·have:=r.ln
     rw [List.length_cons,List.length_cons] at this
     rw [List.length_cons];lia
def topF (ps:List Pc) (k:Nat):Nat->List Un->Option (List Un)
 | _,[]=>none
 | _,.s _::_=>none
 | 0,.n _::_=>none
 | c+1,.n j::st=>if j=k then some st else match ps[j-1]? with
  | some (.fork a b)=>topF ps k c (.n a :: .n b::st)
  | _=>none
theorem yfT {ps:List Pc} (g:Good ps) {k:Nat}:∀ (c:Nat) {st st':List Un},(∀ u∈st,OkU ps u)->topF ps k c st=some st'->rdS ps st=rdU ps (.n k)++rdS ps st'/\(∀ u∈st',OkU ps u)/\st'.length<=st.length+c
 | 0,[],st',_,h=>by cases h
 | 0,.s _::_,st',_,h=>by cases h
 | 0,.n _::_,st',_,h=>by cases h
 | c+1,[],st',_,h=>by cases h
 | c+1,.s _::_,st',_,h=>by cases h
 | c+1,.n j::st,st',ok,h=>by
  rw [topF] at h
  by_cases q:j=k
  ·rw [if_pos q] at h
   cases h
   subst q
   exact ⟨rfl,fun u hu=>ok u (List.mem_cons_of_mem _ hu),by rw [List.length_cons];lia⟩
  ·rw [if_neg q] at h
   cases ok _ (List.mem_cons_self ..) with
   | @n _ m f l x T =>
    rcases g.kind T with ⟨e1,_⟩ | ⟨a,b,ma,mb,y,z,fa,la,fb,lb,e1,e2,e3,A,B,e4,e5,e6⟩
    ·rw [e1] at h;cases h
    ·rw [e1] at h
     obtain ⟨r1,r2,r3⟩:=yfT g c (zaV A B ok) h
     refine ⟨?_,r2,?_⟩
     ·rw [<- r1,rdS,rdS,rdS,ybY T,ybY A,ybY B,e4,zap,List.append_assoc]
     ·rw [List.length_cons,List.length_cons] at r3
      rw [List.length_cons];lia
end Sk
namespace Sk
open PySem PySem.Spec L2 Sm
theorem popU {h:AH} {W:Nat} {Z:List AV} {v:AV} (e:h[W]? = some (.lst (Z++[v]))):mPop (.ref W) [] h = .ok v (h.set W (.lst Z)):=by
 simp [mPop,e]
theorem yb1 (u:Un) (st:List Un):(u::st).reverse.map uv=st.reverse.map uv++[uv u]:=by simp
theorem zfL (h:AH):∀ l:List Un,toDs (toD 7 h) (l.map uv)=some (l.map ud)
 | []=>rfl
 | u::l=>by
  have e:toD 7 h (uv u)=some (ud u):=by cases u<;>rfl
  rw [List.map_cons,List.map_cons]
  unfold toDs
  rw [e,zfL h l]
theorem ydB {c:SB} {b:SS} {n:Nat} {en:En} {h h2:AH} {v:AV} (e:c en h = .ok true h) (eb:b en h = .rt v h2):yav c b (n+1) en h = .rt v h2:=by
 unfold yav;rw [e];dsimp only;rw [eb]
theorem yeW {c:SB} {b:SS} {n:Nat} {en e2:En} {h h2:AH} (e:c en h = .ok true h) (eb:b en h = .nx e2 h2):yav c b (n+1) en h=yav c b n e2 h2:=by
 unfold yav;rw [e];dsimp only;rw [eb];dsimp only
 cases n<;>rfl
theorem yeh {c:SB} {b:SS} {n:Nat} {en:En} {h:AH} (e:c en h = .ok false h):yav c b (n+1) en h = .nx en h:=by
 unfold yav;rw [e]
theorem yeF {h:AH} {W:Nat} {l:List Un} (e:h[W]? = some (.lst (l.map uv))):eqA (.ref W) (.fl []) h=some l.isEmpty:=by
 have t:toD 8 h (.ref W)=some (.list (l.map ud)):=by
  show (match h[W]? with | some (.lst xs)=>(toDs (toD 7 h) xs).map PyData.list | _=>none)=_
  rw [e]
  show (toDs (toD 7 h) (l.map uv)).map PyData.list=_
  rw [zfL];rfl
 show (match toD 8 h (.ref W),toD 8 h (.fl []) with | some d,some e=>some (PyData.eqv d e) | _,_=>none)=_
 rw [t]
 show some (PyData.eqv (.list _) (.list []))=_
 cases l with
 | nil=>simp [PyData.eqv,PyData.eqvAll]
 | cons a b=>simp [PyData.eqv,PyData.eqvAll]
theorem yei {h:AH} {W:Nat} {u:Un} {st:List Un} (e:h[W]? = some (.lst ((u::st).reverse.map uv))):fNe (.ref W) (.fl []) h = .ok (.bl true) h:=by
 show (match eqA (.ref W) (.fl []) h with | some b=>Out.ok (AV.bl (!b)) h | none=>Out.bad)=_
 rw [yeF e];simp
theorem yeG {h:AH} {W:Nat} (e:h[W]? = some (.lst [])):fNe (.ref W) (.fl []) h = .ok (.bl false) h:=by
 show (match eqA (.ref W) (.fl []) h with | some b=>Out.ok (AV.bl (!b)) h | none=>Out.bad)=_
 rw [yeF (l:=[]) e];rfl
theorem of_s {h:AH} {p:Nat} {w:AV} (z:Str):ybw [.ref p,w,.str z] h = .ok (.bl false) h:=by
 simp [ybw]
theorem zfM {h:AH} {p k:Nat} {ps:List Pc} {w:AV} {x:Str} (S:ShelfAt h p ps) (k1:1<=k) (e:ps[k-1]? = some (.leaf x)):ybw [.ref p,w,.int k] h = .ok (.bl false) h:=by
 have q:=zaU S k1 e
 have i0:=i0L x h
 have eq:=eqL h
 simp [ybw,S.ob,q,i0,eq,-fIx,-fEq]
theorem zfN {h:AH} {p k a b W:Nat} {ps:List Pc} {Z:List AV} (S:ShelfAt h p ps) (k1:1<=k) (e:ps[k-1]? = some (.fork a b)) (hW:p+8<W) (eW:h[W]? = some (.lst Z)) (lz:Z.length<=1000000):ybw [.ref p,.ref W,.int k] h = .ok (.bl true) (h.set W (.lst (Z++[.int b]++[.int a]))):=by
 have q:=zaC S k1 e
 have i0:=i0F a b h
 have eq:=eqF h
 have l1:Z.length<sizeLine:=Nat.lt_of_le_of_lt lz (by decide)
 have ap:yao (.ref W) [.int b] h = .ok .non (h.set W (.lst (Z++[.int b]))):=by simp only [yao,eW,l1,if_true]
 obtain ⟨h1,eh1⟩:∃ h1,h1=h.set W (.lst (Z++[.int b])):=⟨_,rfl⟩
 have eW1:h1[W]? = some (.lst (Z++[.int b])):=by rw [eh1];exact List.getElem?_set_self (yaz eW)
 have l2:(Z++[AV.int b]).length<sizeLine:=Nat.lt_of_le_of_lt (m:=1000001) (by simp;lia) (by decide)
 have ap2:yao (.ref W) [.int a] h1 = .ok .non (h1.set W (.lst (Z++[.int b]++[.int a]))):=by simp only [yao,eW1,l2,if_true]
 rw [<- eh1] at ap
 have fin:h1.set W (.lst (Z++[.int b]++[.int a]))=h.set W (.lst (Z++[.int b]++[.int a])):=by rw [eh1,List.set_set]
 rw [fin] at ap2
 have is1:yar (.ref W) h=true:=by simp [eW]
 have is2:yar (.ref W) h1=true:=by simp [eW1]
 have j1:∀ hh,fIx (.tup [.str "fork",.int a,.int b]) (.int 1) hh = .ok (.int a) hh:=i1 _ _ _
 have j2:∀ hh,fIx (.tup [.str "fork",.int a,.int b]) (.int 2) hh = .ok (.int b) hh:=i2 _ _ _
 generalize h.set W (.lst (Z++[.int b]++[.int a]))=HF at *
 simp [ybw,S.ob,q,i0,eq,j1,j2,is1,is2,ap,ap2,-fIx,-fEq,-yar,-yao]
theorem zaE {h:AH} {p W:Nat} {ps:List Pc} (S:ShelfAt h p ps) (hW:p+8<W) (o:AO):ShelfAt (h.set W o) p ps:=S.keep fun i _ i8=>List.getElem?_set_ne (by lia)
abbrev CN:SB:=yau (sOp2 fNe (sVar 1) (sLst sNil))
theorem zfO {p W:Nat} {ps:List Pc} (g:Good ps) (hW:p+8<W):∀ (c fuel:Nat) (st:List Un) (h:AH) (o:Option AV),ShelfAt h p ps->(∀ u∈st,OkU ps u)->hU ps st<=c->c<fuel->st≠[]->st.length+c<=1000000->h[W]? = some (.lst (st.reverse.map uv)) ->
  yav CN yaO fuel [some (.ref p),some (.ref W),o] h = .rt (.str (nxF ps c st).1) (h.set W (.lst ((nxF ps c st).2.reverse.map uv)))
 | c,0,st,h,o,S,ok,hc,hf,ne,ls,eW=>absurd hf (Nat.not_lt_zero _)
 | c,fu+1,[],h,o,S,ok,hc,hf,ne,ls,eW=>absurd rfl ne
 | c,fu+1,.s z::st,h,o,S,ok,hc,hf,ne,ls,eW=>by
  have nn:=yei eW
  rw [yb1] at eW
  have po:=popU eW
  have is1:yar (.ref W) h=true:=by simp [eW]
  have e:nxF ps c (.s z::st)=(z,st):=by cases c<;>rfl
  rw [e]
  have cn:CN [some (.ref p),some (.ref W),o] h = .ok true h:=by simp [nn,-fNe]
  have eb:yaO [some (.ref p),some (.ref W),o] h = .rt (.str z) (h.set W (.lst (st.reverse.map uv))):=by
   have po':mPop (.ref W) [] h = .ok (.str z) (h.set W (.lst (st.reverse.map uv))):=po
   generalize h.set W (.lst (st.reverse.map uv))=h1 at *
   simp [yaO,is1,po',-mPop,-yar]
  exact ydB cn eb
 | 0,fu+1,.n k::st,h,o,S,ok,hc,hf,ne,ls,eW=>by
  cases ok _ (List.mem_cons_self ..) with
  | n T=>rw [ybd T] at hc;lia
 | c+1,fu+1,.n k::st,h,o,S,ok,hc,hf,ne,ls,eW=>by
  have nn:=yei eW
  rw [yb1] at eW
  have po:=popU eW
  have is1:yar (.ref W) h=true:=by simp [eW]
  have po':mPop (.ref W) [] h = .ok (.int k) (h.set W (.lst (st.reverse.map uv))):=po
  have cn:CN [some (.ref p),some (.ref W),o] h = .ok true h:=by simp [nn,-fNe]
  have S1:ShelfAt (h.set W (.lst (st.reverse.map uv))) p ps:=zaE S hW _
  have eW1:(h.set W (.lst (st.reverse.map uv)))[W]? = some (.lst (st.reverse.map uv)):=List.getElem?_set_self (yaz eW)
  obtain ⟨h1,eh1⟩:∃ h1,h1=h.set W (.lst (st.reverse.map uv)):=⟨_,rfl⟩
  rw [<- eh1] at po' S1 eW1
  cases ok _ (List.mem_cons_self ..) with
  | @n _ m f l x T =>
   rw [ybd T] at hc
   rw [List.length_cons] at ls
   rcases g.kind T with ⟨e1,e2,e3,e4,e5⟩ | ⟨a,b,ma,mb,y,z,fa,la,fb,lb,e1,e2,e3,A,B,e4,e5,e6⟩
   ·have e:nxF ps (c+1) (.n k::st)=(x,st):=by unfold nxF;rw [e1]
    rw [e]
    have op:=zfM (w:=.ref W) S1 T.n1 e1
    have fp:=zaU S1 T.n1 e1
    have eb:yaO [some (.ref p),some (.ref W),o] h = .rt (.str x) h1:=by
     have i1:=i1L x h1
     have ob:=S1.ob
     simp [yaO,is1,po',op,ob,fp,i1,-mPop,-yar,-fIx]
    rw [ydB cn eb,eh1]
   ·have e:nxF ps (c+1) (.n k::st)=nxF ps c (.n a :: .n b::st):=by rw [nxF,e1]
    rw [e]
    have op:=zfN S1 T.n1 e1 hW eW1 (by simp;lia)
    have e3':st.reverse.map uv++[.int b]++[.int a]=(.n a :: .n b::st:List Un).reverse.map uv:=by rw [yb1,yb1];rfl
    rw [e3'] at op
    have eb:yaO [some (.ref p),some (.ref W),o] h = .nx [some (.ref p),some (.ref W),some (.int k)] (h1.set W (.lst ((.n a :: .n b::st:List Un).reverse.map uv))):=by
     generalize h1.set W (.lst ((.n a :: .n b::st:List Un).reverse.map uv))=h2 at *
     simp [yaO,is1,po',op,-mPop,-yar]
    rw [yeW cn eb]
    have hh:=congrArg Ms.ht e5
    rw [fmH] at hh
    have a0:=A.ky.ht
    have b0:=B.ky.ht
    have r:=zfO g hW c fu (.n a :: .n b::st) (h1.set W (.lst ((.n a :: .n b::st:List Un).reverse.map uv))) (some (.int k)) (zaE S1 hW _) (zaV A B ok) (by rw [ybd A];lia) (by lia) (fun z=>by cases z) (by rw [List.length_cons,List.length_cons];lia) (List.getElem?_set_self (yaz eW1))
    rw [r,eh1,List.set_set,List.set_set]
theorem yhx {h:AH} {p W:Nat} {ps:List Pc} {st:List Un} (S:ShelfAt h p ps) (g:Good ps) (hW:p+8<W) (ok:∀ u∈st,OkU ps u) (ls:st.length<=900000) (eW:h[W]? = some (.lst (st.reverse.map uv))) :
  ybP [.ref p,.ref W] h = .ok (.str (nxF ps 90 st).1) (h.set W (.lst ((nxF ps 90 st).2.reverse.map uv))):=by
 by_cases q:st=[]
 ·subst q
  have nn:=yeG eW
  have e:nxF ps 90 []=((Str.ofString "" : Str),([]:List Un)):=rfl
  rw [e]
  have hs:h.set W (.lst (([]:List Un).reverse.map uv))=h:=by
   refine List.ext_getElem? fun i=>?_
   by_cases q:W=i
   ·subst q;rw [List.getElem?_set_self (yaz eW),eW]
   ·exact List.getElem?_set_ne q
  rw [hs]
  have wl:∀ n,yav CN yaO (n+1) [some (.ref p),some (.ref W),none] h = .nx [some (.ref p),some (.ref W),none] h:=fun n=>yeh (by simp [nn,-fNe])
  have wl':yav CN yaO ya1 [some (.ref p),some (.ref W),none] h = .nx [some (.ref p),some (.ref W),none] h:=wl _
  unfold ybP
  generalize yav CN yaO ya1=WL at *
  simp [wl']
 ·have h82:=yb6 g ok
  have wl:=zfO g hW 90 ya1 st h none S ok (by lia) (by decide) q (by lia) eW
  unfold ybP
  generalize yav CN yaO ya1=WL at *
  generalize h.set W (.lst ((nxF ps 90 st).2.reverse.map uv))=HF at *
  simp [wl]
end Sk
namespace Sk
open PySem PySem.Spec L2 Sm
theorem eq_n (j k:Nat) (h:AH):fEq (.int j) (.int k) h = .ok (.bl (decide (j=k))) h:=by
 by_cases q:j=k
 ·subst q;simp
 ·have : ¬ (j:Int)=k:=by lia
  simp [q,this]
theorem yiA (z:Str) (k:Nat) (h:AH):fEq (.str z) (.int k) h = .ok (.bl false) h:=by
 show (match eqA (.str z) (.int k) h with | some b=>Out.ok (AV.bl b) h | none=>Out.bad)=_
 have:eqA (.str z) (.int k) h=some false:=by
  show some (PyData.eqv (.str z) (.int k))=_
  simp [PyData.eqv]
 rw [this]
def tpR (W:Nat) (h:AH) (r:Option (List Un)) (o:OutS):Prop:=match r with
 | some st' => o = .rt (.bl true) (h.set W (.lst (st'.reverse.map uv)))
 | none=>∃ (Z:List AV) (en:En),o = .rt (.bl false) (h.set W (.lst Z))\/o = .nx en (h.set W (.lst Z))
theorem zfP {p W k:Nat} {ps:List Pc} (g:Good ps) (hW:p+8<W):∀ (c fuel:Nat) (st:List Un) (h:AH) (o:Option AV),ShelfAt h p ps->(∀ u∈st,OkU ps u)->hU ps st<=c->c<fuel->st.length+c<=1000000->h[W]? = some (.lst (st.reverse.map uv)) ->
  tpR W h (topF ps k c st) (yav CN yaF fuel [some (.ref p),some (.ref W),some (.int k),o] h)
 | c,0,st,h,o,S,ok,hc,hf,ls,eW=>absurd hf (Nat.not_lt_zero _)
 | c,fu+1,[],h,o,S,ok,hc,hf,ls,eW=>by
  have nn:=yeG eW
  have e:topF ps k c []=none:=by cases c<;>rfl
  rw [e,yeh (by simp [nn,-fNe])]
  have hs:h.set W (.lst [])=h:=by
   refine List.ext_getElem? fun i=>?_
   by_cases q:W=i
   ·subst q;rw [List.getElem?_set_self (yaz eW),eW];rfl
   ·exact List.getElem?_set_ne q
  exact ⟨[],_,.inr (by rw [hs])⟩
 | c,fu+1,.s z::st,h,o,S,ok,hc,hf,ls,eW=>by
  have nn:=yei eW
  rw [yb1] at eW
  have po:=popU eW
  have is1:yar (.ref W) h=true:=by simp [eW]
  have e:topF ps k c (.s z::st)=none:=by cases c<;>rfl
  rw [e]
  have cn:CN [some (.ref p),some (.ref W),some (.int k),o] h = .ok true h:=by simp [nn,-fNe]
  have eb:yaF [some (.ref p),some (.ref W),some (.int k),o] h = .rt (.bl false) (h.set W (.lst (st.reverse.map uv))):=by
   have po':mPop (.ref W) [] h = .ok (.str z) (h.set W (.lst (st.reverse.map uv))):=po
   generalize h.set W (.lst (st.reverse.map uv))=h1 at *
   have q:=yiA z k h1
   have op:=of_s (h:=h1) (p:=p) (w:=.ref W) z
   simp [yaF,is1,po',q,op,-mPop,-yar,-fEq]
  rw [ydB cn eb]
  exact ⟨_,[],.inl rfl⟩
 | 0,fu+1,.n j::st,h,o,S,ok,hc,hf,ls,eW=>by
  cases ok _ (List.mem_cons_self ..) with
  | @n _ m f l x T=>rw [ybd T] at hc;lia
 | c+1,fu+1,.n j::st,h,o,S,ok,hc,hf,ls,eW=>by
  have nn:=yei eW
  rw [yb1] at eW
  have po:=popU eW
  have is1:yar (.ref W) h=true:=by simp [eW]
  have po':mPop (.ref W) [] h = .ok (.int j) (h.set W (.lst (st.reverse.map uv))):=po
  have cn:CN [some (.ref p),some (.ref W),some (.int k),o] h = .ok true h:=by simp [nn,-fNe]
  have S1:ShelfAt (h.set W (.lst (st.reverse.map uv))) p ps:=zaE S hW _
  have eW1:(h.set W (.lst (st.reverse.map uv)))[W]? = some (.lst (st.reverse.map uv)):=List.getElem?_set_self (yaz eW)
  obtain ⟨h1,eh1⟩:∃ h1,h1=h.set W (.lst (st.reverse.map uv)):=⟨_,rfl⟩
  rw [<- eh1] at po' S1 eW1
  have q0:=eq_n j k h1
  rw [topF]
  by_cases q:j=k
  ·rw [if_pos q]
   rw [decide_eq_true q] at q0
   have eb:yaF [some (.ref p),some (.ref W),some (.int k),o] h = .rt (.bl true) h1:=by
    simp [yaF,is1,po',q0,-mPop,-yar,-fEq]
   rw [ydB cn eb,eh1]
   exact rfl
  ·rw [if_neg q]
   rw [decide_eq_false q] at q0
   cases ok _ (List.mem_cons_self ..) with
   | @n _ m f l x T =>
    rw [ybd T] at hc
    rw [List.length_cons] at ls
    rcases g.kind T with ⟨e1,e2,e3,e4,e5⟩ | ⟨a,b,ma,mb,y,z,fa,la,fb,lb,e1,e2,e3,A,B,e4,e5,e6⟩
    ·have op:=zfM (w:=.ref W) S1 T.n1 e1
     have eb:yaF [some (.ref p),some (.ref W),some (.int k),o] h = .rt (.bl false) h1:=by
      simp [yaF,is1,po',q0,op,-mPop,-yar,-fEq]
     rw [e1,ydB cn eb,eh1]
     exact ⟨_,[],.inl rfl⟩
    ·have op:=zfN S1 T.n1 e1 hW eW1 (by simp;lia)
     have e3':st.reverse.map uv++[.int b]++[.int a]=(.n a :: .n b::st:List Un).reverse.map uv:=by rw [yb1,yb1];rfl
     rw [e3'] at op
     have eb:yaF [some (.ref p),some (.ref W),some (.int k),o] h = .nx [some (.ref p),some (.ref W),some (.int k),some (.int j)] (h1.set W (.lst ((.n a :: .n b::st:List Un).reverse.map uv))):=by
      generalize h1.set W (.lst ((.n a :: .n b::st:List Un).reverse.map uv))=h2 at *
      simp [yaF,is1,po',q0,op,-mPop,-yar,-fEq]
     rw [e1,yeW cn eb]
     have hh:=congrArg Ms.ht e5
     rw [fmH] at hh
     have a0:=A.ky.ht
     have b0:=B.ky.ht
     have r:=zfP (k:=k) g hW c fu (.n a :: .n b::st) (h1.set W (.lst ((.n a :: .n b::st:List Un).reverse.map uv))) (some (.int j)) (zaE S1 hW _) (zaV A B ok) (by rw [ybd A];lia) (by lia) (by rw [List.length_cons,List.length_cons];lia) (List.getElem?_set_self (yaz eW1))
     rw [eh1,List.set_set] at r ⊢
     show tpR W h (topF ps k c (.n a :: .n b::st)) _
     cases ht:topF ps k c (.n a :: .n b::st) with
     | some st' =>
      rw [ht] at r
      have r' := r
      unfold tpR at r' ⊢
      rw [r',List.set_set]
     | none =>
      rw [ht] at r
      obtain ⟨Z,en,r'⟩:=r
      rw [List.set_set] at r'
      exact ⟨Z,en,r'⟩
theorem zh1 {h:AH} {p W k:Nat} {ps:List Pc} {st:List Un} (S:ShelfAt h p ps) (g:Good ps) (hW:p+8<W) (ok:∀ u∈st,OkU ps u) (ls:st.length<=900000) (eW:h[W]? = some (.lst (st.reverse.map uv))) :
  (∃ st',topF ps k 90 st=some st'/\ybn [.ref p,.ref W,.int k] h = .ok (.bl true) (h.set W (.lst (st'.reverse.map uv)))) \/
  (topF ps k 90 st=none/\∃ Z,ybn [.ref p,.ref W,.int k] h = .ok (.bl false) (h.set W (.lst Z))):=by
 have h82:=yb6 g ok
 have r:=zfP (k:=k) g hW 90 ya1 st h none S ok (by lia) (by decide) (by lia) eW
 cases ht:topF ps k 90 st with
 | some st' =>
  rw [ht] at r
  unfold tpR at r
  dsimp only at r
  refine .inl ⟨st',rfl,?_⟩
  unfold ybn
  generalize yav CN yaF ya1=WL at *
  generalize h.set W (.lst (st'.reverse.map uv))=HF at *
  simp [r]
 | none =>
  rw [ht] at r
  obtain ⟨Z,en,r | r⟩:=r
  ·refine .inr ⟨rfl,Z,?_⟩
   unfold ybn
   generalize yav CN yaF ya1=WL at *
   generalize h.set W (.lst Z)=HF at *
   simp [r]
  ·refine .inr ⟨rfl,Z,?_⟩
   unfold ybn
   generalize yav CN yaF ya1=WL at *
   generalize h.set W (.lst Z)=HF at *
   simp [r]
end Sk
namespace Sk
open PySem PySem.Spec L2 Sm
def psh (z:Str) (st:List Un):List Un:=if z = "" then st else .s z::st
def d1 (ps:List Pc) (st:List Un):List Un:=psh (dpS (nxF ps 90 st).1 1) (nxF ps 90 st).2
def dN (ps:List Pc):Nat->List Un->List Un
 | 0,st=>st
 | m+1,st=>dN ps m (d1 ps st)
theorem yfc (ps:List Pc):∀ (a b:Nat) (st:List Un),dN ps (a+b) st=dN ps b (dN ps a st)
 | 0,b,st=>by rw [Nat.zero_add];rfl
 | a+1,b,st=>by rw [Nat.add_right_comm,dN,dN,yfc ps a b]
theorem za7 {z:Str}:z = "" ↔ z.length=0:=by
 constructor
 ·rintro rfl;rfl
 ·intro h
  refine zaf ?_
  rw [zad] at h
  rw [List.length_eq_zero_iff.mp h];rfl
theorem yge (z:Str) (a b:Nat):dpS (dpS z a) b=dpS z (a+b):=zaf (by rw [ybS,ybS,ybS,List.drop_drop])
theorem nx_s (ps:List Pc) (c:Nat) (z:Str) (st:List Un):nxF ps c (.s z::st)=(z,st):=by cases c<;>rfl
theorem yfU (ps:List Pc):∀ (m:Nat) (z:Str) (st:List Un),m<=z.length->dN ps m (psh z st)=psh (dpS z m) st
 | 0,z,st,_=>by rw [dN,dp_0]
 | m+1,z,st,h=>by
  have ne : ¬ z = "" := fun q=>by rw [za7] at q;lia
  have e:psh z st = .s z::st:=if_neg ne
  rw [dN,d1,e,nx_s]
  show dN ps m (psh (dpS z 1) st)=_
  rw [yfU ps m _ _ (by rw [ycq];lia),yge,Nat.add_comm]
theorem ygf {ps:List Pc} {st st0:List Un} {z:Str} {m:Nat} (e:nxF ps 90 st=(z,st0)) (m1:1<=m) (hm:m<=z.length):dN ps m st=psh (dpS z m) st0:=by
 obtain ⟨j,rfl⟩:∃ j,m=j+1:=⟨m-1,by lia⟩
 rw [dN,d1,e]
 show dN ps j (psh (dpS z 1) st0)=_
 rw [yfU ps j _ _ (by rw [ycq];lia),yge,Nat.add_comm]
theorem yfV (ps:List Pc) (z:Str) (st:List Un):rdS ps (psh z st)=z.cps.toList++rdS ps st:=by
 unfold psh
 split
 ·rename_i q;rw [q];rfl
 ·rfl
theorem yeH {ps:List Pc} {z:Str} {st:List Un} (hz:z.length<=8) (ok:∀ u∈st,OkU ps u):∀ u∈psh z st,OkU ps u:=by
 unfold psh
 split
 ·exact ok
 ·rename_i q
  intro u hu
  rcases List.mem_cons.mp hu with rfl | hu
  ·exact .s (by rw [za7] at q;lia) hz
  ·exact ok u hu
theorem zfQ (z:Str) (st:List Un):(psh z st).length<=st.length+1:=by
 unfold psh
 split
 ·lia
 ·rw [List.length_cons];lia
def tkF (ps:List Pc):Nat->Str->List Un->Option (List Un)
 | 0,_,_=>none
 | c+1,w,st=>if w = "" then some st else
   if min (nxF ps 90 st).1.length w.length=0 \/ ¬ tkS (nxF ps 90 st).1 (min (nxF ps 90 st).1.length w.length)=tkS w (min (nxF ps 90 st).1.length w.length) then none else
    tkF ps c (dpS w (min (nxF ps 90 st).1.length w.length)) (psh (dpS (nxF ps 90 st).1 (min (nxF ps 90 st).1.length w.length)) (nxF ps 90 st).2)
structure TkOk (ps:List Pc) (w:Str) (st st':List Un) (c:Nat):Prop where
 rd:rdS ps st=w.cps.toList++rdS ps st'
 ok:∀ u∈st',OkU ps u
 ln:st'.length<=st.length+91*c
 dn:st'=dN ps w.length st
theorem zbd {ps:List Pc} (g:Good ps):∀ (c:Nat) {w:Str} {st st':List Un},(∀ u∈st,OkU ps u)->tkF ps c w st=some st'->TkOk ps w st st' c
 | 0,w,st,st',_,h=>by cases h
 | c+1,w,st,st',ok,h=>by
  rw [tkF] at h
  by_cases q:w = ""
  ·rw [if_pos q] at h
   cases h
   subst q
   exact ⟨rfl,ok,by lia,rfl⟩
  ·rw [if_neg q] at h
   have N:=yeg g 90 st ok (by have:=yb6 g ok;lia)
   obtain ⟨z,st0,e⟩:∃ z st0,nxF ps 90 st=(z,st0):=⟨_,_,rfl⟩
   rw [e] at h N
   dsimp only at h
   obtain ⟨m,em⟩:∃ m,m=min z.length w.length:=⟨_,rfl⟩
   rw [<- em] at h
   by_cases q2:m=0 \/ ¬ tkS z m=tkS w m
   ·rw [if_pos q2] at h;cases h
   ·rw [if_neg q2] at h
    have m0 : ¬ m=0:=fun z=>q2 (.inl z)
    have tq:tkS z m=tkS w m:=Decidable.byContradiction fun z=>q2 (.inr z)
    have sn:st≠[]:=fun z0=>by
     have:=N.z0 z0
     cases this
     have:("" : Str).length=0:=rfl
     lia
    have zb:=N.z1 sn
    dsimp only at zb
    have okp:=yeH (z:=dpS z m) (st:=st0) (by rw [ycq];lia) N.ok
    have r:=zbd g c okp h
    have rd:=N.rd
    dsimp only at rd
    have nl:=N.ln
    dsimp only at nl
    have pl:=zfQ (dpS z m) st0
    have ct:∀ v:Str,v.cps.toList=(tkS v m).cps.toList++(dpS v m).cps.toList:=fun v=>by rw [ycG,ybS,List.take_append_drop]
    refine ⟨?_,r.ok,by have:=r.ln;lia,?_⟩
    ·have r1:=r.rd
     rw [yfV] at r1
     rw [rd,ct z,tq,ct w,List.append_assoc,List.append_assoc,r1]
    ·rw [r.dn,<- ygf e (by lia) (by lia),<- yfc,ycq]
     congr 1
     lia
theorem zja {a b c d:List Nat} (e:a++b=c++d) {m:Nat} (h1:m<=a.length) (h2:m<=c.length):a.take m=c.take m/\a.drop m++b=c.drop m++d:=by
 have t:=congrArg (List.take m) e
 rw [List.take_append_of_le_length h1,List.take_append_of_le_length h2] at t
 have u:=congrArg (List.drop m) e
 rw [List.drop_append_of_le_length h1,List.drop_append_of_le_length h2] at u
 exact ⟨t,u⟩
theorem zfR {ps:List Pc} (g:Good ps):∀ (c:Nat) {w:Str} {st:List Un} {r:List Nat},(∀ u∈st,OkU ps u)->rdS ps st=w.cps.toList++r->w.length<c->∃ st',tkF ps c w st=some st'
 | 0,w,st,r,_,_,h=>absurd h (Nat.not_lt_zero _)
 | c+1,w,st,r,ok,rd,hc=>by
  rw [tkF]
  by_cases q:w = ""
  ·rw [if_pos q];exact ⟨_,rfl⟩
  ·rw [if_neg q]
   have w1:1<=w.length:=by rw [za7] at q;lia
   have N:=yeg g 90 st ok (by have:=yb6 g ok;lia)
   obtain ⟨z,st0,e⟩:∃ z st0,nxF ps 90 st=(z,st0):=⟨_,_,rfl⟩
   rw [e] at N ⊢
   dsimp only
   have sn:st≠[]:=fun z0=>by
    rw [z0] at rd
    have:=congrArg List.length rd
    rw [List.length_append,<- zad] at this
    have:(rdS ps []).length=0:=rfl
    lia
   have zb:=N.z1 sn
   dsimp only at zb
   have rd2:=N.rd
   dsimp only at rd2
   obtain ⟨m,em⟩:∃ m,m=min z.length w.length:=⟨_,rfl⟩
   rw [<- em]
   have lz:=zad z
   have lw:=zad w
   obtain ⟨t1,t2⟩:=zja (rd2.symm.trans rd) (m:=m) (by lia) (by lia)
   have tq:tkS z m=tkS w m:=zaf t1
   rw [if_neg (by
    rintro (z0 | z0)
    ·lia
    ·exact z0 tq)]
   refine zfR g c (r:=r) (yeH (by rw [ycq];lia) N.ok) ?_ (by rw [ycq];lia)
   rw [yfV,ybS,ybS]
   exact t2
theorem zc7 {ps:List Pc} (g:Good ps) {c:Nat} {w:Str} {st:List Un} {r:List Nat} (ok:∀ u∈st,OkU ps u) (rd:rdS ps st=w.cps.toList++r) (hc:w.length<c):tkF ps c w st=some (dN ps w.length st):=by
 obtain ⟨st',e⟩:=zfR g c ok rd hc
 rw [e,(zbd g c ok e).dn]
end Sk
namespace Sk
open PySem PySem.Spec L2 Sm
theorem zc8 {h:AH} {W:Nat} {o:AO} (e:h[W]? = some o):h.set W o=h:=by
 refine List.ext_getElem? fun i=>?_
 by_cases q:W=i
 ·subst q;rw [List.getElem?_set_self (yaz e),e]
 ·exact List.getElem?_set_ne q
theorem yhy {h:AH} {W:Nat} {st:List Un} (z:Str) (eW:h[W]? = some (.lst (st.reverse.map uv))) (ls:st.length<=1000000):yco [.ref W,.str z] h = .ok .non (h.set W (.lst ((psh z st).reverse.map uv))):=by
 unfold psh
 by_cases q:z = ""
 ·rw [if_pos q,zc8 eW]
  have ne:fNe (.str z) (.str "") h = .ok (.bl false) h:=by rw [q];simp
  simp [yco,ne,-fNe]
 ·rw [if_neg q,yb1]
  have ne:fNe (.str z) (.str "") h = .ok (.bl true) h:=by simp [q]
  have l1:(st.reverse.map uv).length<sizeLine:=Nat.lt_of_le_of_lt (m:=1000000) (by simpa using ls) (by decide)
  have ap:yao (.ref W) [.str z] h = .ok .non (h.set W (.lst (st.reverse.map uv++[.str z]))):=by simp only [yao,eW,l1,if_true]
  have is1:yar (.ref W) h=true:=by simp [eW]
  show _=Out.ok AV.non (h.set W (.lst (st.reverse.map uv++[.str z])))
  generalize h.set W (.lst (st.reverse.map uv++[.str z]))=HF at *
  simp [yco,ne,is1,ap,-fNe,-yar,-yao]
abbrev CP:SB:=yau (sOp2 fNe (sVar 3) (sLit (.str "")))
def tkR (W:Nat) (h:AH) (p:Nat) (w0:Str) (r:Option (List Un)) (o:OutS):Prop:=match r with
 | some st' => ∃ o3 o4 o5,o = .nx [some (.ref p),some (.ref W),some (.str w0),o3,o4,o5] (h.set W (.lst (st'.reverse.map uv)))
 | none=>∃ Z,o = .rt (.bl false) (h.set W (.lst Z))
theorem zfS {p W:Nat} {ps:List Pc} (g:Good ps) (hW:p+8<W) (w0:Str):∀ (c fuel:Nat) (w:Str) (st:List Un) (h:AH) (o4 o5:Option AV),ShelfAt h p ps->(∀ u∈st,OkU ps u)->w.length<c->c<=fuel->st.length+91*c<=900000->h[W]? = some (.lst (st.reverse.map uv)) ->
  tkR W h p w0 (tkF ps c w st) (yav CP yaL fuel [some (.ref p),some (.ref W),some (.str w0),some (.str w),o4,o5] h)
 | 0,fuel,w,st,h,o4,o5,S,ok,hc,hf,ls,eW=>absurd hc (Nat.not_lt_zero _)
 | c+1,0,w,st,h,o4,o5,S,ok,hc,hf,ls,eW=>by lia
 | c+1,fu+1,w,st,h,o4,o5,S,ok,hc,hf,ls,eW=>by
  rw [tkF]
  by_cases q:w = ""
  ·have ne:fNe (.str w) (.str "") h = .ok (.bl false) h:=by rw [q];simp
   rw [if_pos q,yeh (by simp [ne,-fNe])]
   exact ⟨_,_,_,by rw [zc8 eW]⟩
  ·have ne:fNe (.str w) (.str "") h = .ok (.bl true) h:=by simp [q]
   have cn:CP [some (.ref p),some (.ref W),some (.str w0),some (.str w),o4,o5] h = .ok true h:=by simp [ne,-fNe]
   rw [if_neg q]
   have w1:1<=w.length:=by rw [za7] at q;lia
   have N:=yeg g 90 st ok (by have:=yb6 g ok;lia)
   have fn:=yhx S g hW ok (by lia) eW
   obtain ⟨z,st0,e⟩:∃ z st0,nxF ps 90 st=(z,st0):=⟨_,_,rfl⟩
   rw [e] at N fn ⊢
   dsimp only at fn ⊢
   have nl:=N.ln
   dsimp only at nl
   obtain ⟨m,em⟩:∃ m,m=min z.length w.length:=⟨_,rfl⟩
   rw [<- em]
   have S1:ShelfAt (h.set W (.lst (st0.reverse.map uv))) p ps:=zaE S hW _
   have eW1:(h.set W (.lst (st0.reverse.map uv)))[W]? = some (.lst (st0.reverse.map uv)):=List.getElem?_set_self (yaz eW)
   obtain ⟨h1,eh1⟩:∃ h1,h1=h.set W (.lst (st0.reverse.map uv)):=⟨_,rfl⟩
   rw [<- eh1] at fn S1 eW1
   have l1:fLen [.str z] h1 = .ok (.int z.length) h1:=rfl
   have l2:fLen [.str w] h1 = .ok (.int w.length) h1:=rfl
   have mn:ycA [.int z.length,.int w.length] h1 = .ok (.int m) h1:=by
    have:ycA [.int z.length,.int w.length] h1 = .ok (.int (if (w.length:Int)<z.length then (w.length:Int) else z.length)) h1:=rfl
    rw [this]
    by_cases q:w.length<z.length
    ·rw [if_pos (by lia)];congr 2;lia
    ·rw [if_neg (by lia)];congr 2;lia
   have eq0:=eq_n m 0 h1
   have eq0':fEq (.int m) (.int 0) h1 = .ok (.bl (decide (m=0))) h1:=eq0
   have c1:=yfa (x:=z) (a:=m) h1
   have c2:=yfa (x:=w) (a:=m) h1
   have c3:∀ hh,ybk (.str z) (some (m:Int)) none hh = .ok (.str (dpS z m)) hh:=yfb (by lia)
   have c4:∀ hh,ybk (.str w) (some (m:Int)) none hh = .ok (.str (dpS w m)) hh:=yfb (by lia)
   by_cases q1:m=0
   ·rw [if_pos (.inl q1)]
    rw [decide_eq_true q1] at eq0'
    have eb:yaL [some (.ref p),some (.ref W),some (.str w0),some (.str w),o4,o5] h = .rt (.bl false) h1:=by
     generalize (z.length:Int)=ZL at *
     generalize (w.length:Int)=WL at *
     generalize (m:Int)=MM at *
     simp [yaL,fn,l1,l2,mn,eq0',-fLen,-ycA,-fEq]
    rw [ydB cn eb,eh1]
    exact ⟨_,rfl⟩
   ·rw [decide_eq_false q1] at eq0'
    by_cases q2:tkS z m=tkS w m
    ·rw [if_neg (by rintro (a | a);exact q1 a;exact a q2)]
     have n2:fNe (.str (tkS z m)) (.str (tkS w m)) h1 = .ok (.bl false) h1:=by rw [q2];simp
     have pb:=yhy (dpS z m) eW1 (by lia)
     have sn:st≠[]:=fun z0=>by
      have:=N.z0 z0
      cases this
      have:("" : Str).length=0:=rfl
      lia
     have zb:=N.z1 sn
     dsimp only at zb
     have pl:=zfQ (dpS z m) st0
     obtain ⟨h2,eh2⟩:∃ h2,h2=h1.set W (.lst ((psh (dpS z m) st0).reverse.map uv)):=⟨_,rfl⟩
     have S2:ShelfAt h2 p ps:=by rw [eh2];exact zaE S1 hW _
     have eW2:h2[W]? = some (.lst ((psh (dpS z m) st0).reverse.map uv)):=by rw [eh2];exact List.getElem?_set_self (yaz eW1)
     rw [<- eh2] at pb
     have eb:yaL [some (.ref p),some (.ref W),some (.str w0),some (.str w),o4,o5] h = .nx [some (.ref p),some (.ref W),some (.str w0),some (.str (dpS w m)),some (.str z),some (.int m)] h2:=by
      generalize (z.length:Int)=ZL at *
      generalize (w.length:Int)=WL at *
      generalize (m:Int)=MM at *
      simp [yaL,fn,l1,l2,mn,eq0',c1,c2,c3,c4,n2,pb,-fLen,-ycA,-fEq,-fNe,-ybk]
     rw [yeW cn eb]
     have r:=zfS g hW w0 c fu (dpS w m) (psh (dpS z m) st0) h2 (some (.str z)) (some (.int m)) S2 (yeH (by rw [ycq];lia) N.ok) (by rw [ycq];lia) (by lia) (by lia) eW2
     cases ht:tkF ps c (dpS w m) (psh (dpS z m) st0) with
     | some st' =>
      rw [ht] at r
      obtain ⟨a,b,d,r⟩:=r
      exact ⟨a,b,d,by rw [r,eh2,eh1,List.set_set,List.set_set]⟩
     | none =>
      rw [ht] at r
      obtain ⟨Z,r⟩:=r
      exact ⟨Z,by rw [r,eh2,eh1,List.set_set,List.set_set]⟩
    ·rw [if_pos (.inr q2)]
     have n2:fNe (.str (tkS z m)) (.str (tkS w m)) h1 = .ok (.bl true) h1:=by simp [q2]
     have eb:yaL [some (.ref p),some (.ref W),some (.str w0),some (.str w),o4,o5] h = .rt (.bl false) h1:=by
      generalize (z.length:Int)=ZL at *
      generalize (w.length:Int)=WL at *
      generalize (m:Int)=MM at *
      simp [yaL,fn,l1,l2,mn,eq0',c1,c2,n2,-fLen,-ycA,-fEq,-fNe,-ybk]
     rw [ydB cn eb,eh1]
     exact ⟨_,rfl⟩
theorem zh2 {h:AH} {p W:Nat} {ps:List Pc} {st:List Un} {w:Str} (S:ShelfAt h p ps) (g:Good ps) (hW:p+8<W) (ok:∀ u∈st,OkU ps u) (ls:st.length<=890000) (hw:w.length<=8) (eW:h[W]? = some (.lst (st.reverse.map uv))) :
  (∃ st',tkF ps 10 w st=some st'/\yby [.ref p,.ref W,.str w] h = .ok (.bl true) (h.set W (.lst (st'.reverse.map uv)))) \/
  (tkF ps 10 w st=none/\∃ Z,yby [.ref p,.ref W,.str w] h = .ok (.bl false) (h.set W (.lst Z))):=by
 have r:=zfS g hW w 10 ya1 w st h none none S ok (by lia) (by decide) (by lia) eW
 cases ht:tkF ps 10 w st with
 | some st' =>
  rw [ht] at r
  obtain ⟨a,b,d,r⟩:=r
  refine .inl ⟨st',rfl,?_⟩
  unfold yby
  generalize yav CP yaL ya1=WL at *
  generalize h.set W (.lst (st'.reverse.map uv))=HF at *
  simp [r]
 | none =>
  rw [ht] at r
  obtain ⟨Z,r⟩:=r
  refine .inr ⟨rfl,Z,?_⟩
  unfold yby
  generalize yav CP yaL ya1=WL at *
  generalize h.set W (.lst Z)=HF at *
  simp [r]
end Sk
namespace Sk
open PySem PySem.Spec L2 Sm
inductive OkI (ps:List Pc):Un->Prop
 | n {k:Nat} {m f l:Ms} {x:Str} (T:Tx ps k m x f l):OkI ps (.n k)
 | s {z:Str} (a:yba z=true):OkI ps (.s z)
def itF (ps:List Pc):Un->List Un->Option (List Un)
 | .n k,st=>topF ps k 90 st
 | .s w,st=>tkF ps 10 w st
def lbF (ps:List Pc):List Un->List Un->Option (List Un)
 | [],st=>some st
 | i::r,st=>(itF ps i st).bind (lbF ps r)
theorem yfd (ps:List Pc):∀ (a b:List Un) (st:List Un),lbF ps (a++b) st=(lbF ps a st).bind (lbF ps b)
 | [],b,st=>rfl
 | i::a,b,st=>by
  rw [List.cons_append,lbF,lbF]
  cases itF ps i st with
  | none=>rfl
  | some s=>exact yfd ps a b s
theorem zbO {ps:List Pc} (g:Good ps) {i:Un} {st st':List Un} (ok:∀ u∈st,OkU ps u) (e:itF ps i st=some st'):rdS ps st=rdU ps i++rdS ps st'/\(∀ u∈st',OkU ps u)/\st'.length<=st.length+1000:=by
 cases i with
 | n k =>
  obtain ⟨a,b,c⟩:=yfT g 90 ok e
  exact ⟨a,b,by lia⟩
 | s w =>
  have r:=zbd g 10 ok e
  exact ⟨r.rd,r.ok,by have:=r.ln;lia⟩
theorem zcB {ps:List Pc} (g:Good ps):∀ (its:List Un) {st st':List Un},(∀ u∈st,OkU ps u)->lbF ps its st=some st'->rdS ps st=rdS ps its++rdS ps st'/\(∀ u∈st',OkU ps u)
 | [],st,st',ok,e=>by cases e;exact ⟨rfl,ok⟩
 | i::its,st,st',ok,e=>by
  rw [lbF] at e
  obtain ⟨s1,e1,e2⟩:=Option.bind_eq_some_iff.mp e
  obtain ⟨a,b,_⟩:=zbO g ok e1
  obtain ⟨c,d⟩:=zcB g its b e2
  exact ⟨by rw [a,c,rdS,List.append_assoc],d⟩
theorem yhz {h:AH} {p W:Nat} {ps:List Pc} {st:List Un} {i:Un} (S:ShelfAt h p ps) (g:Good ps) (hW:p+8<W) (ok:∀ u∈st,OkU ps u) (oi:OkI ps i) (ls:st.length<=890000) (eW:h[W]? = some (.lst (st.reverse.map uv))) :
  (∃ st',itF ps i st=some st'/\yaJ [.ref p,.ref W,uv i] h = .ok (.bl true) (h.set W (.lst (st'.reverse.map uv)))) \/
  (itF ps i st=none/\∃ Z,yaJ [.ref p,.ref W,uv i] h = .ok (.bl false) (h.set W (.lst Z))):=by
 have ob:=S.ob
 cases oi with
 | @n k m f l x T =>
  have hp:yas [.ref p,.int k] h = .ok (.bl true) h:=by
   rw [yeD S]
   have:=T.n1
   have:=T.le
   rw [decide_eq_true (by lia)]
  show (∃ st',topF ps k 90 st=some st'/\yaJ [.ref p,.ref W,.int k] h=_)\/(topF ps k 90 st=none/\∃ Z,yaJ [.ref p,.ref W,.int k] h=_)
  rcases zh1 (k:=k) S g hW ok (by lia) eW with ⟨st',a,b⟩ | ⟨a,Z,b⟩
  ·refine .inl ⟨st',a,?_⟩
   generalize h.set W (.lst (st'.reverse.map uv))=HF at *
   simp [yaJ,ob,hp,b]
  ·refine .inr ⟨a,Z,?_⟩
   generalize h.set W (.lst Z)=HF at *
   simp [yaJ,ob,hp,b]
 | @s w a =>
  obtain ⟨w1,w8,_⟩:=zaz a
  have hp:yas [.ref p,.str w] h = .ok (.bl false) h:=by
   simp [yas,yaW,ob]
  have sh:ybc [.str w] h = .ok (.bl true) h:=by rw [zbu w h (Nat.le_trans w8 (by decide)),a]
  show (∃ st',tkF ps 10 w st=some st'/\yaJ [.ref p,.ref W,.str w] h=_)\/(tkF ps 10 w st=none/\∃ Z,yaJ [.ref p,.ref W,.str w] h=_)
  rcases zh2 (w:=w) S g hW ok ls w8 eW with ⟨st',a,b⟩ | ⟨a,Z,b⟩
  ·refine .inl ⟨st',a,?_⟩
   generalize h.set W (.lst (st'.reverse.map uv))=HF at *
   simp [yaJ,ob,hp,sh,b]
  ·refine .inr ⟨a,Z,?_⟩
   generalize h.set W (.lst Z)=HF at *
   simp [yaJ,ob,hp,sh,b]
inductive SrcI (h:AH) (its:List Un):AV->Option Nat->Prop
 | ref {B:Nat} (e:h[B]? = some (.lst (its.map uv))):SrcI h its (.ref B) (some B)
 | fl:SrcI h its (.fl (its.map uv)) none
theorem SrcI.live {h:AH} {its:List Un} {v:AV} {w:Option Nat} (s:SrcI h its v w) {hh:AH} (k:∀ i,i<h.length->hh[i]? = h[i]?):ybj w (its.map uv) hh=true:=by
 cases s with
 | ref e=>simp [k _ (yaz e),e]
 | fl=>rfl
theorem SrcI.mono {h hh:AH} {its:List Un} {v:AV} {w:Option Nat} (s:SrcI h its v w) (k:∀ i,i<h.length->hh[i]? = h[i]?):SrcI hh its v w:=by
 cases s with
 | ref e=>exact .ref ((k _ (yaz e)).trans e)
 | fl=>exact .fl
def Bd (ps:List Pc) (H:Nat):List Un->Prop
 | []=>True
 | u::r=>r.length+hU ps (u::r)<=H/\Bd ps H r
theorem Bd.len {ps:List Pc} {H:Nat} {st:List Un} (b:Bd ps H st):st.length<=H+1:=by
 cases st with
 | nil=>exact Nat.zero_le _
 | cons u r =>
  have:=b.1
  rw [List.length_cons];lia
theorem zfT {ps:List Pc} {H j a b:Nat} {m ma mb f l fa la fb lb:Ms} {x y z:Str} {r:List Un} (T:Tx ps j m x f l) (A:Tx ps a ma y fa la) (B:Tx ps b mb z fb lb) (e5:m=ycp ma mb) (h:Bd ps H (.n j::r)):Bd ps H (.n a :: .n b::r):=by
 have h1:=h.1
 rw [ybd T] at h1
 have hh:=congrArg Ms.ht e5
 rw [fmH] at hh
 have a0:=A.ky.ht
 have b0:=B.ky.ht
 refine ⟨?_,?_,h.2⟩
 ·rw [ybd A,List.length_cons];lia
 ·rw [ybd B];lia
theorem ygg {ps:List Pc} (g:Good ps) {H:Nat}:∀ (c:Nat) (st:List Un),(∀ u∈st,OkU ps u)->hU ps st<=c->Bd ps H st->Bd ps H (nxF ps c st).2/\(nxF ps c st).2.length<=H
 | c,[],ok,_,b=>by
  have e:nxF ps c []=((Str.ofString "" : Str),([]:List Un)):=by cases c<;>rfl
  rw [e];exact ⟨trivial,Nat.zero_le _⟩
 | c,.s z::st,ok,_,b=>by
  rw [nx_s]
  have:=b.1
  exact ⟨b.2,by show st.length<=H;lia⟩
 | 0,.n k::st,ok,h,b=>by
  cases ok _ (List.mem_cons_self ..) with
  | @n _ m f l x T=>rw [ybd T] at h;lia
 | c+1,.n k::st,ok,h,b=>by
  cases ok _ (List.mem_cons_self ..) with
  | @n _ m f l x T =>
   have h' := h
   rw [ybd T] at h'
   rcases g.kind T with ⟨e1,e2,e3,e4,e5⟩ | ⟨a,d,ma,mb,y,z,fa,la,fb,lb,e1,e2,e3,A,B,e4,e5,e6⟩
   ·have e:nxF ps (c+1) (.n k::st)=(x,st):=by unfold nxF;rw [e1]
    rw [e]
    have:=b.1
    exact ⟨b.2,by show st.length<=H;lia⟩
   ·have e:nxF ps (c+1) (.n k::st)=nxF ps c (.n a :: .n d::st):=by rw [nxF,e1]
    rw [e]
    have hh:=congrArg Ms.ht e5
    rw [fmH] at hh
    have a0:=A.ky.ht
    have b0:=B.ky.ht
    exact ygg g c (.n a :: .n d::st) (zaV A B ok) (by rw [ybd A];lia) (zfT T A B e5 b)
theorem yfW {ps:List Pc} (g:Good ps) {H k:Nat}:∀ (c:Nat) {st st':List Un},(∀ u∈st,OkU ps u)->topF ps k c st=some st'->Bd ps H st->Bd ps H st'
 | 0,[],st',_,h,_=>by cases h
 | 0,.s _::_,st',_,h,_=>by cases h
 | 0,.n _::_,st',_,h,_=>by cases h
 | c+1,[],st',_,h,_=>by cases h
 | c+1,.s _::_,st',_,h,_=>by cases h
 | c+1,.n j::st,st',ok,h,b=>by
  rw [topF] at h
  by_cases q:j=k
  ·rw [if_pos q] at h
   cases h
   exact b.2
  ·rw [if_neg q] at h
   cases ok _ (List.mem_cons_self ..) with
   | @n _ m f l x T =>
    rcases g.kind T with ⟨e1,_⟩ | ⟨a,d,ma,mb,y,z,fa,la,fb,lb,e1,e2,e3,A,B,e4,e5,e6⟩
    ·rw [e1] at h;cases h
    ·rw [e1] at h
     exact yfW g c (zaV A B ok) h (zfT T A B e5 b)
theorem yhA {ps:List Pc} {H:Nat} {z:Str} {st:List Un} (b:Bd ps H st) (h:st.length<=H):Bd ps H (psh z st):=by
 unfold psh
 split
 ·exact b
 ·exact ⟨h,b⟩
theorem ygh {ps:List Pc} (g:Good ps) {H:Nat}:∀ (c:Nat) {w:Str} {st st':List Un},(∀ u∈st,OkU ps u)->tkF ps c w st=some st'->Bd ps H st->Bd ps H st'
 | 0,w,st,st',_,h,_=>by cases h
 | c+1,w,st,st',ok,h,b=>by
  rw [tkF] at h
  by_cases q:w = ""
  ·rw [if_pos q] at h
   cases h
   exact b
  ·rw [if_neg q] at h
   have N:=yeg g 90 st ok (by have:=yb6 g ok;lia)
   have M:=ygg (H:=H) g 90 st ok (by have:=yb6 g ok;lia) b
   obtain ⟨z,st0,e⟩:∃ z st0,nxF ps 90 st=(z,st0):=⟨_,_,rfl⟩
   rw [e] at h N M
   dsimp only at h M
   obtain ⟨m,em⟩:∃ m,m=min z.length w.length:=⟨_,rfl⟩
   rw [<- em] at h
   by_cases q2:m=0 \/ ¬ tkS z m=tkS w m
   ·rw [if_pos q2] at h;cases h
   ·rw [if_neg q2] at h
    have m0 : ¬ m=0:=fun z=>q2 (.inl z)
    have sn:st≠[]:=fun z0=>by
     have:=N.z0 z0
     cases this
     have:("" : Str).length=0:=rfl
     lia
    have zb:=N.z1 sn
    dsimp only at zb
    exact ygh g c (yeH (by rw [ycq];lia) N.ok) h (yhA M.1 M.2)
theorem yiB {ps:List Pc} (g:Good ps) {H:Nat} {i:Un} {st st':List Un} (ok:∀ u∈st,OkU ps u) (e:itF ps i st=some st') (b:Bd ps H st):Bd ps H st' := by
 cases i with
 | n k=>exact yfW g 90 ok e b
 | s w=>exact ygh g 10 ok e b
def lbR (W:Nat) (hh:AH) (e0:Option AV->En) (r:Option (List Un)) (o:OutS):Prop:=match r with
 | some st' => ∃ o4,o = .nx (e0 o4) (hh.set W (.lst (st'.reverse.map uv)))
 | none=>∃ Z,o = .rt .non (hh.set W (.lst Z))
end Sk
namespace Sk
open PySem PySem.Spec L2 Sm
theorem zfU {ps:List Pc} (g:Good ps):∀ (c d:Nat) (st:List Un),(∀ u∈st,OkU ps u)->hU ps st<=c->hU ps st<=d->nxF ps c st=nxF ps d st
 | c,d,[],_,_,_=>by cases c<;>cases d<;>rfl
 | c,d,.s z::st,_,_,_=>by rw [nx_s,nx_s]
 | 0,d,.n k::st,ok,h,_=>by
  cases ok _ (List.mem_cons_self ..) with
  | @n _ m f l x T=>rw [ybd T] at h;lia
 | c+1,0,.n k::st,ok,_,h=>by
  cases ok _ (List.mem_cons_self ..) with
  | @n _ m f l x T=>rw [ybd T] at h;lia
 | c+1,d+1,.n k::st,ok,h1,h2=>by
  cases ok _ (List.mem_cons_self ..) with
  | @n _ m f l x T =>
   rw [ybd T] at h1 h2
   rcases g.kind T with ⟨e1,e2,e3,e4,e5⟩ | ⟨a,b,ma,mb,y,z,fa,la,fb,lb,e1,e2,e3,A,B,e4,e5,e6⟩
   ·rw [nxF,nxF,e1]
   ·rw [nxF,nxF,e1]
    have hh:=congrArg Ms.ht e5
    rw [fmH] at hh
    have a0:=A.ky.ht
    have b0:=B.ky.ht
    exact zfU g c d (.n a :: .n b::st) (zaV A B ok) (by rw [ybd A];lia) (by rw [ybd A];lia)
theorem zev {ps:List Pc} (g:Good ps) {k:Nat}:∀ (c d:Nat) (st:List Un),(∀ u∈st,OkU ps u)->hU ps st<=c->hU ps st<=d->topF ps k c st=topF ps k d st
 | c,d,[],_,_,_=>by cases c<;>cases d<;>rfl
 | c,d,.s z::st,_,_,_=>by cases c<;>cases d<;>rfl
 | 0,d,.n k::st,ok,h,_=>by
  cases ok _ (List.mem_cons_self ..) with
  | @n _ m f l x T=>rw [ybd T] at h;lia
 | c+1,0,.n k::st,ok,_,h=>by
  cases ok _ (List.mem_cons_self ..) with
  | @n _ m f l x T=>rw [ybd T] at h;lia
 | c+1,d+1,.n j::st,ok,h1,h2=>by
  rw [topF,topF]
  by_cases q:j=k
  ·rw [if_pos q,if_pos q]
  ·rw [if_neg q,if_neg q]
   cases ok _ (List.mem_cons_self ..) with
   | @n _ m f l x T =>
    rw [ybd T] at h1 h2
    rcases g.kind T with ⟨e1,e2,e3,e4,e5⟩ | ⟨a,b,ma,mb,y,z,fa,la,fb,lb,e1,e2,e3,A,B,e4,e5,e6⟩
    ·rw [e1]
    ·rw [e1]
     have hh:=congrArg Ms.ht e5
     rw [fmH] at hh
     have a0:=A.ky.ht
     have b0:=B.ky.ht
     exact zev g c d (.n a :: .n b::st) (zaV A B ok) (by rw [ybd A];lia) (by rw [ybd A];lia)
def Low (k:Nat):List Un->Prop
 | []=>True
 | .n j::r=>j<=k/\Low k r
 | .s z::r=>1<=z.length/\Low k r
def sgl (cs:List Nat):List Un:=cs.map fun c=>.s ⟨#[c]⟩
theorem zew {ps:List Pc} (g:Good ps):∀ (cs:List Nat) {st:List Un} {r:List Nat},(∀ u∈st,OkU ps u)->rdS ps st=cs++r->lbF ps (sgl cs) st=some (dN ps cs.length st)
 | [],st,r,ok,h=>rfl
 | c::cs,st,r,ok,h=>by
  show (tkF ps 10 ⟨#[c]⟩ st).bind (lbF ps (sgl cs))=_
  have e:=zc7 (c:=10) (w:=⟨#[c]⟩) (st:=st) (r:=cs++r) g ok h (by show (1:Nat)<10;decide)
  have s:=zbd g 10 ok e
  rw [e]
  have rd:=s.rd
  rw [h] at rd
  have rd':c::(cs++r)=c::rdS ps (dN ps 1 st):=rd
  have tl:=(List.cons.inj rd').2
  have ok1:∀ u∈dN ps 1 st,OkU ps u:=s.ok
  show lbF ps (sgl cs) (dN ps 1 st)=_
  rw [zew g cs ok1 tl.symm,<- yfc,List.length_cons,Nat.add_comm]
structure SpOk (ps:List Pc) (t:Nat) (its:List Un):Prop where
 ne:its≠[]
 lo:Low t its
 oi:∀ i∈its,OkI ps i
 sp:∀ st,(∀ u∈st,OkU ps u)->lbF ps its (.n t::st)=some st
theorem yfX {ps:List Pc}:∀ (cs:List Nat),(∀ c∈cs,ydi c=true)->∀ i∈sgl cs,OkI ps i
 | [],_,i,hi=>by cases hi
 | c::cs,h,i,hi=>by
  rcases List.mem_cons.mp hi with rfl | hi
  ·refine .s ?_
   have:=h c (List.mem_cons_self ..)
   simp [yba,yaq,this]
   show (1:Nat)<=1/\(1:Nat)<=8
   decide
  ·exact yfX cs (fun d hd=>h d (List.mem_cons_of_mem _ hd)) i hi
inductive Op (ps:List Pc):List Un->List Un->Prop
 | refl (st:List Un):Op ps st st
 | open {s st:List Un} {j a b:Nat} (h:Op ps s (.n j::st)) (e:ps[j-1]? = some (.fork a b)):Op ps s (.n a :: .n b::st)
theorem OkI.u {ps:List Pc} {u:Un} (o:OkI ps u):OkU ps u:=by
 cases o with
 | n T=>exact .n T
 | s a=>exact .s (zaz a).1 (zaz a).2.1
theorem zdH {ps:List Pc} (g:Good ps) {j a b:Nat} {m f l:Ms} {x:Str} (T:Tx ps j m x f l) (e:ps[j-1]? = some (.fork a b)):∃ ma mb y z fa la fb lb,a<j/\Tx ps a ma y fa la/\Tx ps b mb z fb lb/\x=y++z/\m=ycp ma mb:=by
 rcases g.kind T with ⟨q,_⟩ | ⟨a',b',ma,mb,y,z,fa,la,fb,lb,e1,e2,_,A,B,x1,x2,_⟩
 ·rw [e] at q;cases q
 ·rw [e] at e1;cases e1
  exact ⟨ma,mb,y,z,fa,la,fb,lb,e2,A,B,x1,x2⟩
theorem zbP {ps:List Pc} (g:Good ps) {j a b:Nat} {st:List Un} (ok:∀ u∈(.n j::st:List Un),OkI ps u) (e:ps[j-1]? = some (.fork a b)):∀ u∈(.n a :: .n b::st:List Un),OkI ps u:=by
 cases ok _ (List.mem_cons_self ..) with
 | n T =>
  obtain ⟨ma,mb,y,z,fa,la,fb,lb,_,A,B,_⟩:=zdH g T e
  intro u hu
  rcases List.mem_cons.mp hu with rfl | hu
  ·exact .n A
  ·rcases List.mem_cons.mp hu with rfl | hu
   ·exact .n B
   ·exact ok u (List.mem_cons_of_mem _ hu)
theorem yd8 {ps:List Pc} (g:Good ps) {s L:List Un} (o:Op ps s L) (ok:∀ u∈s,OkI ps u):∀ u∈L,OkI ps u:=by
 induction o with
 | refl=>exact ok
 | «open» h e ih=>exact zbP g ih e
theorem okis {ps:List Pc} {s:List Un} (ok:∀ u∈s,OkI ps u):∀ u∈s,OkU ps u:=fun u hu=>(ok u hu).u
theorem yiC {ps:List Pc} (g:Good ps) {s L:List Un} (o:Op ps s L) (ok:∀ u∈s,OkI ps u):nxF ps 90 s=nxF ps 90 L:=by
 induction o with
 | refl=>rfl
 | @«open» st j a b h e ih =>
  rw [ih]
  have k1:=okis (yd8 g h ok)
  have k2:=okis (zbP g (yd8 g h ok) e)
  have q:nxF ps 90 (.n j::st)=nxF ps 89 (.n a :: .n b::st):=by
   show (match ps[j-1]? with
    | some (.fork a b)=>nxF ps 89 (.n a :: .n b::st)
    | some (.leaf z)=>(z,st)
    | none=>("",st))=_
   rw [e]
  rw [q]
  exact zfU g 89 90 _ k2 (by have:=yb6 g k2;lia) (by have:=yb6 g k2;lia)
theorem yhB {ps:List Pc} (g:Good ps) {s L:List Un} (o:Op ps s L) (ok:∀ u∈s,OkI ps u):∀ {k i:Nat} {r:List Un},L = .n i::r->k<=i->topF ps k 90 s=topF ps k 90 L:=by
 induction o with
 | refl=>intro k i r _ _;rfl
 | @«open» st j a b h e ih =>
  intro k i r q hk
  cases q
  have k0:=yd8 g h ok
  have k2:=okis (zbP g k0 e)
  cases k0 _ (List.mem_cons_self ..) with
  | n T =>
   obtain ⟨_,_,_,_,_,_,_,_,hl,_⟩:=zdH g T e
   rw [ih rfl (by lia)]
   have q:topF ps k 90 (.n j::st)=topF ps k 89 (.n a :: .n b::st):=by
    show (if j=k then some st else match ps[j-1]? with
     | some (.fork a b)=>topF ps k 89 (.n a :: .n b::st)
     | _=>none)=_
    rw [if_neg (by lia),e]
   rw [q]
   exact zev g 89 90 _ k2 (by have:=yb6 g k2;lia) (by have:=yb6 g k2;lia)
theorem zjb {ps:List Pc} (g:Good ps) {s L:List Un} {k:Nat} (o:Op ps s (.n k::L)) (ok:∀ u∈s,OkI ps u):itF ps (.n k) s=some L:=by
 show topF ps k 90 s=_
 rw [yhB g o ok rfl (Nat.le_refl _)]
 show (if k=k then some L else _)=_
 rw [if_pos rfl]
theorem zjc {ps:List Pc} (g:Good ps) {s L L0:List Un} {z:Str} {m:Nat} (o:Op ps s L) (ok:∀ u∈s,OkI ps u) (e:nxF ps 90 L=(z,L0)) (m1:1<=m) (hm:m<=z.length) (z8:z.length<=8):itF ps (.s (tkS z m)) s=some (psh (dpS z m) L0):=by
 show tkF ps 10 (tkS z m) s=_
 have en:=(yiC g o ok).trans e
 have lt:(tkS z m).length=m:=by rw [zad,ycG,List.length_take,<- zad];lia
 have N:=yeg g 90 s (okis ok) (by have:=yb6 g (okis ok);lia)
 have rd:=N.rd
 rw [en] at rd
 have rd2:rdS ps s=(tkS z m).cps.toList++(z.cps.toList.drop m++rdS ps L0):=by
  rw [rd,ycG,<- List.append_assoc,List.take_append_drop]
 rw [zc7 g (okis ok) rd2 (by lia),lt,ygf en m1 hm]
theorem yhC {ps:List Pc} {s L:List Un} (o:Op ps s L):s=[] ↔ L=[]:=by
 induction o with
 | refl=>exact Iff.rfl
 | «open» h e ih=>exact ⟨fun q=>(by have:=ih.mp q;cases this),fun q=>(by cases q)⟩
theorem yfY {ps:List Pc} (g:Good ps):∀ (c:Nat) (st:List Un),(∀ u∈st,OkI ps u)->hU ps st<=c->(∀ u∈(nxF ps c st).2,OkI ps u)/\(st≠[]->yba (nxF ps c st).1=true)
 | c,[],ok,_=>by
  have:nxF ps c []=((("" : Str),([]:List Un))):=by cases c<;>rfl
  rw [this]
  exact ⟨fun u hu=>(by cases hu),fun z=>absurd rfl z⟩
 | c,.s z::st,ok,_=>by
  rw [nx_s]
  refine ⟨fun u hu=>ok u (List.mem_cons_of_mem _ hu),fun _=>?_⟩
  cases ok _ (List.mem_cons_self ..) with
  | s a=>exact a
 | 0,.n k::st,ok,h=>absurd h (by show ¬ _+1<=0;lia)
 | c+1,.n k::st,ok,h=>by
  cases ok _ (List.mem_cons_self ..) with
  | @n k m f l x T =>
   rcases g.kind T with ⟨e,_⟩ | ⟨a,b,ma,mb,y,z,fa,la,fb,lb,e,e2,_,A,B,x1,x2,_⟩
   ·have q:nxF ps (c+1) (.n k::st)=(x,st):=by
     show (match ps[k-1]? with
      | some (.fork a b)=>nxF ps c (.n a :: .n b::st)
      | some (.leaf z)=>(z,st)
      | none=>("",st))=_
     rw [e]
    rw [q]
    exact ⟨fun u hu=>ok u (List.mem_cons_of_mem _ hu),fun _=>g.get e⟩
   ·have q:nxF ps (c+1) (.n k::st)=nxF ps c (.n a :: .n b::st):=by
     show (match ps[k-1]? with
      | some (.fork a b)=>nxF ps c (.n a :: .n b::st)
      | some (.leaf z)=>(z,st)
      | none=>("",st))=_
     rw [e]
    rw [q]
    rw [ybd T] at h
    have r:=yfY g c (.n a :: .n b::st) (zbP g ok e) (by
     rw [ybd A]
     have:=A.ky.ht
     have:=B.ky.ht
     rw [x2] at h
     have:(ycp ma mb).ht=max ma.ht mb.ht+1:=rfl
     lia)
    exact ⟨r.1,fun _=>r.2 (fun z=>by cases z)⟩
structure Cs (ps:List Pc) (one items L:List Un):Prop where
 ex:∃ s,lbF ps items one=some s/\(∀ u∈s,OkI ps u)/\Op ps s L
theorem Cs.oki {ps:List Pc} (g:Good ps) {one items L:List Un} (c:Cs ps one items L):∀ u∈L,OkI ps u:=by
 obtain ⟨s,_,ok,o⟩:=c.ex
 exact yd8 g o ok
theorem Cs.opn {ps:List Pc} {one items L L2:List Un} (c:Cs ps one items L) (o:Op ps L L2):Cs ps one items L2:=by
 induction o with
 | refl=>exact c
 | «open» h e ih =>
  obtain ⟨s,a,b,d⟩:=ih.ex
  exact ⟨s,a,b,.open d e⟩
theorem zfV {ps:List Pc} {items one s r:List Un} {i:Un} (e:lbF ps items one=some s) (q:itF ps i s=some r):lbF ps (items++[i]) one=some r:=by
 rw [yfd,e]
 show (itF ps i s).bind (lbF ps [])=_
 rw [q]
 rfl
theorem Cs.num {ps:List Pc} (g:Good ps) {one items L:List Un} {k:Nat} (c:Cs ps one items (.n k::L)):Cs ps one (items++[.n k]) L:=by
 obtain ⟨s,a,b,o⟩:=c.ex
 exact ⟨L,zfV a (zjb g o b),fun u hu=>yd8 g o b u (List.mem_cons_of_mem _ hu),.refl _⟩
theorem zh3 {z:Str} {m:Nat} (h:yaq z=true):yaq (dpS z m)=true:=by
 unfold yaq at h ⊢
 rw [ybS]
 exact List.all_eq_true.mpr fun c hc=>List.all_eq_true.mp h c (List.mem_of_mem_drop hc)
theorem zh4 {z:Str} {m:Nat} (h:yaq z=true):yaq (tkS z m)=true:=by
 unfold yaq at h ⊢
 rw [ycG]
 exact List.all_eq_true.mpr fun c hc=>List.all_eq_true.mp h c (List.mem_of_mem_take hc)
theorem zcC {z:Str} (p:yaq z=true) (a:1<=z.length) (b:z.length<=8):yba z=true:=by simp [yba,p,a,b]
theorem zjd {ps:List Pc} {z:Str} {st:List Un} (p:yaq z=true) (b:z.length<=8) (ok:∀ u∈st,OkI ps u):∀ u∈psh z st,OkI ps u:=by
 unfold psh
 by_cases q:z = ""
 ·rw [if_pos q];exact ok
 ·rw [if_neg q]
  intro u hu
  rcases List.mem_cons.mp hu with rfl | hu
  ·exact .s (zcC p (by rcases Nat.eq_zero_or_pos z.length with w | w;exact absurd (za7.mpr w) q;exact w) b)
  ·exact ok u hu
theorem Cs.txt {ps:List Pc} (g:Good ps) {one items L L0:List Un} {z:Str} {m:Nat} (c:Cs ps one items L) (e:nxF ps 90 L=(z,L0)) (m1:1<=m) (hm:m<=z.length):OkI ps (.s (tkS z m))/\Cs ps one (items++[.s (tkS z m)]) (psh (dpS z m) L0):=by
 have okL:=c.oki g
 obtain ⟨s,a,b,o⟩:=c.ex
 have N:=yfY g 90 L okL (by have:=yb6 g (okis okL);lia)
 rw [e] at N
 have ne:L≠[]:=fun q=>by
  rw [q] at e
  cases e
  exact absurd hm (by show ¬ m<=0;lia)
 obtain ⟨l1,l8,pl⟩:=zaz (show yba z=true from N.2 ne)
 have lt:(tkS z m).length=m:=by rw [zad,ycG,List.length_take,<- zad];lia
 have ld:(dpS z m).length=z.length-m:=by rw [zad,ybS,List.length_drop,<- zad]
 exact ⟨.s (zcC (zh4 pl) (by lia) (by lia)),_,zfV a (zjc g o b e m1 hm l8),zjd (zh3 pl) (by lia) N.1,.refl _⟩
end Sk
namespace Sk
open PySem PySem.Spec L2 Sm
def ya6:List Un->List Un
 | []=>[]
 | .n k::r=>.n k::ya6 r
 | .s w::r=>sgl w.cps.toList++ya6 r
theorem zc9 (ps:List Pc):∀ cs:List Nat,rdS ps (sgl cs)=cs
 | []=>rfl
 | c::cs=>by
  show [c]++rdS ps (sgl cs)=_
  rw [zc9 ps cs]
  rfl
theorem yhD {ps:List Pc} (g:Good ps) {w:Str} {st:List Un} (ok:∀ u∈st,OkU ps u) (w8:w.length<=8):itF ps (.s w) st=lbF ps (sgl w.cps.toList) st:=by
 show tkF ps 10 w st=_
 cases h:tkF ps 10 w st with
 | some s =>
  have T:=zbd g 10 ok h
  rw [zew g _ ok T.rd,<- zad,<- T.dn]
 | none =>
  cases h2:lbF ps (sgl w.cps.toList) st with
  | none=>rfl
  | some s =>
   have rd:=(zcB g _ ok h2).1
   rw [zc9] at rd
   rw [zc7 g ok rd (by lia)] at h
   cases h
theorem zda {ps:List Pc} (g:Good ps):∀ (its:List Un) {st:List Un},(∀ u∈st,OkU ps u)->(∀ i∈its,OkI ps i)->lbF ps its st=lbF ps (ya6 its) st
 | [],st,_,_=>rfl
 | .n k::r,st,ok,oi=>by
  show (itF ps (.n k) st).bind (lbF ps r)=(itF ps (.n k) st).bind (lbF ps (ya6 r))
  cases h:itF ps (.n k) st with
  | none=>rfl
  | some s=>exact zda g r (zbO g ok h).2.1 (fun i hi=>oi i (List.mem_cons_of_mem _ hi))
 | .s w::r,st,ok,oi=>by
  have w8:w.length<=8:=by
   cases oi _ (List.mem_cons_self ..) with
   | s a=>exact (zaz a).2.1
  show (itF ps (.s w) st).bind (lbF ps r)=lbF ps (sgl w.cps.toList++ya6 r) st
  rw [yfd,<- yhD g ok w8]
  cases h:itF ps (.s w) st with
  | none=>rfl
  | some s=>exact zda g r (zbO g ok h).2.1 (fun i hi=>oi i (List.mem_cons_of_mem _ hi))
def yiU:Un->Prop
 | .n _=>True
 | .s w=>w.length=1
inductive Af where
 | bad
 | out
 | at (r:List Un)
def yiD:List Nat->List Un->Af
 | [],us=>.at us
 | _::_,[]=>.out
 | c::cs,.s w::us=>if w=⟨#[c]⟩ then yiD cs us else .bad
 | _::_,.n _::_=>.bad
def AfOk (ps:List Pc) (us L st:List Un):Af->Prop
 | .bad=>lbF ps us L=none
 | .out=>∃ s,lbF ps us L=some s/\s≠[]
 | .at r=>lbF ps us L=lbF ps r st/\∀ u∈r,u∈us
end Sk
namespace Sk
open PySem PySem.Spec L2 Sm
theorem zje (c k:Int) (h:AH):∃ m,ycY [.int c,.int k] h = .ok (.int m) h:=by
 have b1:0<=(c % 1000000007+7919*k+101)*48271 % 2147483647:=Int.emod_nonneg _ (by decide)
 have b2:(c % 1000000007+7919*k+101)*48271 % 2147483647<2147483647:=Int.emod_lt_of_pos _ (by decide)
 refine ⟨(c % 1000000007+7919*k+101)*48271 % 2147483647*((c % 1000000007+7919*k+101)*48271 % 2147483647) % 2147483629*69621 % 2147483647,?_⟩
 generalize he:(c % 1000000007+7919*k+101)*48271 % 2147483647=v at *
 have c1:v.natAbs<18446744073709551616:=by lia
 simp [ycY,he,c1]
theorem yhE {i j:Int} {h:AH} (hi:i.natAbs<2 ^ 4000) (hj:j.natAbs<2 ^ 4000):fMul (.int i) (.int j) h = .ok (.int (i*j)) h:=if_pos (.inr ⟨hi,hj⟩)
theorem zgi (ns:List Int):ydM (ns.map AV.int)=some ns:=by
 induction ns with
 | nil=>rfl
 | cons n r ih=>simp [ih]
abbrev T60:Int:=1000000000000000000000000000000000000000000000000000000000000000000000000000000000000000000000000000000000000000000000000
theorem yhF:(10:Nat) ^ 720<2 ^ 4000:=by decide +kernel
theorem yiE:T60.natAbs<2 ^ 4000:=by decide +kernel
theorem zeV (ns:List Int) (k:Nat) (i:Nat) (c:Nat) (o:Option AV) (h:AH) (hi:i<6) (hc:c<10 ^ (120*i)) (hj:k+i*12<ns.length) :
  ∃ c':Nat,c'<10 ^ (120*(i+1))/\ybJ [some (.fl (ns.map AV.int)),some (.int k),some (.int c),some (.int ((k:Int)+i*12)),o] h = .nx [some (.fl (ns.map AV.int)),some (.int k),some (.int c'),some (.int ((k:Int)+i*12)),o] h:=by
 obtain ⟨s,es⟩:∃ s,ns[k+i*12]? = some s:=⟨ns[k+i*12],by simp [hj]⟩
 have ix:fIx (.fl (ns.map AV.int)) (.int ((k:Int)+i*12)) h = .ok (.int s) h:=by
  rw [show ((k:Int)+i*12)=((k+i*12:Nat):Int) by simp]
  simp only [fIx,zhR es]
 have p1:(10:Nat) ^ (120*i)<=10 ^ 720:=Nat.pow_le_pow_right (by decide) (by lia)
 have m1:((c:Int)).natAbs<2 ^ 4000:=by
  have:=yhF
  exact Nat.lt_trans (show c<10 ^ 720 by lia) this
 have mu:fMul (.int c) (.int T60) h = .ok (.int (c*T60)) h:=yhE m1 yiE
 have r0:0<=s % T60:=Int.emod_nonneg _ (by decide)
 have r1:s % T60<T60:=Int.emod_lt_of_pos _ (by decide)
 obtain ⟨r,er⟩:∃ r:Nat,s % T60=(r:Int):=⟨(s % T60).toNat,(Int.toNat_of_nonneg r0).symm⟩
 have rl:r<10 ^ 120:=by
  have:(r:Int)<T60:=er▸r1
  have e:T60=((10 ^ 120:Nat):Int):=by decide +kernel
  rw [e] at this;exact Int.ofNat_lt.mp this
 obtain ⟨c',ec,lc⟩:∃ c':Nat,(c:Int)*T60+r=(c':Int)/\c'<10 ^ (120*(i+1)):=by
  refine ⟨c*10 ^ 120+r,?_,?_⟩
  ·have e:T60=((10 ^ 120:Nat):Int):=by decide +kernel
   rw [e,Int.natCast_add,Int.natCast_mul]
  ·rw [show 120*(i+1)=120*i+120 by lia,Nat.pow_add]
   have:(c+1)*10 ^ 120<=10 ^ (120*i)*10 ^ 120:=Nat.mul_le_mul_right _ hc
   have e2:(c+1)*10 ^ 120=c*10 ^ 120+10 ^ 120:=Nat.succ_mul _ _
   lia
 refine ⟨c',lc,?_⟩
 have pw:(sOp2 fMul (sOp2 fPow (sLit (.int 10)) (sLit (.int 60))) (sOp2 fPow (sLit (.int 10)) (sLit (.int 60)))) [some (.fl (ns.map AV.int)),some (.int k),some (.int c),some (.int ((k:Int)+i*12)),o] h = .ok (.int T60) h:=by simp
 have md:fMod (.int s) (.int T60) h = .ok (.int r) h:=by simp only [fMod];rw [if_pos (by decide),er]
 clear p1 m1 r0 r1 er rl hc lc hi
 unfold ybJ
 generalize sOp2 fMul (sOp2 fPow (sLit (.int 10)) (sLit (.int 60))) (sOp2 fPow (sLit (.int 10)) (sLit (.int 60)))=PW at *
 generalize T60=t60 at *
 simp [pw,mu,ix,md,ec,-fMul,-fIx,-fMod]
theorem zex (en0:Option AV) (ns:List Int) (k c f j:Int) (h:AH):∃ f',ybK [some (.fl (ns.map AV.int)),some (.int k),some (.int c),some (.int j),some (.int f)] h = .nx [some (.fl (ns.map AV.int)),some (.int k),some (.int c),some (.int j),some (.int f')] h:=by
 obtain ⟨m,hm⟩:=zje (c+1009*k+ns.length) j h
 refine ⟨f*2147483647+m,?_⟩
 have m1:fMul (.int f) (.int 2147483647) h = .ok (.int (f*2147483647)) h:=yhm (by decide)
 have m2:fMul (.int 1009) (.int k) h = .ok (.int (1009*k)) h:=yhl (by decide)
 simp [ybK,hm,m1,m2,-fMul]
theorem zcD (ns:List Int) (hl:ns.length<=63) (k:Nat) (hk:k<=10) (h:AH):∃ N:Int,ybl [.fl (ns.map AV.int),.int k] h = .ok (.ref h.length) (h++[.lst [.int N]]):=by
 obtain ⟨M,eM⟩:∃ M:Nat,M=(if (k:Int)<(ns.length:Int) then ((ns.length:Int)-k-1) / 12+1 else 0).toNat:=⟨_,rfl⟩
 have hM:M<=6/\∀ i,i<M->k+i*12<ns.length:=by
  rw [eM]
  split
  ·refine ⟨by lia,fun i hi=>by lia⟩
  ·refine ⟨by lia,fun i hi=>by simp at hi⟩
 obtain ⟨e1,h1,r1,r2⟩:=ydA (w:=none) (all:=(List.range M).map (fun m:Nat=>AV.int ((k:Int)+m*12))) (t:=.nm 3) (b:=ybJ) (xs:=(List.range M).map (fun m:Nat=>AV.int ((k:Int)+m*12))) (en:=[some (.fl (ns.map AV.int)),some (.int k),some (.int 0),none,none]) (h:=h)
  (fun i en h' => h'=h/\∃ (c:Nat) (o:Option AV),c<10 ^ (120*i)/\en=[some (.fl (ns.map AV.int)),some (.int k),some (.int c),o,none]) ⟨rfl,0,none,by decide,rfl⟩ (fun _ _ _ _=>rfl) (by
   rintro j x en h' hx ⟨rfl,c,o,hc,rfl⟩
   rw [List.getElem?_map] at hx
   obtain ⟨m,em,rfl⟩:=Option.map_eq_some_iff.mp hx
   have hj:j<M:=by
    have:=(List.getElem?_eq_some_iff.mp em).1;simpa using this
   rw [List.getElem?_range hj] at em
   cases em
   obtain ⟨c',l',e⟩:=zeV ns k j c none h' (by have:=hM.1;lia) hc (hM.2 j hj)
   show thn (ybJ [some (.fl (ns.map AV.int)),some (.int k),some (.int c),some (.int ((k:Int)+j*12)),none] h') _
   rw [e]
   exact ⟨rfl,c',_,l',rfl⟩)
 obtain ⟨rfl,c,o,hc,rfl⟩:=r2
 have z1:(k:Int).natAbs<1099511627776:=by lia
 have z2:((ns.length:Nat):Int).natAbs<1099511627776:=by lia
 have it3:ycg (sVar 1) (yah fLen (yab (sVar 0) sNil)) (sLit (.int 12)) [some (.fl (ns.map AV.int)),some (.int k),some (.int 0),none,none] h1 = .ok ((List.range M).map (fun m:Nat=>AV.int ((k:Int)+m*12)),none) h1:=by
  simp only [ycg,sVar,yah,yab,sNil,sLit,Out.bind,fLen,List.getElem?_cons_zero,List.getElem?_cons_succ,lenA]
  rw [if_pos ⟨z1,z2,by decide,by decide⟩,<- eM]
 have f1:=(yca (t:=.nm 3) (b:=ybJ) it3).trans r1
 clear r1 it3
 by_cases hb:(1000000000000000000:Int)<=c
 ·exact ⟨c,by simp [ybl,f1,hb,-sFor]⟩
 ·have cm:=zel (js:=[]) (en:=[some (.fl (ns.map AV.int)),some (.int k),some (.int c),o,none]) (w:=none) (all:=ns.map AV.int) (e:=sOp2 fMod (sVar 0) (sOp2 fPow (sLit (.int 10)) (sLit (.int 18)))) (g:=AV.int) (f:=fun i=>AV.int (i % 1000000000000000000)) (h:=h1) rfl ns [] (by intro i _;simp) (by
    simp only [List.length_nil];exact Nat.le_trans (show 0+ns.length<=63 by lia) (by decide))
  have im:(ns.map fun i=>AV.int (i % 1000000000000000000))=(ns.map fun i=>i % 1000000000000000000).map AV.int:=by simp
  obtain ⟨S,eS⟩:∃ S:Int,S=(ns.map fun i=>i % 1000000000000000000).sum:=⟨_,rfl⟩
  have sm:fSum [.fl (ns.map fun i=>AV.int (i % 1000000000000000000))] h1 = .ok (.int S) h1:=by
   rw [im,eS];simp only [fSum,zgi]
  obtain ⟨e2,h2,s1,s2⟩:=ydA (w:=none) (all:=ybq 0 12) (t:=.nm 3) (b:=ybK) (xs:=ybq 0 12) (en:=[some (.fl (ns.map AV.int)),some (.int k),some (.int (c+S)),o,some (.int 0)]) (h:=h1)
   (fun i en h' => h'=h1/\∃ (f:Int) (o:Option AV),en=[some (.fl (ns.map AV.int)),some (.int k),some (.int (c+S)),o,some (.int f)]) ⟨rfl,0,o,rfl⟩ (fun _ _ _ _=>rfl) (by
    rintro j x en h' hx ⟨rfl,f,o,rfl⟩
    rw [zdB] at hx
    by_cases q:j<12
    ·rw [if_pos q] at hx
     cases hx
     obtain ⟨f',e⟩:=zex none ns k (c+S) f (0+(j:Int)) h'
     show thn (ybK [some (.fl (ns.map AV.int)),some (.int k),some (.int (c+S)),some (.int (0+(j:Int))),some (.int f)] h') _
     rw [e]
     exact ⟨rfl,f',_,rfl⟩
    ·rw [if_neg q] at hx;cases hx)
  obtain ⟨rfl,f,o',rfl⟩:=s2
  have f2:=(yca (t:=.nm 3) (b:=ybK) (zdC (a:=sLit (.int 12)) (en:=[some (.fl (ns.map AV.int)),some (.int k),some (.int (c+S)),o,some (.int 0)]) (h:=h2) (n:=12) rfl (by decide))).trans s1
  refine ⟨f,?_⟩
  simp at cm
  simp [ybl,f1,hb,cm,sm,f2,-sFor,-fSum]
theorem zjf {h:AH} {st:Nat} {n:Int} (m:Nat) (e:h[st]? = some (.lst [.int n])) (hm:0<m) (hm2:m<=10 ^ 50):∃ v:Nat,v<m/\yaC [.ref st,.int m] h = .ok (.int v) (h.set st (.lst [.int (n / m)])):=by
 have a0:atI [AV.int n] 0=some (.int n):=rfl
 have i0:ixN 1 0=some 0:=rfl
 have hm0:(0:Int)<m:=Int.ofNat_lt.mpr hm
 have hm3:m<1606938044258990275541962092341162602522202993782792835301376:=Nat.lt_of_le_of_lt hm2 (by decide)
 refine ⟨(n % m).toNat,?_,?_⟩
 ·have:=Int.emod_lt_of_pos n hm0;have:=Int.emod_nonneg n (show (m:Int)≠0 by lia);lia
 ·rw [Int.toNat_of_nonneg (Int.emod_nonneg n (show (m:Int)≠0 by lia))]
  simp [yaC,e,a0,hm0,hm,hm3,i0]
theorem zh5 {x:Str} {v:Nat} (hv:v<x.length) (hx:yaq x=true) (h:AH):∃ c,ydi c=true/\fIx (.str x) (.int v) h = .ok (.str ⟨#[c]⟩) h:=by
 have hv':v<x.cps.toList.length:=by rw [<- zad];exact hv
 refine ⟨x.cps.toList[v],List.all_eq_true.mp hx _ (List.getElem_mem hv'),?_⟩
 have e:x.cps.toList[v]? = some x.cps.toList[v]:=List.getElem?_eq_getElem hv'
 simp only [fIx,zc0 e]
theorem za8 {hh:AH} {L:Nat} {N:Int} (m:Nat) (e:hh[L]? = some (.lst [.int N])) (hm:0<m) (hm2:m<=10 ^ 50):∃ (v:Nat) (N':Int),v<m/\yaC [.ref L,.int m] hh = .ok (.int v) (hh.set L (.lst [.int N'])):=by
 obtain ⟨v,hv,e1⟩:=zjf m e hm hm2
 exact ⟨v,N / m,hv,e1⟩
theorem zgj {y:Str} {c:Nat} (hy:yaq y=true) (hc:ydi c=true):yaq (y++⟨#[c]⟩)=true/\(y++(⟨#[c]⟩:Str)).length=y.length+1:=by
 refine ⟨?_,by rw [zaq];rfl⟩
 rw [zaT,hy]
 simp [yaq,hc]
def lowS:Str := "abcdefghijklmnopqrstuvwxyz"
def upS:Str := "ABCDEFGHIJKLMNOPQRSTUVWXYZ"
def restS:Str := " !#$&'()*+,-./0123456789:;<=>?\x40[]^_{|}~\n\\"
def sg46:List Str:=["a", "ab", "ab\n", "a \n~",(lowS++upS)++restS]
theorem zby:∀ x∈sg46,yaq x=true/\1<=x.length/\x.length<=200:=by decide +kernel
theorem yfZ:Txt.upper lowS=upS:=by decide +kernel
theorem mup (h:AH):yeB (.str lowS) [] h = .ok (.str upS) h:=by
 have c:(Txt.upper lowS).length<=sizeLine/\(Txt.upper lowS).cps.all (· < 0x110000)=true:=by rw [yfZ];decide +kernel
 show (if (Txt.upper lowS).length<=sizeLine/\(Txt.upper lowS).cps.all (· < 0x110000)=true then Out.ok (AV.str (Txt.upper lowS)) h else .bad)=_
 rw [if_pos c,yfZ]
theorem yhG (v:Nat) (hv:v<5):∃ z:Str,(∀ h,fIx (.fl [.str "a",.str "ab",.str "ab\n",.str "a \n~",.str ((lowS++upS)++restS)]) (.int (v:Int)) h = .ok (.str z) h)/\yaq z=true/\1<=z.length/\z.length<=200:=by
 have:v=0\/v=1\/v=2\/v=3\/v=4:=by lia
 rcases this with rfl | rfl | rfl | rfl | rfl
 ·exact ⟨_,fun _=>rfl,zby _ (by simp [sg46])⟩
 ·exact ⟨_,fun _=>rfl,zby _ (by simp [sg46])⟩
 ·exact ⟨_,fun _=>rfl,zby _ (by simp [sg46])⟩
 ·exact ⟨_,fun _=>rfl,zby _ (by simp [sg46])⟩
 ·exact ⟨_,fun _=>rfl,zby _ (by simp [sg46])⟩
theorem zg2 {hh:AH} {L:Nat} {N:Int} (most:Nat) (hm:most<=1000) (e:hh[L]? = some (.lst [.int N])):∃ (y:Str) (N':Int),ycm [.ref L,.int most] hh = .ok (.str y) (hh.set L (.lst [.int N']))/\yaq y=true/\y.length<=most:=by
 have Ll:=yaz e
 obtain ⟨v,N1,hv,t1⟩:=za8 5 e (by decide) (by decide)
 have t1':yaC [.ref L,.int 5] hh = .ok (.int v) (hh.set L (.lst [.int N1])):=t1
 obtain ⟨z,ez,pz,z1,z2⟩:=yhG v hv
 have e1:(hh.set L (.lst [.int N1]))[L]? = some (.lst [.int N1]):=List.getElem?_set_self Ll
 obtain ⟨k,N2,hk,t2⟩:=za8 (most+1) e1 (Nat.succ_pos _) (Nat.le_trans (Nat.succ_le_succ hm) (by decide))
 rw [List.set_set] at t2
 have t2':yaC [.ref L,.int ((most:Int)+1)] (hh.set L (.lst [.int N1])) = .ok (.int k) (hh.set L (.lst [.int N2])):=by
  have:=t2;rw [Int.natCast_succ] at this;exact this
 obtain ⟨W3,eW3⟩:∃ W3:Str,W3=(lowS++upS)++restS:=⟨_,rfl⟩
 rw [<- eW3] at ez
 obtain ⟨e',h',r1,y,N3,o4,r2,r3,r4,r5⟩:=ydA (w:=none) (all:=ybq 0 k) (t:=.nm 6) (b:=ybE) (xs:=ybq 0 k) (en:=[some (.ref L),some (.int most),some (.str lowS),some (.str W3),some (.str z),some (.str ""),none]) (h:=hh.set L (.lst [.int N2]))
  (fun j en h' => ∃ (y:Str) (N':Int) (o4:Option AV),en=[some (.ref L),some (.int most),some (.str lowS),some (.str W3),some (.str z),some (.str y),o4]/\h'=hh.set L (.lst [.int N'])/\yaq y=true/\y.length=j) ⟨"",N2,none,rfl,rfl,rfl,rfl⟩ (fun _ _ _ _=>rfl) (by
   rintro j u en h' hu ⟨y,N',o4,rfl,rfl,py,ly⟩
   have jk:j<k:=by have:=(List.getElem?_eq_some_iff.mp hu).1;rwa [zbF] at this
   have e3:(hh.set L (.lst [.int N']))[L]? = some (.lst [.int N']):=List.getElem?_set_self Ll
   obtain ⟨t,N4,ht,et⟩:=za8 z.length e3 (by lia) (Nat.le_trans z2 (by decide))
   rw [List.set_set] at et
   obtain ⟨c,pc,ec⟩:=zh5 ht pz (hh.set L (.lst [.int N4]))
   have ad:fAdd (.str y) (.str ⟨#[c]⟩) (hh.set L (.lst [.int N4])) = .ok (.str (y++⟨#[c]⟩)) (hh.set L (.lst [.int N4])):=by
    have:y.length+(⟨#[c]⟩:Str).length<=sizeLine:=Nat.le_trans (m:=1001) (by show y.length+1<=_;lia) (by decide)
    simp only [fAdd,this,if_true]
   have es:ybE [some (.ref L),some (.int most),some (.str lowS),some (.str W3),some (.str z),some (.str y),some u] (hh.set L (.lst [.int N'])) = .nx [some (.ref L),some (.int most),some (.str lowS),some (.str W3),some (.str z),some (.str (y++⟨#[c]⟩)),some u] (hh.set L (.lst [.int N4])):=by
    generalize hh.set L (.lst [.int N4])=h2 at *
    generalize hh.set L (.lst [.int N'])=h1 at *
    simp [ybE,et,ec,ad,-fIx,-fAdd]
   show thn (ybE [some (.ref L),some (.int most),some (.str lowS),some (.str W3),some (.str z),some (.str y),some u] (hh.set L (.lst [.int N']))) _
   rw [es]
   obtain ⟨q1,q2⟩:=zgj py pc
   exact ⟨_,N4,_,rfl,rfl,q1,by rw [q2,ly]⟩)
 rw [zbF] at r5
 have f1:=(yca (t:=.nm 6) (b:=ybE) (zdC (a:=yah yaC (yab (sVar 0) (yab (sOp2 fAdd (sVar 1) (sLit (.int 1))) sNil))) (en:=[some (.ref L),some (.int most),some (.str lowS),some (.str W3),some (.str z),some (.str ""),none]) (h:=hh.set L (.lst [.int N1])) (n:=k) (by simp [t2']) (by lia))).trans r1
 refine ⟨y,N3,?_,r4,by lia⟩
 rw [<- r3]
 subst r2
 have a1:fAdd (.str lowS) (.str upS) hh = .ok (.str (lowS++upS)) hh:=by
  have:lowS.length+upS.length<=sizeLine:=by decide +kernel
  simp only [fAdd,this,if_true]
 have a2:fAdd (.str (lowS++upS)) (.str restS) hh = .ok (.str W3) hh:=by
  have:(lowS++upS).length+restS.length<=sizeLine:=by decide +kernel
  rw [eW3]
  simp only [fAdd,this,if_true]
 have mu:=mup hh
 have el:Str.ofString "abcdefghijklmnopqrstuvwxyz" = lowS:=rfl
 have er:Str.ofString " !#$&'()*+,-./0123456789:;<=>?\x40[]^_{|}~\n\\" = restS:=rfl
 unfold ycm
 rw [el,er]
 generalize sFor (ycM (yah yaC (yab (sVar 0) (yab (sOp2 fAdd (sVar 1) (sLit (.int 1))) sNil)))) (.nm 6) ybE=F1 at *
 generalize hh.set L (.lst [.int N1])=h1 at *
 generalize lowS=LO at *
 generalize upS=UP at *
 generalize restS=RS at *
 generalize LO++UP=LU at *
 simp [mu,a1,a2,t1',ez,f1,-fAdd,-fIx]
structure Gx (p:Nat) (M:List Nat) (h h':AH) (ps ps':List Pc) (k:Nat):Prop where
 sh:ShelfAt h' p ps'
 gd:Good ps'
 pre:ps <+: ps'
 len:ps'.length<=ps.length+k
 fr:∀ i,(i<p\/p+8<i)->i∉M->i<h.length->h'[i]? = h[i]?
 hl:h.length<=h'.length
theorem Gx.refl {p:Nat} {h:AH} {ps:List Pc} (S:ShelfAt h p ps) (g:Good ps) (M:List Nat):Gx p M h h ps ps 0:=⟨S,g,List.prefix_refl _,by lia,fun _ _ _ _=>rfl,Nat.le_refl _⟩
theorem Gx.trans {p:Nat} {M:List Nat} {h h' h'':AH} {ps ps' ps'':List Pc} {k k' k2:Nat} (a:Gx p M h h' ps ps' k) (b:Gx p M h' h'' ps' ps'' k') (hk:k+k'<=k2):Gx p M h h'' ps ps'' k2 :=
 ⟨b.sh,b.gd,a.pre.trans b.pre,by have:=a.len;have:=b.len;lia,fun i hi hn hl=>(b.fr i hi hn (Nat.lt_of_lt_of_le hl a.hl)).trans (a.fr i hi hn hl),Nat.le_trans a.hl b.hl⟩
theorem Gx.set {p L:Nat} {h:AH} {ps:List Pc} (S:ShelfAt h p ps) (g:Good ps) (hL:L<p\/p+8<L) (M:List Nat) (hM:L∈M) (v:AO):Gx p M h (h.set L v) ps ps 0 :=
 ⟨S.keep fun i i1 i8=>List.getElem?_set_ne (by lia),g,List.prefix_refl _,by lia,fun i _ hn _=>List.getElem?_set_ne (fun (z:L=i)=>hn (z▸hM)),by simp⟩
theorem Gx.dd {p:Nat} {M:List Nat} {h h':AH} {ps ps':List Pc} {k k2:Nat} (d:Dd p h h' ps ps' k) (hk:k<=k2):Gx p M h h' ps ps' k2 :=
 ⟨d.sh,d.gd,d.pre,Nat.le_trans d.len (Nat.add_le_add_left hk _),fun i hi _ _=>d.fr i (hi.imp Nat.le_of_lt id),by rw [d.hl];exact Nat.le_refl _⟩
theorem Gx.app {p:Nat} {M:List Nat} {h h':AH} {ps ps':List Pc} {k:Nat} (a:Gx p M h h' ps ps' k) (r:AH):Gx p M h (h' ++ r) ps ps' k :=
 ⟨a.sh.app r,a.gd,a.pre,a.len,fun i hi hn hl=>by rw [List.getElem?_append_left (Nat.lt_of_lt_of_le hl a.hl)];exact a.fr i hi hn hl,by rw [List.length_append];exact Nat.le_trans a.hl (Nat.le_add_right _ _)⟩
theorem Gx.more {p:Nat} {M M':List Nat} {h h':AH} {ps ps':List Pc} {k:Nat} (a:Gx p M h h' ps ps' k) (s:∀ i∈M,i∈M'):Gx p M' h h' ps ps' k :=
 ⟨a.sh,a.gd,a.pre,a.len,fun i hi hn hl=>a.fr i hi (fun z=>hn (s i z)) hl,a.hl⟩
theorem zjg {x:Str} {a:Nat} (h:AH):ybk (.str x) (some (a:Int)) none h = .ok (.str (dpS x a)) h:=by
 by_cases ha:a<=x.length
 ·exact yfb ha h
 ·have:cutS x (some (a:Int)) none=dpS x a:=zaf (by
   unfold cutS
   rw [HT.sIx_nat,HT.sIx_none,ybS]
   rw [zad] at ha
   rw [Nat.min_eq_right (by lia)]
   show (x.cps.toList.drop x.cps.toList.length).take _=_
   rw [List.drop_length,List.drop_of_length_le (by lia),List.take_nil])
  simp only [ybk,this]
theorem yiF (x:Str) (a:Nat):tkS x a++dpS x a=x:=zaf (by rw [zap,ycG,ybS,List.take_append_drop])
theorem yhH {z:Str} (q : ¬ z = ""):1<=z.length:=by
 apply Classical.byContradiction
 intro hc
 apply q
 apply zaf
 rw [zad] at hc
 have:z.cps.toList=[]:=List.length_eq_zero_iff.mp (by lia)
 rw [this];rfl
theorem zjh (z:Str):z++("" : Str)=z:=zaf (by rw [zap];simp;rfl)
theorem zji (z:Str):("" : Str)++z=z:=zaf (by rw [zap];rfl)
theorem zjj {h:AH} {p L W:Nat} {y:Str} (py:yaq y=true) (hy:y.length<=40) (hW:W=h.length) (eL:∃ N:Int,h[L]? = some (.lst [.int N])) (v:Int) :
  ∃ (ws:List Str) (N:Int) (o5:Option AV),yav (yau (sOp2 fNe (sVar 2) (sLit (.str "")))) ybC ya1 [some (.ref p),some (.ref L),some (.str y),some (.int v),some (.ref W),none,none,none] (h++[.lst []]) = .nx [some (.ref p),some (.ref L),some (.str ""),some (.int v),some (.ref W),o5,none,none] (h.set L (.lst [.int N])++[.lst (ws.map AV.str)])/\cat ws=y/\(∀ w∈ws,yaq w=true)/\ws.length<=40:=by
 obtain ⟨N0,eL⟩:=eL
 have Ll:=yaz eL
 have h0:h.set L (.lst [.int N0])=h:=by
  apply List.ext_getElem?
  intro i
  by_cases q:i=L
  ·subst q;rw [List.getElem?_set_self Ll,eL]
  ·rw [List.getElem?_set_ne (by lia)]
 obtain ⟨e',h',q1,ws,N,o5,q2,q3,q4,q5,q6⟩:=zfw (c:=yau (sOp2 fNe (sVar 2) (sLit (.str "")))) (b:=ybC) (fuel:=ya1) (n:=y.length) (en:=[some (.ref p),some (.ref L),some (.str y),some (.int v),some (.ref W),none,none,none]) (h:=h++[.lst []])
  (fun n en hh=>∃ (ws:List Str) (z:Str) (N:Int) (o5:Option AV),hh=h.set L (.lst [.int N])++[.lst (ws.map AV.str)]/\en=[some (.ref p),some (.ref L),some (.str z),some (.int v),some (.ref W),o5,none,none]/\cat ws++z=y/\(∀ w∈ws,yaq w=true)/\yaq z=true/\n=z.length/\ws.length+z.length<=40)
  (fun en hh=>∃ (ws:List Str) (N:Int) (o5:Option AV),hh=h.set L (.lst [.int N])++[.lst (ws.map AV.str)]/\en=[some (.ref p),some (.ref L),some (.str ""),some (.int v),some (.ref W),o5,none,none]/\cat ws=y/\(∀ w∈ws,yaq w=true)/\ws.length<=40)
  ⟨[],y,N0,none,by rw [h0];rfl,rfl,zji y,fun _ z=>(nomatch z),py,rfl,by simpa using hy⟩ (Nat.lt_of_le_of_lt hy (by decide)) (by
   rintro n en hh ⟨ws,z,N,o5,eh,een,cz,pw,pz,en',lw⟩
   have c:yau (sOp2 fNe (sVar 2) (sLit (.str ""))) en hh = .ok (!decide (z = "")) hh:=by
    subst een
    simp
   rw [c]
   by_cases q:z = ""
   ·have:(!decide (z = ""))=false:=by simp [q]
    rw [this]
    subst q
    exact ⟨ws,N,o5,eh,een,by rw [<- cz,zjh],pw,by lia⟩
   ·have:(!decide (z = ""))=true:=by simp [q]
    rw [this]
    have z1:=yhH q
    have e1:hh[L]? = some (.lst [.int N]):=by rw [eh,List.getElem?_append_left (by simpa using Ll)];exact List.getElem?_set_self Ll
    obtain ⟨d,N',hd,t⟩:=za8 12 e1 (by decide) (by decide)
    have t':yaC [.ref L,.int 12] hh = .ok (.int d) (hh.set L (.lst [.int N'])):=t
    have eh2:hh.set L (.lst [.int N'])=h.set L (.lst [.int N'])++[.lst (ws.map AV.str)]:=by
     rw [eh,List.set_append_left _ _ (by simpa using Ll),List.set_set]
    rw [eh2] at t'
    have lW:(h.set L (.lst [.int N'])).length=W:=by simp [hW]
    have eW:(h.set L (.lst [.int N'])++[AO.lst (ws.map AV.str)])[W]? = some (.lst (ws.map AV.str)):=by rw [<- lW];simp
    have eS:(h.set L (.lst [.int N'])++[AO.lst (ws.map AV.str)]).set W (.lst ((ws++[tkS z (1+d)]).map AV.str))=h.set L (.lst [.int N'])++[.lst ((ws++[tkS z (1+d)]).map AV.str)]:=by rw [<- lW];simp
    have ap:yao (.ref W) [.str (tkS z (1+d))] (h.set L (.lst [.int N'])++[AO.lst (ws.map AV.str)]) = .ok .non (h.set L (.lst [.int N'])++[.lst ((ws++[tkS z (1+d)]).map AV.str)]):=by
     have sz:(ws.map AV.str).length<sizeLine:=Nat.lt_of_le_of_lt (m:=40) (by simp;lia) (by decide)
     rw [<- eS]
     simp only [yao,eW,sz,if_true,List.map_append,List.map_cons,List.map_nil]
    have il:yar (.ref W) (h.set L (.lst [.int N'])++[AO.lst (ws.map AV.str)])=true:=by simp only [yar,yce,eW];rfl
    generalize hk1:h.set L (.lst [.int N'])++[AO.lst (ws.map AV.str)]=h1 at *
    generalize hk2:h.set L (.lst [.int N'])++[AO.lst ((ws++[tkS z (1+d)]).map AV.str)]=h2 at *
    have c1:ybk (.str z) none (some (1+(d:Int))) h1 = .ok (.str (tkS z (1+d))) h1:=by
     have:=yfa (x:=z) (a:=1+d) h1
     rw [Int.natCast_add] at this;exact this
    have c2:ybk (.str z) (some (1+(d:Int))) none h2 = .ok (.str (dpS z (1+d))) h2:=by
     have:=zjg (x:=z) (a:=1+d) h2
     rw [Int.natCast_add] at this;exact this
    have eB:ybC en hh = .nx [some (.ref p),some (.ref L),some (.str (dpS z (1+d))),some (.int v),some (.ref W),some (.int (1+(d:Int))),none,none] h2:=by
     subst een
     simp [ybC,t',il,c1,ap,c2,-yar,-ybk,-yao]
    show thn (ybC en hh) _
    rw [eB]
    have dl:=ycq z (1+d)
    refine ⟨(dpS z (1+d)).length,by lia,ws++[tkS z (1+d)],dpS z (1+d),N',_,hk2.symm,rfl,?_,?_,zh0 pz _,rfl,by simp;lia⟩
    ·rw [zbx,zcg,zaj,yiF,cz]
    ·intro w hw
     rcases List.mem_append.mp hw with hw | hw
     ·exact pw w hw
     ·rw [List.mem_singleton.mp hw];exact zhZ pz _)
 exact ⟨ws,N,o5,by rw [q1,q2,q3],q4,q5,q6⟩
theorem zfW:∀ (ws:List Str) (w:Str),w∈ws->w.length<=(cat ws).length
 | [],w,h=>nomatch h
 | v::ws,w,h=>by
  show _<=(v++cat ws).length
  rw [zaq]
  rcases List.mem_cons.mp h with rfl | h
  ·lia
  ·have:=zfW ws w h;lia
theorem zdI {h:AH} {p n:Nat} {ps:List Pc} {x w:Str} (S:ShelfAt h p ps) (g:Good ps) (T:TxZ ps n x) (hx:x.length<=2000) (pw:yaq w=true) (hw:w.length<=40) (hz:ps.length<13900000) (o1 o2 o3 o4 o5:Option AV) :
  (∃ (n':Nat) (ps':List Pc) (h':AH),ybu [some (.ref p),o1,o2,o3,o4,o5,some (.int n),some (.str w)] h = .nx [some (.ref p),o1,o2,o3,o4,o5,some (.int n'),some (.str w)] h'/\Gx p [] h h' ps ps' 1500/\TxZ ps' n' (x++w)) /\
  (∃ (n':Nat) (ps':List Pc) (h':AH),ybv [some (.ref p),o1,o2,o3,o4,o5,some (.int n),some (.str w)] h = .nx [some (.ref p),o1,o2,o3,o4,o5,some (.int n'),some (.str w)] h'/\Gx p [] h h' ps ps' 1500/\TxZ ps' n' (w++x)):=by
 obtain ⟨b,ps1,h1,eb,D,T1⟩:=zfJ S g pw (by lia) (by lia)
 have l1:=D.len
 have T0:=T.pre D.pre
 have j1:=zeu D.gd T0 T1
 have j2:=zeu D.gd T1 T0
 obtain ⟨n1,ps2,h2,d1,T2⟩:=zet D.sh D.gd T0 T1 (by lia) (by lia)
 obtain ⟨n2,ps3,h3,d2,T3⟩:=zet D.sh D.gd T1 T0 (by lia) (by lia)
 have e1:=d1.ev
 have e2:=d2.ev
 exact ⟨⟨n1,ps2,h2,by simp [ybu,eb,e1],(Gx.dd (M:=[]) D (Nat.le_refl _)).trans (Gx.dd d1.dd j1) (by lia),T2⟩,⟨n2,ps3,h3,by simp [ybv,eb,e2],(Gx.dd (M:=[]) D (Nat.le_refl _)).trans (Gx.dd d2.dd j2) (by lia),T3⟩⟩
theorem zdJ {α:Type} {xs:List α} {j:Nat} {w:α} (e:xs[j]? = some w):xs.take (j+1)=xs.take j++[w]:=by
 rw [List.take_succ,e];rfl
theorem zjk {h:AH} {p W:Nat} {ps:List Pc} {ws:List Str} (S:ShelfAt h p ps) (g:Good ps) (hW:p+8<W) (eW:h[W]? = some (.lst (ws.map AV.str))) (pw:∀ w∈ws,yaq w=true) (lw:∀ w∈ws,w.length<=40) (hl:ws.length<=40) (hz:ps.length<13000000) (o1 o2 o3 o4 o5:Option AV) :
  ∃ (n:Nat) (ps':List Pc) (h':AH) (o7:Option AV),ya0 (some W) (ws.map AV.str) (.nm 7) ybu (ws.map AV.str) [some (.ref p),o1,o2,o3,o4,o5,some (.int 0),none] h = .nx [some (.ref p),o1,o2,o3,o4,o5,some (.int n),o7] h'/\Gx p [] h h' ps ps' 60000/\TxZ ps' n (cat ws):=by
 obtain ⟨e',h',r1,r2⟩:=ydA (w:=some W) (all:=ws.map AV.str) (t:=.nm 7) (b:=ybu) (xs:=ws.map AV.str) (en:=[some (.ref p),o1,o2,o3,o4,o5,some (.int 0),none]) (h:=h)
  (fun j en hh=>∃ (n:Nat) (ps':List Pc) (o7:Option AV),en=[some (.ref p),o1,o2,o3,o4,o5,some (.int n),o7]/\Gx p [] h hh ps ps' (1500*j)/\TxZ ps' n (cat (ws.take j))/\(cat (ws.take j)).length<=40*j)
  ⟨0,ps,none,rfl,Gx.refl S g [],.inl ⟨rfl,rfl⟩,Nat.zero_le _⟩ (by
   rintro j en hh ⟨n,ps',o7,_,G,_⟩
   have:hh[W]? = some (.lst (ws.map AV.str)):=(G.fr W (.inr hW) (by simp) (yaz eW)).trans eW
   simp [this]) (by
   rintro j u en hh hu ⟨n,ps',o7,rfl,G,T,lc⟩
   rw [List.getElem?_map] at hu
   obtain ⟨w,ew,rfl⟩:=Option.map_eq_some_iff.mp hu
   have hj:=(List.getElem?_eq_some_iff.mp ew).1
   have mw:=List.mem_of_getElem? ew
   have gl:=G.len
   obtain ⟨n',ps2,h2,e,G2,T2⟩:=(zdI G.sh G.gd T (by lia) (pw w mw) (lw w mw) (by lia) o1 o2 o3 o4 o5).1
   have ts:cat (ws.take (j+1))=cat (ws.take j)++w:=by rw [zdJ ew,zbx,zcg]
   show thn (ybu [some (.ref p),o1,o2,o3,o4,o5,some (.int n),some (.str w)] hh) _
   rw [e]
   exact ⟨n',ps2,_,rfl,G.trans G2 (by lia),by rw [ts];exact T2,by rw [ts,zaq];have:=lw w mw;lia⟩)
 rw [List.length_map] at r2
 obtain ⟨n,ps',o7,rfl,G,T,_⟩:=r2
 rw [List.take_length] at T
 exact ⟨n,ps',h',o7,r1,{ G with len:=by have:=G.len;lia },T⟩
theorem zh6 {h:AH} {p W:Nat} {ps:List Pc} {ws:List Str} (S:ShelfAt h p ps) (g:Good ps) (hW:p+8<W) (eW:h[W]? = some (.lst (ws.map AV.str))) (pw:∀ w∈ws,yaq w=true) (lw:∀ w∈ws,w.length<=40) (hl:ws.length<=40) (hz:ps.length<13000000) (o1 o2 o3 o4 o5:Option AV) :
  ∃ (n:Nat) (ps':List Pc) (h':AH) (o7:Option AV),ya0 (some W) (ws.map AV.str) (.nm 7) ybv (ws.map AV.str).reverse [some (.ref p),o1,o2,o3,o4,o5,some (.int 0),none] h = .nx [some (.ref p),o1,o2,o3,o4,o5,some (.int n),o7] h'/\Gx p [] h h' ps ps' 60000/\TxZ ps' n (cat ws):=by
 rw [<- List.map_reverse]
 obtain ⟨vs,ev⟩:∃ vs,vs=ws.reverse:=⟨_,rfl⟩
 rw [<- ev]
 have lv:vs.length=ws.length:=by rw [ev,List.length_reverse]
 obtain ⟨e',h',r1,r2⟩:=ydA (w:=some W) (all:=ws.map AV.str) (t:=.nm 7) (b:=ybv) (xs:=vs.map AV.str) (en:=[some (.ref p),o1,o2,o3,o4,o5,some (.int 0),none]) (h:=h)
  (fun j en hh=>∃ (n:Nat) (ps':List Pc) (o7:Option AV),en=[some (.ref p),o1,o2,o3,o4,o5,some (.int n),o7]/\Gx p [] h hh ps ps' (1500*j)/\TxZ ps' n (cat (vs.take j).reverse)/\(cat (vs.take j).reverse).length<=40*j)
  ⟨0,ps,none,rfl,Gx.refl S g [],.inl ⟨rfl,rfl⟩,Nat.zero_le _⟩ (by
   rintro j en hh ⟨n,ps',o7,_,G,_⟩
   have:hh[W]? = some (.lst (ws.map AV.str)):=(G.fr W (.inr hW) (by simp) (yaz eW)).trans eW
   simp [this]) (by
   rintro j u en hh hu ⟨n,ps',o7,rfl,G,T,lc⟩
   rw [List.getElem?_map] at hu
   obtain ⟨w,ew,rfl⟩:=Option.map_eq_some_iff.mp hu
   have hj:=(List.getElem?_eq_some_iff.mp ew).1
   have mw:w∈ws:=by have:=List.mem_of_getElem? ew;rw [ev] at this;exact List.mem_reverse.mp this
   have gl:=G.len
   obtain ⟨n',ps2,h2,e,G2,T2⟩:=(zdI G.sh G.gd T (by lia) (pw w mw) (lw w mw) (by lia) o1 o2 o3 o4 o5).2
   have ts:cat (vs.take (j+1)).reverse=w++cat (vs.take j).reverse:=by rw [zdJ ew,List.reverse_append];rfl
   show thn (ybv [some (.ref p),o1,o2,o3,o4,o5,some (.int n),some (.str w)] hh) _
   rw [e]
   exact ⟨n',ps2,_,rfl,G.trans G2 (by lia),by rw [ts];exact T2,by rw [ts,zaq];have:=lw w mw;lia⟩)
 rw [List.length_map] at r2
 obtain ⟨n,ps',o7,rfl,G,T,_⟩:=r2
 rw [List.take_length,ev,List.reverse_reverse] at T
 exact ⟨n,ps',h',o7,r1,{ G with len:=by have:=G.len;lia },T⟩
theorem yhI {h:AH} {p L:Nat} {ps:List Pc} {y:Str} (S:ShelfAt h p ps) (g:Good ps) (hL:p+8<L) (eL:∃ N:Int,h[L]? = some (.lst [.int N])) (py:yaq y=true) (hy:y.length<=40) (hz:ps.length<13000000) :
  ∃ (n:Nat) (ps':List Pc) (h':AH),yci [.ref p,.ref L,.str y] h = .ok (.int n) h'/\Gx p [L] h h' ps ps' 60000/\TxZ ps' n y:=by
 obtain ⟨N,eL⟩:=eL
 have Ll:=yaz eL
 obtain ⟨u,N1,hu,t1⟩:=za8 3 eL (by decide) (by decide)
 have t1':yaC [.ref L,.int 3] h = .ok (.int u) (h.set L (.lst [.int N1])):=t1
 have G1:Gx p [L] h (h.set L (.lst [.int N1])) ps ps 0:=Gx.set S g (.inr hL) [L] (by simp) _
 have e1:(h.set L (.lst [.int N1]))[L]? = some (.lst [.int N1]):=List.getElem?_set_self Ll
 have l1:L<(h.set L (.lst [.int N1])).length:=yaz e1
 generalize h.set L (.lst [.int N1])=h1 at *
 by_cases q0:u=0
 ·subst q0
  obtain ⟨n,ps2,h2,eb,D,T⟩:=zfJ G1.sh G1.gd py (by lia) (by lia)
  exact ⟨n,ps2,h2,by simp [yci,t1',eb],G1.trans (Gx.dd D (Nat.le_refl _)) (by lia),T⟩
 ·obtain ⟨ws,N2,o5,ew,cw,pw,lw⟩:=zjj (p:=p) (W:=h1.length) py hy rfl ⟨N1,e1⟩ u
  have G2:Gx p [L] h1 (h1.set L (.lst [.int N2])) ps ps 0:=Gx.set G1.sh G1.gd (.inr hL) [L] (by simp) _
  have lnW:(h1.set L (.lst [.int N2])).length=h1.length:=by simp
  have G3:=(G1.trans G2 (Nat.le_refl _)).app [.lst (ws.map AV.str)]
  have eW:(h1.set L (.lst [.int N2])++[AO.lst (ws.map AV.str)])[h1.length]? = some (.lst (ws.map AV.str)):=by rw [<- lnW];simp
  generalize h1.set L (.lst [.int N2])++[AO.lst (ws.map AV.str)]=h3 at *
  have wl:∀ w∈ws,w.length<=40:=fun w hw=>by have:=zfW ws w hw;rw [cw] at this;lia
  have lm:(ybH sNil) [some (.ref p),some (.ref L),some (.str y),some (.int u),none,none,none,none] h1 = .ok (.ref h1.length) (h1++[.lst []]):=rfl
  have z0:fEq (.int u) (.int 0) h1 = .ok (.bl false) h1:=by simp [q0]
  by_cases q1:u=1
  ·have z1:fEq (.int u) (.int 1) h3 = .ok (.bl true) h3:=by simp [q1]
   obtain ⟨n,ps4,h4,o7,ef,G4,T⟩:=zjk G3.sh G3.gd (by lia) eW pw wl lw (by lia) (some (.ref L)) (some (.str "")) (some (.int u)) (some (.ref h1.length)) o5
   have it:iVal (sVar 4) [some (.ref p),some (.ref L),some (.str ""),some (.int u),some (.ref h1.length),o5,some (.int 0),none] h3 = .ok (ws.map AV.str,some h1.length) h3:=by simp [eW]
   have f1:=(yca (t:=.nm 7) (b:=ybu) it).trans ef
   refine ⟨n,ps4,h4,?_,G3.trans (G4.more (fun _ z=>(nomatch z))) (by lia),by rw [<- cw];exact T⟩
   unfold yci
   generalize sFor (iVal (sVar 4)) (.nm 7) ybu=F1 at *
   generalize ydU (sVar 4) (.nm 7) ybv=F2 at *
   generalize yav (yau (sOp2 fNe (sVar 2) (sLit (.str "")))) ybC ya1=WH at *
   generalize ybH sNil=LM at *
   generalize h1++[AO.lst []]=h2 at *
   simp [t1',z0,lm,ew,z1,f1,-fEq]
  ·have z1:fEq (.int u) (.int 1) h3 = .ok (.bl false) h3:=by
    have : ¬ (u:Int)=1:=by lia
    simp [this]
   obtain ⟨n,ps4,h4,o7,ef,G4,T⟩:=zh6 G3.sh G3.gd (by lia) eW pw wl lw (by lia) (some (.ref L)) (some (.str "")) (some (.int u)) (some (.ref h1.length)) o5
   have f2:ydU (sVar 4) (.nm 7) ybv [some (.ref p),some (.ref L),some (.str ""),some (.int u),some (.ref h1.length),o5,some (.int 0),none] h3 = .nx [some (.ref p),some (.ref L),some (.str ""),some (.int u),some (.ref h1.length),o5,some (.int n),o7] h4:=by
    rw [<- ef]
    have v4:sVar 4 [some (.ref p),some (.ref L),some (.str ""),some (.int u),some (.ref h1.length),o5,some (.int 0),none] h3 = .ok (.ref h1.length) h3:=rfl
    unfold ydU
    rw [v4]
    dsimp only
    rw [eW]
   refine ⟨n,ps4,h4,?_,G3.trans (G4.more (fun _ z=>(nomatch z))) (by lia),by rw [<- cw];exact T⟩
   unfold yci
   generalize sFor (iVal (sVar 4)) (.nm 7) ybu=F1 at *
   generalize ydU (sVar 4) (.nm 7) ybv=F2 at *
   generalize yav (yau (sOp2 fNe (sVar 2) (sLit (.str "")))) ybC ya1=WH at *
   generalize ybH sNil=LM at *
   generalize h1++[AO.lst []]=h2 at *
   simp [t1',z0,lm,ew,z1,f2,-fEq]
end Sk
namespace Sk
open PySem PySem.Spec L2 Sm
theorem yiG {h:AH} {W:Nat} {st:List Un} (e:h[W]? = some (.lst (st.reverse.map uv))):fEq (.ref W) (.fl []) h = .ok (.bl (decide (st=[]))) h:=by
 show (match eqA (.ref W) (.fl []) h with | some b=>Out.ok (AV.bl b) h | none=>Out.bad)=_
 rw [yeF e]
 cases st with
 | nil=>rfl
 | cons a b=>simp
theorem yeI {ps:List Pc} {t:Nat} {m f l:Ms} {x:Str} (T:Tx ps t m x f l):∀ u∈([.n t]:List Un),OkU ps u:=fun u hu=>by rw [List.mem_singleton] at hu;subst hu;exact .n T
abbrev cS (c:Nat):AV:=.str ⟨#[c]⟩
theorem yhJ (cs:List Nat):(sgl cs).map uv=cs.map cS:=by
 unfold sgl
 rw [List.map_map]
 rfl
theorem zav:∀ a b:List Un,ya6 (a++b)=ya6 a++ya6 b
 | [],b=>rfl
 | .n k::a,b=>by rw [List.cons_append,ya6,ya6,zav a b,List.cons_append]
 | .s w::a,b=>by rw [List.cons_append,ya6,ya6,zav a b,List.append_assoc]
theorem eqi (a b:Int) (h:AH):fEq (.int a) (.int b) h = .ok (.bl (decide (a=b))) h:=by simp
theorem neg1 (h:AH):fNeg (.int 1) h = .ok (.int (-1)) h:=rfl
end Sk
namespace Sk
open PySem PySem.Spec L2 Sm
structure Fr (L:Nat) (h h':AH):Prop where
 fr:∀ i,i<h.length->i≠L->h'[i]? = h[i]?
 hl:h.length<=h'.length
 ro:∃ N:Int,h'[L]? = some (.lst [.int N])
theorem Fr.trans {L:Nat} {h h' h'':AH} (a:Fr L h h') (b:Fr L h' h''):Fr L h h'' :=
 ⟨fun i hi n=>(b.fr i (Nat.lt_of_lt_of_le hi a.hl) n).trans (a.fr i hi n),Nat.le_trans a.hl b.hl,b.ro⟩
theorem Fr.app {L:Nat} {h h':AH} (a:Fr L h h') (r:AH):Fr L h (h' ++ r):=by
 obtain ⟨N,e⟩:=a.ro
 exact ⟨fun i hi n=>by rw [List.getElem?_append_left (Nat.lt_of_lt_of_le hi a.hl)];exact a.fr i hi n,by rw [List.length_append];have:=a.hl;lia,N,by rw [List.getElem?_append_left (yaz e)];exact e⟩
theorem Fr.set {L:Nat} {h h':AH} (a:Fr L h h') (N':Int):Fr L h (h'.set L (.lst [.int N'])):=by
 obtain ⟨N,e⟩:=a.ro
 exact ⟨fun i hi n=>by rw [List.getElem?_set_ne (Ne.symm n)];exact a.fr i hi n,by rw [List.length_set];exact a.hl,N',List.getElem?_set_self (yaz e)⟩
theorem Fr.new {L R:Nat} {h h':AH} (a:Fr L h h') (hR:h.length<=R) (hL:L<h.length) (o:AO):Fr L h (h'.set R o):=by
 obtain ⟨N,e⟩:=a.ro
 exact ⟨fun i hi n=>by rw [List.getElem?_set_ne (by lia)];exact a.fr i hi n,by rw [List.length_set];exact a.hl,N,by rw [List.getElem?_set_ne (by lia)];exact e⟩
theorem Fr.take {L:Nat} {h h':AH} (a:Fr L h h') (m:Nat) (hm:0<m) (hm2:m<=10 ^ 50):∃ (v:Nat) (N:Int),v<m/\yaC [.ref L,.int m] h' = .ok (.int v) (h'.set L (.lst [.int N]))/\Fr L h (h'.set L (.lst [.int N])):=by
 obtain ⟨N,e⟩:=a.ro
 obtain ⟨v,N',hv,t⟩:=za8 m e hm hm2
 exact ⟨v,N',hv,t,a.set N'⟩
theorem zdK:∀ cs:List Nat,ya6 (sgl cs)=sgl cs
 | []=>rfl
 | c::cs=>by
  show sgl [c]++ya6 (sgl cs)=_
  rw [zdK cs];rfl
theorem zey {ps:List Pc}:∀ {st:List Un},(∀ u∈st,OkU ps u)->st.length<=(rdS ps st).length
 | [],_=>Nat.le_refl _
 | u::st,ok=>by
  have a:=(ok u (List.mem_cons_self ..)).pos
  have b:=zey (st:=st) fun v hv=>ok v (List.mem_cons_of_mem _ hv)
  rw [rdS,List.length_append,List.length_cons]
  lia
abbrev eS (p t L R:Nat) (o5 o6 o7:Option AV):En:=[some (.ref p),some (.int t),some (.ref L),some (.ref R),some (.ref (R+1)),o5,o6,o7]
abbrev CN4:SB:=yau (sOp2 fNe (sVar 4) (sLst sNil))
structure Sq (p L R:Nat) (h0 hh:AH) (ps:List Pc) (its st:List Un):Prop where
 sh:ShelfAt hh p ps
 eI:hh[R]? = some (.lst (its.map uv))
 eW:hh[R+1]? = some (.lst (st.reverse.map uv))
 fr:Fr L h0 hh
 rl:h0.length<=R
 pl:p+8<L
 ll:L<h0.length
theorem Sq.setI {p L R:Nat} {h0 hh:AH} {ps:List Pc} {its st its2:List Un} (s:Sq p L R h0 hh ps its st):Sq p L R h0 (hh.set R (.lst (its2.map uv))) ps its2 st:=by
 have a:=s.pl
 have b:=s.ll
 have c:=s.rl
 exact ⟨zaE s.sh (by lia) _,List.getElem?_set_self (yaz s.eI),by rw [List.getElem?_set_ne (by lia)];exact s.eW,s.fr.new c b _,c,a,b⟩
theorem Sq.setW {p L R:Nat} {h0 hh:AH} {ps:List Pc} {its st st2:List Un} (s:Sq p L R h0 hh ps its st):Sq p L R h0 (hh.set (R+1) (.lst (st2.reverse.map uv))) ps its st2:=by
 have a:=s.pl
 have b:=s.ll
 have c:=s.rl
 exact ⟨zaE s.sh (by lia) _,by rw [List.getElem?_set_ne (by lia)];exact s.eI,List.getElem?_set_self (yaz s.eW),s.fr.new (by lia) b _,c,a,b⟩
theorem Sq.app {p L R:Nat} {h0 hh:AH} {ps:List Pc} {its st:List Un} (s:Sq p L R h0 hh ps its st) (r:AH):Sq p L R h0 (hh++r) ps its st :=
 ⟨s.sh.app r,by rw [List.getElem?_append_left (yaz s.eI)];exact s.eI,by rw [List.getElem?_append_left (yaz s.eW)];exact s.eW,s.fr.app r,s.rl,s.pl,s.ll⟩
theorem Sq.take {p L R:Nat} {h0 hh:AH} {ps:List Pc} {its st:List Un} (s:Sq p L R h0 hh ps its st) (m:Nat) (hm:0<m) (hm2:m<=10 ^ 50):∃ (v:Nat) (h2:AH),v<m/\yaC [.ref L,.int m] hh = .ok (.int v) h2/\Sq p L R h0 h2 ps its st:=by
 obtain ⟨v,N,hv,t,F⟩:=s.fr.take m hm hm2
 have a:=s.pl
 have b:=s.ll
 have c:=s.rl
 exact ⟨v,_,hv,t,zaE s.sh a _,by rw [List.getElem?_set_ne (by lia)];exact s.eI,by rw [List.getElem?_set_ne (by lia)];exact s.eW,F,c,a,b⟩
theorem Sq.pop {p L R:Nat} {h0 hh:AH} {ps:List Pc} {its st:List Un} {u:Un} (s:Sq p L R h0 hh ps its (u::st)):∃ h2,yar (.ref (R+1)) hh=true/\mPop (.ref (R+1)) [] hh = .ok (uv u) h2/\Sq p L R h0 h2 ps its st:=by
 have e:=s.eW
 rw [yb1] at e
 exact ⟨_,by simp [e],popU e,s.setW⟩
theorem Sq.addI {p L R:Nat} {h0 hh:AH} {ps:List Pc} {its st:List Un} (s:Sq p L R h0 hh ps its st) (hl:its.length<=1000) (i:Un):∃ h2,yar (.ref R) hh=true/\yao (.ref R) [uv i] hh = .ok .non h2/\Sq p L R h0 h2 ps (its++[i]) st:=by
 refine ⟨_,by simp [s.eI],?_,s.setI⟩
 have:(its.map uv).length<sizeLine:=Nat.lt_of_le_of_lt (m:=1000) (by rw [List.length_map];exact hl) (by decide)
 simp only [yao,s.eI,this,if_true,List.map_append]
 rfl
theorem Sq.extI {p L R:Nat} {h0 hh:AH} {ps:List Pc} {its st js:List Un} (s:Sq p L R h0 hh ps its st) (hl:its.length<=1000) (hj:js.length<=1000):∃ h2,yar (.ref R) hh=true/\ycW (.ref R) [.ref hh.length] (hh++[.lst (js.map uv)]) = .ok .non h2/\Sq p L R h0 h2 ps (its++js) st:=by
 have s1:=s.app [.lst (js.map uv)]
 refine ⟨_,by simp [s.eI],?_,s1.setI⟩
 have e2:(hh++[AO.lst (js.map uv)])[hh.length]? = some (.lst (js.map uv)):=by simp
 have:(its.map uv).length+(js.map uv).length<=sizeLine:=Nat.le_trans (m:=2000) (by rw [List.length_map,List.length_map];lia) (by decide)
 simp only [ycW,s1.eI,e2,this,if_true,List.map_append]
theorem Sq.extW {p L R a b:Nat} {h0 hh:AH} {ps:List Pc} {its st:List Un} (s:Sq p L R h0 hh ps its st) (hl:st.length<=1000):∃ h2,yar (.ref (R+1)) hh=true/\ycW (.ref (R+1)) [.ref hh.length] (hh++[.lst [.int b,.int a]]) = .ok .non h2/\Sq p L R h0 h2 ps its (.n a :: .n b::st):=by
 have s1:=s.app [.lst [.int b,.int a]]
 have e2:(hh++[AO.lst [.int b,.int a]])[hh.length]? = some (.lst [.int b,.int a]):=by simp
 have:(st.reverse.map uv).length+([AV.int b,AV.int a]).length<=sizeLine:=Nat.le_trans (m:=2000) (by rw [List.length_map,List.length_reverse];show _+2<=_;lia) (by decide)
 have e3:st.reverse.map uv++[.int b,.int a]=(.n a :: .n b::st:List Un).reverse.map uv:=by rw [yb1,yb1];simp
 refine ⟨_,by simp [s.eW],?_,s1.setW (st2:=.n a :: .n b::st)⟩
 simp only [ycW,s1.eW,e2,this,if_true,e3]
theorem cmpS {hh:AH} {en:En} {x:Str} {e:SE} (ee:e en hh = .ok (.str x) hh) (hx:x.length<=8):ydh [] (iVal e) sYes (sVar 0) en hh = .ok (.ref hh.length) (hh++[.lst (x.cps.toList.map cS)]):=by
 have:=zel (js:=[]) (en:=en) (w:=none) (all:=x.cps.toList.map cS) (e:=sVar 0) (g:=cS) (f:=cS) (h:=hh) rfl x.cps.toList [] (fun c _=>rfl) (Nat.le_trans (m:=8) (by simp only [List.length_nil];rw [<- zad];lia) (by decide))
 simp only [ydh,iVal,ee,Out.bind]
 rw [this]
 rfl
structure Sk5 (ps:List Pc) (t:Nat) (N:Nat) (its st:List Un):Prop where
 ex:∃ its',ya6 its'=ya6 its/\(∀ i∈its',OkI ps i)/\Cs ps [.n t] its' st
 nu:∀ u∈st,∃ j,u=Un.n j
 oi:∀ i∈its,OkI ps i
 ln:its.length+(rdS ps st).length<=N
theorem zjl {p t L R j N:Nat} {h0 hh:AH} {ps:List Pc} {its st:List Un} {o5 o6 o7:Option AV} (g:Good ps) (hN:N<=100) (s:Sq p L R h0 hh ps its (.n j::st)) (q:Sk5 ps t N its (.n j::st)) :
  ∃ (h2:AH) (its2 st2:List Un) (c5 c6 c7:Option AV),yaT (eS p t L R o5 o6 o7) hh = .nx (eS p t L R c5 c6 c7) h2/\Sq p L R h0 h2 ps its2 st2/\Sk5 ps t N its2 st2/\2*(rdS ps st2).length-st2.length<2*(rdS ps (.n j::st)).length-(st.length+1):=by
 obtain ⟨⟨its',ef,oi',cs⟩,nu,oi,ln⟩:=q
 have nu':∀ u∈st,∃ j,u=Un.n j:=fun u hu=>nu u (List.mem_cons_of_mem _ hu)
 have snoc:∀ {l:List Un} {i:Un},(∀ j∈l,OkI ps j)->OkI ps i->∀ j∈l++[i],OkI ps j:=fun a b j hj=>(List.mem_append.mp hj).elim (a j) fun z=>by rw [List.mem_singleton] at z;subst z;exact b
 have okL:=cs.oki g
 have okst:∀ u∈st,OkI ps u:=fun u hu=>okL u (List.mem_cons_of_mem _ hu)
 have lst:=zey (okis okst)
 have rdj:(rdS ps (.n j::st)).length=(rdU ps (.n j)).length+(rdS ps st).length:=by rw [rdS,List.length_append]
 obtain ⟨h1,il1,po,s1⟩:=s.pop
 cases okL _ (List.mem_cons_self ..) with
 | @n _ m f l x T =>
  have t1:=T.n1
  have po':mPop (.ref (R+1)) [] hh = .ok (.int j) h1:=po
  have pj:=(OkU.n T).pos
  have ne:fNe (.int j) (.int 0) h1 = .ok (.bl true) h1:=by simp;lia
  obtain ⟨v,h2,hv,tk,s2⟩:=s1.take 4 (by decide) (by decide)
  have tk':yaC [.ref L,.int 4] h1 = .ok (.int v) h2:=tk
  have ob1:=s1.sh.ob
  have q0:=eqi v 0 h2
  have q1:=eqi v 1 h2
  have len1:its.length<=1000:=by lia
  by_cases v0:v=0
  ·rw [decide_eq_true (by lia)] at q0
   obtain ⟨h3,il3,ap,s3⟩:=s2.addI len1 (.n j)
   have ap':yao (.ref R) [.int j] h2 = .ok .non h3:=ap
   obtain ⟨pv,fp⟩:∃ pv,yaB [.ref p,.int j] h1 = .ok pv h1:=by
    rcases g.kind T with ⟨e,_⟩ | ⟨a,b,ma,mb,y,z,fa,la,fb,lb,e,_⟩
    ·exact ⟨_,zaU s1.sh t1 e⟩
    ·exact ⟨_,zaC s1.sh t1 e⟩
   refine ⟨h3,its++[.n j],st,some (.int j),some pv,some (.int v),?_,s3,⟨⟨its' ++ [.n j],by rw [zav,zav,ef],snoc oi' (.n T),cs.num g⟩,nu',fun i hi=>?_,by rw [List.length_append];show _+1+_<=_;lia⟩,by lia⟩
   ·simp only [eS]
    generalize R+1=R1 at *
    simp [yaT,il1,po',ne,ob1,fp,tk',q0,il3,ap',-yar,-mPop,-fNe,-fEq,-yao]
   ·rcases List.mem_append.mp hi with hi | hi
    ·exact oi i hi
    ·rw [List.mem_singleton] at hi;subst hi;exact .n T
  ·rw [decide_eq_false (by lia)] at q0
   rcases g.kind T with ⟨e,_,_,x1,x8⟩ | ⟨a,b,ma,mb,y,z,fa,la,fb,lb,e,e2,_,A,B,y1,y2,_⟩
   ·have fp:=zaU s1.sh t1 e
    have i0:=i0L x h2
    have j1:=i1L x h2
    have el:fEq (.str "leaf") (.str "fork") h2 = .ok (.bl false) h2:=by
     have : ¬ (Str.ofString "leaf" : Str)=Str.ofString "fork" := by decide +kernel
     simp [this]
    have nx:nxF ps 90 (.n j::st)=(x,st):=by unfold nxF;rw [e]
    have tx:=cs.txt g nx x1 (Nat.le_refl _)
    have et:tkS x x.length=x:=yhv (Nat.le_refl _)
    have ed:dpS x x.length = "" := yhw (Nat.le_refl _)
    have ep:psh "" st=st:=by unfold psh;rw [if_pos rfl]
    rw [et,ed,ep] at tx
    have rx:(rdU ps (.n j)).length=x.length:=by rw [ybY T,<- zad]
    by_cases v1:v=1
    ·rw [decide_eq_true (by lia)] at q1
     obtain ⟨h3,il3,ap,s3⟩:=s2.addI len1 (.s x)
     have ap':yao (.ref R) [.str x] h2 = .ok .non h3:=ap
     refine ⟨h3,its++[.s x],st,some (.int j),some (.tup [.str "leaf",.str x]),some (.int v),?_,s3,⟨⟨its' ++ [.s x],by rw [zav,zav,ef],snoc oi' tx.1,tx.2⟩,nu',fun i hi=>?_,by rw [List.length_append];show _+1+_<=_;lia⟩,by lia⟩
     ·simp only [eS]
      generalize R+1=R1 at *
      simp [yaT,il1,po',ne,ob1,fp,tk',q0,q1,i0,j1,el,il3,ap',-yar,-mPop,-fNe,-fEq,-yao,-fIx]
     ·rcases List.mem_append.mp hi with hi | hi
      ·exact oi i hi
      ·rw [List.mem_singleton] at hi;subst hi;exact tx.1
    ·rw [decide_eq_false (by lia)] at q1
     obtain ⟨h3,il3,ex,s3⟩:=s2.extI (js:=sgl x.cps.toList) len1 (by rw [sgl,List.length_map,<- zad];lia)
     rw [yhJ] at ex
     have cm:=cmpS (en:=[some (.ref p),some (.int t),some (.ref L),some (.ref R),some (.ref (R+1)),some (.int j),some (.tup [.str "leaf",.str x]),some (.int v)]) (e:=sOp2 fIx (sVar 6) (sLit (.int 1))) (hh:=h2) (x:=x) (by simp [j1,-fIx]) x8
     have pl:yaq x=true:=T.ky.pl
     refine ⟨h3,its++sgl x.cps.toList,st,some (.int j),some (.tup [.str "leaf",.str x]),some (.int v),?_,s3,⟨⟨its' ++ [.s x],?_,snoc oi' tx.1,tx.2⟩,nu',fun i hi=>?_,?_⟩,by lia⟩
     ·simp only [eS]
      generalize R+1=R1 at *
      generalize h2++[AO.lst (x.cps.toList.map cS)]=H9 at *
      unfold yaT
      generalize ydh [] (iVal (sOp2 fIx (sVar 6) (sLit (.int 1)))) sYes (sVar 0)=CM at *
      simp [il1,po',ne,ob1,fp,tk',q0,q1,i0,j1,el,il3,cm,ex,-yar,-mPop,-fNe,-fEq,-ycW,-fIx]
     ·rw [zav,zav,ef,zdK]
      congr 1
      exact List.append_nil _
     ·rcases List.mem_append.mp hi with hi | hi
      ·exact oi i hi
      ·exact yfX _ (List.all_eq_true.mp (by simpa [yaq] using pl)) i hi
     ·rw [List.length_append,sgl,List.length_map,<- zad]
      lia
   ·have fp:=zaC s1.sh t1 e
    have i0:=i0F a b h2
    have j1:∀ hh,fIx (.tup [.str "fork",.int a,.int b]) (.int 1) hh = .ok (.int a) hh:=fun _=>rfl
    have j2:∀ hh,fIx (.tup [.str "fork",.int a,.int b]) (.int 2) hh = .ok (.int b) hh:=fun _=>rfl
    have el:fEq (.str "fork") (.str "fork") h2 = .ok (.bl true) h2:=by simp
    obtain ⟨h3,il3,ex,s3⟩:=s2.extW (a:=a) (b:=b) (by lia)
    have cs2:=cs.opn (.open (.refl _) e)
    have rd2:rdS ps (.n a :: .n b::st)=rdS ps (.n j::st):=by rw [rdS,rdS,rdS,ybY T,ybY A,ybY B,y1,zap,List.append_assoc]
    refine ⟨h3,its,.n a :: .n b::st,some (.int j),some (.tup [.str "fork",.int a,.int b]),some (.int v),?_,s3,⟨⟨its',ef,oi',cs2⟩,fun u hu=>?_,oi,by rw [rd2];exact ln⟩,?_⟩
    ·simp only [eS]
     generalize R+1=R1 at *
     simp [yaT,il1,po',ne,ob1,fp,tk',q0,i0,j1,j2,el,il3,ex,-yar,-mPop,-fNe,-fEq,-ycW,-fIx]
    ·rcases List.mem_cons.mp hu with rfl | hu
     ·exact ⟨a,rfl⟩
     ·rcases List.mem_cons.mp hu with rfl | hu
      ·exact ⟨b,rfl⟩
      ·exact nu' u hu
    ·rw [rd2,List.length_cons,List.length_cons]
     have:=(OkU.n A).pos
     have:=(OkU.n B).pos
     have z1:=congrArg List.length rd2
     rw [rdS,rdS,List.length_append,List.length_append] at z1
     lia
theorem zg3 {h:AH} {p L t:Nat} {ps:List Pc} {x:Str} (S:ShelfAt h p ps) (g:Good ps) (hL:p+8<L) (eL:∃ N:Int,h[L]? = some (.lst [.int N])) (T:TxZ ps t x) (lx:x.length<=100) :
  ∃ (its:List Un) (h':AH),yb0 [.ref p,.int t,.ref L] h = .ok (.ref h.length) h'/\h'[h.length]? = some (.lst (its.map uv))/\Fr L h h'/\ShelfAt h' p ps/\(∀ i∈its,OkI ps i)/\its.length<=100/\(t=0->its=[])/\(t≠0->lbF ps (ya6 its) [.n t]=some []):=by
 obtain ⟨N0,eN⟩:=eL
 have Ll:=yaz eN
 have F0:Fr L h h:=⟨fun _ _ _=>rfl,Nat.le_refl _,N0,eN⟩
 have s0:∀ (l:List Un),Sq p L h.length h (h++[.lst [],.lst (l.reverse.map uv)]) ps [] l:=fun l =>
  ⟨S.app _,by simp,by rw [List.getElem?_append_right (by lia)];simp,F0.app _,Nat.le_refl _,hL,Ll⟩
 have l2:(h++[AO.lst []]).length=h.length+1:=by simp
 have a2:∀ o,h++[AO.lst []]++[o]=h++[.lst [],o]:=fun o=>by simp
 have fin:∀ (its:List Un) (hf:AH) (o5 o6 o7:Option AV),yav CN4 yaT ya1 (eS p t L h.length none none none) (h++[.lst [],.lst [.int t]]) = .nx (eS p t L h.length o5 o6 o7) hf->yb0 [.ref p,.int t,.ref L] h = .ok (.ref h.length) hf:=fun its hf o5 o6 o7 wl=>by
  have wl':yav CN4 yaT ya1 [some (.ref p),some (.int t),some (.ref L),some (.ref h.length),some (.ref (h.length+1)),none,none,none] (h++[.lst [],.lst [.int t]]) = .nx [some (.ref p),some (.int t),some (.ref L),some (.ref h.length),some (.ref (h.length+1)),o5,o6,o7] hf:=wl
  unfold yb0
  generalize yav CN4 yaT ya1=WL at *
  simp [l2,a2,wl']
 rcases T with ⟨rfl,rfl⟩ | ⟨m,f,l,T⟩
 ·have s1:Sq p L h.length h (h++[.lst [],.lst (([.n 0]:List Un).reverse.map uv)]) ps [] [.n 0]:=s0 [.n 0]
  obtain ⟨h1,il1,po,s2⟩:=s1.pop
  have cn:CN4 (eS p 0 L h.length none none none) (h++[.lst [],.lst [.int 0]]) = .ok true (h++[.lst [],.lst [.int 0]]):=by
   have nn:=yei (u:=.n 0) (st:=[]) s1.eW
   have nn':fNe (.ref (h.length+1)) (.fl []) (h++[.lst [],.lst [.int 0]]) = .ok (.bl true) (h++[.lst [],.lst [.int 0]]):=nn
   simp only [eS]
   generalize h++[AO.lst [],AO.lst [.int 0]]=H0 at *
   generalize h.length+1=R1 at *
   simp [CN4,nn',-fNe]
  have eb:yaT (eS p 0 L h.length none none none) (h++[.lst [],.lst [.int 0]]) = .nx (eS p 0 L h.length (some (.int 0)) none none) h1:=by
   have po':mPop (.ref (h.length+1)) [] (h++[.lst [],.lst [.int 0]]) = .ok (.int 0) h1:=po
   have il1':yar (.ref (h.length+1)) (h++[.lst [],.lst [.int 0]])=true:=il1
   have ne:fNe (.int 0) (.int 0) h1 = .ok (.bl false) h1:=by simp
   simp only [eS]
   generalize h++[AO.lst [],AO.lst [.int 0]]=H0 at *
   generalize h.length+1=R1 at *
   simp [yaT,il1',po',ne,-yar,-mPop,-fNe]
  have cn2:CN4 (eS p 0 L h.length (some (.int 0)) none none) h1 = .ok false h1:=by
   have nn:=yeG s2.eW
   simp only [eS]
   generalize h.length+1=R1 at *
   simp [CN4,nn,-fNe]
  have wl:∀ n,yav CN4 yaT (n+2) (eS p 0 L h.length none none none) (h++[.lst [],.lst [.int 0]]) = .nx (eS p 0 L h.length (some (.int 0)) none none) h1:=fun n=>by
   rw [yeW cn eb,yeh cn2]
  exact ⟨[],h1,fin [] h1 _ _ _ (wl _),s2.eI,s2.fr,s2.sh,fun i hi=>(by cases hi),Nat.zero_le _,fun _=>rfl,fun z=>absurd rfl z⟩
 ·have t1:=T.n1
  have c0:Cs ps [.n t] [] [.n t]:=⟨[.n t],rfl,fun u hu=>(by rw [List.mem_singleton] at hu;subst hu;exact .n T),.refl _⟩
  have rd0:(rdS ps [.n t]).length=x.length:=by
   show (rdU ps (.n t)++[]).length=_
   rw [List.append_nil,ybY T,<- zad]
  obtain ⟨e',h',r1,r2⟩:=zfw (c:=CN4) (b:=yaT) (fuel:=ya1) (n:=2*(rdS ps [.n t]).length-1) (en:=eS p t L h.length none none none) (h:=h++[.lst [],.lst [.int t]])
   (fun n en hh=>∃ (its st:List Un) (o5 o6 o7:Option AV),en=eS p t L h.length o5 o6 o7/\Sq p L h.length h hh ps its st/\Sk5 ps t x.length its st/\n=2*(rdS ps st).length-st.length)
   (fun en hh=>∃ (its:List Un) (o5 o6 o7:Option AV),en=eS p t L h.length o5 o6 o7/\Sq p L h.length h hh ps its []/\Sk5 ps t x.length its [])
   ⟨[],[.n t],none,none,none,rfl,s0 [.n t],⟨⟨[],rfl,fun i hi=>(by cases hi),c0⟩,fun u hu=>⟨t,by rw [List.mem_singleton] at hu;exact hu⟩,fun i hi=>(by cases hi),by show 0+_<=_;lia⟩,rfl⟩ (Nat.lt_of_le_of_lt (m:=1000) (by lia) (by decide)) (by
    rintro n en hh ⟨its,st,o5,o6,o7,rfl,s,q,rfl⟩
    match st,s,q with
    | [],s,q =>
     have cn:CN4 (eS p t L h.length o5 o6 o7) hh = .ok false hh:=by
      have nn:=yeG s.eW
      simp only [eS]
      generalize h.length+1=R1 at *
      simp [CN4,nn,-fNe]
     rw [cn]
     exact ⟨its,o5,o6,o7,rfl,s,q⟩
    | u::st,s,q =>
     have cn:CN4 (eS p t L h.length o5 o6 o7) hh = .ok true hh:=by
      have nn:=yei s.eW
      simp only [eS]
      generalize h.length+1=R1 at *
      simp [CN4,nn,-fNe]
     rw [cn]
     obtain ⟨j,rfl⟩:∃ j,u = .n j:=q.nu u (List.mem_cons_self ..)
     obtain ⟨h2,its2,st2,c5,c6,c7,ev,s2,q2,lt⟩:=zjl (o5:=o5) (o6:=o6) (o7:=o7) g lx s q
     dsimp only
     rw [ev]
     exact ⟨_,lt,its2,st2,c5,c6,c7,rfl,s2,q2,rfl⟩)
  obtain ⟨its,o5,o6,o7,rfl,s,⟨⟨its',ef,oi',cs⟩,_,oi,ln⟩⟩:=r2
  obtain ⟨sl,e1,ok1,op⟩:=cs.ex
  have sl0:=(yhC op).mpr rfl
  subst sl0
  refine ⟨its,h',fin its h' o5 o6 o7 r1,s.eI,s.fr,s.sh,oi,by lia,fun z=>absurd z (by lia),fun _=>?_⟩
  rw [<- ef,<- zda g its' (yeI T) fun i hi=>(oi' i hi)]
  exact e1
end Sk
namespace Sk
open PySem PySem.Spec L2 Sm
theorem yiH {h:AH} {R:Nat} {fd:List Un} {u:Un} (e:h[R]? = some (.lst ((fd++[u]).map uv))):fIx (.ref R) (.int (-1)) h = .ok (uv u) h:=by
 rw [List.map_append] at e
 have e':h[R]? = some (.lst (fd.map uv++[uv u])):=e
 simp only [fIx,e',zhk]
theorem neU {h:AH} {R:Nat} {fd:List Un} (e:h[R]? = some (.lst (fd.map uv))):fNe (.ref R) (.fl []) h = .ok (.bl (!fd.isEmpty)) h:=by
 show (match eqA (.ref R) (.fl []) h with | some b=>Out.ok (AV.bl (!b)) h | none=>Out.bad)=_
 rw [yeF e]
structure Sf (p L R:Nat) (h0 hh:AH) (ps:List Pc) (fd:List Un):Prop where
 sh:ShelfAt hh p ps
 eF:hh[R]? = some (.lst (fd.map uv))
 fr:Fr L h0 hh
 rl:h0.length<=R
 pl:p+8<L
 ll:L<h0.length
theorem Sf.set {p L R:Nat} {h0 hh:AH} {ps:List Pc} {fd fd2:List Un} (s:Sf p L R h0 hh ps fd):Sf p L R h0 (hh.set R (.lst (fd2.map uv))) ps fd2:=by
 have a:=s.pl
 have b:=s.ll
 have c:=s.rl
 exact ⟨zaE s.sh (by lia) _,List.getElem?_set_self (yaz s.eF),s.fr.new c b _,c,a,b⟩
theorem Sf.take {p L R:Nat} {h0 hh:AH} {ps:List Pc} {fd:List Un} (s:Sf p L R h0 hh ps fd) (m:Nat) (hm:0<m) (hm2:m<=10 ^ 50):∃ (v:Nat) (h2:AH),v<m/\yaC [.ref L,.int m] hh = .ok (.int v) h2/\Sf p L R h0 h2 ps fd:=by
 obtain ⟨v,N,hv,t,F⟩:=s.fr.take m hm hm2
 have a:=s.pl
 have b:=s.ll
 have c:=s.rl
 exact ⟨v,_,hv,t,zaE s.sh a _,by rw [List.getElem?_set_ne (by lia)];exact s.eF,F,c,a,b⟩
theorem Sf.add {p L R:Nat} {h0 hh:AH} {ps:List Pc} {fd:List Un} (s:Sf p L R h0 hh ps fd) (hl:fd.length<=1000) (i:Un):∃ h2,yar (.ref R) hh=true/\yao (.ref R) [uv i] hh = .ok .non h2/\Sf p L R h0 h2 ps (fd++[i]):=by
 refine ⟨_,by simp [s.eF],?_,s.set⟩
 have:(fd.map uv).length<sizeLine:=Nat.lt_of_le_of_lt (m:=1000) (by rw [List.length_map];exact hl) (by decide)
 simp only [yao,s.eF,this,if_true,List.map_append]
 rfl
theorem Sf.pop {p L R:Nat} {h0 hh:AH} {ps:List Pc} {fd:List Un} {u:Un} (s:Sf p L R h0 hh ps (fd++[u])):∃ h2,yar (.ref R) hh=true/\mPop (.ref R) [] hh = .ok (uv u) h2/\Sf p L R h0 h2 ps fd:=by
 have e:=s.eF
 rw [List.map_append] at e
 exact ⟨_,by simp [e],popU e,s.set⟩
theorem yfp {P:Un->Prop} {l:List Un} {i:Un} (a:∀ j∈l,P j) (b:P i):∀ j∈l++[i],P j:=fun j hj=>(List.mem_append.mp hj).elim (a j) fun z=>by rw [List.mem_singleton] at z;subst z;exact b
abbrev eP (v:AV) (L R:Nat) (i:Un):En:=[some v,some (.ref L),some (.ref R),some (uv i)]
theorem zjm {p L R:Nat} {h0 hh:AH} {ps:List Pc} {fd:List Un} {i:Un} {v:AV} (s:Sf p L R h0 hh ps fd) (oi:∀ j∈fd,OkI ps j) (o:OkI ps i) (hl:fd.length<=900) :
  ∃ (h2:AH) (fd2:List Un) (i2:Un),yaS (eP v L R i) hh = .nx (eP v L R i2) h2/\Sf p L R h0 h2 ps fd2/\ya6 fd2=ya6 fd++ya6 [i]/\(∀ j∈fd2,OkI ps j)/\fd2.length<=fd.length+1:=by
 have nq:=neU s.eF
 obtain ⟨h1,il,ap,s1⟩:=s.add (by lia) i
 have plain:yaS (eP v L R i) hh = .nx (eP v L R i) h1->∃ (h2:AH) (fd2:List Un) (i2:Un),yaS (eP v L R i) hh = .nx (eP v L R i2) h2/\Sf p L R h0 h2 ps fd2/\ya6 fd2=ya6 fd++ya6 [i]/\(∀ j∈fd2,OkI ps j)/\fd2.length<=fd.length+1:=fun e =>
  ⟨h1,fd++[i],i,e,s1,zav _ _,yfp oi o,by simp⟩
 rcases List.eq_nil_or_concat fd with rfl | ⟨fd',u,efd⟩
 ·have nq':fNe (.ref R) (.fl []) hh = .ok (.bl false) hh:=nq
  refine plain ?_
  simp only [eP]
  generalize uv i=UI at *
  simp [yaS,nq',il,ap,-fNe,-yar,-yao]
 ·rw [List.concat_eq_append] at efd
  subst efd
  have nq':fNe (.ref R) (.fl []) hh = .ok (.bl true) hh:=by
   rw [nq]
   cases fd' <;> rfl
  have la:=yiH s.eF
  have ng:=neg1 hh
  cases i with
  | n k =>
   refine plain ?_
   have ap':yao (.ref R) [.int k] hh = .ok .non h1:=ap
   simp [yaS,nq',il,ap',-fNe,-yar,-yao]
  | s w =>
   have ap':yao (.ref R) [.str w] hh = .ok .non h1:=ap
   cases u with
   | n k =>
    refine plain ?_
    have la':fIx (.ref R) (.int (-1)) hh = .ok (.int k) hh:=la
    simp [yaS,nq',la',ng,il,ap',-fNe,-yar,-yao,-fIx,-fNeg]
   | s z =>
    have la':fIx (.ref R) (.int (-1)) hh = .ok (.str z) hh:=la
    have lz:fLen [.str z] hh = .ok (.int z.length) hh:=rfl
    have lw:fLen [.str w] hh = .ok (.int w.length) hh:=rfl
    have ad:fAdd (.int z.length) (.int w.length) hh = .ok (.int ((z.length+w.length:Nat):Int)) hh:=rfl
    have lt:fLt (.int ((z.length+w.length:Nat):Int)) (.int 9) hh = .ok (.bl (decide (z.length+w.length<9))) hh:=by
     show Out.ok (AV.bl (decide (((z.length+w.length:Nat):Int)<9))) hh=_
     congr 2
     exact decide_eq_decide.mpr (by lia)
    by_cases q:z.length+w.length<9
    ·rw [decide_eq_true q] at lt
     obtain ⟨d,h3,hd,tk,s3⟩:=s.take 3 (by decide) (by decide)
     have tk':yaC [.ref L,.int 3] hh = .ok (.int d) h3:=tk
     by_cases d0:d=0
     ·obtain ⟨h4,il4,ap4,s4⟩:=s3.add (by lia) (.s w)
      have ap4':yao (.ref R) [.str w] h3 = .ok .non h4:=ap4
      have gt:fGt (.int d) (.int 0) h3 = .ok (.bl false) h3:=by simp;lia
      refine ⟨h4,fd' ++ [.s z]++[.s w],.s w,?_,s4,zav _ _,yfp oi o,by simp⟩
      simp only [eP,uv]
      generalize ((z.length+w.length:Nat):Int)=ZW at *
      simp [yaS,nq',la',ng,lz,lw,ad,lt,tk',gt,il4,ap4',-fNe,-yar,-yao,-fIx,-fNeg,-fLen,-fAdd,-fLt,-fGt]
     ·have gt:fGt (.int d) (.int 0) h3 = .ok (.bl true) h3:=by simp;lia
      obtain ⟨h4,il4,po,s4⟩:=s3.pop
      have po':mPop (.ref R) [] h3 = .ok (.str z) h4:=po
      have adS:fAdd (.str z) (.str w) h4 = .ok (.str (z++w)) h4:=by
       have:z.length+w.length<=sizeLine:=Nat.le_trans (m:=9) (by lia) (by decide)
       simp only [fAdd,this,if_true]
      obtain ⟨h5,il5,ap5,s5⟩:=s4.add (by rw [List.length_append] at hl;lia) (.s (z++w))
      have ap5':yao (.ref R) [.str (z++w)] h4 = .ok .non h5:=ap5
      have oz:OkI ps (.s (z++w)):=by
       have a:=oi (.s z) (by simp)
       cases a with
       | s a =>
        cases o with
        | s b =>
         obtain ⟨a1,a8,ap⟩:=zaz a
         obtain ⟨b1,b8,bp⟩:=zaz b
         exact .s (zcC (by rw [zaT,ap,bp];rfl) (by rw [zaq];lia) (by rw [zaq];lia))
      refine ⟨h5,fd' ++ [.s (z++w)],.s (z++w),?_,s5,?_,yfp (fun j hj=>oi j (List.mem_append_left _ hj)) oz,by simp⟩
      ·simp only [eP,uv]
       generalize ((z.length+w.length:Nat):Int)=ZW at *
       generalize z++w=ZS at *
       simp [yaS,nq',la',ng,lz,lw,ad,lt,tk',gt,il4,po',adS,il5,ap5',-fNe,-yar,-yao,-mPop,-fIx,-fNeg,-fLen,-fAdd,-fLt,-fGt]
      ·rw [zav,zav]
       show ya6 fd' ++ (sgl (z++w).cps.toList++[])=ya6 fd' ++ (sgl z.cps.toList++[])++(sgl w.cps.toList++[])
       rw [zap,sgl,sgl,sgl,List.map_append]
       simp
    ·rw [decide_eq_false q] at lt
     refine plain ?_
     simp only [eP,uv]
     generalize ((z.length+w.length:Nat):Int)=ZW at *
     simp [yaS,nq',la',ng,lz,lw,ad,lt,il,ap',-fNe,-yar,-yao,-fIx,-fNeg,-fLen,-fAdd,-fLt]
theorem zh7 {h:AH} {p L RI:Nat} {ps:List Pc} {its:List Un} (S:ShelfAt h p ps) (hL:p+8<L) (eL:∃ N:Int,h[L]? = some (.lst [.int N])) (eI:h[RI]? = some (.lst (its.map uv))) (nI:RI≠L) (oi:∀ i∈its,OkI ps i) (hl:its.length<=800) :
  ∃ (fd:List Un) (h':AH),ycD [.ref RI,.ref L] h = .ok (.ref h.length) h'/\h'[h.length]? = some (.lst (fd.map uv))/\Fr L h h'/\ShelfAt h' p ps/\ya6 fd=ya6 its/\(∀ i∈fd,OkI ps i)/\fd.length<=its.length:=by
 obtain ⟨N0,eN⟩:=eL
 have Ll:=yaz eN
 have Il:=yaz eI
 have F0:Fr L h h:=⟨fun _ _ _=>rfl,Nat.le_refl _,N0,eN⟩
 have s0:Sf p L h.length h (h++[.lst []]) ps []:=⟨S.app _,by simp,F0.app _,Nat.le_refl _,hL,Ll⟩
 obtain ⟨e',h',r1,r2⟩:=ydA (w:=some RI) (all:=its.map uv) (t:=.nm 3) (b:=yaS) (xs:=its.map uv) (en:=[some (.ref RI),some (.ref L),some (.ref h.length),none]) (h:=h++[.lst []])
  (fun j en hh=>hh[RI]? = some (.lst (its.map uv))/\(j<=its.length->∃ (fd:List Un) (o3:Option AV),en=[some (.ref RI),some (.ref L),some (.ref h.length),o3]/\Sf p L h.length h hh ps fd/\ya6 fd=ya6 (its.take j)/\(∀ i∈fd,OkI ps i)/\fd.length<=j))
  ⟨by rw [List.getElem?_append_left Il];exact eI,fun _=>⟨[],none,rfl,s0,rfl,fun i hi=>(by cases hi),Nat.le_refl _⟩⟩ (fun _ _ _ p=>by simp [p.1]) (by
   rintro j u en hh hu ⟨p1,p2⟩
   rw [List.getElem?_map] at hu
   obtain ⟨i,ei,rfl⟩:=Option.map_eq_some_iff.mp hu
   have hj:=(List.getElem?_eq_some_iff.mp ei).1
   obtain ⟨fd,o3,rfl,s,ef,of,lf⟩:=p2 (by lia)
   have tk:its.take (j+1)=its.take j++[i]:=by rw [List.take_succ,ei];rfl
   obtain ⟨h2,fd2,i2,ev,s2,ef2,of2,lf2⟩:=zjm (v:=.ref RI) s of (oi i (List.mem_of_getElem? ei)) (by lia)
   show thn (yaS (eP (.ref RI) L h.length i) hh) _
   rw [ev]
   exact ⟨(s2.fr.fr RI Il nI).trans eI,fun _=>⟨fd2,_,rfl,s2,by rw [ef2,ef,tk,zav],of2,by lia⟩⟩)
 rw [List.length_map] at r2
 obtain ⟨fd,o3,rfl,s,ef,of,lf⟩:=r2.2 (Nat.le_refl _)
 rw [List.take_length] at ef
 have it:iVal (sVar 0) [some (.ref RI),some (.ref L),some (.ref h.length),none] (h++[.lst []]) = .ok (its.map uv,some RI) (h++[.lst []]):=by
  have e:(h++[AO.lst []])[RI]? = some (.lst (its.map uv)):=by rw [List.getElem?_append_left Il];exact eI
  simp [e]
 have l1:=(yca (t:=.nm 3) (b:=yaS) it).trans r1
 refine ⟨fd,h',?_,s.eF,s.fr,s.sh,ef,of,lf⟩
 clear r1 it s r2 s0 F0
 unfold ycD
 generalize sFor (iVal (sVar 0)) (.nm 3) yaS=L1 at *
 simp [l1]
end Sk
namespace Sk
open PySem PySem.Spec L2 Sm
theorem bd0 {ps:List Pc} (g:Good ps) {t:Nat} {m f l:Ms} {x:Str} (T:Tx ps t m x f l):Bd ps 83 [.n t]:=⟨by have:=yb6 g (yeI T);show 0+_<=_;lia,trivial⟩
def zs (a:Nat):List Un:=if a=0 then [] else [.n a]
def LfV (p n0:Nat) (h:AH) (v:AV) (s:List Un):Prop:=(∃ W,v = .ref W/\n0<=W/\p+8<W/\h[W]? = some (.lst (s.reverse.map uv)))\/(v = .fl []/\s=[])
theorem LfV.eq {p n0:Nat} {h:AH} {v:AV} {s:List Un} (l:LfV p n0 h v s):fEq v (.fl []) h = .ok (.bl (decide (s=[]))) h:=by
 rcases l with ⟨W,rfl,_,_,e⟩ | ⟨rfl,rfl⟩
 ·exact yiG e
 ·simp [toD,toDs,PyData.eqv,PyData.eqvAll]
theorem LfV.fr {p n0:Nat} {h h2:AH} {v:AV} {s:List Un} (l:LfV p n0 h v s) (k:∀ W,v = .ref W->h2[W]? = h[W]?):LfV p n0 h2 v s:=by
 rcases l with ⟨W,rfl,a,b,e⟩ | ⟨rfl,rfl⟩
 ·exact .inl ⟨W,rfl,a,b,(k W rfl).trans e⟩
 ·exact .inr ⟨rfl,rfl⟩
theorem yhK {h:AH} {p:Nat}:ybP [.ref p,.fl []] h = .ok (.str "") h:=by
 have nn:fNe (.fl []) (.fl []) h = .ok (.bl false) h:=by simp [toD,toDs,PyData.eqv,PyData.eqvAll]
 have wl:∀ n,yav CN yaO (n+1) [some (.ref p),some (.fl []),none] h = .nx [some (.ref p),some (.fl []),none] h:=fun n=>yeh (by simp [nn,-fNe])
 have wl':yav CN yaO ya1 [some (.ref p),some (.fl []),none] h = .nx [some (.ref p),some (.fl []),none] h:=wl _
 unfold ybP
 generalize yav CN yaO ya1=WL at *
 simp [wl']
theorem zh8 {h:AH} {p:Nat} {ps:List Pc} {i:Un} (S:ShelfAt h p ps) (oi:OkI ps i):yaJ [.ref p,.fl [],uv i] h = .ok (.bl false) h:=by
 have ob:=S.ob
 have nn:fNe (.fl []) (.fl []) h = .ok (.bl false) h:=by simp [toD,toDs,PyData.eqv,PyData.eqvAll]
 cases oi with
 | @n k m f l x T =>
  have hp:yas [.ref p,.int k] h = .ok (.bl true) h:=by
   rw [yeD S]
   have:=T.n1
   have:=T.le
   rw [decide_eq_true (by lia)]
  have wl:∀ n,yav CN yaF (n+1) [some (.ref p),some (.fl []),some (.int k),none] h = .nx [some (.ref p),some (.fl []),some (.int k),none] h:=fun n=>yeh (by simp [nn,-fNe])
  have wl':yav CN yaF ya1 [some (.ref p),some (.fl []),some (.int k),none] h = .nx [some (.ref p),some (.fl []),some (.int k),none] h:=wl _
  have tp:ybn [.ref p,.fl [],.int k] h = .ok (.bl false) h:=by
   unfold ybn
   generalize yav CN yaF ya1=WL at *
   simp [wl']
  simp [yaJ,ob,hp,tp]
 | @s w a =>
  obtain ⟨w1,w8,_⟩:=zaz a
  have hp:yas [.ref p,.str w] h = .ok (.bl false) h:=by
   simp [yas,yaW,ob]
  have sh:ybc [.str w] h = .ok (.bl true) h:=by rw [zbu w h (Nat.le_trans w8 (by decide)),a]
  have ne:fNe (.str w) (.str "") h = .ok (.bl true) h:=by
   have : ¬ w = "" := fun q=>by rw [za7] at q;lia
   simp [this]
  have cn:CP [some (.ref p),some (.fl []),some (.str w),some (.str w),none,none] h = .ok true h:=by simp [ne,-fNe]
  have nx:=yhK (h:=h) (p:=p)
  have l1:fLen [.str ""] h = .ok (.int 0) h:=rfl
  have l2:fLen [.str w] h = .ok (.int w.length) h:=rfl
  have mn:ycA [.int 0,.int w.length] h = .ok (.int 0) h:=by
   have:ycA [.int 0,.int w.length] h = .ok (.int (if (w.length:Int)<0 then (w.length:Int) else 0)) h:=rfl
   rw [this,if_neg (by lia)]
  have e0:fEq (.int 0) (.int 0) h = .ok (.bl true) h:=by simp
  have eb:yaL [some (.ref p),some (.fl []),some (.str w),some (.str w),none,none] h = .rt (.bl false) h:=by
   generalize (w.length:Int)=WL at *
   simp [yaL,nx,l1,l2,mn,e0,-fLen,-ycA,-fEq]
  have wl:∀ n,yav CP yaL (n+1) [some (.ref p),some (.fl []),some (.str w),some (.str w),none,none] h = .rt (.bl false) h:=fun n=>ydB cn eb
  have wl':yav CP yaL ya1 [some (.ref p),some (.fl []),some (.str w),some (.str w),none,none] h = .rt (.bl false) h:=wl _
  have tp:yby [.ref p,.fl [],.str w] h = .ok (.bl false) h:=by
   unfold yby
   generalize yav CP yaL ya1=WL at *
   simp [wl']
  simp [yaJ,ob,hp,sh,tp]
theorem yhL {h:AH} {p:Nat} {ps:List Pc} (S:ShelfAt h p ps):ybD [.ref p,.int 0] h = .ok (.fl []) h:=by
 have ck:yaI [.ref p,.int 0] h = .ok .non h:=zaX S (Nat.zero_le _)
 have t0:fEq (.int 0) (.int 0) h = .ok (.bl true) h:=by simp
 simp [ybD,S.ob,ck,t0,-fEq]
end Sk
namespace Sk
open PySem PySem.Spec L2 Sm
inductive Th (ps:List Pc) (h:AH):AV->Prop
 | int (i:Int) (n : ¬ (1<=i/\i<=ps.length)):Th ps h (.int i)
 | str (z:Str) (l:z.length<=9) (s:yba z=false):Th ps h (.str z)
 | non:Th ps h .non
 | bl (b:Bool):Th ps h (.bl b)
 | fl (xs:List AV):Th ps h (.fl xs)
 | tup (xs:List AV):Th ps h (.tup xs)
 | dct {k:Nat} {t:Bool} {kvs:List (AV×AV)} (e:h[k]? = some (.dct t kvs)):Th ps h (.ref k)
theorem Th.keep {ps:List Pc} {h h':AH} {v:AV} {L:Nat} {o:List AV} (t:Th ps h v) (eL:h[L]? = some (.lst o)) (k:∀ i,i<h.length->i≠L->h'[i]? = h[i]?):Th ps h' v:=by
 cases t with
 | int i n=>exact .int i n
 | str z l s=>exact .str z l s
 | non=>exact .non
 | bl b=>exact .bl b
 | fl xs=>exact .fl xs
 | tup xs=>exact .tup xs
 | @dct j t kvs e=>exact .dct ((k j (yaz e) (fun q=>by rw [q,eL] at e;cases e)).trans e)
theorem Th.takes {ps:List Pc} {h hh:AH} {v l:AV} {p:Nat} (t:Th ps h v) (S:ShelfAt hh p ps) (k:∀ i,i<h.length->hh[i]? = h[i]?):yaJ [.ref p,l,v] hh = .ok (.bl false) hh:=by
 have ob:=S.ob
 have key:yas [.ref p,v] hh = .ok (.bl false) hh/\ybc [v] hh = .ok (.bl false) hh:=by
  cases t with
  | int i n=>exact ⟨by rw [yeD S,decide_eq_false n],by simp [ybc,ybt]⟩
  | str z l s=>exact ⟨by simp [yas,yaW,ob],by rw [zbu z hh (Nat.le_trans l (by decide)),s]⟩
  | non=>exact ⟨by simp [yas,yaW,ob],by simp [ybc,ybt]⟩
  | bl b=>exact ⟨by simp [yas,yaW,ob],by simp [ybc,ybt]⟩
  | fl=>exact ⟨by simp [yas,yaW,ob],by simp [ybc,ybt]⟩
  | tup=>exact ⟨by simp [yas,yaW,ob],by simp [ybc,ybt]⟩
  | @dct j t kvs e =>
   have e':hh[j]? = some (.dct t kvs):=(k j (yaz e)).trans e
   exact ⟨by simp [yas,yaW,ob,e'],by simp [ybc,ybt,e']⟩
 simp [yaJ,ob,key.1,key.2]
inductive SrcA (h:AH) (xs:List AV):AV->Option Nat->Prop
 | ref {B:Nat} (e:h[B]? = some (.lst xs)):SrcA h xs (.ref B) (some B)
 | fl:SrcA h xs (.fl xs) none
theorem SrcA.i {h:AH} {its:List Un} {v:AV} {w:Option Nat} (s:SrcA h (its.map uv) v w):SrcI h its v w:=by
 cases s with
 | ref e=>exact .ref e
 | fl=>exact .fl
theorem SrcA.live {h:AH} {xs:List AV} {v:AV} {w:Option Nat} (s:SrcA h xs v w) {hh:AH} (k:∀ i,i<h.length->hh[i]? = h[i]?):ybj w xs hh=true:=by
 cases s with
 | ref e=>simp [k _ (yaz e),e]
 | fl=>rfl
theorem SrcA.mono {h hh:AH} {xs:List AV} {v:AV} {w:Option Nat} (s:SrcA h xs v w) (k:∀ i,i<h.length->hh[i]? = h[i]?):SrcA hh xs v w:=by
 cases s with
 | ref e=>exact .ref ((k _ (yaz e)).trans e)
 | fl=>exact .fl
theorem SrcA.iv {h:AH} {xs:List AV} {v:AV} {w:Option Nat} (s:SrcA h xs v w) {en:En} {j:Nat} (e:en[j]? = some (some v)):iVal (sVar j) en h = .ok (xs,w) h:=by
 cases s with
 | ref e2=>simp [e,e2]
 | fl=>simp [e]
theorem zcS {h:AH} {p t:Nat} {ps:List Pc} {all:List AV} {v V:AV} {rest:List AV} {w:Option Nat} (g:Good ps) (sr:SrcA h all V w) (hW:p+8<h.length) (od:∀ hh l,ShelfAt hh p ps->(∀ i,i<h.length->hh[i]? = h[i]?)->yaJ [.ref p,l,v] hh = .ok (.bl false) hh):∀ (its:List Un) (st:List Un) (hh:AH) (o4:Option AV),(∀ i∈its,OkI ps i)->(∀ u∈st,OkU ps u)->Bd ps 83 st->ShelfAt hh p ps ->
  (∀ i,i<h.length->hh[i]? = h[i]?)->hh[h.length]? = some (.lst (st.reverse.map uv)) ->
  ∃ Z,ya0 w all (.nm 4) yaG (its.map uv++v::rest) [some (.ref p),some (.int t),some V,some (.ref h.length),o4] hh = .rt .non (hh.set h.length (.lst Z))
 | [],st,hh,o4,oi,ok,bd,S',k,eW=>by
  have tk:=od hh (.ref h.length) S' k
  refine ⟨st.reverse.map uv,?_⟩
  rw [zc8 eW,List.map_nil,List.nil_append]
  unfold ya0
  rw [if_pos (sr.live k)]
  have st1:setT (.nm 4) v [some (.ref p),some (.int t),some V,some (.ref h.length),o4]=some [some (.ref p),some (.int t),some V,some (.ref h.length),some v]:=rfl
  rw [st1]
  dsimp only
  have eb:yaG [some (.ref p),some (.int t),some V,some (.ref h.length),some v] hh = .rt .non hh:=by simp [yaG,tk]
  rw [eb]
 | i::its,st,hh,o4,oi,ok,bd,S',k,eW=>by
  have bl:=bd.len
  rw [List.map_cons,List.cons_append]
  unfold ya0
  rw [if_pos (sr.live k)]
  have st1:setT (.nm 4) (uv i) [some (.ref p),some (.int t),some V,some (.ref h.length),o4]=some [some (.ref p),some (.int t),some V,some (.ref h.length),some (uv i)]:=rfl
  rw [st1]
  dsimp only
  rcases yhz S' g hW ok (oi i (List.mem_cons_self ..)) (by lia) eW with ⟨st',a,e⟩ | ⟨a,Z,e⟩
  ·have eb:yaG [some (.ref p),some (.int t),some V,some (.ref h.length),some (uv i)] hh = .nx [some (.ref p),some (.int t),some V,some (.ref h.length),some (uv i)] (hh.set h.length (.lst (st'.reverse.map uv))):=by
    generalize hh.set h.length (.lst (st'.reverse.map uv))=HF at *
    generalize uv i=I at *
    simp [yaG,e]
   rw [eb]
   dsimp only
   obtain ⟨Z,r⟩:=zcS (t:=t) (rest:=rest) g sr hW od its st' (hh.set h.length (.lst (st'.reverse.map uv))) (some (uv i)) (fun j hj=>oi j (List.mem_cons_of_mem _ hj)) (zbO g ok a).2.1 (yiB g ok a bd) (zaE S' hW _) (fun j hj=>by rw [List.getElem?_set_ne (by lia)];exact k j hj) (List.getElem?_set_self (yaz eW))
   exact ⟨Z,by rw [r,List.set_set]⟩
  ·have eb:yaG [some (.ref p),some (.int t),some V,some (.ref h.length),some (uv i)] hh = .rt .non (hh.set h.length (.lst Z)):=by
    generalize hh.set h.length (.lst Z)=HF at *
    generalize uv i=I at *
    simp [yaG,e]
   rw [eb]
   exact ⟨Z,rfl⟩
theorem zjn {h:AH} {p t:Nat} {ps:List Pc} {its:List Un} {v V:AV} {rest:List AV} {w:Option Nat} {x:Str} (S:ShelfAt h p ps) (g:Good ps) (T:TxZ ps t x) (sr:SrcA h (its.map uv++v::rest) V w) (oi:∀ i∈its,OkI ps i) (od:∀ hh l,ShelfAt hh p ps->(∀ i,i<h.length->hh[i]? = h[i]?)->yaJ [.ref p,l,v] hh = .ok (.bl false) hh) :
  ∃ r,ybz [.ref p,.int t,V] h = .ok .non (h++r):=by
 have hW:p+8<h.length:=yaz S.h8
 rcases T with ⟨rfl,rfl⟩ | ⟨m,f,l,T⟩
 ·refine ⟨[],?_⟩
  rw [List.append_nil]
  have wl:=yhL S
  have fo:=yca (t:=.nm 4) (b:=yaG) (sr.iv (en:=[some (.ref p),some (.int 0),some V,some (.fl []),none]) (j:=2) rfl)
  have lv:=sr.live (hh:=h) (fun _ _=>rfl)
  obtain ⟨u,us,eu,tk⟩:∃ u us,its.map uv++v::rest=u::us/\yaJ [.ref p,.fl [],u] h = .ok (.bl false) h:=by
   cases its with
   | nil=>exact ⟨v,rest,rfl,od h _ S fun _ _=>rfl⟩
   | cons i its=>exact ⟨uv i,_,rfl,zh8 S (oi i (List.mem_cons_self ..))⟩
  rw [eu] at fo lv
  have eb:yaG [some (.ref p),some (.int 0),some V,some (.fl []),some u] h = .rt .non h:=by simp [yaG,tk]
  have go:ya0 w (u::us) (.nm 4) yaG (u::us) [some (.ref p),some (.int 0),some V,some (.fl []),none] h = .rt .non h:=by
   unfold ya0
   rw [if_pos lv]
   have st:setT (.nm 4) u [some (.ref p),some (.int 0),some V,some (.fl []),none]=some [some (.ref p),some (.int 0),some V,some (.fl []),some u]:=rfl
   rw [st]
   dsimp only
   rw [eb]
  have fo' := fo.trans go
  unfold ybz
  generalize sFor (iVal (sVar 2)) (.nm 4) yaG=FF at *
  simp [wl,fo']
 ·have t1:=T.n1
  have t0:fEq (.int t) (.int 0) h = .ok (.bl false) h:=by
   have:=eq_n t 0 h
   rw [decide_eq_false (by lia)] at this
   exact this
  have ck:yaI [.ref p,.int t] h = .ok .non h:=zaX S (by have:=T.le;lia)
  have wl:ybD [.ref p,.int t] h = .ok (.ref h.length) (h++[.lst [.int t]]):=by
   simp [ybD,S.ob,ck,t0,-fEq]
  have kk:∀ i,i<h.length->(h++[AO.lst [.int t]])[i]? = h[i]? := fun i hi=>List.getElem?_append_left hi
  have eW:(h++[AO.lst [.int t]])[h.length]? = some (.lst (([.n t]:List Un).reverse.map uv)):=by simp
  obtain ⟨Z,r⟩:=zcS (t:=t) (rest:=rest) g sr hW od its [.n t] (h++[.lst [.int t]]) none oi (yeI T) (bd0 g T) (S.app _) kk eW
  have fo:=yca (t:=.nm 4) (b:=yaG) ((sr.mono kk).iv (en:=[some (.ref p),some (.int t),some V,some (.ref h.length),none]) (j:=2) rfl)
  have fo' := fo.trans r
  have es:(h++[AO.lst [.int t]]).set h.length (.lst Z)=h++[.lst Z]:=by simp
  rw [es] at fo'
  refine ⟨[.lst Z],?_⟩
  unfold ybz
  generalize sFor (iVal (sVar 2)) (.nm 4) yaG=FF at *
  generalize h++[.lst Z]=HF at *
  simp [wl,fo']
theorem zjo (h:AH):fEq .non (.fl []) h = .ok (.bl false) h:=by simp [toD,toDs,PyData.eqv]
theorem zch {h:AH} {t:Nat} {ps:List Pc} {its:List Un} {v:AV} {rest:List AV} {x:Str} (S:ShelfAt h 0 ps) (g:Good ps) (T:TxZ ps t x) (oi:∀ i∈its,OkI ps i) (od:Th ps h v) :
  ∃ r,ybX [.ref 0,.int t,.fl (its.map uv++v::rest)] h = .ok (.bl false) (h++r)/\ybo [.ref 0,.int t,.fl (its.map uv++v::rest)] h = .ok (.bl false) (h++r):=by
 obtain ⟨r,f⟩:=zjn S g T (.fl:SrcA h (its.map uv++v::rest) _ none) oi (fun hh l S' k=>od.takes S' k)
 refine ⟨r,?_,?_⟩
 ·have e:=zjo (h++r)
  generalize h++r=H at *
  generalize its.map uv++v::rest=Q at *
  simp [ybX,f,e,-fEq]
 ·have e:yeb .non .non (h++r) = .ok (.bl false) (h++r):=by simp
  generalize h++r=H at *
  generalize its.map uv++v::rest=Q at *
  simp [ybo,f,e,-yeb]
theorem zh9 {h:AH} {ps:List Pc} {i:Int} {V:AV} (S:ShelfAt h 0 ps) (n : ¬ (1<=i/\i<=ps.length)) (n0:i≠0):ya9 [.ref 0,.int 0,.int i,V] h = .ok (.bl true) h/\ya9 [.ref 0,.int 1,.int i,V] h = .ok (.bl true) h:=by
 have ob:=S.ob
 have c:=zeo S n
 have nz:fNe (.int i) (.int 0) h = .ok (.bl true) h:=by simp [n0]
 have ct:yaI [.ref 0,.int i] h = .ex yaM h:=by simp [yaI,nz,ob,c,-fNe]
 have wl:ybD [.ref 0,.int i] h = .ex yaM h:=by simp [ybD,ob,ct]
 have lb:ybz [.ref 0,.int i,V] h = .ex yaM h:=by
  unfold ybz
  generalize sFor (iVal (sVar 2)) (.nm 4) yaG=FF
  simp [wl]
 have s1:ybX [.ref 0,.int i,V] h = .ex yaM h:=by simp [ybX,lb,-fEq]
 have s2:ybo [.ref 0,.int i,V] h = .ex yaM h:=by simp [ybo,lb,-yeb]
 have e00:fEq (.int 0) (.int 0) h = .ok (.bl true) h:=by simp
 have e10:fEq (.int 1) (.int 0) h = .ok (.bl false) h:=by simp
 have e11:fEq (.int 1) (.int 1) h = .ok (.bl true) h:=by simp
 have cs:ybW yaM=true:=by decide
 have k1:ydb yaM=false:=by decide
 have k2:ydy yaM=false:=by decide
 have k3:yda yaM=true:=by decide
 have k4:ycr yaM=true:=by decide
 exact ⟨by simp [ya9,e00,s1,cs,k1,k2,k3,k4,-fEq],by simp [ya9,e10,e11,s2,cs,k1,k2,k3,k4,-fEq]⟩
theorem yhM {ps:List Pc} {h:AH} {k:Nat} {m:Ms} (S:ShelfAt h 0 ps) (k1:1<=k) (kl:k<=ps.length) (em:(meas ps)[k]? = some m):ya5 [.ref 0,.int k] h = .ok (.int m.sg) h:=by
 have ob:=S.ob
 have wh:yaW [.int k] h = .ok (.bl true) h:=by simp [yaW]
 have cp:=zbb S (i:=(k:Int)) ⟨by lia,by lia⟩
 have fs:=zaP S em
 simp [ya5,wh,ob,cp,fs]
theorem yhN {ps:List Pc} {h:AH} {i:Int} (S:ShelfAt h 0 ps) (n : ¬ (1<=i/\i<=ps.length)):ya5 [.ref 0,.int i] h = .ex yaM h:=by
 have ob:=S.ob
 have wh:yaW [.int i] h = .ok (.bl true) h:=by simp [yaW]
 have cp:=zeo S n
 simp [ya5,wh,ob,cp]
theorem yhO {h:AH} {z:Str}:ya5 [.ref 0,.str z] h = .ok (.int z.length) h:=by
 have wh:yaW [.str z] h = .ok (.bl false) h:=by simp [yaW]
 have ln:fLen [.str z] h = .ok (.int z.length) h:=rfl
 generalize (z.length:Int)=ZL at *
 simp [ya5,wh,ln,-fLen]
theorem yiI {ps:List Pc} {h:AH} {i:Un} (S:ShelfAt h 0 ps) (oi:OkI ps i):ya5 [.ref 0,uv i] h = .ok (.int (rdU ps i).length) h:=by
 cases oi with
 | @n k m f l x T =>
  have:=yhM S T.n1 T.le T.ms
  rw [ybY T,<- zad,T.ky.sg.symm]
  exact this
 | @s z a =>
  have:=yhO (h:=h) (z:=z)
  show ya5 [.ref 0,.str z] h = .ok (.int z.cps.toList.length) h
  rw [<- zad]
  exact this
end Sk
namespace Sk
open PySem PySem.Spec L2 Sm
abbrev ISG:SE:=yah ya5 (yab (sVar 1) (yab (sVar 0) sNil))
theorem yfe {h:AH} {ps:List Pc} {V:AV} {w:Option Nat} {all xs:List AV} (S:ShelfAt h 0 ps) (lv:ybj w all h=true):∀ (its:List Un) (ys:List AV),(∀ i∈its,OkI ps i)->ys.length+its.length<=100000 ->
  ybe [0] [some (.ref 0),some V] w all sYes ISG (its.map uv++xs) ys h=ybe [0] [some (.ref 0),some V] w all sYes ISG xs (ys++its.map fun i=>AV.int (rdU ps i).length) h
 | [],ys,_,_=>by rw [List.map_nil,List.nil_append,List.map_nil,List.append_nil]
 | i::its,ys,oi,hl=>by
  have e:=yiI S (oi i (List.mem_cons_self ..))
  have l1:ys.length+(its.length+1)<=100000:=hl
  have ih:=yfe (V:=V) (xs:=xs) S lv its (ys++[AV.int (rdU ps i).length]) (fun j hj=>oi j (List.mem_cons_of_mem _ hj)) (by rw [List.length_append,List.length_singleton];lia)
  rw [List.map_cons,List.cons_append,List.map_cons]
  conv=>lhs;unfold ybe
  have sz:ys.length<sizeLine:=Nat.lt_of_le_of_lt (m:=100000) (by lia) (by decide)
  rw [if_pos ⟨lv,sz⟩]
  have ev:ISG (some (uv i)::[0].map fun j=>(([some (.ref 0),some V]:En)[j]?).join) h = .ok (.int (rdU ps i).length) h:=by
   generalize ((rdU ps i).length:Int)=RL at *
   generalize uv i=I at *
   simp [ISG,e]
  show (match ISG (some (uv i)::[0].map fun j=>(([some (.ref 0),some V]:En)[j]?).join) h with
   | .ok v h2=>ybe [0] [some (.ref 0),some V] w all sYes ISG (its.map uv++xs) (ys++[v]) h2
   | .ex k h2=>.ex k h2
   | .bad=>.bad)=_
  rw [ev]
  dsimp only
  rw [ih,List.append_assoc]
  rfl
theorem zez (ps:List Pc):∀ its:List Un,ydM (its.map fun i=>AV.int (rdU ps i).length)=some (its.map fun i=>((rdU ps i).length:Int))
 | []=>rfl
 | i::its=>by simp [zez ps its]
theorem yf0 (ps:List Pc):∀ its:List Un,(its.map fun i=>((rdU ps i).length:Int)).sum=((rdS ps its).length:Int)
 | []=>rfl
 | i::its=>by
  rw [List.map_cons,List.sum_cons,yf0 ps its,rdS,List.length_append]
  lia
theorem ygi {h:AH} {ps:List Pc} {V:AV} {w:Option Nat} {its:List Un} (S:ShelfAt h 0 ps) (sr:SrcA h (its.map uv) V w) (oi:∀ i∈its,OkI ps i) (hl:its.length<=100000):ybi [.ref 0,V] h = .ok (.int (rdS ps its).length) h:=by
 have lv:=sr.live (hh:=h) fun _ _=>rfl
 have go:=yfe (V:=V) (xs:=[]) S lv its [] oi (by simpa using hl)
 rw [List.append_nil,List.nil_append] at go
 have en:ybe [0] [some (.ref 0),some V] w (its.map uv) sYes ISG [] (its.map fun i=>AV.int (rdU ps i).length) h = .ok (its.map fun i=>AV.int (rdU ps i).length) h:=by
  unfold ybe
  rw [if_pos lv]
 have it:=sr.iv (en:=[some (.ref 0),some V]) (j:=1) rfl
 have cp:ycl [0] (iVal (sVar 1)) sYes ISG [some (.ref 0),some V] h = .ok (.fl (its.map fun i=>AV.int (rdU ps i).length)) h:=by
  simp only [ycl,it,go.trans en]
 have sm:fSum [.fl (its.map fun i=>AV.int (rdU ps i).length)] h = .ok (.int (rdS ps its).length) h:=by
  simp only [fSum,zez,yf0]
 unfold ybi
 unfold ISG at cp
 generalize ycl [0] (iVal (sVar 1)) sYes (yah ya5 (yab (sVar 1) (yab (sVar 0) sNil)))=CP at *
 generalize (its.map fun i=>AV.int (rdU ps i).length)=LL at *
 generalize ((rdS ps its).length:Int)=RL at *
 simp [cp,sm,-fSum]
theorem yf1 {h:AH} {ps:List Pc} {V:AV} {w:Option Nat} {its:List Un} {n:Int} {rest:List AV} (S:ShelfAt h 0 ps) (sr:SrcA h (its.map uv ++ .int n::rest) V w) (oi:∀ i∈its,OkI ps i) (hl:its.length<=90000) (nn : ¬ (1<=n/\n<=ps.length)):ybi [.ref 0,V] h = .ex yaM h:=by
 have lv:=sr.live (hh:=h) fun _ _=>rfl
 have go:=yfe (V:=V) (xs:=.int n::rest) S lv its [] oi (by simp;lia)
 rw [List.nil_append] at go
 have e:=yhN S nn
 have ev:ISG (some (.int n)::[0].map fun j=>(([some (.ref 0),some V]:En)[j]?).join) h = .ex yaM h:=by
  simp [ISG,e]
 have en:ybe [0] [some (.ref 0),some V] w (its.map uv ++ .int n::rest) sYes ISG (.int n::rest) (its.map fun i=>AV.int (rdU ps i).length) h = .ex yaM h:=by
  conv=>lhs;unfold ybe
  have sz:(its.map fun i=>AV.int (rdU ps i).length).length<sizeLine:=by
   rw [List.length_map]
   exact Nat.lt_of_le_of_lt (m:=100000) (by lia) (by decide)
  rw [if_pos ⟨lv,sz⟩]
  show (match ISG (some (.int n)::[0].map fun j=>(([some (.ref 0),some V]:En)[j]?).join) h with
   | .ok v h2=>ybe [0] [some (.ref 0),some V] w _ sYes ISG rest (_++[v]) h2
   | .ex k h2=>.ex k h2
   | .bad=>.bad)=_
  rw [ev]
 have it:=sr.iv (en:=[some (.ref 0),some V]) (j:=1) rfl
 have cp:ycl [0] (iVal (sVar 1)) sYes ISG [some (.ref 0),some V] h = .ex yaM h:=by
  simp only [ycl,it,go.trans en]
 unfold ybi
 unfold ISG at cp
 generalize ycl [0] (iVal (sVar 1)) sYes (yah ya5 (yab (sVar 1) (yab (sVar 0) sNil)))=CP at *
 simp [cp,-fSum]
theorem zeA {h:AH} {V T:AV} (e:ybi [.ref 0,V] h = .ex yaM h):ya9 [.ref 0,.int 2,T,V] h = .ok (.bl true) h:=by
 have e20:fEq (.int 2) (.int 0) h = .ok (.bl false) h:=by simp
 have e21:fEq (.int 2) (.int 1) h = .ok (.bl false) h:=by simp
 have cs:ybW yaM=true:=by decide
 have k1:ydb yaM=false:=by decide
 have k2:ydy yaM=false:=by decide
 have k3:yda yaM=true:=by decide
 have k4:ycr yaM=true:=by decide
 simp [ya9,e20,e21,e,cs,k1,k2,k3,k4,-fEq]
theorem SrcA.cut {h:AH} {xs:List AV} {V:AV} {w:Option Nat} (s:SrcA h xs V w) (lo hi:Option Int):ybk V lo hi h = .ok (.fl (cutA xs lo hi)) h:=by
 cases s with
 | ref e=>simp only [ybk,yce,e]
 | fl=>rfl
theorem SrcA.len {h:AH} {xs:List AV} {V:AV} {w:Option Nat} (s:SrcA h xs V w):fLen [V] h = .ok (.int xs.length) h:=by
 cases s with
 | ref e=>simp only [fLen,e]
 | fl=>rfl
theorem yd9 {a b:List AV} (l:a.length+b.length<=100000) (h:AH):fAdd (.fl a) (.fl b) h = .ok (.fl (a++b)) h:=by
 have:a.length+b.length<=sizeLine:=Nat.le_trans l (by decide)
 simp only [fAdd,yce,this,if_true]
theorem zfX {h:AH} {R:Nat} {a b:List AV} (e:h[R]? = some (.lst a)) (l:a.length+b.length<=100000):fAdd (.ref R) (.fl b) h = .ok (.fl (a++b)) h:=by
 have:a.length+b.length<=sizeLine:=Nat.le_trans l (by decide)
 simp only [fAdd,yce,e,this,if_true]
end Sk
namespace Sk
open PySem PySem.Spec L2 Sm
structure Rr (L:Nat) (h:AH) (ps:List Pc):Prop where
 sh:ShelfAt h 0 ps
 gd:Good ps
 far:8<L
 ro:∃ N:Int,h[L]? = some (.lst [.int N])
theorem Rr.fr {L:Nat} {h h':AH} {ps:List Pc} (s:Rr L h ps) (f:Fr L h h'):Rr L h' ps:=by
 have l8:=yaz s.sh.h8
 have fa:=s.far
 exact ⟨s.sh.keep fun i i1 i8=>f.fr i (by lia) (by lia),s.gd,s.far,f.ro⟩
theorem Rr.app {L:Nat} {h:AH} {ps:List Pc} (s:Rr L h ps) (r:AH):Rr L (h++r) ps:=by
 obtain ⟨N,e⟩:=s.ro
 exact ⟨s.sh.app r,s.gd,s.far,N,by rw [List.getElem?_append_left (yaz e)];exact e⟩
theorem Rr.dd {L:Nat} {h h':AH} {ps ps':List Pc} {k:Nat} (s:Rr L h ps) (d:Dd 0 h h' ps ps' k):Rr L h' ps' := by
 obtain ⟨N,e⟩:=s.ro
 have:=s.far
 exact ⟨d.sh,d.gd,s.far,N,(d.fr L (.inr (by lia))).trans e⟩
theorem yff {t:Tg} {b:SS} {all:List AV} (Q:En->Prop) (h0:AH):∀ (xs:List AV) (en:En) (h:AH),Q en->(∃ r,h=h0++r) ->
  (∀ x∈xs,∀ en h,Q en->(∃ r,h=h0++r)->∃ e1,setT t x en=some e1/\∃ e2 h2,b e1 h = .nx e2 h2/\Q e2/\∃ r,h2=h0++r) ->
  ∃ e' h',ya0 none all t b xs en h = .nx e' h'/\Q e'/\∃ r,h'=h0++r
 | [],en,h,q,k,_=>⟨en,h,by unfold ya0;rw [if_pos (show ybj none all h=true from rfl)],q,k⟩
 | x::xs,en,h,q,k,st=>by
  obtain ⟨e1,s1,e2,h2,s2,q2,k2⟩:=st x (List.mem_cons_self ..) en h q k
  obtain ⟨e',h',r1,r2,r3⟩:=yff Q h0 xs e2 h2 q2 k2 (fun y hy=>st y (List.mem_cons_of_mem _ hy))
  refine ⟨e',h',?_,r2,r3⟩
  unfold ya0
  rw [if_pos (show ybj none all h=true from rfl),s1]
  dsimp only
  rw [s2]
  exact r1
theorem Fr.th {L:Nat} {h h':AH} {ps:List Pc} {v:AV} {N:Int} (f:Fr L h h') (eL:h[L]? = some (.lst [.int N])) (t:Th ps h v):Th ps h' v:=t.keep eL fun i hi n=>f.fr i hi n
theorem ydj {h r:AH} {ps:List Pc} {v:AV} {L:Nat} {N:Int} (eL:h[L]? = some (.lst [.int N])) (t:Th ps h v):Th ps (h++r) v:=t.keep eL fun i hi _=>List.getElem?_append_left hi
theorem yiJ:yba (Str.ofString "")=false/\yba (Str.ofString "abcdefghi")=false/\yba (Str.ofString "a\t")=false/\yba (Str.ofString "\t")=false:=by decide +kernel
theorem yiK:(Str.ofString "" : Str).length<=9/\(Str.ofString "abcdefghi" : Str).length<=9/\(Str.ofString "a\t" : Str).length<=9/\(Str.ofString "\t" : Str).length<=9:=by decide +kernel
theorem zia {L:Nat} {h:AH} {ps:List Pc} (s:Rr L h ps):∃ (xs:List AV) (h':AH),ybV [.ref 0,.ref L] h = .ok (.fl xs) h'/\(∀ v∈xs,Th ps h' v)/\Rr L h' ps/\Fr L h h' := by
 obtain ⟨N,eN⟩:=s.ro
 have Ll:=yaz eN
 have f0:Fr L h h:=⟨fun _ _ _=>rfl,Nat.le_refl _,N,eN⟩
 have ob:=s.sh.ob
 have fm:=yd7 s.sh
 have a1:fAdd (.int ps.length) (.int 1) h = .ok (.int ((ps.length+1:Nat):Int)) h:=rfl
 have pw:fPow (.int 10) (.int 29) h = .ok (.int ((10 ^ 29:Nat):Int)) h:=by simp
 obtain ⟨v,N1,hv,t,f1⟩:=f0.take (10 ^ 29) (by decide) (by decide)
 have s1:=s.fr f1
 obtain ⟨h1,eh1⟩:∃ h1,h1=h.set L (.lst [.int N1]):=⟨_,rfl⟩
 rw [<- eh1] at t f1 s1
 have ob1:=s1.sh.ob
 have fm1:=yd7 s1.sh
 have a2:fAdd (.int ((ps.length+1:Nat):Int)) (.int v) h1 = .ok (.int ((ps.length+1+v:Nat):Int)) h1:=rfl
 have a3:fAdd (.int ps.length) (.int 1) h1 = .ok (.int ((ps.length+1:Nat):Int)) h1:=rfl
 have sb:fSub (.int 0) (.int ((ps.length+1+v:Nat):Int)) h1 = .ok (.int (0-((ps.length+1+v:Nat):Int))) h1:=rfl
 have ng:fNeg (.int 1) h1 = .ok (.int (-1)) h1:=rfl
 obtain ⟨n0,s1'⟩:=yiJ
 obtain ⟨s2',s3',s4'⟩:=s1'
 obtain ⟨l1,l2,l3,l4⟩:=yiK
 have hf:h1++[AO.dct false [],AO.dct false [(AV.str "a",AV.int 1)]]=h1++[AO.dct false []]++[AO.dct false [(AV.str "a",AV.int 1)]]:=by simp
 refine ⟨[.int 0,.int (-1),.int (0-((ps.length+1+v:Nat):Int)),.int ((ps.length+1:Nat):Int),.int ((ps.length+1+v:Nat):Int),.bl true,.bl false,.non,.str "",.str "abcdefghi",.str "a\t",.str "\t",.fl [],.fl [.str "a"],.fl [.int 1],.tup [.str "a"],.tup [.int 1],.ref h1.length,.ref (h1.length+1)],h1++[.dct false [],.dct false [(.str "a",.int 1)]],?_,?_,s1.app _,f1.app _⟩
 ·have dd:∀ en:En,yeC (sLit (.str "a")) (sLit (.int 1)) en (h1++[AO.dct false []]) = .ok (.ref (h1.length+1)) (h1++[.dct false [],.dct false [(.str "a",.int 1)]]):=fun en=>by
   have e:(h1++[AO.dct false []]++[AO.dct false []])[h1.length+1]? = some (.dct false []):=by simp
   have k:ycz false (AV.str "a")=true:=rfl
   have e2:(h1++[AO.dct false []]++[AO.dct false []]).set (h1.length+1) (.dct false [(.str "a",.int 1)])=h1++[.dct false [],.dct false [(.str "a",.int 1)]]:=by simp
   show yeT (h1++[AO.dct false []]).length (.str "a") (.int 1) (h1++[AO.dct false []]++[AO.dct false []])=_
   rw [show (h1++[AO.dct false []]).length=h1.length+1 by simp]
   unfold yeT
   rw [e]
   dsimp only
   rw [if_pos k,e2]
  have ad:=yd9 (a:=[.int 0,.int (-1),.int (0-((ps.length+1+v:Nat):Int)),.int ((ps.length+1:Nat):Int),.int ((ps.length+1+v:Nat):Int),.bl true,.bl false,.non,.str "",.str "abcdefghi",.str "a\t",.str "\t"]) (b:=[.fl [],.fl [.str "a"],.fl [.int 1],.tup [.str "a"],.tup [.int 1],.ref h1.length,.ref (h1.length+1)]) (by show (12+7:Nat)<=_;decide) (h1++[.dct false [],.dct false [(.str "a",.int 1)]])
  clear s s1 f0 f1 hf eN eh1
  generalize ((ps.length+1+v:Nat):Int)=FA at *
  generalize ((ps.length+1:Nat):Int)=P1 at *
  generalize (ps.length:Int)=P0 at *
  generalize ((10 ^ 29:Nat):Int)=T29 at *
  generalize (v:Int)=VV at *
  generalize (0-FA)=MF at *
  unfold ybV
  generalize yeC (sLit (.str "a")) (sLit (.int 1))=DD at *
  generalize h1++[.dct false [],.dct false [(.str "a",.int 1)]]=H2 at *
  simp [ob,fm,a1,pw,t,a2,sb,ng,ob1,fm1,a3,dd,ad,-fAdd,-fPow,-fSub,-fNeg]
 ·intro u hu
  have e1:(h1++[AO.dct false [],AO.dct false [(AV.str "a",AV.int 1)]])[h1.length]? = some (.dct false []):=by simp
  have e2:(h1++[AO.dct false [],AO.dct false [(AV.str "a",AV.int 1)]])[h1.length+1]? = some (.dct false [(.str "a",.int 1)]):=by simp
  simp only [List.mem_cons,List.not_mem_nil,or_false] at hu
  rcases hu with rfl | rfl | rfl | rfl | rfl | rfl | rfl | rfl | rfl | rfl | rfl | rfl | rfl | rfl | rfl | rfl | rfl | rfl | rfl
  ·exact .int _ (by lia)
  ·exact .int _ (by lia)
  ·exact .int _ (by lia)
  ·exact .int _ (by lia)
  ·exact .int _ (by lia)
  ·exact .bl _
  ·exact .bl _
  ·exact .non
  ·exact .str _ l1 n0
  ·exact .str _ l2 s2'
  ·exact .str _ l3 s3'
  ·exact .str _ l4 s4'
  ·exact .fl _
  ·exact .fl _
  ·exact .fl _
  ·exact .tup _
  ·exact .tup _
  ·exact .dct e1
  ·exact .dct e2
end Sk
namespace Sk
open PySem PySem.Spec L2 Sm
abbrev e54 (sc:AV) (y:Str) (t L RI n:Nat) (o7 o8 o9 o10 o11 o12:Option AV):En:=[some sc,some (.ref 0),some (.str y),some (.int t),some (.ref L),some (.ref RI),some (.int n),o7,o8,o9,o10,o11,o12]
theorem yiL {sc:AV} {y x:Str} {t L RI n:Nat} {h:AH} {ps:List Pc} {its:List Un} {v:AV} {rest:List AV} {o7 o8 o10 o11 o12:Option AV} (S:ShelfAt h 0 ps) (g:Good ps) (T:TxZ ps t x) (oi:∀ i∈its,OkI ps i) {N:Int} (eL:h[L]? = some (.lst [.int N])) (od:Th ps h v) :
  ∃ r,yde (e54 sc y t L RI n o7 o8 (some (.fl (its.map uv++v::rest))) o10 o11 o12) h = .nx (e54 sc y t L RI n o7 o8 (some (.fl (its.map uv++v::rest))) o10 o11 o12) (h++r):=by
 have Z:TxZ ps 0 "" := .inl ⟨rfl,rfl⟩
 obtain ⟨r1,a1,_⟩:=zch (rest:=rest) S g T oi od
 have eL1:(h++r1)[L]? = some (.lst [.int N]):=by rw [List.getElem?_append_left (yaz eL)];exact eL
 obtain ⟨r2,_,a2⟩:=zch (rest:=rest) (S.app r1) g T oi (ydj (r:=r1) eL od)
 have eL2:(h++r1++r2)[L]? = some (.lst [.int N]):=by rw [List.getElem?_append_left (yaz eL1)];exact eL1
 obtain ⟨r3,a3,_⟩:=zch (rest:=rest) ((S.app r1).app r2) g Z oi (ydj (r:=r2) eL1 (ydj (r:=r1) eL od))
 obtain ⟨r4,_,a4⟩:=zch (rest:=rest) (((S.app r1).app r2).app r3) g Z oi (ydj (r:=r3) eL2 (ydj (r:=r2) eL1 (ydj (r:=r1) eL od)))
 replace a3:ybX [.ref 0,.int 0,.fl (its.map uv++v::rest)] (h++r1++r2) = .ok (.bl false) (h++r1++r2++r3):=a3
 replace a4:ybo [.ref 0,.int 0,.fl (its.map uv++v::rest)] (h++r1++r2++r3) = .ok (.bl false) (h++r1++r2++r3++r4):=a4
 have nb:∀ hh,ydx (.bl false) (.bl false) hh = .ok (.bl false) hh:=fun _=>rfl
 refine ⟨r1++r2++r3++r4,?_⟩
 have er:h++(r1++r2++r3++r4)=h++r1++r2++r3++r4:=by simp [List.append_assoc]
 rw [er]
 clear S g T Z oi od eL eL1 eL2 er
 generalize h++r1++r2++r3++r4=H4 at *
 generalize h++r1++r2++r3=H3 at *
 generalize h++r1++r2=H2 at *
 generalize h++r1=H1 at *
 generalize its.map uv++v::rest=Q at *
 simp [yde,e54,a1,a2,a3,a4,nb,-ydx]
theorem zci (its:List Un) (k:Nat):cutA (its.map uv) none (some (k:Int))=(its.take k).map uv/\cutA (its.map uv) (some (k:Int)) none=(its.drop k).map uv:=by
 constructor
 ·simp only [cutA,HT.sIx_nat,HT.sIx_none,List.length_map]
  rw [List.drop_zero,Nat.sub_zero,<- List.map_take]
  congr 1
  by_cases q:k<=its.length
  ·rw [Nat.min_eq_left q]
  ·rw [Nat.min_eq_right (by lia),List.take_length,List.take_of_length_le (by lia)]
 ·simp only [cutA,HT.sIx_nat,HT.sIx_none,List.length_map]
  rw [<- List.map_drop,<- List.map_take]
  congr 1
  by_cases q:k<=its.length
  ·rw [Nat.min_eq_left q,List.take_of_length_le (by rw [List.length_drop];lia)]
  ·rw [Nat.min_eq_right (by lia),List.drop_length,List.take_nil,List.drop_of_length_le (by lia)]
abbrev ODL:SE:=sLst (yab (sOp2 fAdd (sOp2 fAdd (sCut (sVar 5) none (some (sVar 8))) (sLst (yab (sVar 7) sNil))) (sCut (sVar 5) (some (sVar 8)) none)) (yab (sLst (yab (sVar 7) sNil)) (yab (sOp2 fAdd (sVar 5) (sLst (yab (sVar 7) sNil))) sNil)))
theorem yiM {sc:AV} {y x:Str} {t L RI n:Nat} {h:AH} {ps:List Pc} {its:List Un} {v:AV} {o8 o9 o10 o11 o12:Option AV} (s:Rr L h ps) (T:TxZ ps t x) (oi:∀ i∈its,OkI ps i) (li:its.length<=100) (eI:h[RI]? = some (.lst (its.map uv))) (nI:RI≠L) (od:Th ps h v) :
  ∃ (c8 c9:Option AV) (h':AH),ycO (e54 sc y t L RI n (some v) o8 o9 o10 o11 o12) h = .nx (e54 sc y t L RI n (some v) c8 c9 o10 o11 o12) h'/\Rr L h' ps/\Fr L h h' := by
 obtain ⟨N,eN⟩:=s.ro
 have f0:Fr L h h:=⟨fun _ _ _=>rfl,Nat.le_refl _,N,eN⟩
 have ln:fLen [.ref RI] h = .ok (.int its.length) h:=by simp only [fLen,eI,List.length_map]
 have ad:fAdd (.int its.length) (.int 1) h = .ok (.int ((its.length+1:Nat):Int)) h:=rfl
 obtain ⟨a,N1,ha,t1,f1⟩:=f0.take (its.length+1) (Nat.succ_pos _) (Nat.le_trans (m:=101) (by lia) (by decide))
 have s1:=s.fr f1
 have od1:=f1.th eN od
 obtain ⟨N',eN'⟩:=f1.ro
 have eI1:(h.set L (.lst [.int N1]))[RI]? = some (.lst (its.map uv)):=(f1.fr RI (yaz eI) nI).trans eI
 obtain ⟨h1,eh1⟩:∃ h1,h1=h.set L (.lst [.int N1]):=⟨_,rfl⟩
 rw [<- eh1] at t1 f1 s1 od1 eN' eI1
 have sr:SrcA h1 (its.map uv) (.ref RI) (some RI):=.ref eI1
 have c1:=sr.cut none (some (a:Int))
 have c2:=sr.cut (some (a:Int)) none
 rw [(zci its a).1] at c1
 rw [(zci its a).2] at c2
 have l1:((its.take a).map uv).length<=100:=by rw [List.length_map,List.length_take];lia
 have l2:((its.drop a).map uv).length<=100:=by rw [List.length_map,List.length_drop];lia
 have d1:=yd9 (a:=(its.take a).map uv) (b:=[v]) (by show _+1<=_;lia) h1
 have d2:=yd9 (a:=(its.take a).map uv++[v]) (b:=(its.drop a).map uv) (by rw [List.length_append];show _+1+_<=_;lia) h1
 have d3:=zfX eI1 (b:=[v]) (by rw [List.length_map];show _+1<=_;lia)
 have e3:(its.take a).map uv++[v]++(its.drop a).map uv=(its.take a).map uv++v::(its.drop a).map uv:=by simp
 rw [e3] at d2
 have it:iVal ODL (e54 sc y t L RI n (some v) (some (.int a)) o9 o10 o11 o12) h1 = .ok ([.fl ((its.take a).map uv++v::(its.drop a).map uv),.fl [v],.fl (its.map uv++[v])],none) h1:=by
  clear s s1 od od1 f0 f1 T e3 l1 l2 sr
  generalize (its.take a).map uv++v::(its.drop a).map uv=X1 at *
  generalize (its.take a).map uv++[v]=X2 at *
  generalize its.map uv++[v]=X3 at *
  generalize (its.take a).map uv=X4 at *
  generalize (its.drop a).map uv=X5 at *
  generalize its.map uv=X6 at *
  generalize (a:Int)=AA at *
  simp [ODL,e54,c1,c2,d1,d2,d3,-fAdd,-ybk]
 obtain ⟨e',h',lp,⟨c9,rfl⟩,r,rfl⟩:=yff (t:=.nm 9) (b:=yde) (all:=[.fl ((its.take a).map uv++v::(its.drop a).map uv),.fl [v],.fl (its.map uv++[v])]) (fun en=>∃ c9,en=e54 sc y t L RI n (some v) (some (.int a)) c9 o10 o11 o12) h1 [.fl ((its.take a).map uv++v::(its.drop a).map uv),.fl [v],.fl (its.map uv++[v])] (e54 sc y t L RI n (some v) (some (.int a)) o9 o10 o11 o12) h1 ⟨_,rfl⟩ ⟨[],(List.append_nil _).symm⟩ (by
  rintro V hV en hh ⟨k9,rfl⟩ ⟨r,rfl⟩
  obtain ⟨js,rest,rfl,oj⟩:∃ (js:List Un) (rest:List AV),V = .fl (js.map uv++v::rest)/\∀ i∈js,OkI ps i:=by
   simp only [List.mem_cons,List.not_mem_nil,or_false] at hV
   rcases hV with rfl | rfl | rfl
   ·exact ⟨its.take a,_,rfl,fun i hi=>oi i (List.mem_of_mem_take hi)⟩
   ·exact ⟨[],[],rfl,fun i hi=>(by cases hi)⟩
   ·exact ⟨its,[],rfl,oi⟩
  have eL2:(h1++r)[L]? = some (.lst [.int N']):=by rw [List.getElem?_append_left (yaz eN')];exact eN'
  obtain ⟨r',ev⟩:=yiL (sc:=sc) (y:=y) (RI:=RI) (n:=n) (rest:=rest) (o7:=some v) (o8:=some (.int a)) (o10:=o10) (o11:=o11) (o12:=o12) (s1.sh.app r) s1.gd T oj eL2 (ydj (r:=r) eN' od1)
  exact ⟨_,rfl,_,_,ev,⟨_,rfl⟩,r++r',by rw [List.append_assoc]⟩)
 have fo:=(yca (t:=.nm 9) (b:=yde) it).trans lp
 refine ⟨some (.int a),c9,h1++r,?_,s1.app r,f1.app r⟩
 clear s s1 od od1 f0 f1 T lp it d1 d2 d3 c1 c2
 unfold ycO
 unfold ODL at fo
 generalize sFor (iVal (sLst (yab (sOp2 fAdd (sOp2 fAdd (sCut (sVar 5) none (some (sVar 8))) (sLst (yab (sVar 7) sNil))) (sCut (sVar 5) (some (sVar 8)) none)) (yab (sLst (yab (sVar 7) sNil)) (yab (sOp2 fAdd (sVar 5) (sLst (yab (sVar 7) sNil))) sNil))))) (.nm 9) yde=FF at *
 simp only [e54] at fo
 simp only [e54]
 generalize ((its.length+1:Nat):Int)=I1 at *
 generalize (its.length:Int)=I0 at *
 generalize (a:Int)=AA at *
 generalize h1++r=H2 at *
 simp [ln,ad,t1,fo,-fLen,-fAdd]
end Sk
namespace Sk
open PySem PySem.Spec L2 Sm
theorem yiN {sc:AV} {y:Str} {t L RI n:Nat} {h:AH} {ps:List Pc} {i:Int} {o7 o8 o9 o10:Option AV} {V:AV} (S:ShelfAt h 0 ps) (nn : ¬ (1<=i/\i<=ps.length)) (n0:i≠0) :
  ydf (e54 sc y t L RI n o7 o8 o9 o10 (some (.int i)) (some V)) h = .nx (e54 sc y t L RI n o7 o8 o9 o10 (some (.int i)) (some V)) h:=by
 obtain ⟨a,b⟩:=zh9 (V:=V) S nn n0
 simp [ydf,e54,a,b]
abbrev SML:SE:=sLst (yab (sVar 5) (yab (sLst sNil) (yab (sLst (yab (sLit (.str "a")) (yab (sLit .non) sNil))) sNil)))
theorem yiO {sc:AV} {y:Str} {t L RI n:Nat} {h:AH} {ps:List Pc} {its:List Un} {i:Int} {o7 o8 o9 o10 o12:Option AV} (s:Rr L h ps) (oi:∀ i∈its,OkI ps i) (li:its.length<=100) (eI:h[RI]? = some (.lst (its.map uv))) (nI:RI≠L) (nn : ¬ (1<=i/\i<=ps.length)) (n0:i≠0) :
  ∃ (c8 c12:Option AV) (h':AH),ycP (e54 sc y t L RI n o7 o8 o9 o10 (some (.int i)) o12) h = .nx (e54 sc y t L RI n o7 c8 o9 o10 (some (.int i)) c12) h'/\Rr L h' ps/\Fr L h h' := by
 obtain ⟨N,eN⟩:=s.ro
 have f0:Fr L h h:=⟨fun _ _ _=>rfl,Nat.le_refl _,N,eN⟩
 have it:iVal SML (e54 sc y t L RI n o7 o8 o9 o10 (some (.int i)) o12) h = .ok ([.ref RI,.fl [],.fl [.str "a",.non]],none) h:=by simp [SML,e54]
 obtain ⟨e',h',lp,⟨c12,rfl⟩,r,er⟩:=yff (t:=.nm 12) (b:=ydf) (all:=[.ref RI,.fl [],.fl [.str "a",.non]]) (fun en=>∃ c12,en=e54 sc y t L RI n o7 o8 o9 o10 (some (.int i)) c12) h [.ref RI,.fl [],.fl [.str "a",.non]] (e54 sc y t L RI n o7 o8 o9 o10 (some (.int i)) o12) h ⟨_,rfl⟩ ⟨[],(List.append_nil _).symm⟩ (by
  rintro V hV en hh ⟨k12,rfl⟩ ⟨r,rfl⟩
  exact ⟨_,rfl,_,_,yiN (V:=V) (s.sh.app r) nn n0,⟨_,rfl⟩,r,rfl⟩)
 subst er
 have s1:=s.app r
 have f1:=f0.app r
 have eI1:(h++r)[RI]? = some (.lst (its.map uv)):=by rw [List.getElem?_append_left (yaz eI)];exact eI
 have fo:=(yca (t:=.nm 12) (b:=ydf) it).trans lp
 obtain ⟨h1,eh1⟩:∃ h1,h1=h++r:=⟨_,rfl⟩
 rw [<- eh1] at s1 f1 eI1 fo
 have ln:fLen [.ref RI] h1 = .ok (.int its.length) h1:=by simp only [fLen,eI1,List.length_map]
 have ad:fAdd (.int its.length) (.int 1) h1 = .ok (.int ((its.length+1:Nat):Int)) h1:=rfl
 obtain ⟨N1,eN1⟩:=s1.ro
 have f01:Fr L h1 h1:=⟨fun _ _ _=>rfl,Nat.le_refl _,N1,eN1⟩
 obtain ⟨a,N2,ha,t2,f2⟩:=f01.take (its.length+1) (Nat.succ_pos _) (Nat.le_trans (m:=101) (by lia) (by decide))
 have s2:=s1.fr f2
 have eI2:(h1.set L (.lst [.int N2]))[RI]? = some (.lst (its.map uv)):=(f2.fr RI (yaz eI1) nI).trans eI1
 obtain ⟨h2,eh2⟩:∃ h2,h2=h1.set L (.lst [.int N2]):=⟨_,rfl⟩
 rw [<- eh2] at t2 f2 s2 eI2
 have sr:SrcA h2 (its.map uv) (.ref RI) (some RI):=.ref eI2
 have c1:=sr.cut none (some (a:Int))
 have c2:=sr.cut (some (a:Int)) none
 rw [(zci its a).1] at c1
 rw [(zci its a).2] at c2
 have l1:((its.take a).map uv).length<=100:=by rw [List.length_map,List.length_take];lia
 have l2:((its.drop a).map uv).length<=100:=by rw [List.length_map,List.length_drop];lia
 have d1:=yd9 (a:=(its.take a).map uv) (b:=[.int i]) (by show _+1<=_;lia) h2
 have d2:=yd9 (a:=(its.take a).map uv++[.int i]) (b:=(its.drop a).map uv) (by rw [List.length_append];show _+1+_<=_;lia) h2
 have e3:(its.take a).map uv++[.int i]++(its.drop a).map uv=(its.take a).map uv ++ .int i::(its.drop a).map uv:=by simp
 rw [e3] at d2
 have rf:=zeA (T:=.int t) (yf1 s2.sh (.fl:SrcA h2 ((its.take a).map uv ++ .int i::(its.drop a).map uv) _ none) (fun j hj=>oi j (List.mem_of_mem_take hj)) (by rw [List.length_take];lia) nn)
 refine ⟨some (.int a),c12,h2,?_,s2,f1.trans f2⟩
 clear s s1 s2 f0 f1 f2 f01 lp it e3 l1 l2 sr oi
 unfold ycP
 unfold SML at fo
 generalize sFor (iVal (sLst (yab (sVar 5) (yab (sLst sNil) (yab (sLst (yab (sLit (.str "a")) (yab (sLit .non) sNil))) sNil))))) (.nm 12) ydf=FF at *
 simp only [e54] at fo
 simp only [e54]
 generalize (its.take a).map uv ++ .int i::(its.drop a).map uv=X1 at *
 generalize (its.take a).map uv++[.int i]=X2 at *
 generalize (its.take a).map uv=X4 at *
 generalize (its.drop a).map uv=X5 at *
 generalize ((its.length+1:Nat):Int)=I1 at *
 generalize (its.length:Int)=I0 at *
 generalize (a:Int)=AA at *
 simp [fo,ln,ad,t2,c1,c2,d1,d2,rf,-fLen,-fAdd,-ybk]
abbrev NUL:SE:=sLst (yab (sOp1 fNeg (sLit (.int 1))) (yab (sOp2 fSub (sOp2 fSub (sLit (.int 0)) (sLit (.int 1))) (sVar 10)) (yab (sOp2 fAdd (yaj 0 ya4 (sVar 1) sNil) (sLit (.int 1))) (yab (sOp2 fAdd (sOp2 fAdd (yaj 0 ya4 (sVar 1) sNil) (sLit (.int 1))) (sVar 10)) (yab (sOp2 fSub (sOp2 fPow (sLit (.int 10)) (sLit (.int 30))) (sLit (.int 1))) sNil)))))
theorem law_true (ns:List Int) (hl:ns.length<=63):∃ h',yfo [.fl (ns.map AV.int)] [] = .ok (.bl true) h' := by
 obtain ⟨sc,esc⟩:∃ sc:AV,sc = .fl (ns.map AV.int):=⟨_,rfl⟩
 have mk:=yhr [some sc,none,none,none,none,none,none,none,none,none,none,none,none] []
 have l0:([]:AH).length=0:=rfl
 rw [l0,List.nil_append] at mk
 have S0:ShelfAt (ycs 0) 0 []:=by have:=yhs [] [];simpa using this
 obtain ⟨N0,s0⟩:=zcD ns hl 0 (by decide) (ycs 0)
 have s0':ybl [.fl (ns.map AV.int),.int 0] (ycs 0) = .ok (.ref 9) (ycs 0++[.lst [.int N0]]):=s0
 have e1:(ycs 0++[AO.lst [.int N0]])[9]? = some (.lst [.int N0]):=rfl
 have n1:(ycs 0++[AO.lst [.int N0]]).length=10:=rfl
 have S1:ShelfAt (ycs 0++[AO.lst [.int N0]]) 0 []:=S0.app _
 generalize ycs 0++[AO.lst [.int N0]]=H1 at *
 obtain ⟨y,N2,p2,py,ly⟩:=zg2 40 (by decide) e1
 have p2':ycm [.ref 9,.int 40] H1 = .ok (.str y) (H1.set 9 (.lst [.int N2])):=p2
 have S2:ShelfAt (H1.set 9 (.lst [.int N2])) 0 []:=zaE S1 (by decide) _
 have n2:(H1.set 9 (.lst [.int N2])).length=10:=by rw [List.length_set,n1]
 generalize H1.set 9 (.lst [.int N2])=H2 at *
 obtain ⟨N3,s3⟩:=zcD ns hl 1 (by decide) H2
 have s3':ybl [.fl (ns.map AV.int),.int 1] H2 = .ok (.ref 10) (H2++[.lst [.int N3]]):=by rw [<- n2];exact s3
 have S3:ShelfAt (H2++[.lst [.int N3]]) 0 []:=S2.app _
 have e3:(H2++[AO.lst [.int N3]])[10]? = some (.lst [.int N3]):=by rw [<- n2];simp
 generalize H2++[AO.lst [.int N3]]=H3 at *
 obtain ⟨n,ps,H4,f4,G4,T4⟩:=yhI S3 .nil (show 0+8<10 by decide) ⟨N3,e3⟩ py ly (by decide)
 have z4:ps.length<=60000:=Nat.le_trans G4.len (by show 0+60000<=_;lia)
 obtain ⟨N5,s5⟩:=zcD ns hl 2 (by decide) H4
 obtain ⟨L,eL⟩:∃ L,L=H4.length:=⟨_,rfl⟩
 rw [<- eL] at s5
 have l8:=yaz G4.sh.h8
 have R5:Rr L (H4++[.lst [.int N5]]) ps:=⟨G4.sh.app _,G4.gd,by lia,N5,by rw [eL];simp⟩
 have s5':ybl [.fl (ns.map AV.int),.int 2] H4 = .ok (.ref L) (H4++[.lst [.int N5]]):=s5
 generalize H4++[AO.lst [.int N5]]=H5 at *
 rw [<- esc] at s0' s3' s5'
 have L5:L<H5.length:=by obtain ⟨_,e⟩:=R5.ro;exact yaz e
 obtain ⟨its0,H6,f6,eI6,fr6,S6,oi6,li6,z6,lb6⟩:=zg3 R5.sh R5.gd (by have:=R5.far;lia) R5.ro T4 (by lia)
 have R6:=R5.fr fr6
 obtain ⟨its,H7,f7,eI7,fr7,S7,ef,oi,li⟩:=zh7 S6 (by have:=R5.far;lia) R6.ro eI6 (by lia) oi6 (by lia)
 have R7:=R6.fr fr7
 have L6:=fr6.hl
 obtain ⟨RI,eRI⟩:∃ RI,RI=H6.length:=⟨_,rfl⟩
 rw [<- eRI] at f7 eI7
 have nI:RI≠L:=by lia
 have rd:(rdS ps its).length=y.length:=by
  have r1:∀ js:List Un,rdS ps (ya6 js)=rdS ps js:=fun js=>by
   induction js with
   | nil=>rfl
   | cons u r ih =>
    cases u with
    | n k=>rw [ya6,rdS,rdS,ih]
    | s w=>rw [ya6,zfK,zc9,rdS,ih];rfl
  rw [<- r1 its,ef]
  rcases id T4 with ⟨q,rfl⟩ | ⟨m,f,l,T⟩
  ·rw [z6 q]
   rfl
  ·have q:=(zcB R5.gd _ (yeI T) (lb6 (by have:=T.n1;lia))).1
   have e:rdS ps [.n n]=y.cps.toList:=by rw [rdS,rdS,List.append_nil,ybY T]
   rw [e] at q
   rw [zad,q]
   show _=(_++[]).length
   rw [List.append_nil]
 have fm:=yd7 R7.sh
 have ob:=R7.sh.ob
 have i1:=ygi R7.sh (.ref eI7) oi (by lia)
 rw [rd] at i1
 have i2:ybi [.ref 0,.fl []] H7 = .ok (.int 0) H7:=ygi (its:=[]) R7.sh .fl (fun i hi=>(by cases hi)) (by decide)
 have ln:fLen [.str y] H7 = .ok (.int y.length) H7:=rfl
 have q1:fNe (.int y.length) (.int y.length) H7 = .ok (.bl false) H7:=by simp
 have q2:fNe (.int 0) (.int 0) H7 = .ok (.bl false) H7:=by simp
 obtain ⟨xs,H8,f8,th,R8,fr8⟩:=zia R7
 have eI8:H8[RI]? = some (.lst (its.map uv)):=(fr8.fr RI (yaz eI7) nI).trans eI7
 obtain ⟨N8,eN8⟩:=R8.ro
 obtain ⟨e',H9,r1,r2⟩:=ydA (w:=none) (all:=xs) (t:=.nm 7) (b:=ycO) (xs:=xs) (en:=e54 sc y n L RI ps.length none none none none none none) (h:=H8)
  (fun j en hh=>∃ (o7 o8 o9:Option AV),en=e54 sc y n L RI ps.length o7 o8 o9 none none none/\Rr L hh ps/\Fr L H8 hh)
  ⟨none,none,none,rfl,R8,fun _ _ _=>rfl,Nat.le_refl _,N8,eN8⟩ (fun _ _ _ _=>rfl) (by
   rintro j u en hh hu ⟨o7,o8,o9,rfl,Rj,Fj⟩
   obtain ⟨c8,c9,h',ev,R',F'⟩:=yiM (sc:=sc) (y:=y) (n:=ps.length) (o8:=o8) (o9:=o9) (o10:=none) (o11:=none) (o12:=none) Rj T4 oi (by lia) ((Fj.fr RI (yaz eI8) nI).trans eI8) nI (Fj.th eN8 (th u (List.mem_of_getElem? hu)))
   show thn (ycO (e54 sc y n L RI ps.length (some u) o8 o9 none none none) hh) _
   rw [ev]
   exact ⟨_,_,_,rfl,R',Fj.trans F'⟩)
 obtain ⟨o7,o8,o9,rfl,R9,F9⟩:=r2
 have it1:iVal (yah ybV (yab (sVar 1) (yab (sVar 4) sNil))) (e54 sc y n L RI ps.length none none none none none none) H7 = .ok (xs,none) H8:=by
  simp [e54,f8]
 have lp1:=(yca (t:=.nm 7) (b:=ycO) it1).trans r1
 have eI9:H9[RI]? = some (.lst (its.map uv)):=(F9.fr RI (yaz eI8) nI).trans eI8
 obtain ⟨N9,eN9⟩:=R9.ro
 have F09:Fr L H9 H9:=⟨fun _ _ _=>rfl,Nat.le_refl _,N9,eN9⟩
 have pw:fPow (.int 10) (.int 29) H9 = .ok (.int ((10 ^ 29:Nat):Int)) H9:=by simp
 obtain ⟨v,N10,hv,t10,F10⟩:=F09.take (10 ^ 29) (by decide) (by decide)
 have R10:=R9.fr F10
 have eI10:(H9.set L (.lst [.int N10]))[RI]? = some (.lst (its.map uv)):=(F10.fr RI (yaz eI9) nI).trans eI9
 obtain ⟨H10,eh10⟩:∃ H10,H10=H9.set L (.lst [.int N10]):=⟨_,rfl⟩
 rw [<- eh10] at t10 R10 eI10
 have fm10:=yd7 R10.sh
 have ob10:=R10.sh.ob
 obtain ⟨N11,eN11⟩:=R10.ro
 have it2:iVal NUL (e54 sc y n L RI ps.length o7 o8 o9 (some (.int v)) none none) H10 = .ok ([.int (-1),.int (0-1-(v:Int)),.int ((ps.length:Int)+1),.int ((ps.length:Int)+1+v),.int (10 ^ 30-1)],none) H10:=by
  have pw':fPow (.int 10) (.int 30) H10 = .ok (.int (10 ^ 30)) H10:=by simp
  have k1:fSub (.int 0) (.int 1) H10 = .ok (.int (0-1)) H10:=rfl
  have k2:fSub (.int (0-1)) (.int v) H10 = .ok (.int (0-1-(v:Int))) H10:=rfl
  have k3:fAdd (.int ps.length) (.int 1) H10 = .ok (.int ((ps.length:Int)+1)) H10:=rfl
  have k4:fAdd (.int ((ps.length:Int)+1)) (.int v) H10 = .ok (.int ((ps.length:Int)+1+v)) H10:=rfl
  have k5:fSub (.int (10 ^ 30)) (.int 1) H10 = .ok (.int (10 ^ 30-1)) H10:=rfl
  have k6:fNeg (.int 1) H10 = .ok (.int (-1)) H10:=rfl
  clear r1 lp1 it1
  generalize ((ps.length:Int)+1+v)=A4 at *
  generalize ((ps.length:Int)+1)=A3 at *
  generalize (0-1-(v:Int))=A2 at *
  generalize (0-1:Int)=A1 at *
  generalize (10 ^ 30-1:Int)=A6 at *
  generalize (10 ^ 30:Int)=A5 at *
  simp [NUL,e54,ob10,fm10,pw',k1,k2,k3,k4,k5,k6,-fSub,-fAdd,-fPow,-fNeg]
 obtain ⟨e'',H11,r3,r4⟩:=ydA (w:=none) (all:=[.int (-1),.int (0-1-(v:Int)),.int ((ps.length:Int)+1),.int ((ps.length:Int)+1+v),.int (10 ^ 30-1)]) (t:=.nm 11) (b:=ycP) (xs:=[.int (-1),.int (0-1-(v:Int)),.int ((ps.length:Int)+1),.int ((ps.length:Int)+1+v),.int (10 ^ 30-1)]) (en:=e54 sc y n L RI ps.length o7 o8 o9 (some (.int v)) none none) (h:=H10)
  (fun j en hh=>∃ (c8 c11 c12:Option AV),en=e54 sc y n L RI ps.length o7 c8 o9 (some (.int v)) c11 c12/\Rr L hh ps/\Fr L H10 hh)
  ⟨o8,none,none,rfl,R10,fun _ _ _=>rfl,Nat.le_refl _,N11,eN11⟩ (fun _ _ _ _=>rfl) (by
   rintro j u en hh hu ⟨c8,c11,c12,rfl,Rj,Fj⟩
   obtain ⟨i,rfl,nn,n0⟩:∃ i:Int,u = .int i /\ ¬ (1<=i/\i<=ps.length)/\i≠0:=by
    have hu' := List.mem_of_getElem? hu
    simp only [List.mem_cons,List.not_mem_nil,or_false] at hu'
    rcases hu' with rfl | rfl | rfl | rfl | rfl
    ·exact ⟨_,rfl,by lia,by lia⟩
    ·exact ⟨_,rfl,by lia,by lia⟩
    ·exact ⟨_,rfl,by lia,by lia⟩
    ·exact ⟨_,rfl,by lia,by lia⟩
    ·exact ⟨_,rfl,by lia,by lia⟩
   obtain ⟨d8,d12,h',ev,R',F'⟩:=yiO (sc:=sc) (y:=y) (t:=n) (n:=ps.length) (o7:=o7) (o8:=c8) (o9:=o9) (o10:=some (.int v)) (o12:=c12) Rj oi (by lia) ((Fj.fr RI (yaz eI10) nI).trans eI10) nI nn n0
   show thn (ycP (e54 sc y n L RI ps.length o7 c8 o9 (some (.int v)) (some (.int i)) c12) hh) _
   rw [ev]
   exact ⟨_,_,_,rfl,R',Fj.trans F'⟩)
 obtain ⟨c8,c11,c12,rfl,R11,F11⟩:=r4
 have lp2:=(yca (t:=.nm 11) (b:=ycP) it2).trans r3
 have eI11:H11[RI]? = some (.lst (its.map uv)):=(F11.fr RI (yaz eI10) nI).trans eI10
 have d3:=zfX eI11 (b:=[.int 0]) (by rw [List.length_map];show _+1<=_;lia)
 have rf:=zeA (T:=.int n) (yf1 R11.sh (.fl:SrcA H11 (its.map uv ++ .int 0::[]) _ none) oi (by lia) (by lia))
 have fm11:=yd7 R11.sh
 have ob11:=R11.sh.ob
 have q11:fEq (.int ps.length) (.int ps.length) H11 = .ok (.bl true) H11:=by simp
 refine ⟨H11,?_⟩
 rw [<- esc]
 clear S0 S1 S2 S3 G4 T4 R5 R6 R7 R8 R9 R10 R11 F9 F09 F10 F11 r1 r3 it1 it2 s0 s3 s5 e1 e3 th esc S6 S7 oi oi6 fr6 fr7 fr8 rd ef lb6 z6
 simp only [e54] at lp1 lp2
 unfold NUL at lp2
 unfold yfo
 generalize sFor (iVal (yah ybV (yab (sVar 1) (yab (sVar 4) sNil)))) (.nm 7) ycO=L1 at *
 generalize sFor (iVal (sLst (yab (sOp1 fNeg (sLit (.int 1))) (yab (sOp2 fSub (sOp2 fSub (sLit (.int 0)) (sLit (.int 1))) (sVar 10)) (yab (sOp2 fAdd (yaj 0 ya4 (sVar 1) sNil) (sLit (.int 1))) (yab (sOp2 fAdd (sOp2 fAdd (yaj 0 ya4 (sVar 1) sNil) (sLit (.int 1))) (sVar 10)) (yab (sOp2 fSub (sOp2 fPow (sLit (.int 10)) (sLit (.int 30))) (sLit (.int 1))) sNil))))))) (.nm 11) ycP=L2 at *
 generalize yeO 0 8 yb9 sNil=MK at *
 generalize ycs 0=HN at *
 generalize its.map uv++[.int 0]=XX at *
 generalize ((10 ^ 29:Nat):Int)=T29 at *
 generalize (ps.length:Int)=PL at *
 generalize (y.length:Int)=YL at *
 generalize (v:Int)=VV at *
 simp [mk,s0',p2',s3',f4,s5',f6,f7,ob,fm,i1,ln,q1,i2,q2,lp1,pw,t10,lp2,d3,rf,ob11,fm11,q11,-fEq,-fNe,-fLen,-fAdd,-fPow]
end Sk
namespace Sk
open PySem PySem.Spec L2 Sm
def top (i:Nat):Stmt:=PySem.Challenge.pw_skeinwood_k54_no_items_and_no_pieces.main.body.getD i (.Pass ⟨0,0,0,0⟩)
abbrev ydk:Stmt:=ybx (top 31) 0
abbrev ydX:Stmt:=top 47
abbrev ydD:Stmt:=top 48
abbrev ydY:Stmt:=top 3
abbrev ycj:Stmt:=ybx (top 31) 11
abbrev yb3:Stmt:=ybx (top 31) 12
abbrev ycb:Stmt:=ybx (top 31) 14
abbrev ydE:Stmt:=ybx (top 31) 17
abbrev ycw:Stmt:=ybx (top 31) 16
abbrev ydl:Stmt:=ybx (top 31) 2
abbrev yel:Stmt:=top 43
abbrev ycH:Stmt:=top 5
abbrev ydd:Stmt:=top 4
abbrev ydZ:Stmt:=top 6
abbrev yea:Stmt:=top 7
abbrev ycx:Stmt:=ybx (top 31) 15
abbrev ydm:Stmt:=ybx (top 31) 1
abbrev yej:Stmt:=top 34
abbrev ycQ:Stmt:=top 35
abbrev ycc:Stmt:=ybx (top 31) 13
abbrev ycZ:Stmt:=ybx (top 31) 5
abbrev yck:Stmt:=ybx (top 31) 10
abbrev ycd:Stmt:=ybx (top 31) 9
abbrev ydF:Stmt:=top 36
abbrev yc0:Stmt:=ybx (top 31) 4
abbrev ydG:Stmt:=top 41
abbrev ycR:Stmt:=ybx (top 31) 8
abbrev yc1:Stmt:=top 38
abbrev ycI:Stmt:=top 42
abbrev ycS:Stmt:=top 39
abbrev yem:Stmt:=top 37
abbrev yen:Stmt:=top 40
abbrev yeo:Stmt:=top 33
abbrev yd0:Stmt:=top 49
abbrev ydH:Stmt:=top 45
abbrev ycJ:Stmt:=top 46
abbrev ydn:Stmt:=top 51
abbrev ydo:Stmt:=ybx (top 31) 3
abbrev ydp:Stmt:=top 53
abbrev yct:Stmt:=top 50
abbrev ydq:Stmt:=top 14
abbrev ydr:Stmt:=top 19
abbrev yc2:Stmt:=top 16
abbrev yds:Stmt:=top 18
abbrev ydI:Stmt:=top 20
abbrev yc3:Stmt:=top 17
abbrev ydt:Stmt:=top 15
abbrev yc4:Stmt:=top 13
abbrev yep:Stmt:=top 9
abbrev yc5:Stmt:=top 10
abbrev ydu:Stmt:=top 12
abbrev ycu:Stmt:=top 11
abbrev yc6:Stmt:=top 52
abbrev yeX:Stmt:=top 54
def flds:Nat->List Str
 | 0=>["pieces", "numbers", "sign_counts", "end_counts", "leaf_counts", "heights", "first_leaves", "last_leaves"]
 | _=>[]
theorem zjp:∀ c,(flds c).Nodup
 | 0=>by decide +kernel
 | _+1=>List.nodup_nil
theorem zib:∀ c,(flds c).length<=500
 | 0=>by decide +kernel
 | _+1=>Nat.zero_le _
abbrev mkT (K:PySem.W.Frag) (cls exc:Nat->Option Addr):Tb:=⟨K,cls,exc,flds,zjp,zib⟩
structure Facts (P:Program) (w:World) (K:PySem.W.Frag) (cls exc:Nat->Option Addr) (mg:Str->Option Value) (base:Heap):Prop where
 b_ValueError:mg "ValueError" = none
 b_abs:mg "abs" = none
 b_all:mg "all" = none
 b_bool:mg "bool" = none
 b_int:mg "int" = none
 b_isinstance:mg "isinstance" = none
 b_len:mg "len" = none
 b_max:mg "max" = none
 b_min:mg "min" = none
 b_range:mg "range" = none
 b_reversed:mg "reversed" = none
 b_str:mg "str" = none
 b_sum:mg "sum" = none
 c_LEAF_SIGNS:∃ t,mg "LEAF_SIGNS" = some (.int 8 t)
 c_MOST_PLAIN:∃ t,mg "MOST_PLAIN" = some (.int 10000 t)
 c_MOST_SIGNS:∃ t,mg "MOST_SIGNS" = some (.int 1000000000000000000 t)
 cf_Shelf:CF (mkT K cls exc) 0
 x_NoText:GX (mkT K cls exc) mg base 1 "NoText"
 x_NoPiece:GX (mkT K cls exc) mg base 2 "NoPiece"
 x_Loose:GX (mkT K cls exc) mg base 3 "Loose"
 x_Unlevel:GX (mkT K cls exc) mg base 4 "Unlevel"
 x_TooLong:GX (mkT K cls exc) mg base 5 "TooLong"
 kx_NoPiece:∃ C,mg "NoPiece" = some (.ref C)/\∀ c C',exc c=some C'->ExcK K C'/\PySem.W.kitOne K (.ref C') (.ref C)=some (yda c)
 kx_NoPlace:∃ C,mg "NoPlace" = some (.ref C)/\∀ c C',exc c=some C'->ExcK K C'/\PySem.W.kitOne K (.ref C') (.ref C)=some (ydb c)
 kx_NoText:∃ C,mg "NoText" = some (.ref C)/\∀ c C',exc c=some C'->ExcK K C'/\PySem.W.kitOne K (.ref C') (.ref C)=some (ydy c)
 kx_ValueError:∀ c C',exc c=some C'->ExcK K C'/\PySem.W.kitOne K (.ref C') (.type "ValueError")=some (ycr c)
 ct_SkeinError:∃ C,mg "SkeinError" = some (.ref C)/\∀ c C',ybW c=true->exc c=some C'->PySem.W.exmOne K (.ref C') (.ref C)=some true
 d_Shelf_init:DI K cls mg 0 "Shelf" "Shelf.__init__" ydk ["self"]
 d_law_take:DG K mg "_law_take" ydX ["stream", "many"]
 d_law_plain:DG K mg "_law_plain" ydD ["stream", "most"]
 d_is_whole:DG K mg "is_whole" ydY ["thing"]
 d_Shelf_has_piece:DMm K cls 0 "has_piece" "Shelf.has_piece" ycj ["self", "number"]
 d_Shelf_check_piece:DMm K cls 0 "check_piece" "Shelf.check_piece" yb3 ["self", "number"]
 d_Shelf_check_fork:DMm K cls 0 "check_fork" "Shelf.check_fork" ycb ["self", "one", "other"]
 d_Shelf_lay:DMm K cls 0 "lay" "Shelf.lay" ydE ["self", "made"]
 d_Shelf_lay_fork:DMm K cls 0 "lay_fork" "Shelf.lay_fork" ycw ["self", "made"]
 d_Shelf_fork:DMm K cls 0 "fork" "Shelf.fork" ydl ["self", "one", "other"]
 d_halved:DG K mg "halved" yel ["shelf", "leaves"]
 d_is_plain_sign:DG K mg "is_plain_sign" ycH ["sign"]
 d_is_plain:DG K mg "is_plain" ydd ["thing"]
 d_is_short:DG K mg "is_short" ydZ ["thing"]
 d_ends_in:DG K mg "ends_in" yea ["plain"]
 d_Shelf_lay_leaf:DMm K cls 0 "lay_leaf" "Shelf.lay_leaf" ycx ["self", "made"]
 d_Shelf_leaf:DMm K cls 0 "leaf" "Shelf.leaf" ydm ["self", "plain"]
 d_built:DG K mg "built" yej ["shelf", "plain"]
 d_check_length:DG K mg "check_length" ycQ ["signs"]
 d_Shelf_check_text:DMm K cls 0 "check_text" "Shelf.check_text" ycc ["self", "text"]
 d_Shelf_signs:DMm K cls 0 "signs" "Shelf.signs" ycZ ["self", "text"]
 d_Shelf_last_leaf:DMm K cls 0 "last_leaf" "Shelf.last_leaf" yck ["self", "text"]
 d_Shelf_first_leaf:DMm K cls 0 "first_leaf" "Shelf.first_leaf" ycd ["self", "text"]
 d_are_close:DG K mg "are_close" ydF ["shelf", "one", "other"]
 d_Shelf_piece:DMm K cls 0 "piece" "Shelf.piece" yc0 ["self", "number"]
 d_with_last:DG K mg "with_last" ydG ["shelf", "text", "leaf"]
 d_Shelf_height:DMm K cls 0 "height" "Shelf.height" ycR ["self", "text"]
 d_turned_left:DG K mg "turned_left" yc1 ["shelf", "one", "other"]
 d_without_first:DG K mg "without_first" ycI ["shelf", "text"]
 d_turned_right:DG K mg "turned_right" ycS ["shelf", "one", "other"]
 d_linked:DG K mg "linked" yem ["shelf", "one", "other"]
 d_welded:DG K mg "welded" yen ["shelf", "one", "other"]
 d_joined:DG K mg "joined" yeo ["shelf", "one", "other"]
 d_law_made:DG K mg "_law_made" yd0 ["shelf", "stream", "plain"]
 d_law_mixed:DG K mg "_law_mixed" ydH ["cell", "k"]
 d_law_stream:DG K mg "_law_stream" ycJ ["script", "k"]
 d_law_poured:DG K mg "_law_poured" ydn ["items", "stream"]
 d_Shelf_many:DMm K cls 0 "many" "Shelf.many" ydo ["self"]
 d_law_things:DG K mg "_law_things" ydp ["shelf", "stream"]
 d_law_spelled:DG K mg "_law_spelled" yct ["shelf", "text", "stream"]
 d_whole_left:DG K mg "whole_left" ydq ["shelf", "text"]
 d_opens_fork:DG K mg "opens_fork" ydr ["shelf", "left", "first"]
 d_takes_piece:DG K mg "takes_piece" yc2 ["shelf", "left", "number"]
 d_next_signs:DG K mg "next_signs" yds ["shelf", "left"]
 d_puts_back:DG K mg "puts_back" ydI ["left", "signs"]
 d_takes_plain:DG K mg "takes_plain" yc3 ["shelf", "left", "plain"]
 d_takes_item:DG K mg "takes_item" ydt ["shelf", "left", "item"]
 d_left_behind:DG K mg "left_behind" yc4 ["shelf", "text", "items"]
 d_spells:DG K mg "spells" yep ["shelf", "text", "items"]
 d_begins_text:DG K mg "begins_text" yc5 ["shelf", "text", "items"]
 d_item_signs:DG K mg "item_signs" ydu ["shelf", "item"]
 d_items_signs:DG K mg "items_signs" ycu ["shelf", "items"]
 d_law_refused:DG K mg "_law_refused" yc6 ["shelf", "ask", "text", "items"]
 d_law:DG K mg "law" yeX ["script"]
theorem zdR:FnScope ["self"] ["self"] (yag ydk):=fsk
theorem zeW:FnScope ["stream", "many", "digit"] ["stream", "many"] (yag ydX):=fsk
theorem zeB:FnScope ["stream", "most", "letters", "wide", "signs", "plain", "k"] ["stream", "most"] (yag ydD):=fsk
theorem zeX:FnScope ["thing"] ["thing"] (yag ydY):=fsk
theorem zb6:FnScope ["self", "number"] ["self", "number"] (yag ycj):=fsk
theorem zbQ:FnScope ["self", "number"] ["self", "number"] (yag yb3):=fsk
theorem zbW:FnScope ["self", "one", "other", "seam"] ["self", "one", "other"] (yag ycb):=fsk
theorem zeC:FnScope ["self", "made", "number"] ["self", "made"] (yag ydE):=fsk
theorem zck:FnScope ["self", "made", "one", "other"] ["self", "made"] (yag ycw):=fsk
theorem zdS:FnScope ["self", "one", "other", "made"] ["self", "one", "other"] (yag ydl):=fsk
theorem zdL:FnScope ["shelf", "leaves", "middle"] ["shelf", "leaves"] (yag yel):=fsk
theorem zcE:FnScope ["sign"] ["sign"] (yag ycH):=fsk
theorem zeY:FnScope ["thing"] ["thing"] (yag ydd):=fsk
theorem zeZ:FnScope ["thing"] ["thing"] (yag ydZ):=fsk
theorem zgk:FnScope ["plain"] ["plain"] (yag yea):=fsk
theorem zcl:FnScope ["self", "made", "number", "plain"] ["self", "made"] (yag ycx):=fsk
theorem zdT:FnScope ["self", "plain", "made"] ["self", "plain"] (yag ydm):=fsk
theorem zic:FnScope ["shelf", "plain", "leaves"] ["shelf", "plain"] (yag yej):=fsk
theorem zcT:FnScope ["signs"] ["signs"] (yag ycQ):=fsk
theorem zbX:FnScope ["self", "text"] ["self", "text"] (yag ycc):=fsk
theorem zdb:FnScope ["self", "text"] ["self", "text"] (yag ycZ):=fsk
theorem zb7:FnScope ["self", "text"] ["self", "text"] (yag yck):=fsk
theorem zbY:FnScope ["self", "text"] ["self", "text"] (yag ycd):=fsk
theorem zeD:FnScope ["shelf", "one", "other"] ["shelf", "one", "other"] (yag ydF):=fsk
theorem zdc:FnScope ["self", "number"] ["self", "number"] (yag yc0):=fsk
theorem zb8:FnScope ["shelf", "text", "leaf", "piece"] ["shelf", "text", "leaf"] (yag ydG):=fsk
theorem zcU:FnScope ["self", "text"] ["self", "text"] (yag ycR):=fsk
theorem zdd:FnScope ["shelf", "one", "other", "piece", "near", "far", "inner"] ["shelf", "one", "other"] (yag yc1):=fsk
theorem zbe:FnScope ["shelf", "text", "piece", "rest"] ["shelf", "text"] (yag ycI):=fsk
theorem zcV:FnScope ["shelf", "one", "other", "piece", "far", "near", "inner"] ["shelf", "one", "other"] (yag ycS):=fsk
theorem zdM:FnScope ["shelf", "one", "other", "tilt", "piece"] ["shelf", "one", "other"] (yag yem):=fsk
theorem zg4:FnScope ["shelf", "one", "other", "seam", "front", "back"] ["shelf", "one", "other"] (yag yen):=fsk
theorem zg5:FnScope ["shelf", "one", "other"] ["shelf", "one", "other"] (yag yeo):=fsk
theorem ze0:FnScope ["shelf", "stream", "plain", "way", "parts", "many", "text", "part"] ["shelf", "stream", "plain"] (yag yd0):=fsk
theorem zeE:FnScope ["cell", "k", "one"] ["cell", "k"] (yag ydH):=fsk
theorem zdU:FnScope ["script", "k", "cell", "j", "found"] ["script", "k"] (yag ycJ):=fsk
theorem zdV:FnScope ["items", "stream", "found", "item"] ["items", "stream"] (yag ydn):=fsk
theorem zdW:FnScope ["self"] ["self"] (yag ydo):=fsk
theorem zdX:FnScope ["shelf", "stream", "far", "things"] ["shelf", "stream"] (yag ydp):=fsk
theorem zde:FnScope ["shelf", "text", "stream", "items", "waiting", "number", "piece", "kind"] ["shelf", "text", "stream"] (yag yct):=fsk
theorem zdY:FnScope ["shelf", "text"] ["shelf", "text"] (yag ydq):=fsk
theorem zdZ:FnScope ["shelf", "left", "first", "piece"] ["shelf", "left", "first"] (yag ydr):=fsk
theorem zdf:FnScope ["shelf", "left", "number", "first"] ["shelf", "left", "number"] (yag yc2):=fsk
theorem zd0:FnScope ["shelf", "left", "first"] ["shelf", "left"] (yag yds):=fsk
theorem zeF:FnScope ["left", "signs"] ["left", "signs"] (yag ydI):=fsk
theorem zdg:FnScope ["shelf", "left", "plain", "rest", "signs", "both"] ["shelf", "left", "plain"] (yag yc3):=fsk
theorem zd1:FnScope ["shelf", "left", "item"] ["shelf", "left", "item"] (yag ydt):=fsk
theorem zdh:FnScope ["shelf", "text", "items", "left", "item"] ["shelf", "text", "items"] (yag yc4):=fsk
theorem zg6:FnScope ["shelf", "text", "items"] ["shelf", "text", "items"] (yag yep):=fsk
theorem zdi:FnScope ["shelf", "text", "items"] ["shelf", "text", "items"] (yag yc5):=fsk
theorem zd2:FnScope ["shelf", "item"] ["shelf", "item"] (yag ydu):=fsk
theorem zdj:FnScope ["shelf", "items"] ["shelf", "items"] (yag ycu):=fsk
theorem zdk:FnScope ["shelf", "ask", "text", "items", "caught", "e"] ["shelf", "ask", "text", "items"] (yag yc6):=fsk
theorem yhP:FnScope ["script", "shelf", "plain", "text", "stream", "items", "many", "thing", "at", "odd", "far", "number", "some"] ["script"] (yag yeX):=fsk
section
variable {P:Program} {w:World} {K:PySem.W.Frag} {cls exc:Nat->Option Addr} {mg:Str->Option Value} {base:Heap} (Z:Facts P w K cls exc mg base)
include Z
theorem zeG:GK P w (mkT K cls exc) mg base 1 0 "Shelf" yb9:=gk Z.d_Shelf_init zdR fun hr C hu nd =>
 (zab (zaK rfl Z.cf_Shelf (yaa 0) (ybL yac))
  (zab (zaK rfl Z.cf_Shelf (yaa 0) ziO)
  (zab (zaK rfl Z.cf_Shelf (yaa 0) (ybL (zaa yaf yac)))
  (zab (zaK rfl Z.cf_Shelf (yaa 0) (ybL (zaa yaf yac)))
  (zab (zaK rfl Z.cf_Shelf (yaa 0) (ybL (zaa yaf yac)))
  (zab (zaK rfl Z.cf_Shelf (yaa 0) (ybL (zaa (yed yaf) yac)))
  (zab (zaK rfl Z.cf_Shelf (yaa 0) (ybL (zaa yaf yac)))
  (yad (zaK rfl Z.cf_Shelf (yaa 0) (ybL (zaa yaf yac)))))))))))
theorem zaw:GF P w (mkT K cls exc) mg base 1 "_law_take" yaC:=gf Z.d_law_take zeW fun hr C hu nd =>
 (zab (yan (i:=2) nd (yam ydR (r_ix rfl hu (yaa 0) yaf) (yaa 1)))
  (zab (zfq hu (yaa 0) yaf (yam yf9 (r_ix rfl hu (yaa 0) yaf) (yaa 1)))
  (yad (yak (yaa 2)))))
theorem ze1:GF P w (mkT K cls exc) mg base 2 "_law_plain" ycm:=gf Z.d_law_plain zeB fun hr C hu nd =>
 (zab (yan (i:=2) nd yaY)
  (zab (yan (i:=3) nd (yam (yaV rfl) (yam (yaV rfl) (yaa 2) (yey rfl PySem.F.plainAttrs_str PySem.F.slot_str_upper PySem.F.type_str_upper (ziX) zfs (yaa 2))) yaY))
  (zab (yan (i:=4) nd (r_ix rfl hu (ybs (zaa yaY (zaa yaY (zaa yaY (zaa yaY (zaa (yaa 3) yac)))))) (yai rfl C (zaw Z) hr.m rfl (zaa (yaa 0) (zaa yaf yac)))))
  (zab (yan (i:=5) nd yaY)
  (zab (ycV rfl (zdw (E:=EN) rfl Z.b_range (yai rfl (C.nox) (zaw Z) hr.m rfl (zaa (yaa 0) (zaa (yam (yaV rfl) (yaa 1) yaf) yac)))) (zaH (i:=6) nd) (yad (yan (i:=5) nd (yam (yaV rfl) (yaa 5) (r_ix rfl hu (yaa 4) (yai rfl (C.nox) (zaw Z) hr.m rfl (zaa (yaa 0) (zaa (r_bi (b_len rfl) rfl Z.b_len PySem.boot_len (zaa (yaa 4) yac)) yac))))))))
  (yad (yak (yaa 5))))))))
theorem zcW:GF P w (mkT K cls exc) mg base 1 "is_whole" yaW:=gf Z.d_is_whole zeX fun hr C hu nd =>
 (yad (yak (yef (ydT rfl rfl Z.b_isinstance (yaa 0) rfl Z.b_int ygW (by decide)) (ydS (yil (ydT rfl rfl Z.b_isinstance (yaa 0) rfl Z.b_bool ziG (by decide)))))))
theorem za4:GM P w (mkT K cls exc) mg base 2 0 "has_piece" yas:=gm Z.d_Shelf_has_piece zb6 (show ("has_piece" : Str)∉flds 0 by decide +kernel) fun hr C hu nd =>
 (yad (yak (yef (yai rfl C (zcW Z) hr.m rfl (zaa (yaa 1) yac)) (ydS (zc4 o_le o_le yaf (yaa 1) (r_bi (b_len rfl) rfl Z.b_len PySem.boot_len (zaa (yaN rfl Z.cf_Shelf (yaa 0)) yac)))))))
theorem zax:GM P w (mkT K cls exc) mg base 3 0 "check_piece" yaU:=gm Z.d_Shelf_check_piece zbQ (show ("check_piece" : Str)∉flds 0 by decide +kernel) fun hr C hu nd =>
 (yad (r_if (yb7 (zas rfl (yal rfl C (za4 Z) hr.m (yaa 0) (zaa (yaa 1) yac)))) (yad (zaS Z.x_NoPiece zaR rfl (zaa yaY yac))) yaw))
theorem zb9:GM P w (mkT K cls exc) mg base 4 0 "check_fork" ya7:=gm Z.d_Shelf_check_fork zbW (show ("check_fork" : Str)∉flds 0 by decide +kernel) fun hr C hu nd =>
 (zab (yaH (yal rfl C (zax Z) hr.m (yaa 0) (zaa (yaa 1) yac)))
  (zab (yaH (yal rfl C (zax Z) hr.m (yaa 0) (zaa (yaa 2) yac)))
  (zab (yan (i:=3) nd (yam (yaV rfl) (r_ix rfl hu (yaN rfl Z.cf_Shelf (yaa 0)) (r_ix rfl hu (yaN rfl Z.cf_Shelf (yaa 0)) (yaa 1))) (r_ix rfl hu (yaN rfl Z.cf_Shelf (yaa 0)) (r_ix rfl hu (yaN rfl Z.cf_Shelf (yaa 0)) (yaa 2)))))
  (zab (r_if (yat o_le (yaa 3) (r_gI rfl Z.c_LEAF_SIGNS) (yap _)) (yad (zaS Z.x_Loose zaR rfl (zaa yaY yac))) yaw)
  (zab (r_if (yat o_gt (r_bi (b_abs) rfl Z.b_abs PyProof.Rows.boot_abs (zaa (yam yc7 (r_ix rfl hu (yaN rfl Z.cf_Shelf (yaa 0)) (yaa 1)) (r_ix rfl hu (yaN rfl Z.cf_Shelf (yaa 0)) (yaa 2))) yac)) yaf (yap _)) (yad (zaS Z.x_Unlevel zaR rfl (zaa yaY yac))) yaw)
  (yad (r_if (yat o_gt (yam (yaV rfl) (r_ix rfl hu (yaN rfl Z.cf_Shelf (yaa 0)) (yaa 1)) (r_ix rfl hu (yaN rfl Z.cf_Shelf (yaa 0)) (yaa 2))) (r_gI rfl Z.c_MOST_SIGNS) (yap _)) (yad (zaS Z.x_TooLong zaR rfl (zaa yaY yac))) yaw)))))))
theorem zcs:GM P w (mkT K cls exc) mg base 1 0 "lay" ycn:=gm Z.d_Shelf_lay zeC (show ("lay" : Str)∉flds 0 by decide +kernel) fun hr C hu nd =>
 (zab (yaH (r_bm rfl PySem.F.plainAttrs_list PySem.F.slot_list_append PySem.F.type_list_append (zan) zai (yaN rfl Z.cf_Shelf (yaa 0)) (zaa (yaa 1) yac)))
  (zab (yan (i:=2) nd (r_bi (b_len rfl) rfl Z.b_len PySem.boot_len (zaa (yaN rfl Z.cf_Shelf (yaa 0)) yac)))
  (zab (zfq hu (yaN rfl Z.cf_Shelf (yaa 0)) (yaa 1) (yaa 2))
  (yad (yak (yaa 2))))))
theorem zcF:GM P w (mkT K cls exc) mg base 2 0 "lay_fork" ybM:=gm Z.d_Shelf_lay_fork zck (show ("lay_fork" : Str)∉flds 0 by decide +kernel) fun hr C hu nd =>
 (zab (yaH (yal rfl C (zcs Z) hr.m (yaa 0) (zaa (yaa 1) yac)))
  (zab (yan (i:=2) nd (r_ix rfl hu (yaa 1) yaf))
  (zab (yan (i:=3) nd (r_ix rfl hu (yaa 1) yaf))
  (zab (yaH (r_bm rfl PySem.F.plainAttrs_list PySem.F.slot_list_append PySem.F.type_list_append (zan) zai (yaN rfl Z.cf_Shelf (yaa 0)) (zaa (yam (yaV rfl) (r_ix rfl hu (yaN rfl Z.cf_Shelf (yaa 0)) (yaa 2)) (r_ix rfl hu (yaN rfl Z.cf_Shelf (yaa 0)) (yaa 3))) yac)))
  (zab (yaH (r_bm rfl PySem.F.plainAttrs_list PySem.F.slot_list_append PySem.F.type_list_append (zan) zai (yaN rfl Z.cf_Shelf (yaa 0)) (zaa (yam (yaV rfl) (r_ix rfl hu (yaN rfl Z.cf_Shelf (yaa 0)) (yaa 2)) (r_ix rfl hu (yaN rfl Z.cf_Shelf (yaa 0)) (yaa 3))) yac)))
  (zab (yaH (r_bm rfl PySem.F.plainAttrs_list PySem.F.slot_list_append PySem.F.type_list_append (zan) zai (yaN rfl Z.cf_Shelf (yaa 0)) (zaa (yam (yaV rfl) (r_ix rfl hu (yaN rfl Z.cf_Shelf (yaa 0)) (yaa 2)) (r_ix rfl hu (yaN rfl Z.cf_Shelf (yaa 0)) (yaa 3))) yac)))
  (zab (yaH (r_bm rfl PySem.F.plainAttrs_list PySem.F.slot_list_append PySem.F.type_list_append (zan) zai (yaN rfl Z.cf_Shelf (yaa 0)) (zaa (yam (yaV rfl) (r_bi (yg9) rfl Z.b_max PyProof.Rows.boot_max (zaa (r_ix rfl hu (yaN rfl Z.cf_Shelf (yaa 0)) (yaa 2)) (zaa (r_ix rfl hu (yaN rfl Z.cf_Shelf (yaa 0)) (yaa 3)) yac))) yaf) yac)))
  (zab (yaH (r_bm rfl PySem.F.plainAttrs_list PySem.F.slot_list_append PySem.F.type_list_append (zan) zai (yaN rfl Z.cf_Shelf (yaa 0)) (zaa (r_ix rfl hu (yaN rfl Z.cf_Shelf (yaa 0)) (yaa 2)) yac)))
  (yad (yaH (r_bm rfl PySem.F.plainAttrs_list PySem.F.slot_list_append PySem.F.type_list_append (zan) zai (yaN rfl Z.cf_Shelf (yaa 0)) (zaa (r_ix rfl hu (yaN rfl Z.cf_Shelf (yaa 0)) (yaa 3)) yac))))))))))))
theorem zah:GM P w (mkT K cls exc) mg base 5 0 "fork" yae:=gm Z.d_Shelf_fork zdS (show ("fork" : Str)∉flds 0 by decide +kernel) fun hr C hu nd =>
 (zab (yaH (yal rfl C (zb9 Z) hr.m (yaa 0) (zaa (yaa 1) (zaa (yaa 2) yac))))
  (zab (yan (i:=3) nd (yeQ (zaa yaY (zaa (yaa 1) (zaa (yaa 2) yac)))))
  (zab (r_if (yat (zfr rfl hu) (yaa 3) (yaN rfl Z.cf_Shelf (yaa 0)) rfl) (yad (yaH (yal rfl C (zcF Z) hr.m (yaa 0) (zaa (yaa 3) yac)))) yaw)
  (yad (yak (r_ix rfl hu (yaN rfl Z.cf_Shelf (yaa 0)) (yaa 3)))))))
theorem zcG:∀ d,GF P w (mkT K cls exc) mg base (5+d+1) "halved" (ybN d)
 | 0=>gf Z.d_halved zdL fun _ _ _ _=>yez
 | d+1=>gf Z.d_halved zdL fun hr C hu nd =>
  (zab (r_if (yat (o_eq rfl hu) (r_bi (b_len rfl) rfl Z.b_len PySem.boot_len (zaa (yaa 1) yac)) yaf (yap _)) (yad (yak (r_ix rfl hu (yaa 1) yaf))) yaw)
  (zab (yan (i:=2) nd (yam yf9 (r_bi (b_len rfl) rfl Z.b_len PySem.boot_len (zaa (yaa 1) yac)) yaf))
  (yad (yak (yal rfl C (zah Z) (hr.mono (show 5<=5+(d+1) by lia)) (yaa 0) (zaa (yai rfl C (zcG d) (hr.mono (by lia)) rfl (zaa (yaa 0) (zaa (zaD rfl (yaa 1) zaF (zaB (yaa 2))) yac))) (zaa (yai rfl C (zcG d) (hr.mono (by lia)) rfl (zaa (yaa 0) (zaa (zaD rfl (yaa 1) (zaB (yaa 2)) zaF) yac))) yac)))))))
theorem zcX:GF P w (mkT K cls exc) mg base 1 "is_plain_sign" ybR:=gf Z.d_is_plain_sign zcE fun hr C hu nd =>
 (yad (yak (r_or (yev (o_eq rfl hu) (yaa 0) yaY (yap _)) (ydS (zc4 o_le o_le yaY (yaa 0) yaY)))))
theorem zcY:GF P w (mkT K cls exc) mg base 2 "is_plain" ybt:=gf Z.d_is_plain zeY fun {f cdv A outer s H E} hr C hu nd =>
 (zab (r_if (yb7 (zas rfl (ydT rfl rfl Z.b_isinstance (yaa 0) rfl Z.b_str yd4 (by decide)))) (yad (yak r_bl)) yaw)
  (yad (yak (r_bi (b_all rfl) rfl Z.b_all PyProof.Rows.boot_all (zaa (yfI (jf:=[]) (za0 (N:=["thing"]) (sc:=yag ydd) rfl (fun _=>rfl) (by decide +kernel)) rfl (yb8 (E:=(fun _=>E)) rfl (yaa 0)) (fun _ _ _ _ _=>zbt) (fun _ _ _ _ _=>(yai rfl (CA.never rfl) (zcX Z) hr.m rfl (zaa (yaa 0) yac)))) yac)))))
theorem zcZ:GF P w (mkT K cls exc) mg base 3 "is_short" ybc:=gf Z.d_is_short zeZ fun hr C hu nd =>
 (yad (yak (yef (yai rfl C (zcY Z) hr.m rfl (zaa (yaa 0) yac)) (ydS (zc4 o_le o_le yaf (r_bi (b_len rfl) rfl Z.b_len PySem.boot_len (zaa (yaa 0) yac)) (r_gI rfl Z.c_LEAF_SIGNS))))))
theorem zg7:GF P w (mkT K cls exc) mg base 1 "ends_in" ydz:=gf Z.d_ends_in zgk fun hr C hu nd =>
 (yad (yak (r_bm rfl PySem.F.plainAttrs_str PySem.F.slot_str_count PySem.F.type_str_count (zhL) zfs (yaa 0) (zaa yaY yac))))
theorem zcH:GM P w (mkT K cls exc) mg base 2 0 "lay_leaf" ybO:=gm Z.d_Shelf_lay_leaf zcl (show ("lay_leaf" : Str)∉flds 0 by decide +kernel) fun hr C hu nd =>
 (zab (yan (i:=2) nd (yal rfl C (zcs Z) hr.m (yaa 0) (zaa (yaa 1) yac)))
  (zab (yan (i:=3) nd (r_ix rfl hu (yaa 1) yaf))
  (zab (yaH (r_bm rfl PySem.F.plainAttrs_list PySem.F.slot_list_append PySem.F.type_list_append (zan) zai (yaN rfl Z.cf_Shelf (yaa 0)) (zaa (r_bi (b_len rfl) rfl Z.b_len PySem.boot_len (zaa (yaa 3) yac)) yac)))
  (zab (yaH (r_bm rfl PySem.F.plainAttrs_list PySem.F.slot_list_append PySem.F.type_list_append (zan) zai (yaN rfl Z.cf_Shelf (yaa 0)) (zaa (yai rfl C (zg7 Z) hr.m rfl (zaa (yaa 3) yac)) yac)))
  (zab (yaH (r_bm rfl PySem.F.plainAttrs_list PySem.F.slot_list_append PySem.F.type_list_append (zan) zai (yaN rfl Z.cf_Shelf (yaa 0)) (zaa yaf yac)))
  (zab (yaH (r_bm rfl PySem.F.plainAttrs_list PySem.F.slot_list_append PySem.F.type_list_append (zan) zai (yaN rfl Z.cf_Shelf (yaa 0)) (zaa yaf yac)))
  (zab (yaH (r_bm rfl PySem.F.plainAttrs_list PySem.F.slot_list_append PySem.F.type_list_append (zan) zai (yaN rfl Z.cf_Shelf (yaa 0)) (zaa (yaa 2) yac)))
  (yad (yaH (r_bm rfl PySem.F.plainAttrs_list PySem.F.slot_list_append PySem.F.type_list_append (zan) zai (yaN rfl Z.cf_Shelf (yaa 0)) (zaa (yaa 2) yac)))))))))))
theorem zca:GM P w (mkT K cls exc) mg base 4 0 "leaf" ya2:=gm Z.d_Shelf_leaf zdT (show ("leaf" : Str)∉flds 0 by decide +kernel) fun hr C hu nd =>
 (zab (r_if (yb7 (zas rfl (yai rfl C (zcZ Z) hr.m rfl (zaa (yaa 1) yac)))) (yad (zaS Z.x_NoText zaR rfl (zaa yaY yac))) yaw)
  (zab (yan (i:=2) nd (yeQ (zaa yaY (zaa (yaa 1) yac))))
  (zab (r_if (yat (zfr rfl hu) (yaa 2) (yaN rfl Z.cf_Shelf (yaa 0)) rfl) (yad (yaH (yal rfl C (zcH Z) hr.m (yaa 0) (zaa (yaa 2) yac)))) yaw)
  (yad (yak (r_ix rfl hu (yaN rfl Z.cf_Shelf (yaa 0)) (yaa 2)))))))
theorem zdl:GF P w (mkT K cls exc) mg base 27 "built" ycN:=gf Z.d_built zic fun {f cdv A outer s H E} hr C hu nd =>
 (zab (r_if (yb7 (zas rfl (yai rfl C (zcY Z) hr.m rfl (zaa (yaa 1) yac)))) (yad (zaS Z.x_NoText zaR rfl (zaa yaY yac))) yaw)
  (zab (r_if (yat o_gt (r_bi (b_len rfl) rfl Z.b_len PySem.boot_len (zaa (yaa 1) yac)) (r_gI rfl Z.c_MOST_PLAIN) (yap _)) (yad (zaS Z.x_TooLong zaR rfl (zaa yaY yac))) yaw)
  (zab (r_if (yat (o_eq rfl hu) (yaa 1) yaY (yap _)) (yad (yak yaf)) yaw)
  (zab (ziS (jf:=[(0, "shelf"),(1, "plain")]) (za0 (N:=["shelf", "plain", "leaves"]) (sc:=yag yej) rfl (fun _=>rfl) (by decide +kernel)) rfl (zdz (E:=(fun _=>E)) rfl Z.b_range yaf (r_bi (b_len rfl) rfl Z.b_len PySem.boot_len (zaa (yaa 1) yac)) (r_gI rfl Z.c_LEAF_SIGNS)) (fun _ _ _ _ _=>zbt) (fun _ _ _ _ _=>(yal rfl (CA.never rfl) (zca Z) hr.m (yaa 1) (zaa (zaD rfl (yaa 2) (zaB (yaa 0)) (zaB (yam (yaV rfl) (yaa 0) (r_gI rfl Z.c_LEAF_SIGNS)))) yac))) nd (i:=2))
  (yad (yak (yai rfl C (zcG Z 20) hr.m rfl (zaa (yaa 0) (zaa (yaa 2) yac)))))))))
theorem zdm:GF P w (mkT K cls exc) mg base 1 "check_length" ych:=gf Z.d_check_length zcT fun hr C hu nd =>
 (yad (r_if (yat o_gt (yaa 0) (r_gI rfl Z.c_MOST_SIGNS) (yap _)) (yad (zaS Z.x_TooLong zaR rfl (zaa yaY yac))) yaw))
theorem zaA:GM P w (mkT K cls exc) mg base 4 0 "check_text" yaI:=gm Z.d_Shelf_check_text zbX (show ("check_text" : Str)∉flds 0 by decide +kernel) fun hr C hu nd =>
 (yad (r_if (yat (o_ne rfl hu) (yaa 1) yaf (yap _)) (yad (yaH (yal rfl C (zax Z) hr.m (yaa 0) (zaa (yaa 1) yac)))) yaw))
theorem zaJ:GM P w (mkT K cls exc) mg base 5 0 "signs" ybg:=gm Z.d_Shelf_signs zdb (show ("signs" : Str)∉flds 0 by decide +kernel) fun hr C hu nd =>
 (zab (yaH (yal rfl C (zaA Z) hr.m (yaa 0) (zaa (yaa 1) yac)))
  (yad (yak (r_ix rfl hu (yaN rfl Z.cf_Shelf (yaa 0)) (yaa 1)))))
theorem za5:GM P w (mkT K cls exc) mg base 5 0 "last_leaf" ybG:=gm Z.d_Shelf_last_leaf zb7 (show ("last_leaf" : Str)∉flds 0 by decide +kernel) fun hr C hu nd =>
 (zab (yaH (yal rfl C (zaA Z) hr.m (yaa 0) (zaa (yaa 1) yac)))
  (yad (yak (r_ix rfl hu (yaN rfl Z.cf_Shelf (yaa 0)) (yaa 1)))))
theorem za1:GM P w (mkT K cls exc) mg base 5 0 "first_leaf" ybB:=gm Z.d_Shelf_first_leaf zbY (show ("first_leaf" : Str)∉flds 0 by decide +kernel) fun hr C hu nd =>
 (zab (yaH (yal rfl C (zaA Z) hr.m (yaa 0) (zaa (yaa 1) yac)))
  (yad (yak (r_ix rfl hu (yaN rfl Z.cf_Shelf (yaa 0)) (yaa 1)))))
theorem ze2:GF P w (mkT K cls exc) mg base 6 "are_close" ycX:=gf Z.d_are_close zeD fun hr C hu nd =>
 (yad (yak (yev o_gt (yam (yaV rfl) (yal rfl C (zaJ Z) hr.m (yaa 0) (zaa (yal rfl C (za5 Z) hr.m (yaa 0) (zaa (yaa 1) yac)) yac)) (yal rfl C (zaJ Z) hr.m (yaa 0) (zaa (yal rfl C (za1 Z) hr.m (yaa 0) (zaa (yaa 2) yac)) yac))) (r_gI rfl Z.c_LEAF_SIGNS) (yap _))))
theorem zal:GM P w (mkT K cls exc) mg base 4 0 "piece" yaB:=gm Z.d_Shelf_piece zdc (show ("piece" : Str)∉flds 0 by decide +kernel) fun hr C hu nd =>
 (zab (yaH (yal rfl C (zax Z) hr.m (yaa 0) (zaa (yaa 1) yac)))
  (yad (yak (r_ix rfl hu (yaN rfl Z.cf_Shelf (yaa 0)) (yam yc7 (yaa 1) yaf)))))
theorem zct:∀ d,GF P w (mkT K cls exc) mg base (5+d+1) "with_last" (ybh d)
 | 0=>gf Z.d_with_last zb8 fun _ _ _ _=>yez
 | d+1=>gf Z.d_with_last zb8 fun hr C hu nd =>
  (zab (yan (i:=3) nd (yal rfl C (zal Z) (hr.mono (show 4<=5+(d+1) by lia)) (yaa 0) (zaa (yaa 1) yac)))
  (zab (r_if (yat (o_eq rfl hu) (r_ix rfl hu (yaa 3) yaf) yaY (yap _)) (yad (yak (yaa 2))) yaw)
  (yad (yak (yal rfl C (zah Z) (hr.mono (show 5<=5+(d+1) by lia)) (yaa 0) (zaa (r_ix rfl hu (yaa 3) yaf) (zaa (yai rfl C (zct d) (hr.mono (by lia)) rfl (zaa (yaa 0) (zaa (r_ix rfl hu (yaa 3) yaf) (zaa (yaa 2) yac)))) yac)))))))
theorem zar:GM P w (mkT K cls exc) mg base 5 0 "height" yaX:=gm Z.d_Shelf_height zcU (show ("height" : Str)∉flds 0 by decide +kernel) fun hr C hu nd =>
 (zab (yaH (yal rfl C (zaA Z) hr.m (yaa 0) (zaa (yaa 1) yac)))
  (yad (yak (r_ix rfl hu (yaN rfl Z.cf_Shelf (yaa 0)) (yaa 1)))))
theorem zbU:GF P w (mkT K cls exc) mg base 6 "turned_left" yaZ:=gf Z.d_turned_left zdd fun hr C hu nd =>
 (zab (r_if (yat o_lt (yam yc7 (yal rfl C (zar Z) hr.m (yaa 0) (zaa (yaa 2) yac)) (yal rfl C (zar Z) hr.m (yaa 0) (zaa (yaa 1) yac))) yaf (yap _)) (yad (yak (yal rfl C (zah Z) hr.m (yaa 0) (zaa (yaa 1) (zaa (yaa 2) yac))))) yaw)
  (zab (yan (i:=3) nd (yal rfl C (zal Z) hr.m (yaa 0) (zaa (yaa 2) yac)))
  (zab (yan (i:=4) nd (r_ix rfl hu (yaa 3) yaf))
  (zab (yan (i:=5) nd (r_ix rfl hu (yaa 3) yaf))
  (zab (r_if (yat o_le (yal rfl C (zar Z) hr.m (yaa 0) (zaa (yaa 4) yac)) (yal rfl C (zar Z) hr.m (yaa 0) (zaa (yaa 5) yac)) (yap _)) (yad (yak (yal rfl C (zah Z) hr.m (yaa 0) (zaa (yal rfl C (zah Z) hr.m (yaa 0) (zaa (yaa 1) (zaa (yaa 4) yac))) (zaa (yaa 5) yac))))) yaw)
  (zab (yan (i:=6) nd (yal rfl C (zal Z) hr.m (yaa 0) (zaa (yaa 4) yac)))
  (yad (yak (yal rfl C (zah Z) hr.m (yaa 0) (zaa (yal rfl C (zah Z) hr.m (yaa 0) (zaa (yaa 1) (zaa (r_ix rfl hu (yaa 6) yaf) yac))) (zaa (yal rfl C (zah Z) hr.m (yaa 0) (zaa (r_ix rfl hu (yaa 6) yaf) (zaa (yaa 5) yac))) yac)))))))))))
theorem zbm:∀ d,GF P w (mkT K cls exc) mg base (6+d+1) "without_first" (yaE d)
 | 0=>gf Z.d_without_first zbe fun _ _ _ _=>yez
 | d+1=>gf Z.d_without_first zbe fun hr C hu nd =>
  (zab (yan (i:=2) nd (yal rfl C (zal Z) (hr.mono (show 4<=6+(d+1) by lia)) (yaa 0) (zaa (yaa 1) yac)))
  (zab (r_if (yat (o_eq rfl hu) (r_ix rfl hu (yaa 2) yaf) yaY (yap _)) (yad (yak yaf)) yaw)
  (zab (yan (i:=3) nd (yai rfl C (zbm d) (hr.mono (by lia)) rfl (zaa (yaa 0) (zaa (r_ix rfl hu (yaa 2) yaf) yac))))
  (zab (r_if (yat (o_eq rfl hu) (yaa 3) yaf (yap _)) (yad (yak (r_ix rfl hu (yaa 2) yaf))) yaw)
  (yad (yak (yai rfl C (zbU Z) (hr.mono (show 6<=6+(d+1) by lia)) rfl (zaa (yaa 0) (zaa (yaa 3) (zaa (r_ix rfl hu (yaa 2) yaf) yac))))))))))
theorem zdn:GF P w (mkT K cls exc) mg base 6 "turned_right" ya3:=gf Z.d_turned_right zcV fun hr C hu nd =>
 (zab (r_if (yat o_lt (yam yc7 (yal rfl C (zar Z) hr.m (yaa 0) (zaa (yaa 1) yac)) (yal rfl C (zar Z) hr.m (yaa 0) (zaa (yaa 2) yac))) yaf (yap _)) (yad (yak (yal rfl C (zah Z) hr.m (yaa 0) (zaa (yaa 1) (zaa (yaa 2) yac))))) yaw)
  (zab (yan (i:=3) nd (yal rfl C (zal Z) hr.m (yaa 0) (zaa (yaa 1) yac)))
  (zab (yan (i:=4) nd (r_ix rfl hu (yaa 3) yaf))
  (zab (yan (i:=5) nd (r_ix rfl hu (yaa 3) yaf))
  (zab (r_if (yat o_le (yal rfl C (zar Z) hr.m (yaa 0) (zaa (yaa 5) yac)) (yal rfl C (zar Z) hr.m (yaa 0) (zaa (yaa 4) yac)) (yap _)) (yad (yak (yal rfl C (zah Z) hr.m (yaa 0) (zaa (yaa 4) (zaa (yal rfl C (zah Z) hr.m (yaa 0) (zaa (yaa 5) (zaa (yaa 2) yac))) yac))))) yaw)
  (zab (yan (i:=6) nd (yal rfl C (zal Z) hr.m (yaa 0) (zaa (yaa 5) yac)))
  (yad (yak (yal rfl C (zah Z) hr.m (yaa 0) (zaa (yal rfl C (zah Z) hr.m (yaa 0) (zaa (yaa 4) (zaa (r_ix rfl hu (yaa 6) yaf) yac))) (zaa (yal rfl C (zah Z) hr.m (yaa 0) (zaa (r_ix rfl hu (yaa 6) yaf) (zaa (yaa 2) yac))) yac)))))))))))
theorem zbR:∀ d,GF P w (mkT K cls exc) mg base (6+d+1) "linked" (ybf d)
 | 0=>gf Z.d_linked zdM fun _ _ _ _=>yez
 | d+1=>gf Z.d_linked zdM fun hr C hu nd =>
  (zab (yan (i:=3) nd (yam yc7 (yal rfl C (zar Z) (hr.mono (show 5<=6+(d+1) by lia)) (yaa 0) (zaa (yaa 1) yac)) (yal rfl C (zar Z) (hr.mono (show 5<=6+(d+1) by lia)) (yaa 0) (zaa (yaa 2) yac))))
  (zab (r_if (yat o_gt (yaa 3) yaf (yap _)) (zab (yan (i:=4) nd (yal rfl C (zal Z) (hr.mono (show 4<=6+(d+1) by lia)) (yaa 0) (zaa (yaa 1) yac)))
  (yad (yak (yai rfl C (zbU Z) (hr.mono (show 6<=6+(d+1) by lia)) rfl (zaa (yaa 0) (zaa (r_ix rfl hu (yaa 4) yaf) (zaa (yai rfl C (zbR d) (hr.mono (by lia)) rfl (zaa (yaa 0) (zaa (r_ix rfl hu (yaa 4) yaf) (zaa (yaa 2) yac)))) yac))))))) yaw)
  (zab (r_if (yat o_lt (yaa 3) (yed yaf) (yap _)) (zab (yan (i:=4) nd (yal rfl C (zal Z) (hr.mono (show 4<=6+(d+1) by lia)) (yaa 0) (zaa (yaa 2) yac)))
  (yad (yak (yai rfl C (zdn Z) (hr.mono (show 6<=6+(d+1) by lia)) rfl (zaa (yaa 0) (zaa (yai rfl C (zbR d) (hr.mono (by lia)) rfl (zaa (yaa 0) (zaa (yaa 1) (zaa (r_ix rfl hu (yaa 4) yaf) yac)))) (zaa (r_ix rfl hu (yaa 4) yaf) yac))))))) yaw)
  (yad (yak (yal rfl C (zah Z) (hr.mono (show 5<=6+(d+1) by lia)) (yaa 0) (zaa (yaa 1) (zaa (yaa 2) yac))))))))
theorem zid:GF P w (mkT K cls exc) mg base 98 "welded" ycv:=gf Z.d_welded zg4 fun hr C hu nd =>
 (zab (yan (i:=3) nd (yam (yaV rfl) (r_ix rfl hu (yal rfl C (zal Z) hr.m (yaa 0) (zaa (yal rfl C (za5 Z) hr.m (yaa 0) (zaa (yaa 1) yac)) yac)) yaf) (r_ix rfl hu (yal rfl C (zal Z) hr.m (yaa 0) (zaa (yal rfl C (za1 Z) hr.m (yaa 0) (zaa (yaa 2) yac)) yac)) yaf)))
  (zab (yan (i:=4) nd (yai rfl C (zct Z 90) hr.m rfl (zaa (yaa 0) (zaa (yaa 1) (zaa (yal rfl C (zca Z) hr.m (yaa 0) (zaa (yaa 3) yac)) yac)))))
  (zab (yan (i:=5) nd (yai rfl C (zbm Z 90) hr.m rfl (zaa (yaa 0) (zaa (yaa 2) yac))))
  (zab (r_if (yat (o_eq rfl hu) (yaa 5) yaf (yap _)) (yad (yak (yaa 4))) yaw)
  (yad (yak (yai rfl C (zbR Z 90) hr.m rfl (zaa (yaa 0) (zaa (yaa 4) (zaa (yaa 5) yac))))))))))
theorem zeH:GF P w (mkT K cls exc) mg base 99 "joined" ybF:=gf Z.d_joined zg5 fun hr C hu nd =>
 (zab (yaH (yai rfl C (zdm Z) hr.m rfl (zaa (yam (yaV rfl) (yal rfl C (zaJ Z) hr.m (yaa 0) (zaa (yaa 1) yac)) (yal rfl C (zaJ Z) hr.m (yaa 0) (zaa (yaa 2) yac))) yac)))
  (zab (r_if (yat (o_eq rfl hu) (yaa 1) yaf (yap _)) (yad (yak (yaa 2))) yaw)
  (zab (r_if (yat (o_eq rfl hu) (yaa 2) yaf (yap _)) (yad (yak (yaa 1))) yaw)
  (zab (r_if (zas rfl (yai rfl C (ze2 Z) hr.m rfl (zaa (yaa 0) (zaa (yaa 1) (zaa (yaa 2) yac))))) (yad (yak (yai rfl C (zbR Z 90) hr.m rfl (zaa (yaa 0) (zaa (yaa 1) (zaa (yaa 2) yac)))))) yaw)
  (yad (yak (yai rfl C (zid Z) hr.m rfl (zaa (yaa 0) (zaa (yaa 1) (zaa (yaa 2) yac))))))))))
theorem zgl:GF P w (mkT K cls exc) mg base 100 "_law_made" yci:=gf Z.d_law_made ze0 fun hr C hu nd =>
 (zab (yan (i:=3) nd (yai rfl C (zaw Z) hr.m rfl (zaa (yaa 1) (zaa yaf yac))))
  (zab (r_if (yat (o_eq rfl hu) (yaa 3) yaf (yap _)) (yad (yak (yai rfl C (zdl Z) hr.m rfl (zaa (yaa 0) (zaa (yaa 2) yac))))) yaw)
  (zab (yan (i:=4) nd (ybL yac))
  (zab (zbs ya1 (yat (o_ne rfl hu) (yaa 2) yaY (yap _)) (zab (yan (i:=5) nd (yam (yaV rfl) yaf (yai rfl (C.nox) (zaw Z) hr.m rfl (zaa (yaa 1) (zaa yaf yac)))))
  (zab (yaH (r_bm rfl PySem.F.plainAttrs_list PySem.F.slot_list_append PySem.F.type_list_append (zan) zai (yaa 4) (zaa (zaD rfl (yaa 2) zaF (zaB (yaa 5))) yac)))
  (yad (yan (i:=2) nd (zaD rfl (yaa 2) (zaB (yaa 5)) zaF))))))
  (zab (yan (i:=6) nd yaf)
  (zab (r_if (yat (o_eq rfl hu) (yaa 3) yaf (yap _)) (yad (ycV rfl (yb8 (E:=EN) rfl (yaa 4)) (zaH (i:=7) nd) (yad (yan (i:=6) nd (yai rfl (C.nox) (zeH Z) hr.m rfl (zaa (yaa 0) (zaa (yaa 6) (zaa (yai rfl (C.nox) (zdl Z) hr.m rfl (zaa (yaa 0) (zaa (yaa 7) yac))) yac)))))))) (yad (yhg rfl rfl rfl Z.b_reversed (yaa 4) (zaH (i:=7) nd) (yad (yan (i:=6) nd (yai rfl (C.nox) (zeH Z) hr.m rfl (zaa (yaa 0) (zaa (yai rfl (C.nox) (zdl Z) hr.m rfl (zaa (yaa 0) (zaa (yaa 7) yac))) (zaa (yaa 6) yac)))))))))
  (yad (yak (yaa 6)))))))))
theorem ze3:GF P w (mkT K cls exc) mg base 1 "_law_mixed" ycY:=gf Z.d_law_mixed zeE fun hr C hu nd =>
 (zab (yan (i:=2) nd (yam ydR (yam yc8 (yam (yaV rfl) (yam (yaV rfl) (yam ydR (yaa 0) yaf) (yam yc8 yaf (yaa 1))) yaf) yaf) yaf))
  (yad (yak (yam ydR (yam yc8 (yam ydR (yam yc8 (yaa 2) (yaa 2)) yaf) yaf) yaf))))
theorem zbf:GF P w (mkT K cls exc) mg base 2 "_law_stream" ybl:=gf Z.d_law_stream zdU fun {f cdv A outer s H E} hr C hu nd =>
 (zab (yan (i:=2) nd yaf)
  (zab (ycV rfl (zdz (E:=EN) rfl Z.b_range (yaa 1) (r_bi (b_len rfl) rfl Z.b_len PySem.boot_len (zaa (yaa 0) yac)) yaf) (zaH (i:=3) nd) (yad (yan (i:=2) nd (yam (yaV rfl) (yam yc8 (yaa 2) (yam yc8 (yam yc9 yaf yaf) (yam yc9 yaf yaf))) (yam ydR (r_ix rfl hu (yaa 0) (yaa 3)) (yam yc8 (yam yc9 yaf yaf) (yam yc9 yaf yaf)))))))
  (zab (r_if (yat o_ge (yaa 2) (yam yc9 yaf yaf) (yap _)) (yad (yak (ybL (zaa (yaa 2) yac)))) yaw)
  (zab (yan (i:=2) nd (yam (yaV rfl) (yaa 2) (r_bi (b_sum rfl) rfl Z.b_sum PyProof.Rows.boot_sum (zaa (yfI (jf:=[]) (za0 (N:=["script", "k", "cell", "j", "found"]) (sc:=yag ycJ) rfl (fun _=>rfl) (by decide +kernel)) rfl (yb8 (E:=(fun _=>E)) rfl (yaa 0)) (fun _ _ _ _ _=>zbt) (fun _ _ _ _ _=>(yam ydR (yaa 0) (yam yc9 yaf yaf)))) yac))))
  (zab (yan (i:=4) nd yaf)
  (zab (ycV rfl (zdw (E:=EN) rfl Z.b_range yaf) (zaH (i:=3) nd) (yad (yan (i:=4) nd (yam (yaV rfl) (yam yc8 (yaa 4) yaf) (yai rfl (C.nox) (ze3 Z) hr.m rfl (zaa (yam (yaV rfl) (yam (yaV rfl) (yaa 2) (yam yc8 yaf (yaa 1))) (r_bi (b_len rfl) rfl Z.b_len PySem.boot_len (zaa (yaa 0) yac))) (zaa (yaa 3) yac)))))))
  (yad (yak (ybL (zaa (yaa 4) yac))))))))))
theorem zeI:GF P w (mkT K cls exc) mg base 2 "_law_poured" ycD:=gf Z.d_law_poured zdV fun hr C hu nd =>
 (zab (yan (i:=2) nd (ybL yac))
  (zab (ycV rfl (yb8 (E:=EN) rfl (yaa 0)) (zaH (i:=3) nd) (zab (r_if (rt_w (ye6 (yat (o_ne rfl hu) (yaa 2) (ybs yac) (yap _)) (ye6 (zas rfl (ydT rfl rfl Z.b_isinstance (yaa 3) rfl Z.b_str yd4 (by decide))) (zfj (zas rfl (ydT rfl rfl Z.b_isinstance (r_ix rfl hu (yaa 2) (yed yaf)) rfl Z.b_str yd4 (by decide))))))) (yad (r_if (rt_w (ye6 (yat o_lt (yam (yaV rfl) (r_bi (b_len rfl) rfl Z.b_len PySem.boot_len (zaa (r_ix rfl hu (yaa 2) (yed yaf)) yac)) (r_bi (b_len rfl) rfl Z.b_len PySem.boot_len (zaa (yaa 3) yac))) yaf (yap _)) (zfj (yat o_gt (yai rfl (C.nox) (zaw Z) hr.m rfl (zaa (yaa 1) (zaa yaf yac))) yaf (yap _))))) (yad (yan (i:=3) nd (yam (yaV rfl) (yey rfl PySem.F.plainAttrs_list PySem.F.slot_list_pop PySem.F.type_list_pop (yeR) zai (yaa 2)) (yaa 3)))) yaw)) yaw)
  (yad (yaH (r_bm rfl PySem.F.plainAttrs_list PySem.F.slot_list_append PySem.F.type_list_append (zan) zai (yaa 2) (zaa (yaa 3) yac))))))
  (yad (yak (yaa 2)))))
theorem zaI:GM P w (mkT K cls exc) mg base 1 0 "many" ya4:=gm Z.d_Shelf_many zdW (show ("many" : Str)∉flds 0 by decide +kernel) fun hr C hu nd =>
 (yad (yak (r_bi (b_len rfl) rfl Z.b_len PySem.boot_len (zaa (yaN rfl Z.cf_Shelf (yaa 0)) yac))))
theorem zeJ:GF P w (mkT K cls exc) mg base 2 "_law_things" ybV:=gf Z.d_law_things zdX fun hr C hu nd =>
 (zab (yan (i:=2) nd (yam (yaV rfl) (yam (yaV rfl) (za6 rfl C (zaI Z) hr.m (yaa 0)) yaf) (yai rfl C (zaw Z) hr.m rfl (zaa (yaa 1) (zaa (yam yc9 yaf yaf) yac)))))
  (@zab _ _ _ _ _ _ _ (@yan _ _ _ _ _ _ 3 _ _ nd (@ybs _ _ _ _ _ _ (@zag _ _ _ _ _ _ _ yaf (@zag _ _ _ _ _ _ _ (yed yaf) (@zag _ _ _ _ _ _ _ (yam yc7 yaf (yaa 2)) (@zag _ _ _ _ _ _ _ (yam (yaV rfl) (za6 rfl C (zaI Z) hr.m (yaa 0)) yaf) (@zag _ _ _ _ _ _ _ (yaa 2) (@zag _ _ _ _ _ _ _ r_bl (@zag _ _ _ _ _ _ _ r_bl (@zag _ _ _ _ _ _ _ yec (@zag _ _ _ _ _ _ _ yaY (@zag _ _ _ _ _ _ _ yaY (@zag _ _ _ _ _ _ _ yaY (@zag _ _ _ _ _ _ _ yaY yac rfl) rfl) rfl) rfl) rfl) rfl) rfl) rfl) rfl) rfl) rfl) rfl)) rfl (Or.inl rfl) rfl (.inl rfl))
  (@yad _ _ _ _ _ (@yak _ _ _ _ _ _ (@yam _ _ _ _ _ _ _ _ _ _ (yaV rfl) (yaa 3) (@ybs _ _ _ _ _ _ (@zag _ _ _ _ _ _ _ (@ybs _ _ _ _ _ _ yac) (@zag _ _ _ _ _ _ _ (@ybs _ _ _ _ _ _ (@zag _ _ _ _ _ _ _ yaY yac rfl)) (@zag _ _ _ _ _ _ _ (@ybs _ _ _ _ _ _ (@zag _ _ _ _ _ _ _ yaf yac rfl)) (@zag _ _ _ _ _ _ _ (@yeQ _ _ _ _ _ _ _ (@zag _ _ _ _ _ _ _ yaY yac rfl)) (@zag _ _ _ _ _ _ _ (@yeQ _ _ _ _ _ _ _ (@zag _ _ _ _ _ _ _ yaf yac rfl)) (@zag _ _ _ _ _ _ _ (@ziN _ _ _ _) (@zag _ _ _ _ _ _ _ (@ziY _ _ _ _ _ _ _ _ yaY yaf) yac rfl) rfl) rfl) rfl) rfl) rfl) rfl)))))))
theorem zd3:GF P w (mkT K cls exc) mg base 5 "_law_spelled" yb0:=gf Z.d_law_spelled zde fun hr C hu nd =>
 (zab (yan (i:=3) nd (ybL yac))
  (zab (yan (i:=4) nd (ybL (zaa (yaa 1) yac)))
  (zab (zbs ya1 (yat (o_ne rfl hu) (yaa 4) (ybs yac) (yap _)) (zab (yan (i:=5) nd (yey rfl PySem.F.plainAttrs_list PySem.F.slot_list_pop PySem.F.type_list_pop (yeR) zai (yaa 4)))
  (yad (r_if (yat (o_ne rfl hu) (yaa 5) yaf (yap _)) (zab (yan (i:=6) nd (yal rfl (C.nox) (zal Z) hr.m (yaa 0) (zaa (yaa 5) yac)))
  (zab (yan (i:=7) nd (yai rfl (C.nox) (zaw Z) hr.m rfl (zaa (yaa 2) (zaa yaf yac))))
  (yad (r_if (yat (o_eq rfl hu) (yaa 7) yaf (yap _)) (yad (yaH (r_bm rfl PySem.F.plainAttrs_list PySem.F.slot_list_append PySem.F.type_list_append (zan) zai (yaa 3) (zaa (yaa 5) yac)))) (yad (r_if (yat (o_eq rfl hu) (r_ix rfl hu (yaa 6) yaf) yaY (yap _)) (yad (yaH (r_bm rfl PySem.F.plainAttrs_list PySem.F.slot_list_extend PySem.F.type_list_extend (yfM) zai (yaa 4) (zaa (ybL (zaa (r_ix rfl hu (yaa 6) yaf) (zaa (r_ix rfl hu (yaa 6) yaf) yac))) yac)))) (yad (r_if (yat (o_eq rfl hu) (yaa 7) yaf (yap _)) (yad (yaH (r_bm rfl PySem.F.plainAttrs_list PySem.F.slot_list_append PySem.F.type_list_append (zan) zai (yaa 3) (zaa (r_ix rfl hu (yaa 6) yaf) yac)))) (yad (yaH (r_bm rfl PySem.F.plainAttrs_list PySem.F.slot_list_extend PySem.F.type_list_extend (yfM) zai (yaa 3) (zaa (ziR (jf:=[]) (za0 (N:=["shelf", "text", "stream", "items", "waiting", "number", "piece", "kind"]) (sc:=yag yct) rfl (fun _=>rfl) (by decide +kernel)) rfl (yb8 (E:=EN) rfl (r_ix rfl hu (yaa 6) yaf)) (fun _ _ _ _ _=>zbt) (fun _ _ _ _ _=>(yaa 0))) yac)))))))))))) yaw))))
  (yad (yak (yaa 3))))))
theorem zeK:GF P w (mkT K cls exc) mg base 5 "whole_left" ybD:=gf Z.d_whole_left zdY fun hr C hu nd =>
 (zab (yaH (yal rfl C (zaA Z) hr.m (yaa 0) (zaa (yaa 1) yac)))
  (yad (yak (yim (yat (o_eq rfl hu) (yaa 1) yaf (yap _)) (ybs yac) (ybL (zaa (yaa 1) yac))))))
theorem zcb:GF P w (mkT K cls exc) mg base 5 "opens_fork" ybw:=gf Z.d_opens_fork zdZ fun hr C hu nd =>
 (zab (r_if (zas rfl (ydT rfl rfl Z.b_isinstance (yaa 2) rfl Z.b_str yd4 (by decide))) (yad (yak r_bl)) yaw)
  (zab (yan (i:=3) nd (yal rfl C (zal Z) hr.m (yaa 0) (zaa (yaa 2) yac)))
  (zab (r_if (yat (o_eq rfl hu) (r_ix rfl hu (yaa 3) yaf) yaY (yap _)) (yad (yak r_bl)) yaw)
  (zab (yaH (r_bm rfl PySem.F.plainAttrs_list PySem.F.slot_list_append PySem.F.type_list_append (zan) zai (yaa 1) (zaa (r_ix rfl hu (yaa 3) yaf) yac)))
  (zab (yaH (r_bm rfl PySem.F.plainAttrs_list PySem.F.slot_list_append PySem.F.type_list_append (zan) zai (yaa 1) (zaa (r_ix rfl hu (yaa 3) yaf) yac)))
  (yad (yak r_bl)))))))
theorem zd4:GF P w (mkT K cls exc) mg base 6 "takes_piece" ybn:=gf Z.d_takes_piece zdf fun hr C hu nd =>
 (zab (zbs ya1 (yat (o_ne rfl hu) (yaa 1) (ybs yac) (yap _)) (zab (yan (i:=3) nd (yey rfl PySem.F.plainAttrs_list PySem.F.slot_list_pop PySem.F.type_list_pop (yeR) zai (yaa 1)))
  (zab (r_if (yat (o_eq rfl hu) (yaa 3) (yaa 2) (yap _)) (yad (yak r_bl)) yaw)
  (yad (r_if (yb7 (zas rfl (yai rfl (C.nox) (zcb Z) hr.m rfl (zaa (yaa 0) (zaa (yaa 1) (zaa (yaa 3) yac)))))) (yad (yak r_bl)) yaw)))))
  (yad (yak r_bl)))
theorem zeL:GF P w (mkT K cls exc) mg base 6 "next_signs" ybP:=gf Z.d_next_signs zd0 fun hr C hu nd =>
 (zab (zbs ya1 (yat (o_ne rfl hu) (yaa 1) (ybs yac) (yap _)) (zab (yan (i:=2) nd (yey rfl PySem.F.plainAttrs_list PySem.F.slot_list_pop PySem.F.type_list_pop (yeR) zai (yaa 1)))
  (zab (r_if (zas rfl (ydT rfl rfl Z.b_isinstance (yaa 2) rfl Z.b_str yd4 (by decide))) (yad (yak (yaa 2))) yaw)
  (yad (r_if (yb7 (zas rfl (yai rfl (C.nox) (zcb Z) hr.m rfl (zaa (yaa 0) (zaa (yaa 1) (zaa (yaa 2) yac)))))) (yad (yak (r_ix rfl hu (yal rfl (C.nox) (zal Z) hr.m (yaa 0) (zaa (yaa 2) yac)) yaf))) yaw)))))
  (yad (yak yaY)))
theorem ze4:GF P w (mkT K cls exc) mg base 1 "puts_back" yco:=gf Z.d_puts_back zeF fun hr C hu nd =>
 (yad (r_if (yat (o_ne rfl hu) (yaa 1) yaY (yap _)) (yad (yaH (r_bm rfl PySem.F.plainAttrs_list PySem.F.slot_list_append PySem.F.type_list_append (zan) zai (yaa 0) (zaa (yaa 1) yac)))) yaw))
theorem zd5:GF P w (mkT K cls exc) mg base 7 "takes_plain" yby:=gf Z.d_takes_plain zdg fun hr C hu nd =>
 (zab (yan (i:=3) nd (yaa 2))
  (zab (zbs ya1 (yat (o_ne rfl hu) (yaa 3) yaY (yap _)) (zab (yan (i:=4) nd (yai rfl (C.nox) (zeL Z) hr.m rfl (zaa (yaa 0) (zaa (yaa 1) yac))))
  (zab (yan (i:=5) nd (r_bi (yha) rfl Z.b_min PyProof.Rows.boot_min (zaa (r_bi (b_len rfl) rfl Z.b_len PySem.boot_len (zaa (yaa 4) yac)) (zaa (r_bi (b_len rfl) rfl Z.b_len PySem.boot_len (zaa (yaa 3) yac)) yac))))
  (zab (r_if (rt_w (yee (yat (o_eq rfl hu) (yaa 5) yaf (yap _)) (ydL (yat (o_ne rfl hu) (zaD rfl (yaa 4) zaF (zaB (yaa 5))) (zaD rfl (yaa 3) zaF (zaB (yaa 5))) (yap _))))) (yad (yak r_bl)) yaw)
  (zab (yaH (yai rfl (C.nox) (ze4 Z) hr.m rfl (zaa (yaa 1) (zaa (zaD rfl (yaa 4) (zaB (yaa 5)) zaF) yac))))
  (yad (yan (i:=3) nd (zaD rfl (yaa 3) (zaB (yaa 5)) zaF))))))))
  (yad (yak r_bl))))
theorem zeM:GF P w (mkT K cls exc) mg base 8 "takes_item" yaJ:=gf Z.d_takes_item zd1 fun hr C hu nd =>
 (zab (r_if (zas rfl (yal rfl C (za4 Z) hr.m (yaa 0) (zaa (yaa 2) yac))) (yad (yak (yai rfl C (zd4 Z) hr.m rfl (zaa (yaa 0) (zaa (yaa 1) (zaa (yaa 2) yac)))))) yaw)
  (yad (yak (yef (yai rfl C (zcZ Z) hr.m rfl (zaa (yaa 2) yac)) (ydS (yai rfl C (zd5 Z) hr.m rfl (zaa (yaa 0) (zaa (yaa 1) (zaa (yaa 2) yac)))))))))
theorem zbV:GF P w (mkT K cls exc) mg base 9 "left_behind" ybz:=gf Z.d_left_behind zdh fun hr C hu nd =>
 (zab (yan (i:=3) nd (yai rfl C (zeK Z) hr.m rfl (zaa (yaa 0) (zaa (yaa 1) yac))))
  (zab (ycV rfl (yb8 (E:=EN) rfl (yaa 2)) (zaH (i:=4) nd) (yad (r_if (yb7 (zas rfl (yai rfl (C.nox) (zeM Z) hr.m rfl (zaa (yaa 0) (zaa (yaa 3) (zaa (yaa 4) yac)))))) (yad (yak yec)) yaw)))
  (yad (yak (yaa 3)))))
theorem zcI:GF P w (mkT K cls exc) mg base 10 "spells" ybX:=gf Z.d_spells zg6 fun hr C hu nd =>
 (yad (yak (yev (o_eq rfl hu) (yai rfl C (zbV Z) hr.m rfl (zaa (yaa 0) (zaa (yaa 1) (zaa (yaa 2) yac)))) (ybs yac) (yap _))))
theorem za2:GF P w (mkT K cls exc) mg base 10 "begins_text" ybo:=gf Z.d_begins_text zdi fun hr C hu nd =>
 (yad (yak (yev yg6 (yai rfl C (zbV Z) hr.m rfl (zaa (yaa 0) (zaa (yaa 1) (zaa (yaa 2) yac)))) yec (yap _))))
theorem zeN:GF P w (mkT K cls exc) mg base 6 "item_signs" ya5:=gf Z.d_item_signs zd2 fun hr C hu nd =>
 (zab (r_if (yb7 (zas rfl (yai rfl C (zcW Z) hr.m rfl (zaa (yaa 1) yac)))) (yad (yak (r_bi (b_len rfl) rfl Z.b_len PySem.boot_len (zaa (yaa 1) yac)))) yaw)
  (zab (yaH (yal rfl C (zax Z) hr.m (yaa 0) (zaa (yaa 1) yac)))
  (yad (yak (yal rfl C (zaJ Z) hr.m (yaa 0) (zaa (yaa 1) yac))))))
theorem za3:GF P w (mkT K cls exc) mg base 7 "items_signs" ybi:=gf Z.d_items_signs zdj fun {f cdv A outer s H E} hr C hu nd =>
 (yad (yak (r_bi (b_sum rfl) rfl Z.b_sum PyProof.Rows.boot_sum (zaa (zi0 rfl (jf:=[(0, "shelf")]) (za0 (N:=["shelf", "items"]) (sc:=yag ycu) rfl (fun _=>rfl) (by decide +kernel)) rfl (yb8 (E:=(fun _=>E)) rfl (yaa 1)) (fun _ _ _ _ _=>zbt) (fun _ _ _ _ _ _ Ex CX=>(yai rfl CX (zeN Z) hr.m rfl (zaa (yaa 1) (zaa (yaa 0) yac)))) ziZ) yac))))
theorem zaQ:GF P w (mkT K cls exc) mg base 11 "_law_refused" ya9:=gf Z.d_law_refused zdk fun hr C hu nd =>
 (zab (yan (i:=4) nd yec)
  (zab (yhe (i:=5) rfl nd rfl Z.ct_SkeinError (fun _ _ Ex2 C2 R2=>(yad (r_if (yat (o_eq rfl hu) (yaa 1) yaf (yap _)) (yad (yaH (yai rfl C2 (zcI Z) hr.m rfl (zaa (yaa 0) (zaa (yaa 2) (zaa (yaa 3) yac)))))) (yad (r_if (yat (o_eq rfl hu) (yaa 1) yaf (yap _)) (yad (yaH (yai rfl C2 (za2 Z) hr.m rfl (zaa (yaa 0) (zaa (yaa 2) (zaa (yaa 3) yac)))))) (yad (yaH (yai rfl C2 (za3 Z) hr.m rfl (zaa (yaa 0) (zaa (yaa 3) yac)))))))))) (fun _ C3=>(yad (yan (i:=4) nd (yaa 5)))))
  (zab (r_if (rt_w (yee (yat yij (yaa 4) yec (yap _)) (ydL (zas rfl (yhh rfl rfl Z.b_isinstance (yaa 4) rfl rfl Z.kx_NoPlace Z.kx_NoText))))) (yad (yak r_bl)) yaw)
  (yad (yak (yef (yiv rfl rfl Z.b_isinstance (yaa 4) rfl Z.kx_NoPiece) (ydS (yhd rfl rfl Z.b_isinstance (yaa 4) rfl Z.b_ValueError yiw Z.kx_ValueError))))))))
theorem yiP {f:Addr} {fd:FuncData} (h4:Fun K "law" "law" yeX f fd):FnOk P w K mg base (CXE P w) 101 f fd ["script"] (spA (mkT K cls exc) yfo):=gl (T:=mkT K cls exc) h4 yhP fun hr C hu nd =>
 (zab (yan (i:=1) nd (ziU rfl C (zeG Z) hr.m rfl))
  (zab (yan (i:=2) nd (yai rfl C (ze1 Z) hr.m rfl (zaa (yai rfl C (zbf Z) hr.m rfl (zaa (yaa 0) (zaa yaf yac))) (zaa yaf yac))))
  (zab (yan (i:=3) nd (yai rfl C (zgl Z) hr.m rfl (zaa (yaa 1) (zaa (yai rfl C (zbf Z) hr.m rfl (zaa (yaa 0) (zaa yaf yac))) (zaa (yaa 2) yac)))))
  (zab (yan (i:=4) nd (yai rfl C (zbf Z) hr.m rfl (zaa (yaa 0) (zaa yaf yac))))
  (zab (yan (i:=5) nd (yai rfl C (zeI Z) hr.m rfl (zaa (yai rfl C (zd3 Z) hr.m rfl (zaa (yaa 1) (zaa (yaa 3) (zaa (yaa 4) yac)))) (zaa (yaa 4) yac))))
  (zab (yan (i:=6) nd (za6 rfl C (zaI Z) hr.m (yaa 1)))
  (zab (r_if (rt_w (yee (yat (o_ne rfl hu) (yai rfl C (za3 Z) hr.m rfl (zaa (yaa 1) (zaa (yaa 5) yac))) (r_bi (b_len rfl) rfl Z.b_len PySem.boot_len (zaa (yaa 2) yac)) (yap _)) (ydL (yat (o_ne rfl hu) (yai rfl C (za3 Z) hr.m rfl (zaa (yaa 1) (zaa (ybs yac) yac))) yaf (yap _))))) (yad (yak r_bl)) yaw)
  (zab (ycV rfl (yb8 (E:=EN) rfl (yai rfl (C.nox) (zeJ Z) hr.m rfl (zaa (yaa 1) (zaa (yaa 4) yac)))) (zaH (i:=7) nd) (zab (yan (i:=8) nd (yai rfl (C.nox) (zaw Z) hr.m rfl (zaa (yaa 4) (zaa (yam (yaV rfl) (r_bi (b_len rfl) rfl Z.b_len PySem.boot_len (zaa (yaa 5) yac)) yaf) yac))))
  (yad (ycV rfl (yb8 (E:=EN) rfl (ybs (zaa (yam (yaV rfl) (yam (yaV rfl) (zaD rfl (yaa 5) zaF (zaB (yaa 8))) (ybs (zaa (yaa 7) yac))) (zaD rfl (yaa 5) (zaB (yaa 8)) zaF)) (zaa (ybs (zaa (yaa 7) yac)) (zaa (yam (yaV rfl) (yaa 5) (ybs (zaa (yaa 7) yac))) yac))))) (zaH (i:=9) nd) (zab (r_if (rt_w (yee (yat yeA (yai rfl ((C.nox).nox) (zcI Z) hr.m rfl (zaa (yaa 1) (zaa (yaa 3) (zaa (yaa 9) yac)))) r_bl (yap _)) (ydL (yat yeA (yai rfl ((C.nox).nox) (za2 Z) hr.m rfl (zaa (yaa 1) (zaa (yaa 3) (zaa (yaa 9) yac)))) r_bl (yap _))))) (yad (yak r_bl)) yaw)
  (yad (r_if (rt_w (yee (yat yeA (yai rfl ((C.nox).nox) (zcI Z) hr.m rfl (zaa (yaa 1) (zaa yaf (zaa (yaa 9) yac)))) r_bl (yap _)) (ydL (yat yeA (yai rfl ((C.nox).nox) (za2 Z) hr.m rfl (zaa (yaa 1) (zaa yaf (zaa (yaa 9) yac)))) r_bl (yap _))))) (yad (yak r_bl)) yaw)))))))
  (zab (yan (i:=10) nd (yai rfl C (zaw Z) hr.m rfl (zaa (yaa 4) (zaa (yam yc9 yaf yaf) yac))))
  (zab (ycV rfl (yb8 (E:=EN) rfl (ybs (zaa (yed yaf) (zaa (yam yc7 (yam yc7 yaf yaf) (yaa 10)) (zaa (yam (yaV rfl) (za6 rfl (C.nox) (zaI Z) hr.m (yaa 1)) yaf) (zaa (yam (yaV rfl) (yam (yaV rfl) (za6 rfl (C.nox) (zaI Z) hr.m (yaa 1)) yaf) (yaa 10)) (zaa (yam yc7 (yam yc9 yaf yaf) yaf) yac))))))) (zaH (i:=11) nd) (zab (ycV rfl (yb8 (E:=EN) rfl (ybs (zaa (yaa 5) (zaa (ybs yac) (zaa (ybs (zaa yaY (zaa yec yac))) yac))))) (zaH (i:=12) nd) (yad (r_if (rt_w (yee (yb7 (zas rfl (yai rfl ((C.nox).nox) (zaQ Z) hr.m rfl (zaa (yaa 1) (zaa yaf (zaa (yaa 11) (zaa (yaa 12) yac))))))) (ydL (yb7 (zas rfl (yai rfl ((C.nox).nox) (zaQ Z) hr.m rfl (zaa (yaa 1) (zaa yaf (zaa (yaa 11) (zaa (yaa 12) yac)))))))))) (yad (yak r_bl)) yaw)))
  (zab (yan (i:=8) nd (yai rfl (C.nox) (zaw Z) hr.m rfl (zaa (yaa 4) (zaa (yam (yaV rfl) (r_bi (b_len rfl) rfl Z.b_len PySem.boot_len (zaa (yaa 5) yac)) yaf) yac))))
  (yad (r_if (yb7 (zas rfl (yai rfl (C.nox) (zaQ Z) hr.m rfl (zaa (yaa 1) (zaa yaf (zaa (yaa 3) (zaa (yam (yaV rfl) (yam (yaV rfl) (zaD rfl (yaa 5) zaF (zaB (yaa 8))) (ybs (zaa (yaa 11) yac))) (zaD rfl (yaa 5) (zaB (yaa 8)) zaF)) yac))))))) (yad (yak r_bl)) yaw)))))
  (yad (yak (yef (yai rfl C (zaQ Z) hr.m rfl (zaa (yaa 1) (zaa yaf (zaa (yaa 3) (zaa (yam (yaV rfl) (yaa 5) (ybs (zaa yaf yac))) yac))))) (ydS (yev (o_eq rfl hu) (za6 rfl C (zaI Z) hr.m (yaa 1)) (yaa 6) (yap _))))))))))))))))
end
end Sk
namespace Sk
open PySem PySem.Spec L2 Sm
abbrev FX (l:PySem.W.OpenLaw) (w:World) (K:PySem.W.Frag) (mg:Str->Option Value) (fa:Addr):Prop:=∃ fd:FuncData,(∀ (s:Shared) (v:Value),BindsTo s fd ⟨[v],[]⟩ [("script",v)])/\∀ base:Heap,K.In base->base.Ns mainGlobals mg->FnOk l.prog w K mg base (CXE l.prog w) 101 fa fd ["script"] (spL K)
theorem all_mk {l:PySem.W.OpenLaw} {w:World} {K:PySem.W.Frag} {h:Heap} {mg:Str->Option Value} {fa C0 X0 X1 X2 X3 X4 X5 X6:Addr} {tk_LEAF_SIGNS tk_MOST_PLAIN tk_MOST_SIGNS:Tok} (X:K.In h) (G:h.Ns mainGlobals mg) (hfa:mg "law" = some (.ref fa))
  (aC0:NA K "Shelf" (some (.ref C0))) (a0:DN K C0 "__init__" "Shelf.__init__" ydk) (a4:DN K C0 "has_piece" "Shelf.has_piece" ycj) (a5:DN K C0 "check_piece" "Shelf.check_piece" yb3) (a6:DN K C0 "check_fork" "Shelf.check_fork" ycb) (a7:DN K C0 "lay" "Shelf.lay" ydE) (a8:DN K C0 "lay_fork" "Shelf.lay_fork" ycw) (a9:DN K C0 "fork" "Shelf.fork" ydl) (a15:DN K C0 "lay_leaf" "Shelf.lay_leaf" ycx) (a16:DN K C0 "leaf" "Shelf.leaf" ydm) (a19:DN K C0 "check_text" "Shelf.check_text" ycc) (a20:DN K C0 "signs" "Shelf.signs" ycZ) (a21:DN K C0 "last_leaf" "Shelf.last_leaf" yck) (a22:DN K C0 "first_leaf" "Shelf.first_leaf" ycd) (a24:DN K C0 "piece" "Shelf.piece" yc0) (a26:DN K C0 "height" "Shelf.height" ycR) (a37:DN K C0 "many" "Shelf.many" ydo) (a1:DK K "_law_take" ydX) (a2:DK K "_law_plain" ydD) (a3:DK K "is_whole" ydY) (a10:DK K "halved" yel) (a11:DK K "is_plain_sign" ycH) (a12:DK K "is_plain" ydd) (a13:DK K "is_short" ydZ) (a14:DK K "ends_in" yea) (a17:DK K "built" yej) (a18:DK K "check_length" ycQ) (a23:DK K "are_close" ydF) (a25:DK K "with_last" ydG) (a27:DK K "turned_left" yc1) (a28:DK K "without_first" ycI) (a29:DK K "turned_right" ycS) (a30:DK K "linked" yem) (a31:DK K "welded" yen) (a32:DK K "joined" yeo) (a33:DK K "_law_made" yd0) (a34:DK K "_law_mixed" ydH) (a35:DK K "_law_stream" ycJ) (a36:DK K "_law_poured" ydn) (a38:DK K "_law_things" ydp) (a39:DK K "_law_spelled" yct) (a40:DK K "whole_left" ydq) (a41:DK K "opens_fork" ydr) (a42:DK K "takes_piece" yc2) (a43:DK K "next_signs" yds) (a44:DK K "puts_back" ydI) (a45:DK K "takes_plain" yc3) (a46:DK K "takes_item" ydt) (a47:DK K "left_behind" yc4) (a48:DK K "spells" yep) (a49:DK K "begins_text" yc5) (a50:DK K "item_signs" ydu) (a51:DK K "items_signs" ycu) (a52:DK K "_law_refused" yc6) (a53:DK K "law" yeX) (kk0:Cls K C0) (mk0:PySem.W.makesIn K C0=true) (kc0:PySem.W.keepIn K (.ref C0)=true) (nf0_0:FA K C0 "pieces") (nf0_1:FA K C0 "numbers") (nf0_2:FA K C0 "sign_counts") (nf0_3:FA K C0 "end_counts") (nf0_4:FA K C0 "leaf_counts") (nf0_5:FA K C0 "heights") (nf0_6:FA K C0 "first_leaves") (nf0_7:FA K C0 "last_leaves") (z_ValueError:NA K "ValueError" none) (z_abs:NA K "abs" none) (z_all:NA K "all" none) (z_bool:NA K "bool" none) (z_int:NA K "int" none) (z_isinstance:NA K "isinstance" none) (z_len:NA K "len" none) (z_max:NA K "max" none) (z_min:NA K "min" none) (z_range:NA K "range" none) (z_reversed:NA K "reversed" none) (z_str:NA K "str" none) (z_sum:NA K "sum" none) (e_SkeinError:NA K "SkeinError" (some (.ref X0))) (e_NoText:NA K "NoText" (some (.ref X1))) (x_NoText:XI K X1) (e_NoPiece:NA K "NoPiece" (some (.ref X2))) (x_NoPiece:XI K X2) (e_Loose:NA K "Loose" (some (.ref X3))) (x_Loose:XI K X3) (e_Unlevel:NA K "Unlevel" (some (.ref X4))) (x_Unlevel:XI K X4) (e_TooLong:NA K "TooLong" (some (.ref X5))) (x_TooLong:XI K X5) (e_NoPlace:NA K "NoPlace" (some (.ref X6))) (m_LEAF_SIGNS:NA K "LEAF_SIGNS" (some (.int 8 tk_LEAF_SIGNS))) (m_MOST_PLAIN:NA K "MOST_PLAIN" (some (.int 10000 tk_MOST_PLAIN))) (m_MOST_SIGNS:NA K "MOST_SIGNS" (some (.int 1000000000000000000 tk_MOST_SIGNS))) (y0:ExcK K X0) (y1:ExcK K X1) (y2:ExcK K X2) (y3:ExcK K X3) (y4:ExcK K X4) (y5:ExcK K X5) (y6:ExcK K X6) (kt_NoPiece_0:KO K X0 X2 false) (kt_NoPiece_1:KO K X1 X2 false) (kt_NoPiece_2:KO K X2 X2 true) (kt_NoPiece_3:KO K X3 X2 false) (kt_NoPiece_4:KO K X4 X2 false) (kt_NoPiece_5:KO K X5 X2 false) (kt_NoPiece_6:KO K X6 X2 false) (kt_NoPlace_0:KO K X0 X6 false) (kt_NoPlace_1:KO K X1 X6 false) (kt_NoPlace_2:KO K X2 X6 false) (kt_NoPlace_3:KO K X3 X6 false) (kt_NoPlace_4:KO K X4 X6 false) (kt_NoPlace_5:KO K X5 X6 false) (kt_NoPlace_6:KO K X6 X6 true) (kt_NoText_0:KO K X0 X1 false) (kt_NoText_1:KO K X1 X1 true) (kt_NoText_2:KO K X2 X1 false) (kt_NoText_3:KO K X3 X1 false) (kt_NoText_4:KO K X4 X1 false) (kt_NoText_5:KO K X5 X1 false) (kt_NoText_6:KO K X6 X1 false) (kt_ValueError_0:PySem.W.kitOne K (.ref X0) (.type "ValueError")=some true) (kt_ValueError_1:PySem.W.kitOne K (.ref X1) (.type "ValueError")=some true) (kt_ValueError_2:PySem.W.kitOne K (.ref X2) (.type "ValueError")=some true) (kt_ValueError_3:PySem.W.kitOne K (.ref X3) (.type "ValueError")=some true) (kt_ValueError_4:PySem.W.kitOne K (.ref X4) (.type "ValueError")=some true) (kt_ValueError_5:PySem.W.kitOne K (.ref X5) (.type "ValueError")=some true) (kt_ValueError_6:PySem.W.kitOne K (.ref X6) (.type "ValueError")=some true) (em_SkeinError_0:XO K X0 X0) (em_SkeinError_1:XO K X1 X0) (em_SkeinError_2:XO K X2 X0) (em_SkeinError_3:XO K X3 X0) (em_SkeinError_4:XO K X4 X0) (em_SkeinError_5:XO K X5 X0) (em_SkeinError_6:XO K X6 X0)
  : FX l w K mg fa:=by
 have Z:∀ base:Heap,K.In base->Facts l.prog w K (fun n=>[C0][n]?) (fun n=>[X0,X1,X2,X3,X4,X5,X6][n]?) mg base:=fun base KB=>{
   b_ValueError:=PySem.W.mg_none_of X G z_ValueError,
   b_abs:=PySem.W.mg_none_of X G z_abs,
   b_all:=PySem.W.mg_none_of X G z_all,
   b_bool:=PySem.W.mg_none_of X G z_bool,
   b_int:=PySem.W.mg_none_of X G z_int,
   b_isinstance:=PySem.W.mg_none_of X G z_isinstance,
   b_len:=PySem.W.mg_none_of X G z_len,
   b_max:=PySem.W.mg_none_of X G z_max,
   b_min:=PySem.W.mg_none_of X G z_min,
   b_range:=PySem.W.mg_none_of X G z_range,
   b_reversed:=PySem.W.mg_none_of X G z_reversed,
   b_str:=PySem.W.mg_none_of X G z_str,
   b_sum:=PySem.W.mg_none_of X G z_sum,
   c_LEAF_SIGNS:=⟨_,PySem.W.mg_of X G m_LEAF_SIGNS⟩,
   c_MOST_PLAIN:=⟨_,PySem.W.mg_of X G m_MOST_PLAIN⟩,
   c_MOST_SIGNS:=⟨_,PySem.W.mg_of X G m_MOST_SIGNS⟩,
   cf_Shelf:=⟨C0,rfl,kk0,fun f hf=>by
   have hf2:f∈flds 0:=hf
   simp only [flds,List.mem_cons,List.not_mem_nil,or_false] at hf2
   rcases hf2 with rfl | rfl | rfl | rfl | rfl | rfl | rfl | rfl
   ·exact nf0_0
   ·exact nf0_1
   ·exact nf0_2
   ·exact nf0_3
   ·exact nf0_4
   ·exact nf0_5
   ·exact nf0_6
   ·exact nf0_7⟩,
   x_NoText:=gx KB X G rfl e_NoText x_NoText,
   x_NoPiece:=gx KB X G rfl e_NoPiece x_NoPiece,
   x_Loose:=gx KB X G rfl e_Loose x_Loose,
   x_Unlevel:=gx KB X G rfl e_Unlevel x_Unlevel,
   x_TooLong:=gx KB X G rfl e_TooLong x_TooLong,
   d_Shelf_init:=di rfl (PySem.W.mg_of X G aC0) mk0 kc0 a0 bl1,
   d_law_take:=dg X G a1 bl2,
   d_law_plain:=dg X G a2 bl2,
   d_is_whole:=dg X G a3 bl1,
   d_Shelf_has_piece:=dm rfl kk0 a4 bl2,
   d_Shelf_check_piece:=dm rfl kk0 a5 bl2,
   d_Shelf_check_fork:=dm rfl kk0 a6 bl3,
   d_Shelf_lay:=dm rfl kk0 a7 bl2,
   d_Shelf_lay_fork:=dm rfl kk0 a8 bl2,
   d_Shelf_fork:=dm rfl kk0 a9 bl3,
   d_halved:=dg X G a10 bl2,
   d_is_plain_sign:=dg X G a11 bl1,
   d_is_plain:=dg X G a12 bl1,
   d_is_short:=dg X G a13 bl1,
   d_ends_in:=dg X G a14 bl1,
   d_Shelf_lay_leaf:=dm rfl kk0 a15 bl2,
   d_Shelf_leaf:=dm rfl kk0 a16 bl2,
   d_built:=dg X G a17 bl2,
   d_check_length:=dg X G a18 bl1,
   d_Shelf_check_text:=dm rfl kk0 a19 bl2,
   d_Shelf_signs:=dm rfl kk0 a20 bl2,
   d_Shelf_last_leaf:=dm rfl kk0 a21 bl2,
   d_Shelf_first_leaf:=dm rfl kk0 a22 bl2,
   d_are_close:=dg X G a23 bl3,
   d_Shelf_piece:=dm rfl kk0 a24 bl2,
   d_with_last:=dg X G a25 bl3,
   d_Shelf_height:=dm rfl kk0 a26 bl2,
   d_turned_left:=dg X G a27 bl3,
   d_without_first:=dg X G a28 bl2,
   d_turned_right:=dg X G a29 bl3,
   d_linked:=dg X G a30 bl3,
   d_welded:=dg X G a31 bl3,
   d_joined:=dg X G a32 bl3,
   d_law_made:=dg X G a33 bl3,
   d_law_mixed:=dg X G a34 bl2,
   d_law_stream:=dg X G a35 bl2,
   d_law_poured:=dg X G a36 bl2,
   d_Shelf_many:=dm rfl kk0 a37 bl1,
   d_law_things:=dg X G a38 bl2,
   d_law_spelled:=dg X G a39 bl3,
   d_whole_left:=dg X G a40 bl2,
   d_opens_fork:=dg X G a41 bl3,
   d_takes_piece:=dg X G a42 bl3,
   d_next_signs:=dg X G a43 bl2,
   d_puts_back:=dg X G a44 bl2,
   d_takes_plain:=dg X G a45 bl3,
   d_takes_item:=dg X G a46 bl3,
   d_left_behind:=dg X G a47 bl3,
   d_spells:=dg X G a48 bl3,
   d_begins_text:=dg X G a49 bl3,
   d_item_signs:=dg X G a50 bl2,
   d_items_signs:=dg X G a51 bl2,
   d_law_refused:=dg X G a52 bl4,
   d_law:=dg X G a53 bl1,
   kx_NoPiece:=⟨X2,PySem.W.mg_of X G e_NoPiece,(fun c C' h=>match c,C',h with
    | 0,_,rfl=>⟨y0,kt_NoPiece_0⟩
    | 1,_,rfl=>⟨y1,kt_NoPiece_1⟩
    | 2,_,rfl=>⟨y2,kt_NoPiece_2⟩
    | 3,_,rfl=>⟨y3,kt_NoPiece_3⟩
    | 4,_,rfl=>⟨y4,kt_NoPiece_4⟩
    | 5,_,rfl=>⟨y5,kt_NoPiece_5⟩
    | 6,_,rfl=>⟨y6,kt_NoPiece_6⟩
    | _+7,_,h=>nomatch h)⟩,
   kx_NoPlace:=⟨X6,PySem.W.mg_of X G e_NoPlace,(fun c C' h=>match c,C',h with
    | 0,_,rfl=>⟨y0,kt_NoPlace_0⟩
    | 1,_,rfl=>⟨y1,kt_NoPlace_1⟩
    | 2,_,rfl=>⟨y2,kt_NoPlace_2⟩
    | 3,_,rfl=>⟨y3,kt_NoPlace_3⟩
    | 4,_,rfl=>⟨y4,kt_NoPlace_4⟩
    | 5,_,rfl=>⟨y5,kt_NoPlace_5⟩
    | 6,_,rfl=>⟨y6,kt_NoPlace_6⟩
    | _+7,_,h=>nomatch h)⟩,
   kx_NoText:=⟨X1,PySem.W.mg_of X G e_NoText,(fun c C' h=>match c,C',h with
    | 0,_,rfl=>⟨y0,kt_NoText_0⟩
    | 1,_,rfl=>⟨y1,kt_NoText_1⟩
    | 2,_,rfl=>⟨y2,kt_NoText_2⟩
    | 3,_,rfl=>⟨y3,kt_NoText_3⟩
    | 4,_,rfl=>⟨y4,kt_NoText_4⟩
    | 5,_,rfl=>⟨y5,kt_NoText_5⟩
    | 6,_,rfl=>⟨y6,kt_NoText_6⟩
    | _+7,_,h=>nomatch h)⟩,
   kx_ValueError:=(fun c C' h=>match c,C',h with
    | 0,_,rfl=>⟨y0,kt_ValueError_0⟩
    | 1,_,rfl=>⟨y1,kt_ValueError_1⟩
    | 2,_,rfl=>⟨y2,kt_ValueError_2⟩
    | 3,_,rfl=>⟨y3,kt_ValueError_3⟩
    | 4,_,rfl=>⟨y4,kt_ValueError_4⟩
    | 5,_,rfl=>⟨y5,kt_ValueError_5⟩
    | 6,_,rfl=>⟨y6,kt_ValueError_6⟩
    | _+7,_,h=>nomatch h),
   ct_SkeinError:=⟨X0,PySem.W.mg_of X G e_SkeinError,(fun c C' z h=>match c,C',z,h with
    | 0,_,_,rfl=>em_SkeinError_0
    | 1,_,_,rfl=>em_SkeinError_1
    | 2,_,_,rfl=>em_SkeinError_2
    | 3,_,_,rfl=>em_SkeinError_3
    | 4,_,_,rfl=>em_SkeinError_4
    | 5,_,_,rfl=>em_SkeinError_5
    | 6,_,_,rfl=>em_SkeinError_6
    | _+7,_,_,h=>nomatch h)⟩ }
 obtain ⟨fd,h1,F⟩:=dlaw (p := "script") X G hfa a53 bl1
 exact ⟨fd,h1,fun base KB _=>FnOk.imp (yiP (Z base KB) F) (ziW (T:=mkT K (fun n=>[C0][n]?) (fun n=>[X0,X1,X2,X3,X4,X5,X6][n]?)) law_true)⟩
theorem walk {l:PySem.W.OpenLaw} {q:Program} {loose:List Str} {XP:(Str->Option Value)->Heap->Prop} {YP:World->Heap->Prop} {d:DefRec} {K:Params->PySem.W.Frag} (hn:l.most=some 63) (hdf:d.params.defaults=[])
  (hY:∀ (w:World) (h:Heap),YP w h->(K w.params).In h)
  (F:∀ (w:World) (mg:Str->Option Value) (fa:Addr) (h:Heap),(K w.params).In h->h.Ns mainGlobals mg->mg d.name=some (.ref fa)->FX l w (K w.params) mg fa) :
  PySem.W.WalkO q loose XP YP l.row.toRowW d [] (fun f vs=>PySem.call f vs) :=
 L2.walk_of (n:=63) (k:=101) (x := "script") (CX:=fun w=>CXE l.prog w) (sp:=fun w=>spL (K w.params)) hn (by decide) hdf ⟨rfl,by decide,by decide⟩ hY F (fun _ _ a ns hl _ hS=>⟨a,ns,rfl,hS,hl,fun _=>rfl⟩) fun _ _ _ _ _ z=>zgT z
end Sk
open PySem PySem.W PyProof.Rows
section
namespace PySem.W.Fast
def tw18439624425281054694:=0
def tw15828695668712234404:=0
def tw13739247083440195551:=0
def tw16431056164445747103:=0
def tw16086914648789938943:=0
def tw7351861986354076383:=0
def tw14621390219600480927:=0
def tw2678369174824487519:=0
def tw883448246049780223:=0
def tw6496161563284167135:=0
def tw11728188398475307359:=0
def tw708136587431230751:=0
def tw6052568383336228991:=0
def tw7457433464671953951:=0
def tw11121380238050343934:=0
def tw3972823174672294718:=0
def tw3245953758333744798:=0
def tw3033320139146690142:=0
def tw7984319034937041438:=0
def tw14868894052440678814:=0
def tw15455229056842532254:=0
def tw6561892242632590718:=0
def tw14583655166025111902:=0
def tw7257823547764819294:=0
def tw4431391315460055294:=0
def tw2605933200306535486:=0
def tw680129834414423070:=0
def tw10017491990683217950:=0
def tw18288484925142843325:=0
def tw151035246099030813:=0
def tw12733254096938182301:=0
def tw16078250596051319325:=0
def tw5225333126157583805:=0
def tw16435158358547207549:=0
def tw1567598713163004253:=0
def tw3928426485841762108:=0
def tw14900514527841060572:=0
def tw13445027852371246684:=0
def tw2617922746467888700:=0
def tw4836271540329089564:=0
def tw14048793894650125820:=0
def tw17980892721234034012:=0
def tw15854004304382428284:=0
def tw11785687770309256284:=0
def tw17508835718090764348:=0
def tw14866723700649489436:=0
def tw4551025884012711835:=0
def tw11085895541328702299:=0
def tw1012545660552994555:=0
def tw3559940649327954587:=0
def tw3628690677440715419:=0
def tw3843201384827286139:=0
def tw114575151909197435:=0
def tw10331641850200888827:=0
def tw16365364013429654971:=0
def tw14390802274058738043:=0
def tw13512949135458847995:=0
def tw15389940887589107899:=0
def tw8553066483415240827:=0
def tw4110790695209182267:=0
def tw8277814792192532539:=0
def tw2917836182364742458:=0
def tw11037520679563910906:=0
def tw17631183916443701978:=0
def tw16256843360291822298:=0
def tw2372683808069544634:=0
def tw17421684078735039066:=0
def tw17243464841764051514:=0
def tw3148389811109000698:=0
def tw648410864716587450:=0
def tw16756933821283441946:=0
def tw2987064241356337370:=0
def tw16040340249597866170:=0
def tw2441522811821278362:=0
def tw9084860217047267289:=0
def tw645353696158057433:=0
def tw2697025361990325177:=0
def tw9501603827435871993:=0
def tw2074987912238758553:=0
def tw12667146936717367961:=0
def tw10650828782470860441:=0
def tw8719121725226382969:=0
def tw12214019184717768217:=0
def tw14164826284228535737:=0
def tw8765445921203112281:=0
def tw3494329108998760761:=0
def tw17215053907013303385:=0
def tw7774470847503886425:=0
def tw7065373870678599769:=0
def tw6091293163059789784:=0
def tw17835023999699051384:=0
def tw16797960304103790360:=0
def tw7721693156636351096:=0
def tw4919046560726240664:=0
def tw9190383874027289976:=0
def tw17446404649836011704:=0
def tw3129699437764834456:=0
def tw6045229502722066327:=0
def tw2383872209626419095:=0
def tw11162471827517695863:=0
def tw10190766657141251927:=0
def tw4214036453265580823:=0
def tw10785369590227005079:=0
def tw12705530270371493495:=0
def tw4108966495057982007:=0
def tw3150290035479486999:=0
def tw9289649032928207383:=0
def tw16628009158448798167:=0
def tw13429327444850128183:=0
def tw528246961154593911:=0
def tw7889621991614307383:=0
def tw5909638553520699318:=0
def tw11354681224555328438:=0
def tw5262856593316501334:=0
def tw8235914036974189238:=0
def tw15492118130733510326:=0
def tw8048627791144103606:=0
def tw4446410833415395926:=0
def tw16248625133563723350:=0
def tw6494033669202419254:=0
def tw10321247635194494358:=0
def tw10873017960145739990:=0
def tw5719808205343016054:=0
def tw3732549572621505590:=0
def tw9938506369882860566:=0
def tw14032490294157500021:=0
def tw9491352590644059733:=0
def tw12601515617557993013:=0
def tw17195070132430878261:=0
def tw563527060603241013:=0
def tw1231327288322858485:=0
def tw2171298644027147669:=0
def tw3543899667773437237:=0
def tw14549570373497877781:=0
def tw9005041253055397045:=0
def tw481292247572422709:=0
def tw14808639258999349140:=0
def tw12406533895045919540:=0
def tw17997993365019647700:=0
def tw9722004950353907412:=0
def tw16805251590885282452:=0
def tw6596994606672900724:=0
def tw13123623430236899956:=0
def tw10312809151116926548:=0
def tw17089579022441478644:=0
def tw8460202081367463252:=0
def tw2799039663073515732:=0
def tw11186246604910217171:=0
def tw6004328827950863059:=0
def tw525837155077054739:=0
def tw18191891413320107187:=0
def tw12362470631829505171:=0
def tw4383026100809318515:=0
def tw8800393297043791826:=0
def tw5752261778590267282:=0
def tw15866935953082675090:=0
def tw17231524047078188754:=0
def tw1868135197101390514:=0
def tw1595594361072113202:=0
def tw11997818031837562354:=0
def tw5203163865449840882:=0
def tw14207359760277249202:=0
def tw4496408185242768498:=0
def tw8889499564895499185:=0
def tw11434710325268788145:=0
def tw66166736055646033:=0
def tw12155945098435655505:=0
def tw7414493555469274769:=0
def tw7089923244479407633:=0
def tw10134532790173943217:=0
def tw3767105320286891345:=0
def tw4389810054915179825:=0
def tw9846935693483958513:=0
def tw1363469175251929297:=0
def tw4247385360528703633:=0
def tw2217728840880721009:=0
def tw6304939590016722033:=0
def tw5316384214927374256:=0
def tw10027832944910398224:=0
def tw782224265661207312:=0
def tw11938623302690809488:=0
def tw14077971412913549840:=0
def tw5408103943499421104:=0
def tw2562544940044020080:=0
def tw7031586293915049296:=0
def tw13432182099135777040:=0
def tw13646777112538791152:=0
def tw15726534442638814416:=0
def tw948361032612657264:=0
def tw11872181360419063824:=0
def tw10331492603770533904:=0
def tw3207521173502527439:=0
def tw2618201536586796943:=0
def tw8171511912506262287:=0
def tw10743496883173562095:=0
def tw5244897532124829359:=0
def tw11399037943096325775:=0
def tw17064784856298895919:=0
def tw16335374669974684175:=0
def tw4171942624627259695:=0
def tw13318003581738916079:=0
def tw12521383722291718255:=0
def tw9252435095549172815:=0
def tw17071001210253029423:=0
def tw12905251637777345486:=0
def tw16351353874794605422:=0
def tw1105542510907074382:=0
def tw7668993670198990510:=0
def tw5146471253483030862:=0
def tw3884166786564518190:=0
def tw10757740200756909102:=0
def tw11132177926712334253:=0
def tw14009784502397211533:=0
def tw14671999974949646125:=0
def tw14380126970745426605:=0
def tw4468786127587490413:=0
def tw11328700344960162349:=0
def tw7271760240961010189:=0
def tw5490219687724928461:=0
def tw1131325755959399437:=0
def tw10582478173692138476:=0
def tw7737022475727629100:=0
def tw4560015180703103692:=0
def tw2550278018402193068:=0
def tw1073694235474877004:=0
def tw4186970870760116812:=0
def tw5447524566710681036:=0
def tw5587065969161576876:=0
def tw554482585551652172:=0
def tw18097290977495686348:=0
def tw4749576745638757516:=0
def tw9831880723878058827:=0
def tw15723308182664402603:=0
def tw13417416858526443179:=0
def tw13495096927018576395:=0
def tw591325824601505195:=0
def tw1727404331297269035:=0
def tw3804865130641496107:=0
def tw7354267583639545834:=0
def tw8243988946826704874:=0
def tw6512696075169542986:=0
def tw4217105908089107082:=0
def tw50512929341072714:=0
def tw2209861872368099498:=0
def tw17922953272305720458:=0
def tw817424135860418570:=0
def tw3439327900789459945:=0
def tw15201426223378234249:=0
def tw67172547899595497:=0
def tw16603957398886859177:=0
def tw4660328247135017289:=0
def tw1462734007324202217:=0
def tw372370271512417513:=0
def tw8465212570335107305:=0
def tw3353449215996057512:=0
def tw16903472990436126504:=0
def tw7229607360343435048:=0
def tw11034893960760017672:=0
def tw6891266620006219176:=0
def tw1877115275811304872:=0
def tw1696641143451568424:=0
def tw1437576541500207079:=0
def tw13053788318773501767:=0
def tw18315572577076994887:=0
def tw629879679633552103:=0
def tw2489892191294428807:=0
def tw14760478575402602119:=0
def tw1961037353420395015:=0
def tw640854690921030151:=0
def tw4829138714475172327:=0
def tw8639950021540491591:=0
def tw16845765622557898023:=0
def tw13557435729101699271:=0
def tw1783044688387815559:=0
def tw17415725366233817223:=0
def tw3826659373925747686:=0
def tw1502907046565268390:=0
def tw257203337435219846:=0
def tw15697151565853578022:=0
def tw7724929450741070502:=0
def tw285986193340965414:=0
def tw2582954795222859174:=0
def tw17845428526058480613:=0
def tw13683359609600349125:=0
def tw9830274864461810629:=0
def tw8035487689166023589:=0
def tw6066960834698242629:=0
def tw11127707163041404453:=0
def tw10438699781644505605:=0
def tw9676132721601956293:=0
def tw11501620867391400389:=0
def tw2404510112154653125:=0
def tw3734970490221528389:=0
def tw4416095367752609925:=0
def tw7795481703940453092:=0
def tw10355236685494288068:=0
def tw16422031598631919300:=0
def tw17189678670185368164:=0
def tw8378717705873444420:=0
def tw16952081654252470724:=0
def tw475712972087037348:=0
def tw10648949396857529700:=0
def tw15305687559055770884:=0
def tw15285974386366253284:=0
def tw9507844720885709028:=0
def tw14664403458258834564:=0
def tw13374381881699990596:=0
def tw2279311073692146756:=0
def tw7384100157853264932:=0
def tw1734603793743854628:=0
def tw11613189920286219300:=0
def tw11601382767429323780:=0
def tw12101898086345864931:=0
def tw6300320990159206083:=0
def tw17936397509010434563:=0
def tw10648391732991439171:=0
def tw8979542149941211395:=0
def tw3860152471907407043:=0
def tw16121588480882376867:=0
def tw6031091758993944675:=0
def tw7679969345366280291:=0
def tw16741117823431534434:=0
def tw11397178597013114370:=0
def tw4359373659027815842:=0
def tw8165808510928167170:=0
def tw17035813909423680578:=0
def tw15447500498129242114:=0
def tw3842234897888688097:=0
def tw10340411516681498497:=0
def tw14020231191204997985:=0
def tw16980236440513463105:=0
def tw17040029270637607585:=0
def tw15521243314530044449:=0
def tw3198226797995742753:=0
def tw2039044656522705217:=0
def tw2928054723638473985:=0
def tw11363916815714160865:=0
def tw15605332308005981345:=0
def tw17156013739164025889:=0
def tw9480923921828595680:=0
def tw13325547980026646464:=0
def tw753593930741540672:=0
def tw7254681035849048800:=0
def tw13587070693973564064:=0
def tw2218940256335555200:=0
def tw11318198926155826752:=0
def tw6727172072766530656:=0
def tw13674918424193785888:=0
def tw6141553105858743296:=0
end PySem.W.Fast
end
set_option maxRecDepth 100000 in
set_option maxHeartbeats 0 in
theorem PySem.Challenge.cw_skeinwood_k54_no_items_and_no_pieces_holds : PySem.Challenge.rw_skeinwood_k54_no_items_and_no_pieces.Holds := by
 w_on; o_law; k_head; (case hw => w_witness2)
 k_fill
 refine Sk.walk (l := PySem.Challenge.rw_skeinwood_k54_no_items_and_no_pieces) rfl rfl (fun w h Y => PySem.W.kIn_of Y) ?F
 case F =>
  intro w mg fa h KX G hmg
  refine' Sk.all_mk KX G hmg ?aC0 ?a0 ?a4 ?a5 ?a6 ?a7 ?a8 ?a9 ?a15 ?a16 ?a19 ?a20 ?a21 ?a22 ?a24 ?a26 ?a37 ?a1 ?a2 ?a3 ?a10 ?a11 ?a12 ?a13 ?a14 ?a17 ?a18 ?a23 ?a25 ?a27 ?a28 ?a29 ?a30 ?a31 ?a32 ?a33 ?a34 ?a35 ?a36 ?a38 ?a39 ?a40 ?a41 ?a42 ?a43 ?a44 ?a45 ?a46 ?a47 ?a48 ?a49 ?a50 ?a51 ?a52 ?a53 ?kk0 ?mk0 ?kc0 ?nf0_0 ?nf0_1 ?nf0_2 ?nf0_3 ?nf0_4 ?nf0_5 ?nf0_6 ?nf0_7 ?z_ValueError ?z_abs ?z_all ?z_bool ?z_int ?z_isinstance ?z_len ?z_max ?z_min ?z_range ?z_reversed ?z_str ?z_sum ?e_SkeinError ?e_NoText ?x_NoText ?e_NoPiece ?x_NoPiece ?e_Loose ?x_Loose ?e_Unlevel ?x_Unlevel ?e_TooLong ?x_TooLong ?e_NoPlace ?m_LEAF_SIGNS ?m_MOST_PLAIN ?m_MOST_SIGNS ?y0 ?y1 ?y2 ?y3 ?y4 ?y5 ?y6 ?kt_NoPiece_0 ?kt_NoPiece_1 ?kt_NoPiece_2 ?kt_NoPiece_3 ?kt_NoPiece_4 ?kt_NoPiece_5 ?kt_NoPiece_6 ?kt_NoPlace_0 ?kt_NoPlace_1 ?kt_NoPlace_2 ?kt_NoPlace_3 ?kt_NoPlace_4 ?kt_NoPlace_5 ?kt_NoPlace_6 ?kt_NoText_0 ?kt_NoText_1 ?kt_NoText_2 ?kt_NoText_3 ?kt_NoText_4 ?kt_NoText_5 ?kt_NoText_6 ?kt_ValueError_0 ?kt_ValueError_1 ?kt_ValueError_2 ?kt_ValueError_3 ?kt_ValueError_4 ?kt_ValueError_5 ?kt_ValueError_6 ?em_SkeinError_0 ?em_SkeinError_1 ?em_SkeinError_2 ?em_SkeinError_3 ?em_SkeinError_4 ?em_SkeinError_5 ?em_SkeinError_6
  (case aC0 => apply Sm.na;k_is)
  (case a0 => apply Sm.dn<;>k_is)
  (case a4 => apply Sm.dn<;>k_is)
  (case a5 => apply Sm.dn<;>k_is)
  (case a6 => apply Sm.dn<;>k_is)
  (case a7 => apply Sm.dn<;>k_is)
  (case a8 => apply Sm.dn<;>k_is)
  (case a9 => apply Sm.dn<;>k_is)
  (case a15 => apply Sm.dn<;>k_is)
  (case a16 => apply Sm.dn<;>k_is)
  (case a19 => apply Sm.dn<;>k_is)
  (case a20 => apply Sm.dn<;>k_is)
  (case a21 => apply Sm.dn<;>k_is)
  (case a22 => apply Sm.dn<;>k_is)
  (case a24 => apply Sm.dn<;>k_is)
  (case a26 => apply Sm.dn<;>k_is)
  (case a37 => apply Sm.dn<;>k_is)
  (case a1 => apply Sm.dk<;>k_is)
  (case a2 => apply Sm.dk<;>k_is)
  (case a3 => apply Sm.dk<;>k_is)
  (case a10 => apply Sm.dk<;>k_is)
  (case a11 => apply Sm.dk<;>k_is)
  (case a12 => apply Sm.dk<;>k_is)
  (case a13 => apply Sm.dk<;>k_is)
  (case a14 => apply Sm.dk<;>k_is)
  (case a17 => apply Sm.dk<;>k_is)
  (case a18 => apply Sm.dk<;>k_is)
  (case a23 => apply Sm.dk<;>k_is)
  (case a25 => apply Sm.dk<;>k_is)
  (case a27 => apply Sm.dk<;>k_is)
  (case a28 => apply Sm.dk<;>k_is)
  (case a29 => apply Sm.dk<;>k_is)
  (case a30 => apply Sm.dk<;>k_is)
  (case a31 => apply Sm.dk<;>k_is)
  (case a32 => apply Sm.dk<;>k_is)
  (case a33 => apply Sm.dk<;>k_is)
  (case a34 => apply Sm.dk<;>k_is)
  (case a35 => apply Sm.dk<;>k_is)
  (case a36 => apply Sm.dk<;>k_is)
  (case a38 => apply Sm.dk<;>k_is)
  (case a39 => apply Sm.dk<;>k_is)
  (case a40 => apply Sm.dk<;>k_is)
  (case a41 => apply Sm.dk<;>k_is)
  (case a42 => apply Sm.dk<;>k_is)
  (case a43 => apply Sm.dk<;>k_is)
  (case a44 => apply Sm.dk<;>k_is)
  (case a45 => apply Sm.dk<;>k_is)
  (case a46 => apply Sm.dk<;>k_is)
  (case a47 => apply Sm.dk<;>k_is)
  (case a48 => apply Sm.dk<;>k_is)
  (case a49 => apply Sm.dk<;>k_is)
  (case a50 => apply Sm.dk<;>k_is)
  (case a51 => apply Sm.dk<;>k_is)
  (case a52 => apply Sm.dk<;>k_is)
  (case a53 => apply Sm.dk<;>k_is)
  (case kk0 => constructor<;>k_is)
  (case mk0 => k_is)
  (case kc0 => k_is)
  (case nf0_0 => apply Sm.fatt;k_is)
  (case nf0_1 => apply Sm.fatt;k_is)
  (case nf0_2 => apply Sm.fatt;k_is)
  (case nf0_3 => apply Sm.fatt;k_is)
  (case nf0_4 => apply Sm.fatt;k_is)
  (case nf0_5 => apply Sm.fatt;k_is)
  (case nf0_6 => apply Sm.fatt;k_is)
  (case nf0_7 => apply Sm.fatt;k_is)
  (case z_ValueError => apply Sm.na;k_is)
  (case z_abs => apply Sm.na;k_is)
  (case z_all => apply Sm.na;k_is)
  (case z_bool => apply Sm.na;k_is)
  (case z_int => apply Sm.na;k_is)
  (case z_isinstance => apply Sm.na;k_is)
  (case z_len => apply Sm.na;k_is)
  (case z_max => apply Sm.na;k_is)
  (case z_min => apply Sm.na;k_is)
  (case z_range => apply Sm.na;k_is)
  (case z_reversed => apply Sm.na;k_is)
  (case z_str => apply Sm.na;k_is)
  (case z_sum => apply Sm.na;k_is)
  (case e_SkeinError => apply Sm.na;k_is)
  (case e_NoText => apply Sm.na;k_is)
  (case x_NoText => apply Sm.xi;k_exc)
  (case e_NoPiece => apply Sm.na;k_is)
  (case x_NoPiece => apply Sm.xi;k_exc)
  (case e_Loose => apply Sm.na;k_is)
  (case x_Loose => apply Sm.xi;k_exc)
  (case e_Unlevel => apply Sm.na;k_is)
  (case x_Unlevel => apply Sm.xi;k_exc)
  (case e_TooLong => apply Sm.na;k_is)
  (case x_TooLong => apply Sm.xi;k_exc)
  (case e_NoPlace => apply Sm.na;k_is)
  (case m_LEAF_SIGNS => apply Sm.na;k_is)
  (case m_MOST_PLAIN => apply Sm.na;k_is)
  (case m_MOST_SIGNS => apply Sm.na;k_is)
  (case y0 => apply Sm.excK_of<;>k_is)
  (case y1 => apply Sm.excK_of<;>k_is)
  (case y2 => apply Sm.excK_of<;>k_is)
  (case y3 => apply Sm.excK_of<;>k_is)
  (case y4 => apply Sm.excK_of<;>k_is)
  (case y5 => apply Sm.excK_of<;>k_is)
  (case y6 => apply Sm.excK_of<;>k_is)
  (case kt_NoPiece_0 => apply Sm.ko;kit_is)
  (case kt_NoPiece_1 => apply Sm.ko;kit_is)
  (case kt_NoPiece_2 => apply Sm.ko;kit_is)
  (case kt_NoPiece_3 => apply Sm.ko;kit_is)
  (case kt_NoPiece_4 => apply Sm.ko;kit_is)
  (case kt_NoPiece_5 => apply Sm.ko;kit_is)
  (case kt_NoPiece_6 => apply Sm.ko;kit_is)
  (case kt_NoPlace_0 => apply Sm.ko;kit_is)
  (case kt_NoPlace_1 => apply Sm.ko;kit_is)
  (case kt_NoPlace_2 => apply Sm.ko;kit_is)
  (case kt_NoPlace_3 => apply Sm.ko;kit_is)
  (case kt_NoPlace_4 => apply Sm.ko;kit_is)
  (case kt_NoPlace_5 => apply Sm.ko;kit_is)
  (case kt_NoPlace_6 => apply Sm.ko;kit_is)
  (case kt_NoText_0 => apply Sm.ko;kit_is)
  (case kt_NoText_1 => apply Sm.ko;kit_is)
  (case kt_NoText_2 => apply Sm.ko;kit_is)
  (case kt_NoText_3 => apply Sm.ko;kit_is)
  (case kt_NoText_4 => apply Sm.ko;kit_is)
  (case kt_NoText_5 => apply Sm.ko;kit_is)
  (case kt_NoText_6 => apply Sm.ko;kit_is)
  (case kt_ValueError_0 => kit_is)
  (case kt_ValueError_1 => kit_is)
  (case kt_ValueError_2 => kit_is)
  (case kt_ValueError_3 => kit_is)
  (case kt_ValueError_4 => kit_is)
  (case kt_ValueError_5 => kit_is)
  (case kt_ValueError_6 => kit_is)
  (case em_SkeinError_0 => apply Sm.xo;kts_exm)
  (case em_SkeinError_1 => apply Sm.xo;kts_exm)
  (case em_SkeinError_2 => apply Sm.xo;kts_exm)
  (case em_SkeinError_3 => apply Sm.xo;kts_exm)
  (case em_SkeinError_4 => apply Sm.xo;kts_exm)
  (case em_SkeinError_5 => apply Sm.xo;kts_exm)
  (case em_SkeinError_6 => apply Sm.xo;kts_exm)
