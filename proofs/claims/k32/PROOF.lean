import PyProof.Rows.All
import Wide.All
import OpenK.AllK
import Wide.FinOn
import Lean
import PyProof.EqAt
import PyProof.EqKinds
import PyProof.TupleCall
import PyProof.StrCalls2
import PyProof.SumAny
import PyProof.Rows.Range3
import PyProof.StrBlockI
import PyProof.SliceStr2
import PyProof.IsRules
import PyProof.StrBlock2
import PyProof.ListRange
import KE.KRevSl
import PyProof.Draws
import PyProof.StrLawsIn
import PySem.Challenge.RW_skeinwood_k32_whole_rows_of_long_texts
set_option Elab.async false
set_option linter.all false
set_option maxRecDepth 100000
noncomputable section
namespace L2
open PySem PySem.Spec PyProof.Rows
abbrev Key:=Sum Int Str
abbrev b01 (b:Bool):Int:=if b then 1 else 0
def yd4:Key->Value->Bool
 | .inl k,.bool b=>decide (k=b01 b)
 | .inl k,v=>Value.isInt k v
 | .inr x,v=>Value.isStrOf x v
def keyH (w:World):Key->Int
 | .inl k=>hashInt k
 | .inr x=>hashStr w x
theorem zay:∀ {k:Key} {v:Value},yd4 k v=true->(∃ i t,k=Sum.inl i/\v=Value.int i t)\/(∃ b,k=Sum.inl (b01 b)/\v=Value.bool b)\/(∃ x t,k=Sum.inr x/\v=Value.str x t)
 | .inl i,v,h=>by
  cases v with
  | bool b=>exact .inr (.inl ⟨b,by rw [of_decide_eq_true (show decide (i=b01 b)=true from h)],rfl⟩)
  | int j t =>
   obtain ⟨t,e⟩:=Value.isInt_shape (k:=i) (v:=.int j t) h
   exact .inl ⟨i,t,rfl,e⟩
  | _=>exact absurd h (by simp [yd4,Value.isInt])
 | .inr x,v,h=>by
  obtain ⟨t,e⟩:=Value.isStrOf_shape (x:=x) (v:=v) h
  exact .inr (.inr ⟨x,t,rfl,e⟩)
theorem zgK (i:Int) (t:Tok):yd4 (.inl i) (.int i t)=true:=by simp [yd4,Value.isInt]
theorem zgL (x:Str) (t:Tok):yd4 (.inr x) (.str x t)=true:=by simp [yd4,Value.isStrOf]
theorem yeM (a b:Int):decide ((Sum.inl a:Key)=Sum.inl b)=(a == b):=by
 by_cases e:a=b
 ·subst e;simp
 ·have h : ¬ (Sum.inl a:Key)=Sum.inl b:=fun q=>e (Sum.inl.inj q)
  rw [decide_eq_false h]
  exact (beq_eq_false_iff_ne.mpr e).symm
theorem ygb (a b:Str):decide ((Sum.inr a:Key)=Sum.inr b)=decide (a=b):=by
 by_cases e:a=b
 ·subst e;simp
 ·have h : ¬ (Sum.inr a:Key)=Sum.inr b:=fun q=>e (Sum.inr.inj q)
  rw [decide_eq_false h,decide_eq_false e]
theorem yff (a:Int) (b:Str):decide ((Sum.inl a:Key)=Sum.inr b)=false:=decide_eq_false (fun q=>nomatch q)
theorem yfg (a:Str) (b:Int):decide ((Sum.inr a:Key)=Sum.inl b)=false:=decide_eq_false (fun q=>nomatch q)
theorem zcR {prog:Program} {w:World} {A:Around} {E:Value->Shared->Prop} {s:Shared} {b:Bool} {Q:Int->Shared->Prop} (h:Q (hashInt (b01 b)) { s with toks:=s.toks+1 }) :
  wpAny (model prog w) A (pyHash (.bool b)) Q E s:=by
 unfold pyHash
 unfold pyHashByItsType
 have hv:[Value.bool b].any Value.onHeap=false:=rfl
 refine wpAny_bind ?_
 rw [cRoomFor,if_neg (by rw [hv];exact Bool.false_ne_true)];refine wpAny_pure ?_
 refine wpAny_bind (wpAny_specialOf (PySem.typeIs_bool s b) PySem.F.slot_bool_hash.lookup ?_)
 show wpAny _ _ (if (some (Value.builtin "int.__hash__") == some Value.none)=true then _ else _) Q E s
 rw [if_neg (by rw [beq_builtin_none];exact Bool.false_ne_true)]
 refine wpAny_bind (wpAny_specialOf (PySem.typeIs_bool s b) PySem.F.slot_bool_hash.lookup ?_)
 show wpAny _ _ (callSpecialIfBoundUnlessNone? (.bool b) "__hash__" _ >>= _) Q E s
 cases b with
 | false =>
  refine wpAny_bind (wpAny_callSpecialIfBoundUnlessNone?_slot (PySem.typeIs_bool s false) PySem.F.slot_bool_hash
   (wpAny_call_entry PySem.F.slot_bool_hash (PySem.typeIs_bool s false) entry_int_hash
    (show wpAny _ _ (do ret (<- mkInt 0)) _ _ s from wpAny_ret_mkInt ?_) (args_int_hash _)))
  exact wpAny_pure h
 | true =>
  refine wpAny_bind (wpAny_callSpecialIfBoundUnlessNone?_slot (PySem.typeIs_bool s true) PySem.F.slot_bool_hash
   (wpAny_call_entry PySem.F.slot_bool_hash (PySem.typeIs_bool s true) entry_int_hash
    (show wpAny _ _ (do ret (<- mkInt 1)) _ _ s from wpAny_ret_mkInt ?_) (args_int_hash _)))
  exact wpAny_pure h
theorem zis (a b:Bool):(a == b)=decide ((Sum.inl (b01 a):Key)=Sum.inl (b01 b)):=by cases a<;>cases b<;>decide
def ybv (prog:Program) (w:World):PySem.KeyKind prog w Key where
 is:=yd4
 hash:=keyH w
 inj:=fun v a b ha hb=>by
  rcases zay ha with ⟨i,t,rfl,rfl⟩ | ⟨c,rfl,rfl⟩ | ⟨x,t,rfl,rfl⟩
  ·rcases zay hb with ⟨j,u,rfl,e⟩ | ⟨d,rfl,e⟩ | ⟨y,u,rfl,e⟩
   ·injection e with e1 _;rw [e1]
   ·exact nomatch e
   ·exact nomatch e
  ·rcases zay hb with ⟨j,u,rfl,e⟩ | ⟨d,rfl,e⟩ | ⟨y,u,rfl,e⟩
   ·exact nomatch e
   ·injection e with e1;rw [e1]
   ·exact nomatch e
  ·rcases zay hb with ⟨j,u,rfl,e⟩ | ⟨d,rfl,e⟩ | ⟨y,u,rfl,e⟩
   ·exact nomatch e
   ·exact nomatch e
   ·injection e with e1 _;rw [e1]
 byValue:=fun k v h=>by
  rcases zay h with ⟨i,t,rfl,rfl⟩ | ⟨c,rfl,rfl⟩ | ⟨x,t,rfl,rfl⟩<;>rfl
 pyHash:=fun hv h=>by
  rcases zay hv with ⟨i,t,rfl,rfl⟩ | ⟨c,rfl,rfl⟩ | ⟨x,t,rfl,rfl⟩
  ·exact wpAny_pyHash_int h
  ·exact zcR h
  ·exact wpAny_pyHash_str h
 eqBool:=fun hu hv h=>by
  rcases zay hu with ⟨i,t,rfl,rfl⟩ | ⟨c,rfl,rfl⟩ | ⟨x,t,rfl,rfl⟩
  ·rcases zay hv with ⟨j,u,rfl,rfl⟩ | ⟨d,rfl,rfl⟩ | ⟨y,u,rfl,rfl⟩
   ·rw [yeM] at h;exact wpAny_eqBool_int h
   ·rw [yeM] at h;exact SeqAt.EqAt.int_bool i t d _ _ _ _ h
   ·rw [yff] at h;exact SeqAt.EqAt.int_str i t y u _ _ _ _ h
  ·rcases zay hv with ⟨j,u,rfl,rfl⟩ | ⟨d,rfl,rfl⟩ | ⟨y,u,rfl,rfl⟩
   ·rw [yeM] at h;exact SeqAt.EqAt.bool_int c j u _ _ _ _ h
   ·rw [<- zis] at h;exact SeqAt.EqAt.bool_bool c d _ _ _ _ h
   ·rw [yff] at h;exact SeqAt.EqAt.bool_str c y u _ _ _ _ h
  ·rcases zay hv with ⟨j,u,rfl,rfl⟩ | ⟨d,rfl,rfl⟩ | ⟨y,u,rfl,rfl⟩
   ·rw [yfg] at h;exact SeqAt.EqAt.str_int x t j u _ _ _ _ h
   ·rw [yfg] at h;exact SeqAt.EqAt.str_bool x t d _ _ _ _ h
   ·rw [ygb] at h;exact wpAny_eqBool_str h
 «strs» := fun k x t v h=>by
  rcases zay h with ⟨i,u,rfl,e⟩ | ⟨d,rfl,e⟩ | ⟨y,u,rfl,e⟩
  ·exact nomatch e
  ·exact nomatch e
  ·injection e with e1 _
   subst e1
   cases v<;>rfl
theorem zcV (prog:Program) (w:World) (i:Int) (t:Tok):(ybv prog w).is (.inl i) (.int i t)=true:=zgK i t
theorem zcW (prog:Program) (w:World) (x:Str) (t:Tok):(ybv prog w).is (.inr x) (.str x t)=true:=zgL x t
end L2
namespace L2
open PySem PySem.Spec PyProof.Rows
inductive V where
 | non | bl (b:Bool) | int (i:Int) | str (x:Str) | byt (b:Array UInt8) | flt (b:UInt64) | ref (a:Addr) | ty (n:String)
 deriving DecidableEq
def RelV:V->Value->Prop
 | .non,u=>u=Value.none
 | .bl b,u=>u=Value.bool b
 | .int i,u=>∃ t,u=Value.int i t
 | .str x,u=>∃ t,u=Value.str x t
 | .byt b,u=>∃ t,u=Value.bytes b t
 | .flt b,u=>∃ t,u=Value.float b t
 | .ref a,u=>u=Value.ref a
 | .ty n,u=>u=Value.type n
abbrev Vals:List V->List Value->Prop:=Paired RelV
theorem Vals.length {xs:List V} {us:List Value} (r:Vals xs us):xs.length=us.length:=Paired.length r
theorem Vals.get:∀ {xs:List V} {us:List Value} {i:Nat} {x:V},Vals xs us->xs[i]? = some x->∃ u,us[i]? = some u/\RelV x u
 | _,_,_,_,.nil,e=>by simp at e
 | _,_,0,_,.cons r _,e=>by simp at e;subst e;exact ⟨_,rfl,r⟩
 | _,_,i+1,x,.cons _ t,e=>by
  obtain ⟨u,h1,h2⟩:=Vals.get (i:=i) (x:=x) t (by simpa using e)
  exact ⟨u,by simpa using h1,h2⟩
theorem Vals.set {x:V} {u:Value} (r:RelV x u):∀ {xs:List V} {us:List Value} (i:Nat),Vals xs us->Vals (xs.set i x) (us.set i u)
 | _,_,_,.nil=>.nil
 | _,_,0,.cons _ t=>.cons r t
 | _,_,i+1,.cons q t=>.cons q (Vals.set r i t)
theorem Vals.append:∀ {xs ys:List V} {us ws:List Value},Vals xs us->Vals ys ws->Vals (xs++ys) (us++ws)
 | _,_,_,_,.nil,s=>s
 | _,_,_,_,.cons r t,s=>.cons r (Vals.append t s)
theorem Vals.take:∀ {xs:List V} {us:List Value} (n:Nat),Vals xs us->Vals (xs.take n) (us.take n)
 | _,_,0,_=>.nil
 | _,_,_+1,.nil=>.nil
 | _,_,n+1,.cons r t=>.cons r (Vals.take n t)
theorem Vals.drop:∀ {xs:List V} {us:List Value} (n:Nat),Vals xs us->Vals (xs.drop n) (us.drop n)
 | _,_,0,r=>r
 | _,_,_+1,.nil=>.nil
 | _,_,n+1,.cons _ t=>Vals.drop n t
def RelO:Option V->Option Value->Prop
 | some v,some u=>RelV v u
 | none,none=>True
 | _,_=>False
def KV {κ:Type}:List (κ×V)->List (κ×Value)->Prop:=Paired fun (p:κ×V) (q:κ×Value)=>p.1=q.1/\RelV p.2 q.2
def kV:Key->V
 | .inl i=>.int i
 | .inr x=>.str x
def kOf:V->Option Key
 | .int i=>some (.inl i)
 | .bl b=>some (.inl (b01 b))
 | .str x=>some (.inr x)
 | _=>none
theorem ygc (k:Key):kOf (kV k)=some k:=by cases k<;>rfl
inductive HO where
 | lst (xs:List V)
 | tup (xs:List V)
 | dK (kvs:List (Key×V)) | dT (kvs:List (List Key×V))
 | set (S:Int->Bool) (n:Nat)
 | ins (C dx:Addr) (fs:List (Str×V))
 | own (x:Addr)
 | xd (fs:List (Str×V))
 | met (f x:Addr)
 | rng (lo hi:Int)
 | frz (o:Obj) (u:HO)
 | tbl (ps:Array Value)
 | ext (φ:Heap->Prop)
abbrev Hp:=Addr->Option HO
def upd (H:Hp) (a:Addr) (o:HO):Hp:=fun b=>if b=a then some o else H b
theorem zar {H:Hp} {a:Addr} {o:HO}:upd H a o a=some o:=by unfold upd;rw [if_pos rfl]
theorem yaC {H:Hp} {a b:Addr} {o:HO} (h:b≠a):upd H a o b=H b:=by unfold upd;rw [if_neg h]
theorem yhd {H:Hp} {a b:Addr} {o u:HO} (h:H a=some o) (h':H b=some u) (d:o≠u):a≠b:=by
 intro e;subst e;rw [h] at h';exact d (Option.some.inj h')
theorem zaw {H:Hp} {a b:Addr} {o:HO} (h:H a=some o) (h':H b=none):a≠b:=by
 intro e;subst e;rw [h] at h';cases h'
section
variable (P:Program) (w:World)
def ObjOk (H:Hp) (h:Heap) (a:Addr):HO->Prop
 | .lst xs=>xs.length<=sizeLine/\∃ (its:List Value) (n:Nat),Vals xs its/\h.get? a=some { cls:=.type "list",data:=.seq its.toArray n }
 | .tup xs=>xs.length<=sizeLine/\∃ its:List Value,Vals xs its/\IsTup h a its.toArray
 | .dK kvs=>kvs.length<=sizeLine/\(a == sysModules)=false/\∃ vs,KV kvs vs/\h.DictOf (ybv P w) a vs
 | .dT kvs=>kvs.length<=sizeLine/\(a == sysModules)=false/\∃ xs:List (List Key×Addr×Value),
   Paired (fun (p:List Key×V) (q:List Key×Addr×Value)=>p.1=q.1/\(∃ ys,H q.2.1=some (.tup ys)/\ys.map kOf=p.1.map some)/\RelV p.2 q.2.2) kvs xs /\
   ∃ o es ep,h.get? a=some o/\o.ExactDict/\o.data = .dict es ep/\es.toList=xs.map (entryOfKey (tupleKind (ybv P w)))/\(xs.map (·.1)).Nodup
 | .set S n=>h.SetOf (intKind P w) a S n
 | .ins C dx fs=>H dx=some (.own a)/\fs.length<=1000/\dx≠a/\h.get? a=some (PySem.W.instObj C dx) /\
   ∃ mA,h.Ns1 dx mA/\(∀ f,RelO (fs.lookup f) (mA f))/\PySem.Within mA (fs.map (·.1))
 | .own _=>∃ o,h.get? a=some o
 | .xd fs=>∃ mA,h.Ns1 a mA/\∀ f,RelO (fs.lookup f) (mA f)
 | .rng lo hi=>∃ t u v,h.get? a=some { cls:=.type "range",data:=.fields #[.int lo t,.int hi u,.int 1 v] }
 | .frz o u=>h.get? a=some o/\ObjOk H h a u
 | .tbl ps=>h.get? a=some { cls:=.none,data:=.fields ps }
 | .met f x=>h.get? a=some (PySem.W.methodObj (.ref f) (.ref x))
 | .ext φ=>φ h/\(∃ o,h.get? a=some o)/\∀ h1 h2:Heap,φ h1->(∀ o,h1.get? a=some o->h2.get? a=some o)->φ h2
def HOk (H:Hp) (h:Heap):Prop:=∀ a o,H a=some o->ObjOk P w H h a o
end
section
variable {P:Program} {w:World} {H H':Hp} {h h':Heap} {a:Addr} {o:HO}
theorem ObjOk.lt (x:ObjOk P w H h a o):a<h.objs.size:=by
 cases o with
 | lst xs=>obtain ⟨_,_,_,_,e⟩:=x;exact Heap.lt_size e
 | tup xs=>obtain ⟨_,_,_,p⟩:=x;exact p.lt
 | dK kvs=>obtain ⟨_,_,_,_,o,_,_,e,_⟩:=x;exact Heap.lt_size e
 | dT kvs=>obtain ⟨_,_,_,_,o,_,_,e,_⟩:=x;exact Heap.lt_size e
 | set S n=>obtain ⟨o,_,_,_,e,_⟩:=x;exact Heap.lt_size e
 | ins C dx fs=>obtain ⟨_,_,_,e,_⟩:=x;exact Heap.lt_size e
 | own y=>obtain ⟨_,e⟩:=x;exact Heap.lt_size e
 | xd fs=>obtain ⟨_,⟨_,_,_,e,_⟩,_⟩:=x;exact Heap.lt_size e
 | rng lo hi=>obtain ⟨_,_,_,e⟩:=x;exact Heap.lt_size e
 | frz ob u=>obtain ⟨e,_⟩:=x;exact Heap.lt_size e
 | tbl ps=>exact Heap.lt_size (show h.get? a=some _ from x)
 | met f y=>exact Heap.lt_size (show h.get? a=some _ from x)
 | ext φ=>obtain ⟨_,⟨_,e⟩,_⟩:=x;exact Heap.lt_size e
theorem Paired.mapP {α β:Type} {F G:α->β->Prop}:∀ {l₁:List α} {l₂:List β},Paired F l₁ l₂->(∀ a b,F a b->G a b)->Paired G l₁ l₂
 | _,_,.nil,_=>.nil
 | _,_,.cons r t,f=>.cons (f _ _ r) (Paired.mapP t f)
theorem ObjOk.stay (x:ObjOk P w H h a o) (k:∀ b u,(b=a\/H b=some (.own a))->h.get? b=some u->h'.get? b=some u)
  (ho:∀ b,H b=some (.own a)->H' b=some (.own a)) (ht:∀ b xs,H b=some (.tup xs)->H' b=some (.tup xs)):ObjOk P w H' h' a o:=by
 induction o with
 | lst xs=>obtain ⟨z,its,n,r,e⟩:=x;exact ⟨z,its,n,r,k _ _ (.inl rfl) e⟩
 | tup xs=>obtain ⟨z,its,r,ob,e,c⟩:=x;exact ⟨z,its,r,ob,k _ _ (.inl rfl) e,c⟩
 | dK kvs=>obtain ⟨z,y,vs,r,ob,es,ep,e,c⟩:=x;exact ⟨z,y,vs,r,ob,es,ep,k _ _ (.inl rfl) e,c⟩
 | dT kvs =>
  obtain ⟨z,y,xs,r,ob,es,ep,e,c⟩:=x
  exact ⟨z,y,xs,Paired.mapP r fun p q z=>⟨z.1,z.2.1.imp fun _ e=>⟨ht _ _ e.1,e.2⟩,z.2.2⟩,ob,es,ep,k _ _ (.inl rfl) e,c⟩
 | set S n=>obtain ⟨ob,es,ep,t,e,c⟩:=x;exact ⟨ob,es,ep,t,k _ _ (.inl rfl) e,c⟩
 | ins C dx fs =>
  obtain ⟨d,z,ne,e,mA,⟨od,es,ep,e2,c⟩,r⟩:=x
  exact ⟨ho _ d,z,ne,k _ _ (.inl rfl) e,mA,⟨od,es,ep,k _ _ (.inr d) e2,c⟩,r⟩
 | own y=>obtain ⟨ob,e⟩:=x;exact ⟨ob,k _ _ (.inl rfl) e⟩
 | xd fs=>obtain ⟨mA,⟨od,es,ep,e,c⟩,r⟩:=x;exact ⟨mA,⟨od,es,ep,k _ _ (.inl rfl) e,c⟩,r⟩
 | rng lo hi=>obtain ⟨t,u,v,e⟩:=x;exact ⟨t,u,v,k _ _ (.inl rfl) e⟩
 | frz ob u ih=>obtain ⟨e,q⟩:=x;exact ⟨k _ _ (.inl rfl) e,ih q⟩
 | tbl ps =>
  have e:h.get? a=some { cls:=.none,data:=.fields ps }:=x
  show h'.get? a=some { cls:=.none,data:=.fields ps }
  exact k a _ (.inl rfl) e
 | met f y =>
  have e:h.get? a=some (PySem.W.methodObj (.ref f) (.ref y)):=x
  show h'.get? a=some (PySem.W.methodObj (.ref f) (.ref y))
  exact k a _ (.inl rfl) e
 | ext φ=>obtain ⟨p,⟨o,e⟩,st⟩:=x;exact ⟨st _ _ p fun o q=>k _ _ (.inl rfl) q,⟨o,k _ _ (.inl rfl) e⟩,st⟩
theorem HOk.lt (x:HOk P w H h) (e:H a=some o):a<h.objs.size:=(x a o e).lt
theorem HOk.fresh (x:HOk P w H h) (e:h.objs.size<=a):H a=none:=by
 cases q:H a with
 | none=>rfl
 | some u=>exact absurd (Nat.lt_of_lt_of_le (x.lt q) e) (Nat.lt_irrefl _)
theorem HOk.kept (x:HOk P w H h) (k:∀ b u,h.get? b=some u->h'.get? b=some u):HOk P w H h' := fun a o e =>
 (x a o e).stay (fun b u _ q=>k b u q) (fun _ q=>q) fun _ _ q=>q
theorem HOk.laid (x:HOk P w H h) (k:∀ b u,h.get? b=some u->h'.get? b=some u) (hp:h.objs.size<=a) (new:ObjOk P w (upd H a o) h' a o):HOk P w (upd H a o) h' := fun b u e=>by
 have hn:=x.fresh hp
 by_cases hb:b=a
 ·subst hb;rw [zar] at e;cases e;exact new
 ·rw [yaC hb] at e
  exact (x b u e).stay (fun c v _ q=>k c v q) (fun c q=>by rw [yaC (zaw q hn)];exact q) fun c xs q=>by rw [yaC (zaw q hn)];exact q
end
def Rd (H:Hp) (a:Addr) (u:HO):Prop:=H a=some u\/∃ o,H a=some (.frz o u)
theorem Rd.ok {P:Program} {w:World} {H:Hp} {h:Heap} {a:Addr} {u:HO} (r:Rd H a u) (x:HOk P w H h):ObjOk P w H h a u:=by
 rcases r with r | ⟨o,r⟩
 ·exact x a u r
 ·obtain ⟨_,q⟩:=x a _ r
  exact q
def Mut:Option HO->Prop
 | some (.lst _)=>True
 | some (.dK _)=>True
 | some (.dT _)=>True
 | some (.set _ _)=>True
 | some (.ins _ _ _)=>True
 | some (.ext _)=>True
 | _=>False
section
variable {P:Program} {w:World} {H:Hp} {h h':Heap} {x e:Addr} {o':HO}
theorem HOk.write (ok:HOk P w H h) (mu:Mut (H x)) (he:e=x\/H e=some (.own x)) (k:∀ b u,b≠e->h.get? b=some u->h'.get? b=some u) (heo:∃ u,h'.get? e=some u)
  (new:ObjOk P w (upd H x o') h' x o'):HOk P w (upd H x o') h' := fun b u q=>by
 have nown:∀ c y,H c=some (.own y)->c≠x:=fun c y r z=>by subst z;rw [r] at mu;exact mu
 have ntup:∀ c xs,H c=some (.tup xs)->c≠x:=fun c xs r z=>by subst z;rw [r] at mu;exact mu
 by_cases hb:b=x
 ·subst hb;rw [zar] at q;cases q;exact new
 ·rw [yaC hb] at q
  by_cases hbe:b=e
  ·have q':H b=some (.own x):=by
    rcases he with z | z
    ·exact absurd (hbe.trans z) hb
    ·rw [hbe];exact z
   rw [q] at q';cases q'
   obtain ⟨v,hv⟩:=heo
   exact ⟨v,by rw [hbe];exact hv⟩
  ·refine (ok b u q).stay (fun c v hc r=>k c v ?_ r) (fun c r=>by rw [yaC (nown c b r)];exact r) fun c xs r=>by rw [yaC (ntup c xs r)];exact r
   rcases hc with rfl | hc
   ·exact hbe
   ·rintro rfl
    rcases he with z | z
    ·exact nown c b hc z
    ·rw [hc] at z;cases z;exact hb rfl
end
structure Un (fs ex:List Addr) (H H':Hp) (h h':Heap):Prop where
 keep:∀ b o,h.get? b=some o->H b=none->b∉fs->b∉ex->h'.get? b=some o
 slot:∀ b o,h.get? b=some o->H b=none->b∈fs->b∉ex->∃ sl,h'.get? b=some { o with slots:=sl }
 free:∀ b o,h.get? b=some o->H b=none->b∉ex->H' b=none
 there:∀ b o,h.get? b=some o->b∉ex->∃ o',h'.get? b=some o'
 tups:∀ b xs,H b=some (.tup xs)->H' b=some (.tup xs)
 frzs:∀ b o u,H b=some (.frz o u)->H' b=some (.frz o u)
 tbls:∀ b ps,H b=some (.tbl ps)->∃ more,H' b=some (.tbl (ps++more))
section
variable {fs fs' ex ex':List Addr} {H H1 H2:Hp} {h h1 h2 h':Heap} {a x e:Addr} {o:HO}
theorem Un.any (u:Un fs ex H H1 h h1) {b:Addr} {ob:Obj} (q:h.get? b=some ob) (n:H b=none) (hx:b∉ex):∃ sl,h1.get? b=some { ob with slots:=sl }:=by
 by_cases hb:b∈fs
 ·exact u.slot b ob q n hb hx
 ·exact ⟨ob.slots,u.keep b ob q n hb hx⟩
theorem Un.kept (k:∀ b u,h.get? b=some u->h'.get? b=some u):Un fs ex H H h h' :=
 ⟨fun b ob q _ _ _=>k b ob q,fun b ob q _ _ _=>⟨ob.slots,k b ob q⟩,fun _ _ _ n _=>n,fun b ob q _=>⟨ob,k b ob q⟩,fun _ _ q=>q,fun _ _ _ q=>q,fun _ ps q=>⟨#[],by rw [q];simp⟩⟩
theorem Un.refl:Un fs ex H H h h:=Un.kept fun _ _ q=>q
theorem Un.laid (k:∀ b u,h.get? b=some u->h'.get? b=some u) (hp:h.objs.size<=a) (hn:H a=none):Un fs ex H (upd H a o) h h' where
 keep:=fun b u q _ _ _=>k b u q
 slot:=fun b u q _ _ _=>⟨u.slots,k b u q⟩
 free:=fun b u q n _=>by rw [yaC (Nat.ne_of_lt (Nat.lt_of_lt_of_le (Heap.lt_size q) hp))];exact n
 there:=fun b u q _=>⟨u,k b u q⟩
 tups:=fun b xs q=>by rw [yaC (zaw q hn)];exact q
 frzs:=fun b u xs q=>by rw [yaC (zaw q hn)];exact q
 tbls:=fun b ps q=>⟨#[],by rw [yaC (zaw q hn),q];simp⟩
theorem Un.write (mu:Mut (H x)) (he:e=x\/H e=some (.own x)) (k:∀ b u,b≠e->h.get? b=some u->h'.get? b=some u) (heo:∃ u,h'.get? e=some u):Un fs ex H (upd H x o) h h' := by
 have hx:∀ b,H b=none->b≠x:=fun b n z=>by subst z;rw [n] at mu;exact mu
 have hb:∀ b,H b=none->b≠e:=fun b n z=>by
  subst z
  rcases he with r | r
  ·exact hx b n r
  ·rw [n] at r;cases r
 have hm:∀ b u,H b=some u -> ¬ Mut (some u)->b≠x:=fun b u q nm z=>by subst z;rw [q] at mu;exact nm mu
 refine ⟨fun b u q n _ _=>k b u (hb b n) q,fun b u q n _ _=>⟨u.slots,k b u (hb b n) q⟩,fun b u q n _=>by rw [yaC (hx b n)];exact n,fun b u q _=>?_,
  fun b xs q=>by rw [yaC (hm b _ q fun z=>z)];exact q,fun b u xs q=>by rw [yaC (hm b _ q fun z=>z)];exact q,fun b ps q=>⟨#[],by rw [yaC (hm b _ q fun z=>z),q];simp⟩⟩
 by_cases hbe:b=e
 ·subst hbe;exact heo
 ·exact ⟨u,k b u hbe q⟩
end
def trk (h:Heap) (H:Hp):List Addr:=(List.range h.objs.size).filter fun a=>(H a).isSome
def hidT (h:Heap) (H:Hp):Heap:=PySem.W.hideAll h (trk h H)
theorem zgM (h:Heap) (H:Hp):(hidT h H).objs.size=h.objs.size:=PySem.W.hideAll_size _ _
theorem zhD {h:Heap} {H:Hp} {b:Addr} {o:Obj} (e:h.get? b=some o) (n:H b=none):(hidT h H).get? b=some o :=
 PySem.W.hideAll_get _ e fun hm=>by
  have q:(H b).isSome=true:=(List.mem_filter.mp hm).2
  rw [n] at q;simp at q
theorem zit {h:Heap} {H:Hp} {b:Addr} {o:Obj} (e:(hidT h H).get? b=some o):h.get? b=some o/\H b=none:=by
 have e':h.get? b=some o:=PySem.W.of_hideAll (trk h H) e
 refine ⟨e',?_⟩
 cases q:H b with
 | none=>rfl
 | some x =>
  have hm:b∈trk h H:=List.mem_filter.mpr ⟨List.mem_range.mpr (Heap.lt_size e'),by simp [q]⟩
  have z:(hidT h H).get? b=none:=PySem.W.hideAll_none (trk h H) hm
  rw [z] at e;cases e
end L2
namespace L2
open PySem PySem.Spec PyProof.Rows
structure Mod (K:PySem.W.Frag) (mg:Str->Option Value) (base:Heap):Prop where
 kin:K.In base
 glob:base.Ns mainGlobals mg
 blt:∃ mb,base.Ns builtinsNs mb/\∀ x:Str,x ≠ "__name__" -> mb x=bootBuiltins x
 nolimit:base.NoLimit
structure Cx where
 prog:Program
 w:World
 K:PySem.W.Frag
 mg:Str->Option Value
 base:Heap
 A:Around
 N:List Str
 s₀:Shared
 H₀:Hp
 env:Env
 outer:List Env
 stack:List Env
 ex:List Addr
 fn:Str->Bool
 calm:Bool
 pn:List (Addr×Obj)
 xe:Value->Shared->Prop
def frs (l:List Env):List Addr:=l.filterMap (·.frame)
abbrev Cx.fs (X:Cx):List Addr:=frs X.outer
def Vis (sc:Scope) (x:Str):Prop:=sc.names.lookup x=some .local\/sc.names.lookup x=some .cell\/sc.names.lookup x=some .free
def Loc (sc:Scope) (x:Str):Prop:=sc.names.lookup x=some .local\/sc.names.lookup x=some .cell
def Look (env:Env) (h:Heap) (m:Str->Option Value) (x:Str) (u:Value):Prop :=
 (env.kindOf x=some .local/\m x=some u)\/((env.kindOf x=some .cell\/env.kindOf x=some .free)/\∃ c,env.cells.lookup x=some c/\h.IsCell c (some u))
structure Cx.Ok (X:Cx):Prop where
 mod:Mod X.K X.mg X.base
 kind:X.env.scope.kind = .function
 glob:X.env.globals=mainGlobals
 blt:X.env.builtins=builtinsNs
 above:X.s₀.heap.objs.size<=X.env.locals
 inj:∀ x y c,X.env.cells.lookup x=some c->X.env.cells.lookup y=some c->x=y
 has:∀ x,(X.env.kindOf x=some .cell\/X.env.kindOf x=some .free)->∃ c,X.env.cells.lookup x=some c
 cab:∀ x c,X.fn x=true->X.env.cells.lookup x=some c->X.s₀.heap.objs.size<=c
 hd:X.calm=true->X.A.handled=none
 frames:X.A.frames=some X.stack
 stk:X.stack=X.outer\/(X.stack=X.env::X.outer/\X.env.frame=some X.env.locals)
 exf:∀ b∈X.ex,b≠X.env.locals/\∀ x c,X.env.cells.lookup x=some c->c≠b
 bs:∀ b o,X.base.get? b=some o->X.s₀.heap.get? b=some o/\X.H₀ b=none
 bsz:X.base.objs.size<=X.s₀.heap.objs.size
 noex:∀ b o,X.base.get? b=some o->b∉X.ex
 exfs:∀ b∈X.ex,b∉X.fs
 funs:X.s₀.heap.FunFrames X.base X.outer
 frf:∀ b∈X.fs,X.H₀ b=none
structure Inv (X:Cx) (pins:List (Addr×Obj)) (σ:List (Option V)) (H:Hp) (s:Shared):Prop where
 ok:X.Ok
 os:s.os=X.s₀.os
 bare:AllBare s.gens
 base:Un X.fs X.ex X.H₀ H X.s₀.heap s.heap
 loc:∃ m,s.heap.Ns X.env.locals m/\∀ (i:Nat) (x:Str) (v:V),X.N[i]? = some x->σ[i]? = some (some v)->Vis X.env.scope x->∃ u,RelV v u/\Look X.env s.heap m x u
 cell:∀ x c,X.env.cells.lookup x=some c->∃ v,s.heap.IsCell c v
 free:H X.env.locals=none
 freeC:∀ x c,X.env.cells.lookup x=some c->H c=none
 pin:∀ p∈X.pn++pins,s.heap.get? p.1=some p.2/\H p.1=none/\p.1≠X.env.locals/\p.1∉X.fs/\∀ v,p.2.data ≠ .cell v
 hok:HOk X.prog X.w H s.heap
 len:σ.length=X.N.length
section
variable {X:Cx} {pins:List (Addr×Obj)} {σ:List (Option V)} {H H':Hp} {s:Shared} {h':Heap}
theorem Cx.Ok.nofr (ok:X.Ok) {b:Addr} {o:Obj} (e:X.base.get? b=some o):b∉X.fs:=fun hb=>by
 have:=(ok.funs.mem hb).1
 rw [e] at this;cases this
theorem Inv.bs (I:Inv X pins σ H s):∀ b o,X.base.get? b=some o->s.heap.get? b=some o/\H b=none:=fun b o e =>
 ⟨I.base.keep b o (I.ok.bs b o e).1 (I.ok.bs b o e).2 (I.ok.nofr e) (I.ok.noex b o e),I.base.free b o (I.ok.bs b o e).1 (I.ok.bs b o e).2 (I.ok.noex b o e)⟩
theorem Inv.bk (I:Inv X pins σ H s):∀ b o,X.base.get? b=some o->s.heap.get? b=some o:=fun b o e=>(I.bs b o e).1
theorem Inv.mod (I:Inv X pins σ H s):Mod X.K X.mg X.base:=I.ok.mod
theorem Inv.kIn (I:Inv X pins σ H s):X.K.In s.heap:=I.ok.mod.kin.keeps I.bk
theorem Inv.fr (I:Inv X pins σ H s):∃ m,Fr X.base X.env.locals s.heap m :=
 let ⟨m,hn,_⟩:=I.loc
 ⟨m,hn,I.bk,Nat.le_trans I.ok.bsz I.ok.above⟩
theorem Inv.lt (I:Inv X pins σ H s):X.env.locals<s.heap.objs.size:=let ⟨_,hn,_⟩:=I.loc;hn.lt
theorem Inv.sz (I:Inv X pins σ H s):X.s₀.heap.objs.size<=s.heap.objs.size:=Nat.le_trans I.ok.above (Nat.le_of_lt I.lt)
theorem Inv.nofs (I:Inv X pins σ H s) {a:Addr} (h:s.heap.objs.size<=a):a∉X.fs:=fun hb=>by
 obtain ⟨_,o,ho,_⟩:=I.ok.funs.mem hb
 exact absurd (Nat.lt_of_lt_of_le (Heap.lt_size ho) (Nat.le_trans I.sz h)) (Nat.lt_irrefl _)
theorem Inv.cne (I:Inv X pins σ H s):∀ x c,X.env.cells.lookup x=some c->c≠X.env.locals:=fun x c e z=>by
 obtain ⟨v,o,ho,hd⟩:=I.cell x c e
 obtain ⟨m,⟨o',es,ep,ho',hd',_⟩,_⟩:=I.loc
 rw [z,ho'] at ho;cases ho;rw [hd'] at hd;cases hd
theorem Inv.funs (I:Inv X pins σ H s):s.heap.FunFrames X.base X.outer:=by
 have all:∀ (l:List Env),(∀ b∈frs l,b∈X.fs)->X.s₀.heap.FunFrames X.base l->s.heap.FunFrames X.base l:=by
  intro l
  induction l with
  | nil=>intro _ _;trivial
  | cons env r ih =>
   intro hs hl
   obtain ⟨hk,⟨L,o,hf,hn,ho,hd⟩,hr⟩:=hl
   have hL:L∈X.fs:=hs L (by unfold frs;rw [List.filterMap_cons,hf];exact List.mem_cons_self)
   obtain ⟨sl,e⟩:=I.base.slot L o ho (I.ok.frf L hL) hL fun z=>I.ok.exfs L z hL
   exact ⟨hk,⟨L,_,hf,hn,e,hd⟩,ih (fun b hb=>hs b (by unfold frs;rw [List.filterMap_cons,hf];exact List.mem_cons_of_mem _ hb)) hr⟩
 exact all X.outer (fun _ hb=>hb) I.ok.funs
theorem Inv.stack (I:Inv X pins σ H s):s.heap.FunFrames X.base X.stack:=by
 rcases I.ok.stk with e | ⟨e,hf⟩
 ·rw [e];exact I.funs
 ·rw [e]
  obtain ⟨m,hn,_⟩:=I.loc
  refine .cons (by rw [I.ok.kind];decide) hf hn ?_ I.funs
  exact Heap.get?_none_of_le (Nat.le_trans I.ok.bsz I.ok.above)
theorem Inv.stkSub (I:Inv X pins σ H s):∀ b∈frs X.stack,b∈X.env.locals::X.fs:=fun b hb=>by
 rcases I.ok.stk with e | ⟨e,hf⟩
 ·rw [e] at hb;exact List.mem_cons_of_mem _ hb
 ·rw [e] at hb
  unfold frs at hb
  rw [List.filterMap_cons,hf] at hb
  exact hb
theorem Inv.stkFree (I:Inv X pins σ H s):∀ b∈frs X.stack,H b=none:=fun b hb=>by
 rcases List.mem_cons.mp (I.stkSub b hb) with e | hb
 ·rw [e];exact I.free
 ·obtain ⟨_,o,ho,_⟩:=I.ok.funs.mem hb
  exact I.base.free b o ho (I.ok.frf b hb) fun z=>I.ok.exfs b z hb
theorem Inv.step {g':Array GenState} {t':Nat} {d':Drawn} {ch:List Addr} (I:Inv X pins σ H s)
  (hch:∀ b∈ch,(b∈X.ex\/X.s₀.heap.objs.size<=b)/\b≠X.env.locals/\(∀ x c,X.env.cells.lookup x=some c->c≠b)/\∀ p∈X.pn++pins,p.1≠b)
  (keep:∀ b o,b≠X.env.locals->b∉X.fs->b∉ch->s.heap.get? b=some o->H b=none->h'.get? b=some o)
  (slot:∀ b o,b≠X.env.locals->b∈X.fs->b∉ch->s.heap.get? b=some o->H b=none->∃ sl,h'.get? b=some { o with slots:=sl }) (free:∀ b o,b∉ch->s.heap.get? b=some o->H b=none->H' b=none)
  (there:∀ b o,b∉ch->s.heap.get? b=some o->∃ o',h'.get? b=some o')
  (tups:∀ b xs,H b=some (.tup xs)->H' b=some (.tup xs)) (frzs:∀ b o u,H b=some (.frz o u)->H' b=some (.frz o u)) (tbls:∀ b ps,H b=some (.tbl ps)->∃ more,H' b=some (.tbl (ps++more)))
  (ns:∀ m,s.heap.Ns X.env.locals m->h'.Ns X.env.locals m) (hok:HOk X.prog X.w H' h') (hg:AllBare g') :
  Inv X pins σ H' { s with heap:=h',gens:=g',drawn:=d',toks:=t' }:=by
 have neL:∀ b o,X.s₀.heap.get? b=some o->b≠X.env.locals:=fun b o e=>Nat.ne_of_lt (Nat.lt_of_lt_of_le (Heap.lt_size e) I.ok.above)
 have neC:∀ b o,X.s₀.heap.get? b=some o->b∉X.ex->b∉ch:=fun b o e hx hb=>by
  rcases (hch b hb).1 with z | z
  ·exact hx z
  ·exact absurd (Nat.lt_of_lt_of_le (Heap.lt_size e) z) (Nat.lt_irrefl _)
 have cellK:∀ x c,X.env.cells.lookup x=some c->∀ v,s.heap.IsCell c v->h'.IsCell c v:=fun x c e v ⟨o,ho,hd⟩=>by
  have nch:c∉ch:=fun z=>(hch c z).2.2.1 x c e rfl
  by_cases hc:c∈X.fs
  ·obtain ⟨sl,q⟩:=slot c o (I.cne x c e) hc nch ho (I.freeC x c e)
   exact ⟨_,q,hd⟩
  ·exact ⟨o,keep c o (I.cne x c e) hc nch ho (I.freeC x c e),hd⟩
 refine ⟨I.ok,I.os,hg,⟨fun b o e n hb hx=>?_,fun b o e n hb hx=>?_,fun b o e n hx=>?_,fun b o e hx=>?_,fun b xs e=>tups b xs (I.base.tups b xs e),fun b o xs e=>frzs b o xs (I.base.frzs b o xs e),fun b ps e=>?_⟩,?_,fun x c e=>?_,?_,fun x c e=>?_,fun p hp=>?_,hok,I.len⟩
 ·exact keep b o (neL b o e) hb (neC b o e hx) (I.base.keep b o e n hb hx) (I.base.free b o e n hx)
 ·obtain ⟨sl,e1⟩:=I.base.slot b o e n hb hx
  obtain ⟨sl',e2⟩:=slot b _ (neL b o e) hb (neC b o e hx) e1 (I.base.free b o e n hx)
  exact ⟨sl',e2⟩
 ·obtain ⟨o',e1⟩:=I.base.there b o e hx
  exact free b o' (neC b o e hx) e1 (I.base.free b o e n hx)
 ·obtain ⟨o',e1⟩:=I.base.there b o e hx
  exact there b o' (neC b o e hx) e1
 ·obtain ⟨m1,e1⟩:=I.base.tbls b ps e
  obtain ⟨m2,e2⟩:=tbls b _ e1
  exact ⟨m1++m2,by rw [e2,Array.append_assoc]⟩
 ·obtain ⟨m,hn,hl⟩:=I.loc
  refine ⟨m,ns m hn,fun i x v e1 e2 e3=>?_⟩
  obtain ⟨u,r,l⟩:=hl i x v e1 e2 e3
  refine ⟨u,r,?_⟩
  rcases l with l | ⟨k,c,e,z⟩
  ·exact .inl l
  ·exact .inr ⟨k,c,e,cellK x c e _ z⟩
 ·obtain ⟨v,z⟩:=I.cell x c e
  exact ⟨v,cellK x c e v z⟩
 ·obtain ⟨m,⟨o,_,_,ho,_⟩,_⟩:=I.loc
  exact free _ o (fun z=>(hch _ z).2.1 rfl) ho I.free
 ·obtain ⟨v,o,ho,hd⟩:=I.cell x c e
  exact free c o (fun z=>(hch c z).2.2.1 x c e rfl) ho (I.freeC x c e)
 ·obtain ⟨e,n,ne,nf,d⟩:=I.pin p hp
  have nch:p.1∉ch:=fun z=>(hch p.1 z).2.2.2 p hp rfl
  exact ⟨keep p.1 p.2 ne nf nch e n,free p.1 p.2 nch e n,ne,nf,d⟩
theorem Inv.un {t':Nat} (I:Inv X pins σ H s) (u:Un X.fs [] H H' s.heap h') (hok:HOk X.prog X.w H' h'):Inv X pins σ H' { s with heap:=h',toks:=t' }:=by
 obtain ⟨m,⟨o,es,ep,ho,r⟩,_⟩:=id I.loc
 obtain ⟨sl,hL⟩:=u.any ho I.free (by simp)
 exact I.step (g' := s.gens) (d' := s.drawn) (ch:=[]) (fun _ z=>nomatch z) (fun b o _ hb _ e n=>u.keep b o e n hb (by simp)) (fun b o _ hb _ e n=>u.slot b o e n hb (by simp)) (fun b o _ e n=>u.free b o e n (by simp)) (fun b o _ e=>u.there b o e (by simp)) u.tups u.frzs u.tbls (fun m' hm=>by
  obtain ⟨o',es',ep',ho',r'⟩:=hm
  rw [ho] at ho';cases ho'
  exact ⟨_,es',ep',hL,r'⟩) hok I.bare
theorem Inv.call {g':Array GenState} {t':Nat} {d':Drawn} {ch:List Addr} (I:Inv X pins σ H s) (u:Un (frs X.stack) ch H H' s.heap h') (hok:HOk X.prog X.w H' h') (hg:AllBare g')
  (hch:∀ b∈ch,(b∈X.ex\/X.s₀.heap.objs.size<=b)/\b≠X.env.locals/\(∀ x c,X.env.cells.lookup x=some c->c≠b)/\∀ p∈X.pn++pins,p.1≠b) :
  Inv X pins σ H' { s with heap:=h',gens:=g',drawn:=d',toks:=t' }:=by
 obtain ⟨m,⟨o,es,ep,ho,r⟩,_⟩:=id I.loc
 obtain ⟨sl,hL⟩:=u.any ho I.free fun z=>(hch _ z).2.1 rfl
 exact I.step (ch:=ch) hch (fun b o hL hb hc e n=>u.keep b o e n (fun z=>(List.mem_cons.mp (I.stkSub b z)).elim hL hb) hc) (fun b o _ _ hc e n=>u.any e n hc) (fun b o hc e n=>u.free b o e n hc) (fun b o hc e=>u.there b o e hc) u.tups u.frzs u.tbls (fun m' hm=>by
  obtain ⟨o',es',ep',ho',r'⟩:=hm
  rw [ho] at ho';cases ho'
  exact ⟨_,es',ep',hL,r'⟩) hok hg
theorem Inv.turned {t':Nat} {it:Addr} (I:Inv X pins σ H s) (k:∀ b o,b≠it->s.heap.get? b=some o->h'.get? b=some o) (hn:H it=none) (hL:it≠X.env.locals)
  (h1:it∈X.ex\/X.s₀.heap.objs.size<=it) (h2:∀ x c,X.env.cells.lookup x=some c->c≠it) (h3:∀ p∈X.pn++pins,p.1≠it):Inv X pins σ H { s with heap:=h',toks:=t' }:=by
 have nit:∀ b u,H b=some u->b≠it:=fun b u e z=>by rw [z,hn] at e;cases e
 refine I.step (g' := s.gens) (d' := s.drawn) (ch:=[it]) (fun b hb=>?_) (fun b o _ _ hc e _=>k b o (fun z=>hc (by simp [z])) e) (fun b o _ _ hc e _=>⟨o.slots,k b o (fun z=>hc (by simp [z])) e⟩) (fun _ _ _ _ n=>n)
  (fun b o hc e=>⟨o,k b o (fun z=>hc (by simp [z])) e⟩) (fun _ _ e=>e) (fun _ _ _ e=>e) (fun b ps e=>⟨#[],by rw [e];simp⟩) (fun m hm=>?_) (fun b u e=>?_) I.bare
 ·have e:b=it:=by simpa using hb
  subst e
  exact ⟨h1,hL,h2,h3⟩
 ·obtain ⟨o,es,ep,ho,r⟩:=hm
  exact ⟨o,es,ep,k _ o (Ne.symm hL) ho,r⟩
 ·refine (I.hok b u e).stay (fun c v hc q=>k c v ?_ q) (fun _ q=>q) fun _ _ q=>q
  rcases hc with z | z
  ·rw [z];exact nit b u e
  ·exact nit c _ z
theorem Inv.tok (I:Inv X pins σ H s) (t:Nat):Inv X pins σ H { s with toks:=t }:=I.un (h' := s.heap) (t' := t) Un.refl I.hok
theorem Inv.kept {t':Nat} (I:Inv X pins σ H s) (k:∀ b u,s.heap.get? b=some u->h'.get? b=some u):Inv X pins σ H { s with heap:=h',toks:=t' }:=I.un (Un.kept k) (I.hok.kept k)
theorem Inv.laid {a:Addr} {o:HO} {t':Nat} (I:Inv X pins σ H s) (k:∀ b u,s.heap.get? b=some u->h'.get? b=some u) (hp:s.heap.objs.size<=a) (new:ObjOk X.prog X.w (upd H a o) h' a o) :
  Inv X pins σ (upd H a o) { s with heap:=h',toks:=t' }:=I.un (Un.laid k hp (I.hok.fresh hp)) (I.hok.laid k hp new)
theorem Inv.write {x e:Addr} {o:HO} {t':Nat} (I:Inv X pins σ H s) (mu:Mut (H x)) (he:e=x\/H e=some (.own x)) (k:∀ b u,b≠e->s.heap.get? b=some u->h'.get? b=some u) (heo:∃ u,h'.get? e=some u)
  (new:ObjOk X.prog X.w (upd H x o) h' x o):Inv X pins σ (upd H x o) { s with heap:=h',toks:=t' }:=I.un (Un.write mu he k heo) (I.hok.write mu he k heo new)
theorem Inv.weak {σ':List (Option V)} (I:Inv X pins σ H s) (hl:σ'.length=σ.length) (w:∀ (i:Nat) v,σ'[i]? = some (some v)->σ[i]? = some (some v)):Inv X pins σ' H s :=
 ⟨I.ok,I.os,I.bare,I.base,let ⟨m,hn,hl'⟩:=I.loc;⟨m,hn,fun i x v e1 e2 e3=>hl' i x v e1 (w i v e2) e3⟩,I.cell,I.free,I.freeC,I.pin,I.hok,hl.trans I.len⟩
theorem Inv.pins_of {pins':List (Addr×Obj)} (I:Inv X pins σ H s) (h:∀ p∈pins',s.heap.get? p.1=some p.2/\H p.1=none/\p.1≠X.env.locals/\p.1∉X.fs/\∀ v,p.2.data ≠ .cell v):Inv X pins' σ H s :=
 ⟨I.ok,I.os,I.bare,I.base,I.loc,I.cell,I.free,I.freeC,fun p hp=>(List.mem_append.mp hp).elim (fun z=>I.pin p (List.mem_append_left _ z)) (h p),I.hok,I.len⟩
theorem zc9 {N:List Str} (hN:N.Nodup) {i j:Nat} {x:Str} (a:N[i]? = some x) (b:N[j]? = some x):i=j:=by
 obtain ⟨h1,e1⟩:=List.getElem?_eq_some_iff.mp a
 obtain ⟨h2,e2⟩:=List.getElem?_eq_some_iff.mp b
 exact (List.getElem_inj hN).mp (e1.trans e2.symm)
theorem zcq {M:Model} {A:Around} {E:Value->Shared->Prop} {i:Nat} {x:Str} {v:V} {u:Value} {Q:Unit->Shared->Prop} (I:Inv X pins σ H s) (hN:X.N.Nodup) (hi:X.N[i]? = some x) (hx:Loc X.env.scope x) (r:RelV v u)
  (h:∀ s',Inv X pins (σ.set i (some v)) H s'->(∃ a,Heap.SameBut a s.heap s'.heap/\(a=X.env.locals\/X.env.cells.lookup x=some a))->Q () s') (hf:X.fn x=true\/X.env.scope.names.lookup x=some .local:=by first | exact .inl rfl | exact .inr rfl | assumption):wpAny M A (storeName X.env x u) Q E s:=by
 obtain ⟨m,hn,hl⟩:=id I.loc
 have hcls:(X.env.scope.kind == .class || (X.env.scope.kind == .module && X.env.locals != X.env.globals))=false:=by rw [I.ok.kind];rfl
 have hiσ:i<σ.length:=by rw [I.len];exact (List.getElem?_eq_some_iff.mp hi).1
 have cne:=I.cne
 have tracked:∀ {a:Addr} {h':Heap},(∃ o,s.heap.get? a=some o/\H a=none)->Heap.SameBut a s.heap h'->HOk X.prog X.w H h' := fun {a h'} ha hs b ob e=>by
  obtain ⟨_,_,hfree⟩:=ha
  refine (I.hok b ob e).stay (fun c w' hc q=>(hs.2 c ?_).trans q) (fun _ q=>q) fun _ _ q=>q
  rintro rfl
  rcases hc with rfl | hc
  ·rw [hfree] at e;cases e
  ·rw [hfree] at hc;cases hc
 rcases hx with hk | hk
 ·refine wpAny_storeName_local hk hn (fun h' hn' hs=>?_) hcls
  obtain ⟨oL,_,_,hoL,_⟩:=id hn
  refine h _ ⟨I.ok,I.os,I.bare,⟨fun b o e n hb hx=>?_,fun b o e n hb hx=>?_,I.base.free,fun b o e hx=>?_,I.base.tups,I.base.frzs,I.base.tbls⟩,⟨_,hn',fun j y v' e1 e2 e3=>?_⟩,fun y c e=>?_,I.free,I.freeC,fun p hp=>?_,tracked ⟨oL,hoL,I.free⟩ hs,by simpa using I.len⟩ ⟨_,hs,.inl rfl⟩
  ·exact (hs.2 b (Nat.ne_of_lt (Nat.lt_of_lt_of_le (Heap.lt_size e) I.ok.above))).trans (I.base.keep b o e n hb hx)
  ·obtain ⟨sl,e1⟩:=I.base.slot b o e n hb hx
   exact ⟨sl,(hs.2 b (Nat.ne_of_lt (Nat.lt_of_lt_of_le (Heap.lt_size e) I.ok.above))).trans e1⟩
  ·obtain ⟨o',e1⟩:=I.base.there b o e hx
   exact ⟨o',(hs.2 b (Nat.ne_of_lt (Nat.lt_of_lt_of_le (Heap.lt_size e) I.ok.above))).trans e1⟩
  ·by_cases hj:j=i
   ·subst hj
    rw [hi] at e1;cases e1
    rw [List.getElem?_set_self hiσ] at e2
    cases e2
    exact ⟨u,r,.inl ⟨hk,by simp⟩⟩
   ·rw [List.getElem?_set_ne (Ne.symm hj)] at e2
    obtain ⟨u',r',q⟩:=hl j y v' e1 e2 e3
    refine ⟨u',r',?_⟩
    rcases q with ⟨k,e⟩ | ⟨k,c,e,z⟩
    ·refine .inl ⟨k,?_⟩
     have:y≠x:=fun e=>hj (zc9 hN e1 (e▸hi))
     simp [this,e]
    ·exact .inr ⟨k,c,e,z.sameBut hs (cne y c e)⟩
  ·obtain ⟨w',z⟩:=I.cell y c e
   exact ⟨w',z.sameBut hs (cne y c e)⟩
  ·obtain ⟨e,n,ne,nf,d⟩:=I.pin p hp
   exact ⟨(hs.2 p.1 ne).trans e,n,ne,nf,d⟩
 ·have hfn:X.fn x=true:=by
   rcases hf with z | z
   ·exact z
   ·rw [z] at hk;cases hk
  obtain ⟨c,hc⟩:=I.ok.has x (.inl hk)
  obtain ⟨w',z⟩:=I.cell x c hc
  refine wpAny_storeName_cell I.ok.kind hk hc z (fun h' hc' hs=>?_)
  obtain ⟨oc,hoc,hocd⟩:=id z
  refine h { s with heap:=h' } ⟨I.ok,I.os,I.bare,⟨fun b o e n hb hx=>?_,fun b o e n hb hx=>?_,I.base.free,fun b o e hx=>?_,I.base.tups,I.base.frzs,I.base.tbls⟩,⟨m,hn.sameBut hs (Ne.symm (cne x c hc)),fun j y v' e1 e2 e3=>?_⟩,fun y c' e=>?_,I.free,I.freeC,fun p hp=>?_,tracked ⟨oc,hoc,I.freeC x c hc⟩ hs,by simpa using I.len⟩ ⟨c,hs,.inr hc⟩
  ·exact (hs.2 b (Nat.ne_of_lt (Nat.lt_of_lt_of_le (Heap.lt_size e) (I.ok.cab x c hfn hc)))).trans (I.base.keep b o e n hb hx)
  ·obtain ⟨sl,e1⟩:=I.base.slot b o e n hb hx
   exact ⟨sl,(hs.2 b (Nat.ne_of_lt (Nat.lt_of_lt_of_le (Heap.lt_size e) (I.ok.cab x c hfn hc)))).trans e1⟩
  ·obtain ⟨o',e1⟩:=I.base.there b o e hx
   exact ⟨o',(hs.2 b (Nat.ne_of_lt (Nat.lt_of_lt_of_le (Heap.lt_size e) (I.ok.cab x c hfn hc)))).trans e1⟩
  ·by_cases hj:j=i
   ·subst hj
    rw [hi] at e1;cases e1
    rw [List.getElem?_set_self hiσ] at e2
    cases e2
    exact ⟨u,r,.inr ⟨.inl hk,c,hc,hc'⟩⟩
   ·rw [List.getElem?_set_ne (Ne.symm hj)] at e2
    obtain ⟨u',r',q⟩:=hl j y v' e1 e2 e3
    refine ⟨u',r',?_⟩
    rcases q with q | ⟨k,c',e,z'⟩
    ·exact .inl q
    ·refine .inr ⟨k,c',e,z'.sameBut hs ?_⟩
     rintro rfl
     exact hj (zc9 hN e1 (I.ok.inj _ _ _ e hc▸hi))
  ·by_cases hcc:c'=c
   ·subst hcc;exact ⟨_,hc'⟩
   ·obtain ⟨w2,z2⟩:=I.cell y c' e
    exact ⟨w2,z2.sameBut hs hcc⟩
  ·obtain ⟨e,n,ne,nf,d⟩:=I.pin p hp
   refine ⟨(hs.2 p.1 ?_).trans e,n,ne,nf,d⟩
   intro q
   rw [q,hoc] at e
   have q':oc=p.2:=Option.some.inj e
   exact d w' (by rw [<- q'];exact hocd)
theorem zda {M:Model} {A:Around} {E:Value->Shared->Prop} {i:Nat} {x:Str} {v:V} {u:Value} {Q:Unit->Shared->Prop} (I:Inv X pins σ H s) (hN:X.N.Nodup) (hi:X.N[i]? = some x) (hx:Loc X.env.scope x) (r:RelV v u)
  (h:∀ s',Inv X pins (σ.set i (some v)) H s'->Q () s') (hf:X.fn x=true\/X.env.scope.names.lookup x=some .local:=by first | exact .inl rfl | exact .inr rfl | assumption):wpAny M A (storeName X.env x u) Q E s :=
 zcq I hN hi hx r (fun s' I' _=>h s' I') hf
theorem Inv.call' {s':Shared} {ch:List Addr} (I:Inv X pins σ H s) (ho:s'.os=s.os) (u:Un (frs X.stack) ch H H' s.heap s'.heap) (hok:HOk X.prog X.w H' s'.heap) (hg:AllBare s'.gens)
  (hch:∀ b∈ch,(b∈X.ex\/X.s₀.heap.objs.size<=b)/\b≠X.env.locals/\(∀ x c,X.env.cells.lookup x=some c->c≠b)/\∀ p∈X.pn++pins,p.1≠b):Inv X pins σ H' s' := by
 obtain ⟨h',g',d',t',o'⟩:=s'
 have e:o'=s.os:=ho
 subst e
 exact I.call (g' := g') (t' := t') (d' := d') u hok hg hch
end
abbrev XK:=Value->Option Addr->Hp->Prop
abbrev St:=List (Option V)
abbrev VK:=V->Hp->Prop
abbrev TE:=St->Hp->VK->Prop
abbrev TT:=St->Hp->(Bool->Hp->Prop)->Prop
abbrev TA:=St->Hp->(List V->Hp->Prop)->Prop
structure Ends where
 nx:St->Hp->Prop
 rt:VK
 bk:St->Hp->Prop:=fun _ _=>False
 ct:St->Hp->Prop:=fun _ _=>False
abbrev TS:=Ends->St->Hp->Prop
def EP (X:Cx) (pins:List (Addr×Obj)) (σ:St) (Q:VK) (u:Value) (s':Shared):Prop:=∃ v H',Inv X pins σ H' s'/\RelV v u/\Q v H'
def TP (X:Cx) (pins:List (Addr×Obj)) (σ:St) (Q:Bool->Hp->Prop) (b:Bool) (s':Shared):Prop:=∃ H',Inv X pins σ H' s'/\Q b H'
def AP (X:Cx) (pins:List (Addr×Obj)) (σ:St) (Q:List V->Hp->Prop) (us:List Value) (s':Shared):Prop:=∃ vs H',Inv X pins σ H' s'/\Vals vs us/\Q vs H'
def SP (X:Cx) (pins:List (Addr×Obj)) (D:Ends) (f:Flow) (s':Shared):Prop :=
 match f with
 | .next=>∃ σ' H',Inv X pins σ' H' s'/\D.nx σ' H'
 | .brk=>∃ σ' H',Inv X pins σ' H' s'/\D.bk σ' H'
 | .cont=>∃ σ' H',Inv X pins σ' H' s'/\D.ct σ' H'
 | .ret u=>∃ v σ' H',Inv X pins σ' H' s'/\RelV v u/\D.rt v H'
def PE (X:Cx) (e:Expr) (t:TE):Prop :=
 ∀ (pins:List (Addr×Obj)) (s:Shared) (σ:St) (H:Hp) (Q:VK),Inv X pins σ H s->t σ H Q->wpAny (model X.prog X.w) X.A (eval e X.env) (EP X pins σ Q) X.xe s
def PT (X:Cx) (e:Expr) (t:TT):Prop :=
 ∀ (pins:List (Addr×Obj)) (s:Shared) (σ:St) (H:Hp) (Q:Bool->Hp->Prop),Inv X pins σ H s->t σ H Q->wpAny (model X.prog X.w) X.A (isTrue e X.env (eval e X.env)) (TP X pins σ Q) X.xe s
def PW (X:Cx) (e:Expr) (t:TT):Prop :=
 ∀ (whole:Sem Value) (pins:List (Addr×Obj)) (s:Shared) (σ:St) (H:Hp) (Q:Bool->Hp->Prop),Inv X pins σ H s->t σ H Q->wpAny (model X.prog X.w) X.A (isTrue e X.env whole) (TP X pins σ Q) X.xe s
theorem PW.pt {X:Cx} {e:Expr} {t:TT} (h:PW X e t):PT X e t:=h _
def PA (X:Cx) (es:List Expr) (t:TA):Prop :=
 ∀ (pos:Pos) (pins:List (Addr×Obj)) (s:Shared) (σ:St) (H:Hp) (Q:List V->Hp->Prop),Inv X pins σ H s->t σ H Q->wpAny (model X.prog X.w) X.A (spliced (backTo pos (starEach es X.env))) (AP X pins σ Q) X.xe s
def PS (X:Cx) (st:Stmt) (t:TS):Prop :=
 ∀ (pins:List (Addr×Obj)) (s:Shared) (σ:St) (H:Hp) (D:Ends),Inv X pins σ H s->t D σ H->wpAny (model X.prog X.w) X.A (exec st X.env) (SP X pins D) X.xe s
def PSs (X:Cx) (st:List Stmt) (t:TS):Prop :=
 ∀ (pins:List (Addr×Obj)) (s:Shared) (σ:St) (H:Hp) (D:Ends),Inv X pins σ H s->t D σ H->wpAny (model X.prog X.w) X.A (execs st X.env) (SP X pins D) X.xe s
theorem thn {α:Type} {t:Sem α} {Q Q':α->Shared->Prop} {M:Model} {A:Around} {E:Value->Shared->Prop} {s:Shared} (h:wpAny M A t Q E s) (hQ:∀ a s,Q a s->Q' a s):wpAny M A t Q' E s:=wpAny_mono h hQ fun _ _ x=>x
end L2
namespace L2
open PySem PySem.Spec PyProof.Rows
section
variable {X:Cx}
theorem bin {a b:Expr} {ta tb:TE} (ha:PE X a ta) (hb:PE X b tb) {pins:List (Addr×Obj)} {s:Shared} {σ:St} {H:Hp} {R:V->V->Hp->Prop} (I:Inv X pins σ H s) (h:ta σ H fun x H1=>tb σ H1 fun y H2=>R x y H2)
  {α:Type} {Q:α->Shared->Prop} {f:Value->Value->Sem α}
  (hf:∀ v u s2 x y H2,Inv X pins σ H2 s2->RelV x v->RelV y u->R x y H2->wpAny (model X.prog X.w) X.A (f v u) Q X.xe s2) :
  wpAny (model X.prog X.w) X.A (eval a X.env) (fun v s₁=>wpAny (model X.prog X.w) X.A (eval b X.env) (fun u s₂=>wpAny (model X.prog X.w) X.A (f v u) Q X.xe s₂) X.xe s₁) X.xe s:=by
 refine thn (ha pins s σ H _ I h) fun v s1 ⟨x,H1,I1,r1,q1⟩=>?_
 refine thn (hb pins s1 σ H1 _ I1 q1) fun u s2 ⟨y,H2,I2,r2,q2⟩=>?_
 exact hf v u s2 x y H2 I2 r1 r2 q2
def tVar (i:Nat):TE:=fun σ H Q=>∃ v,σ[i]? = some (some v)/\Q v H
def tC (v:V):TE:=fun _ H Q=>Q v H
theorem ygd {i:Nat} {x:Str} {pos:Pos} (hN:X.N[i]? = some x) (hv:Vis X.env.scope x) (hd:(x == ("__debug__" : Str))=false:=by decide) (hcd:(x == ("__classdict__" : Str))=false:=by decide):PE X (.Name x pos) (tVar i):=by
 intro pins s σ H Q I h
 obtain ⟨v,e,h⟩:=h
 obtain ⟨m,hn,hl⟩:=I.loc
 obtain ⟨u,r,l⟩:=hl i x v hN e hv
 have fin:EP X pins σ Q u s:=⟨v,H,I,r,h⟩
 rcases l with ⟨hk,hm⟩ | ⟨hk,c,hc,hcell⟩
 ·exact wpAny_Name (wpAny_loadName_local I.ok.kind hk hn hm fin) hd
 ·rcases hk with hk | hk
  ·exact wpAny_Name (wpAny_loadName_cell I.ok.kind hk hc hcell fin) hd
  ·exact wpAny_Name (wpAny_loadName_free I.ok.kind hk hc hcell fin hcd) hd
theorem yge {i j pos}:PE X (.Constant (.int i) j pos) (tC (.int i)):=fun _ _ _ H _ I h=>wpAny_Constant_int ⟨.int i,H,I.tok _,⟨_,rfl⟩,h⟩
theorem yhe {b j pos}:PE X (.Constant (.bool b) j pos) (tC (.bl b)):=fun _ _ _ H _ I h=>Constant_bool ⟨.bl b,H,I,rfl,h⟩
theorem ygf {x j pos}:PE X (.Constant (.str x) j pos) (tC (.str x)):=fun _ _ _ H _ I h=>Calls.Constant_str ⟨.str x,H,I.tok _,⟨_,rfl⟩,h⟩
def Gl (X:Cx) (x:Str):Prop:=X.env.kindOf x=some .globalImplicit
theorem zcI {E:Value->Shared->Prop} {pins:List (Addr×Obj)} {s:Shared} {σ:St} {H:Hp} {x:Str} {u:Value} {pos:Pos} {Q:Value->Shared->Prop} (I:Inv X pins σ H s) (hg:Gl X x) (hm:X.mg x=some u) (h:Q u s)
  (hd:(x == ("__debug__" : Str))=false:=by decide):wpAny (model X.prog X.w) X.A (eval (.Name x pos) X.env) Q E s :=
 Calls.Name_function_global I.ok.kind hg (Calls.loadGlobal_global (by rw [I.ok.glob];exact I.mod.glob.keeps I.bk) hm h) hd
theorem ydX {E:Value->Shared->Prop} {pins:List (Addr×Obj)} {s:Shared} {σ:St} {H:Hp} {x:Str} {u:Value} {pos:Pos} {Q:Value->Shared->Prop} (I:Inv X pins σ H s) (hg:Gl X x) (hm:X.mg x=none) (hv:bootBuiltins x=some u) (h:Q u s)
  (hn:x ≠ "__name__" := by decide) (hd:(x == ("__debug__" : Str))=false:=by decide):wpAny (model X.prog X.w) X.A (eval (.Name x pos) X.env) Q E s:=by
 obtain ⟨mb,h1,h2⟩:=I.mod.blt
 exact Calls.Name_function_global I.ok.kind hg (Calls.loadGlobal_builtin (by rw [I.ok.glob];exact I.mod.glob.keeps I.bk) hm (by rw [I.ok.blt];exact h1.keeps I.bk) ((h2 x hn).trans hv) h) hd
theorem ziu {x:Str} {v:V} {u:Value} {pos:Pos} (hg:Gl X x) (hm:X.mg x=some u) (r:RelV v u) (hd:(x == ("__debug__" : Str))=false:=by decide):PE X (.Name x pos) (tC v) :=
 fun _ _ _ H _ I h=>zcI I hg hm ⟨v,H,I,r,h⟩ hd
theorem ziv {x:Str} {v:V} {u:Value} {pos:Pos} (hg:Gl X x) (hm:X.mg x=none) (hv:bootBuiltins x=some u) (r:RelV v u) (hn:x ≠ "__name__" := by decide) (hd:(x == ("__debug__" : Str))=false:=by decide):PE X (.Name x pos) (tC v) :=
 fun _ _ _ H _ I h=>ydX I hg hm hv ⟨v,H,I,r,h⟩ hn hd
variable {a b:Expr} {ta tb:TE} {pos:Pos}
variable {tA tB':TT} {rest:List Expr}
def tOr (t u:TT):TT:=fun σ H Q=>t σ H fun c H1=>if c=true then Q true H1 else u σ H1 Q
def tNot (t:TT):TT:=fun σ H Q=>t σ H fun c H1=>Q (!c) H1
theorem ygg (ha:PT X a tA):PW X (.BoolOp .Or [a] pos) tA:=by
 intro wh pins s σ H Q I h
 refine isTrue_or (thn (ha pins s σ H Q I h) fun c s1 e=>?_)
 cases c with
 | false=>exact isTrue_or_nil e
 | true=>exact e
theorem yhf (ha:PT X a tA) (hb:PW X (.BoolOp .Or (b::rest) pos) tB'):PW X (.BoolOp .Or (a::b::rest) pos) (tOr tA tB'):=by
 intro wh pins s σ H Q I h
 refine isTrue_or (thn (ha pins s σ H _ I h) fun c s1 ⟨H1,I1,q1⟩=>?_)
 cases c with
 | true=>exact ⟨H1,I1,q1⟩
 | false=>exact hb wh pins s1 σ H1 Q I1 q1
theorem ygh (ha:PT X a tA):PT X (.UnaryOp .Not a pos) (tNot tA):=by
 intro pins s σ H Q I h
 exact isTrue_not (ha pins s σ H (fun c H1=>Q (!c) H1) I h)
def yhg (ta tb:TE):TE:=fun σ H Q=>ta σ H fun x H1=>∃ c,x = .bl c/\if c=true then tb σ H1 Q else Q (.bl false) H1
def tOrV (ta tb:TE):TE:=fun σ H Q=>ta σ H fun x H1=>∃ c,x = .bl c/\if c=true then Q (.bl true) H1 else tb σ H1 Q
def yhh (ta:TE):TE:=fun σ H Q=>ta σ H fun x H1=>∃ c,x = .bl c/\Q (.bl (!c)) H1
theorem ygi {op} {t:TE} (h:PE X a t):PE X (.BoolOp op [a] pos) t:=fun pins s σ H Q I hw=>BoolOp_one (h pins s σ H Q I hw)
theorem ygj (ha:PE X a ta) (hb:PE X (.BoolOp .And (b::rest) pos) tb):PE X (.BoolOp .And (a::b::rest) pos) (yhg ta tb):=by
 intro pins s σ H Q I h
 refine BoolOp_and (thn (ha pins s σ H _ I h) fun v s1 ⟨x,H1,I1,r1,q1⟩=>?_)
 obtain ⟨c,rfl,q1⟩:=q1
 cases r1
 refine wpAny_truthy_bool ?_
 cases c with
 | true=>exact hb pins s1 σ H1 Q I1 q1
 | false=>exact ⟨.bl false,H1,I1,rfl,q1⟩
theorem yhi (ha:PE X a ta) (hb:PE X (.BoolOp .Or (b::rest) pos) tb):PE X (.BoolOp .Or (a::b::rest) pos) (tOrV ta tb):=by
 intro pins s σ H Q I h
 refine BoolOp_or (thn (ha pins s σ H _ I h) fun v s1 ⟨x,H1,I1,r1,q1⟩=>?_)
 obtain ⟨c,rfl,q1⟩:=q1
 cases r1
 refine wpAny_truthy_bool ?_
 cases c with
 | false=>exact hb pins s1 σ H1 Q I1 q1
 | true=>exact ⟨.bl true,H1,I1,rfl,q1⟩
theorem ygk (ha:PE X a ta):PE X (.UnaryOp .Not a pos) (yhh ta):=by
 intro pins s σ H Q I h
 refine UnaryOp_ (thn (ha pins s σ H _ I h) fun v s1 ⟨x,H1,I1,r1,q1⟩=>?_)
 obtain ⟨c,rfl,q1⟩:=q1
 cases r1
 exact not_of (wpAny_truthy_bool ⟨.bl (!c),H1,I1,rfl,q1⟩)
end
end L2
namespace L2
open PySem PySem.Spec PyProof.Rows
def SqL (K:PySem.W.Frag) (H:Hp) (a:Addr) (xs:List V):Prop :=
 Rd H a (.lst xs) \/
  ∃ (o:Obj) (its:Array Value) (n:Nat),K.lookup a=some o/\o.cls = .type "list" /\ o.dict=none/\o.data = .seq its n/\its.size<=sizeLine/\Vals xs its.toList
def SqT (K:PySem.W.Frag) (H:Hp) (a:Addr) (xs:List V):Prop :=
 Rd H a (.tup xs) \/
  ∃ (o:Obj) (its:Array Value) (n:Nat),K.lookup a=some o/\o.cls = .type "tuple" /\ o.data = .seq its n/\its.size<=sizeLine/\Vals xs its.toList
def absV:Value->Option V
 | .none=>some .non
 | .bool b=>some (.bl b)
 | .int i _=>some (.int i)
 | .str x _=>some (.str x)
 | .bytes b _=>some (.byt b)
 | .float b _=>some (.flt b)
 | .ref a=>some (.ref a)
 | .type n=>some (.ty n)
 | _=>none
theorem RelV.abs {x:V} {u:Value} (r:RelV x u):absV u=some x:=by
 cases x with
 | non=>cases r;rfl
 | bl _=>cases r;rfl
 | int _=>obtain ⟨t,rfl⟩:=r;rfl
 | str _=>obtain ⟨t,rfl⟩:=r;rfl
 | byt _=>obtain ⟨t,rfl⟩:=r;rfl
 | flt _=>obtain ⟨t,rfl⟩:=r;rfl
 | ref _=>cases r;rfl
 | ty _=>cases r;rfl
theorem RelV.inj {x y:V} {u:Value} (r:RelV x u) (q:RelV y u):x=y:=Option.some.inj (r.abs.symm.trans q.abs)
theorem Vals.inj:∀ {xs ys:List V} {us:List Value},Vals xs us->Vals ys us->xs=ys
 | _,_,_,.nil,.nil=>rfl
 | _,_,_,.cons r t,.cons r' t' => by rw [r.inj r',Vals.inj t t']
section
variable {X:Cx} {pins:List (Addr×Obj)} {σ:St} {H:Hp} {s:Shared} {a:Addr} {xs ys:List V}
theorem SqL.of {K:PySem.W.Frag} (h:H a=some (.lst xs)):SqL K H a xs:=.inl (.inl h)
theorem SqT.of {K:PySem.W.Frag} (h:H a=some (.tup xs)):SqT K H a xs:=.inl (.inl h)
theorem Inv.list (I:Inv X pins σ H s) (h:SqL X.K H a xs):∃ its:List Value,Vals xs its/\PlainL s.heap a its.toArray/\xs.length<=sizeLine:=by
 rcases h with h | ⟨o,its,n,hk,hc,hd,hs,hz,r⟩
 ·obtain ⟨z,its,n,r,e⟩:=h.ok I.hok
  exact ⟨its,r,⟨_,n,e,rfl,rfl,rfl⟩,z⟩
 ·refine ⟨its.toList,r,⟨o,n,I.kIn a o hk,hc,hd,by simpa using hs⟩,?_⟩
  have e:=r.length
  simp only [Array.length_toList] at e
  omega
theorem Inv.tuple (I:Inv X pins σ H s) (h:SqT X.K H a xs):∃ its:List Value,Vals xs its/\IsTup s.heap a its.toArray/\xs.length<=sizeLine:=by
 rcases h with h | ⟨o,its,n,hk,hc,hs,hz,r⟩
 ·obtain ⟨z,its,r,p⟩:=h.ok I.hok
  exact ⟨its,r,p,z⟩
 ·refine ⟨its.toList,r,⟨o,I.kIn a o hk,hc,n,by simpa using hs⟩,?_⟩
  have e:=r.length
  simp only [Array.length_toList] at e
  omega
theorem Inv.list_inj (I:Inv X pins σ H s) (h:SqL X.K H a xs) (h':SqL X.K H a ys):xs=ys:=by
 obtain ⟨its,r,⟨o,n,e,_,_,d⟩,_⟩:=I.list h
 obtain ⟨its',r',⟨o',n',e',_,_,d'⟩,_⟩:=I.list h'
 rw [e] at e';cases e'
 rw [d] at d'
 injection d' with d1 _
 have:its=its' := by simpa using congrArg Array.toList d1
 subst this
 exact r.inj r'
theorem Inv.tuple_inj (I:Inv X pins σ H s) (h:SqT X.K H a xs) (h':SqT X.K H a ys):xs=ys:=by
 obtain ⟨its,r,⟨o,e,_,n,d⟩,_⟩:=I.tuple h
 obtain ⟨its',r',⟨o',e',_,n',d'⟩,_⟩:=I.tuple h'
 rw [e] at e';cases e'
 rw [d] at d'
 injection d' with d1 _
 have:its=its' := by simpa using congrArg Array.toList d1
 subst this
 exact r.inj r'
end
abbrev Cx.wish (X:Cx) (E:Value->Shared->Prop):Cx:={ X with xe:=E }
abbrev Cx.nox (X:Cx):Cx:=X.wish fun _ _=>False
theorem Cx.Ok.wish {X:Cx} (ok:X.Ok) (E:Value->Shared->Prop):(X.wish E).Ok :=
 ⟨ok.mod,ok.kind,ok.glob,ok.blt,ok.above,ok.inj,ok.has,ok.cab,ok.hd,ok.frames,ok.stk,ok.exf,ok.bs,ok.bsz,ok.noex,ok.exfs,ok.funs,ok.frf⟩
theorem Cx.Ok.unwish {X:Cx} {E:Value->Shared->Prop} (ok:(X.wish E).Ok):X.Ok :=
 ⟨ok.mod,ok.kind,ok.glob,ok.blt,ok.above,ok.inj,ok.has,ok.cab,ok.hd,ok.frames,ok.stk,ok.exf,ok.bs,ok.bsz,ok.noex,ok.exfs,ok.funs,ok.frf⟩
section
variable {X:Cx} {pins:List (Addr×Obj)} {σ:St} {H:Hp} {s:Shared} {E:Value->Shared->Prop}
theorem Inv.wish (I:Inv X pins σ H s) (E:Value->Shared->Prop):Inv (X.wish E) pins σ H s:=⟨I.ok.wish E,I.os,I.bare,I.base,I.loc,I.cell,I.free,I.freeC,I.pin,I.hok,I.len⟩
theorem Inv.unwish (I:Inv (X.wish E) pins σ H s):Inv X pins σ H s:=⟨I.ok.unwish,I.os,I.bare,I.base,I.loc,I.cell,I.free,I.freeC,I.pin,I.hok,I.len⟩
theorem SP.unwish {D:Ends} {f:Flow} {s':Shared} (h:SP (X.wish E) pins D f s'):SP X pins D f s' := by
 cases f with
 | next=>obtain ⟨σ',H',I,q⟩:=h;exact ⟨σ',H',I.unwish,q⟩
 | brk=>obtain ⟨σ',H',I,q⟩:=h;exact ⟨σ',H',I.unwish,q⟩
 | cont=>obtain ⟨σ',H',I,q⟩:=h;exact ⟨σ',H',I.unwish,q⟩
 | ret u=>obtain ⟨v,σ',H',I,r,q⟩:=h;exact ⟨v,σ',H',I.unwish,r,q⟩
end
section
variable {X:Cx} {st:Stmt} {rest:List Stmt} {t u:TS} {e:Expr} {te:TE} {pos:Pos}
def yhj:TS:=fun D σ H=>D.nx σ H
def tSeq (t u:TS):TS:=fun D σ H=>t { D with nx:=u D } σ H
theorem ziw:PSs X [] yhj:=fun _ _ σ H _ I h=>wpAny_execs_nil ⟨σ,H,I,h⟩
theorem zhE (h1:PS X st t) (h2:PSs X rest u):PSs X (st::rest) (tSeq t u):=by
 intro pins s σ H D I h
 refine wpAny_execs_cons (thn (h1 pins s σ H { D with nx:=u D } I h) fun f s1 q=>?_)
 cases f with
 | next =>
  obtain ⟨σ',H',I',q⟩:=q
  exact h2 pins s1 σ' H' D I' q
 | ret v=>exact q
 | brk=>exact q
 | cont=>exact q
theorem zix (h1:PS X st t):PSs X [st] t:=by
 intro pins s σ H D I h
 refine wpAny_execs_cons (thn (h1 pins s σ H D I h) fun f s1 q=>?_)
 cases f with
 | next=>exact wpAny_execs_nil q
 | ret v=>exact q
 | brk=>exact q
 | cont=>exact q
def yhk:TS:=fun D σ H=>D.ct σ H
theorem zfd:PS X (.Continue pos) yhk:=fun _ _ σ H _ I h=>wpAny_Continue ⟨σ,H,I,h⟩
theorem Inv.quiet {pins:List (Addr×Obj)} {σ:St} {H:Hp} {s:Shared} (I:Inv X pins σ H s):interactive X.env=false:=by simp [interactive,I.ok.kind]
def yhl (te:TE):TS:=fun D σ H=>te σ H fun _ H1=>D.nx σ H1
theorem ziy (he:PE X e te) (hs:swapsWith e none pos.line X.env=pure false:=by rfl):PS X (.Expr e pos) (yhl te):=by
 intro pins s σ H D I h
 exact wpAny_Expr_any (thn (he pins s σ H _ I h) fun v s1 ⟨x,H1,I1,r1,q1⟩=>⟨σ,H1,I1,q1⟩) I.quiet hs
def tRet (te:TE):TS:=fun D σ H=>te σ H D.rt
theorem ygl (he:PE X e te):PS X (.Return (some e) pos) (tRet te):=by
 intro pins s σ H D I h
 exact wpAny_Return_some (thn (he pins s σ H _ I h) fun v s1 ⟨x,H1,I1,r1,q1⟩=>⟨x,σ,H1,I1,r1,q1⟩)
def tIfS (c:TT) (t u:TS):TS:=fun D σ H=>c σ H fun b H1=>if b=true then t D σ H1 else u D σ H1
theorem yhm {c:Expr} {a b:List Stmt} {tc:TT} (hc:PT X c tc) (ha:PSs X a t) (hb:PSs X b u):PS X (.If c a b pos) (tIfS tc t u):=by
 intro pins s σ H D I h
 refine wpAny_If (thn (hc pins s σ H _ I h) fun d s1 ⟨H1,I1,q1⟩=>?_)
 cases d with
 | true=>exact ha pins s1 σ H1 D I1 q1
 | false=>exact hb pins s1 σ H1 D I1 q1
end
abbrev TG:=V->St->Hp->(St->Hp->Prop)->Prop
abbrev TGs:=List V->St->Hp->(St->Hp->Prop)->Prop
def PG (X:Cx) (target:Expr) (t:TG):Prop :=
 ∀ (pins:List (Addr×Obj)) (s:Shared) (σ:St) (H:Hp) (v:V) (u:Value) (Q:St->Hp->Prop),Inv X pins σ H s->RelV v u->t v σ H Q ->
  wpAny (model X.prog X.w) X.A (assign target X.env u) (fun _ s' => ∃ σ' H',Inv X pins σ' H' s'/\Q σ' H') X.xe s
def PGs (X:Cx) (ts:List Expr) (t:TGs):Prop :=
 ∀ (pins:List (Addr×Obj)) (s:Shared) (σ:St) (H:Hp) (vs:List V) (us:List Value) (Q:St->Hp->Prop),Inv X pins σ H s->Vals vs us->t vs σ H Q ->
  wpAny (model X.prog X.w) X.A (assignInOrder ((assignEach ts X.env).map (·.2)) us) (fun _ s' => ∃ σ' H',Inv X pins σ' H' s'/\Q σ' H') X.xe s
abbrev TSet:=V->V->V->Hp->(Hp->Prop)->Prop
def PSet (X:Cx) (t:TSet):Prop :=
 ∀ (pins:List (Addr×Obj)) (s:Shared) (σ:St) (H:Hp) (o i v:V) (ov iv u:Value) (Q:Hp->Prop),Inv X pins σ H s->RelV o ov->RelV i iv->RelV v u->t o i v H Q ->
  wpAny (model X.prog X.w) X.A (setItem ov iv u) (fun _ s' => ∃ H',Inv X pins σ H' s'/\Q H') X.xe s
section
variable {X:Cx} {pos:Pos}
def yd5 (i:Nat):TG:=fun v σ H Q=>Q (σ.set i (some v)) H
theorem zcJ {i:Nat} {x:Str} (hN:X.N.Nodup) (hi:X.N[i]? = some x) (hx:Loc X.env.scope x) (hf:X.fn x=true\/X.env.scope.names.lookup x=some .local:=by first | exact .inl rfl | exact .inr rfl | assumption):PG X (.Name x pos) (yd5 i):=by
 intro pins s σ H v u Q I r h
 exact wpAny_assign_Name (zda I hN hi hx r (fun s' I' => ⟨_,H,I',h⟩) hf)
def gNil:TGs:=fun vs σ H Q=>vs=[]/\Q σ H
def ye0 (t:TG) (u:TGs):TGs:=fun vs σ H Q=>∃ v r,vs=v::r/\t v σ H fun σ' H' => u r σ' H' Q
theorem zfx:PGs X [] gNil:=by
 intro pins s σ H vs us Q I r h
 obtain ⟨e,h⟩:=h
 subst e
 cases r
 exact assignInOrder_nil ⟨σ,H,I,h⟩
theorem zdb {e:Expr} {es:List Expr} {t:TG} {u:TGs} (h1:PG X e t) (h2:PGs X es u)
  (hs:(assignEach (e::es) X.env).map (·.2)=assign e X.env::(assignEach es X.env).map (·.2):=by rfl):PGs X (e::es) (ye0 t u):=by
 intro pins s σ H vs us Q I r h
 obtain ⟨v,vr,e1,h⟩:=h
 subst e1
 cases r with
 | cons r rr =>
  rw [hs]
  refine assignInOrder_cons (thn (h1 pins s σ H _ _ _ I r h) fun _ s1 ⟨σ1,H1,I1,q1⟩=>?_)
  exact h2 pins s1 σ1 H1 _ _ Q I1 rr q1
def gTup (K:PySem.W.Frag) (n:Nat) (t:TGs):TG:=fun v σ H Q=>∃ a xs,v = .ref a/\SqT K H a xs/\xs.length=n/\t xs σ H Q
theorem yfh {es:List Expr} {k:Nat} {t:TGs} {n:Nat} (hc:X.calm=true) (h:PGs X es t)
  (hn:(assignEach es X.env).length=n:=by rfl) (hst:(assignEach es X.env).findIdx? (·.1)=none:=by rfl):PG X (.Tuple es k pos) (gTup X.K n t):=by
 intro pins s σ H v u Q I r hw
 obtain ⟨a,xs,e1,hq,hl,hw⟩:=hw
 subst e1
 cases r
 obtain ⟨its,rv,ht,hz⟩:=I.tuple hq
 refine assign_Tuple_tuple (I.ok.hd hc) ht (by simp [hn,<- hl,rv.length]) hst fun h' hx=>?_
 have I1:Inv X pins σ H { s with heap:=h' }:=I.kept (t' := s.toks) fun b o e=>hx b o (Nat.ne_of_lt (Heap.lt_size e)) e
 exact h pins _ σ H xs _ Q I1 (by simpa using rv) hw
def gSub (to ti:TE) (t:TSet):TG:=fun v σ H Q=>to σ H fun o H1=>ti σ H1 fun i H2=>t o i v H2 fun H3=>Q σ H3
theorem ygm {o i:Expr} {to ti:TE} {t:TSet} (ho:PE X o to) (hi:PE X i ti) (hs:PSet X t)
  (ha:∀ v,assign (.Subscript o i pos) X.env v=(do
   let ov <- holding [v] (eval o X.env)
   let iv <- holding [v,ov] (eval i X.env)
   standAt pos
   holding [v,ov,iv] (setItem ov iv v)
   release [v,ov,iv] []):=by intro _;rfl):PG X (.Subscript o i pos) (gSub to ti t):=by
 intro pins s σ H v u Q I r h
 rw [ha]
 refine wpAny_bind (wpAny_holding (thn (ho pins s σ H _ I h) fun ov s1 ⟨x,H1,I1,r1,q1⟩=>?_))
 refine wpAny_bind (wpAny_holding (thn (hi pins s1 σ H1 _ I1 q1) fun iv s2 ⟨y,H2,I2,r2,q2⟩=>?_))
 refine wpAny_bind (wpAny_standAt (wpAny_bind (wpAny_holding (thn (hs pins s2 σ H2 x y v ov iv u _ I2 r1 r2 r q2) fun _ s3 ⟨H3,I3,q3⟩=>?_))))
 exact wpAny_release ⟨σ,H3,I3,q3⟩
def tAsg (te:TE) (g:TG):TS:=fun D σ H=>te σ H fun x H1=>g x σ H1 D.nx
theorem yfi {tg e:Expr} {te:TE} {g:TG} (he:PE X e te) (hg:PG X tg g) (hs:swapsWithSole [tg] e pos.line X.env=pure false:=by rfl) (hw:swappedStores [tg] e X.env=pure none:=by rfl)
  (h1:(assignEach [tg] X.env).map (·.2)=[assign tg X.env]:=by rfl):PS X (.Assign [tg] e pos) (tAsg te g):=by
 intro pins s σ H D I h
 refine wpAny_Assign_stores (thn (he pins s σ H _ I h) fun v s1 ⟨x,H1,I1,r1,q1⟩=>?_) hs hw
 rw [h1]
 exact thn (hg pins s1 σ H1 x v _ I1 r1 q1) fun _ s2 q=>q
theorem ygn {i:Nat} {x:Str} {e:Expr} {te:TE} {pos':Pos} (hN:X.N.Nodup) (hi:X.N[i]? = some x) (hx:Loc X.env.scope x) (he:PE X e te) (hs:swapsWith e (some (.Name x pos')) pos.line X.env=pure false:=by rfl) (hf:X.fn x=true\/X.env.scope.names.lookup x=some .local:=by first | exact .inl rfl | exact .inr rfl | assumption) :
  PS X (.Assign [.Name x pos'] e pos) (tAsg te (yd5 i)):=by
 intro pins s σ H D I h
 refine wpAny_Assign_Name (thn (he pins s σ H _ I h) fun v s1 ⟨y,H1,I1,r1,q1⟩=>?_) hs
 exact zda I1 hN hi hx r1 (fun s2 I2=>⟨_,H1,I2,q1⟩) hf
end
section
variable {X:Cx} {pos:Pos}
def ygo (c:TT) (tb:TS):TS:=fun D σ H=>∃ W:Nat->St->Hp->Prop,(∃ m,W m σ H)/\∀ m σ H,W m σ H ->
 c σ H fun b H1=>if b=true then ∃ N:St->Hp->Prop,(∀ σ' H',N σ' H'->∃ m',m'<m/\W m' σ' H')/\tb { D with nx:=N,ct:=N,bk:=D.nx } σ H1 else D.nx σ H1
theorem zhF {c:Expr} {body:List Stmt} {tc:TT} {tb:TS} (hp:PassesOwn (model X.prog X.w) X.A X.env X.xe) (hc:PT X c tc) (hb:PSs X body tb):PS X (.While c body [] pos) (ygo tc tb):=by
 intro pins s σ H D I h
 obtain ⟨W,⟨m0,w0⟩,turn⟩:=h
 refine wpAny_While (codeAny_whileLoop (fun n s' => ∃ σ' H',Inv X pins σ' H' s'/\W n σ' H') ?_ m0 ⟨σ,H,I,w0⟩)
 rintro n s1 ⟨σ1,H1,I1,w1⟩
 refine wpAny_passesOwn hp (thn (hc pins s1 σ1 H1 _ I1 (turn n σ1 H1 w1)) fun b s2 ⟨H2,I2,q2⟩=>?_)
 cases b with
 | true =>
  obtain ⟨N,hN,q2⟩:=q2
  rw [if_pos rfl]
  refine wpAny_passesOwn hp (thn (hb pins s2 σ1 H2 _ I2 q2) fun f s3 q3=>?_)
  cases f with
  | next =>
   obtain ⟨σ3,H3,I3,n3⟩:=q3
   obtain ⟨m',hm,w3⟩:=hN σ3 H3 n3
   exact ⟨m',hm,σ3,H3,I3,w3⟩
  | cont =>
   obtain ⟨σ3,H3,I3,n3⟩:=q3
   obtain ⟨m',hm,w3⟩:=hN σ3 H3 n3
   exact ⟨m',hm,σ3,H3,I3,w3⟩
  | brk=>exact q3
  | ret v=>exact q3
 | false =>
  rw [if_neg Bool.false_ne_true]
  exact wpAny_execs_nil ⟨σ1,H2,I2,q2⟩
end
structure It where
 go:Nat->Hp->Prop
 yld:Nat->Hp->V->Hp->Prop
 stop:Nat->Hp->Prop
def FpOk (X:Cx) (pins:List (Addr×Obj)) (H:Hp) (b:Addr):Prop :=
 H b=none/\b≠X.env.locals/\b∉X.fs/\(b∈X.ex\/X.s₀.heap.objs.size<=b)/\(∀ x c,X.env.cells.lookup x=some c->c≠b)/\∀ p∈X.pn++pins,p.1≠b
theorem Inv.fpOk {X:Cx} {pins:List (Addr×Obj)} {σ:St} {H H':Hp} {s:Shared} {b:Addr} (I:Inv X pins σ H s) (hb:s.heap.objs.size<=b) (hn:H' b=none):FpOk X pins H' b:=by
 refine ⟨hn,Nat.ne_of_gt (Nat.lt_of_lt_of_le I.lt hb),I.nofs hb,.inr (Nat.le_trans I.sz hb),fun x c e z=>?_,fun p hp z=>?_⟩
 ·obtain ⟨v,q⟩:=I.cell x c e
  exact absurd (Nat.lt_of_lt_of_le q.lt (by rw [z];exact hb)) (Nat.lt_irrefl _)
 ·exact absurd (Nat.lt_of_lt_of_le (Heap.lt_size (I.pin p hp).1) (by rw [z];exact hb)) (Nat.lt_irrefl _)
structure Turn (P:Program) (w:World) (K:PySem.W.Frag) (tg:Expr) (J:It) (fp:List Addr) (it:Addr) (tn:Nat->Heap->Prop):Prop where
 mem:it∈fp
 obj:∀ i h,tn i h->∀ b∈fp,∃ o,h.get? b=some o/\∀ v,o.data ≠ .cell v
 keep:∀ i h h',tn i h->(∀ b∈fp,∀ o,h.get? b=some o->h'.get? b=some o)->tn i h'
 item:∀ (X:Cx),X.prog=P->X.w=w->X.K=K->X.calm=true->∀ (i:Nat) (pins:List (Addr×Obj)) (s:Shared) (σ:St) (H:Hp) (E:Value->Shared->Prop),Inv X pins σ H s->(∀ b∈fp,FpOk X pins H b)->tn i s.heap->J.go i H ->
  wpAny (model P w) X.A (pyNext (.ref it)) (fun r s1=>∃ u,r=some u /\
   wpAny (model P w) X.A (letOwnedTupleGo tg (.ref it) u) (fun _ s2=>∃ x H',Inv X pins σ H' s2/\RelV x u/\J.yld i H x H'/\tn (i+1) s2.heap/\∀ b∈fp,H' b=none) E s1) E s
 done:∀ (X:Cx),X.prog=P->X.w=w->X.K=K->X.calm=true->∀ (i:Nat) (pins:List (Addr×Obj)) (s:Shared) (σ:St) (H:Hp) (E:Value->Shared->Prop),Inv X pins σ H s->(∀ b∈fp,FpOk X pins H b)->tn i s.heap->J.stop i H ->
  wpAny (model P w) X.A (pyNext (.ref it)) (fun r s1=>r=none/\Inv X pins σ H s1) E s
 self:∀ (A:Around) (i:Nat) (s:Shared) (Q:Value->Shared->Prop) (E:Value->Shared->Prop),tn i s.heap->Q (.ref it) s->wpAny (model P w) A (pyIter (.ref it)) Q E s
abbrev TI:=St->Hp->(It->Hp->Prop)->Prop
def PIE (X:Cx) (pins:List (Addr×Obj)) (σ:St) (tg:Expr) (R:It->Hp->Prop) (itv:Value) (s2:Shared):Prop :=
 ∃ (it:Addr) (fp:List Addr) (tn:Nat->Heap->Prop) (J:It) (H':Hp),itv = .ref it/\Inv X pins σ H' s2/\Turn X.prog X.w X.K tg J fp it tn/\tn 0 s2.heap/\(∀ b∈fp,FpOk X pins H' b)/\R J H'
def PI (X:Cx) (tg iter:Expr) (wi:TI):Prop :=
 ∀ (pins:List (Addr×Obj)) (s:Shared) (σ:St) (H:Hp) (R:It->Hp->Prop),Inv X pins σ H s->wi σ H R ->
  wpAny (model X.prog X.w) X.A (eval iter X.env) (fun v s1=>wpAny (model X.prog X.w) X.A (pyIter v) (PIE X pins σ tg R) X.xe s1) X.xe s
theorem yeF {M:Model} {A:Around} {E:Value->Shared->Prop} {s:Shared} {tg:Expr} {it:Addr} {u:Value} {o:Obj} {n:String} {vs:Array Value} {Q:Unit->Shared->Prop} (ho:s.heap.get? it=some o) (hc:o.cls = .type n) (hd:o.data = .fields vs)
  (hn:["enumerate", "zip", "dict_itemiterator", "dict_reverseitemiterator", "odict_iterator", "itertools.zip_longest", "itertools.pairwise"].contains n=false) (hQ:Q () s):wpAny M A (letOwnedTupleGo tg (.ref it) u) Q E s:=by
 unfold letOwnedTupleGo
 cases tg<;>first
  | exact wpAny_pure hQ
  | (cases u<;>first
    | exact wpAny_pure hQ
    | (refine wpAny_bind (wpAny_load ho ?_)
       rw [hc,hd]
       show wpAny M A (if (["enumerate", "zip", "dict_itemiterator", "dict_reverseitemiterator", "odict_iterator", "itertools.zip_longest", "itertools.pairwise"].contains n && vs[0]? == some (rawInt _))=true then _ else _) Q E s
       rw [if_neg (by intro h;rw [hn,Bool.false_and] at h;cases h)]
       exact wpAny_pure hQ))
def Itl (K:PySem.W.Frag) (a:Addr):It :=
 ⟨fun i H=>∃ xs x,SqL K H a xs/\xs[i]? = some x,fun i H x H' => H'=H/\∀ xs,SqL K H a xs->xs[i]? = some x,fun i H=>∃ xs,SqL K H a xs/\xs.length<=i⟩
def Itt (K:PySem.W.Frag) (a:Addr):It :=
 ⟨fun i H=>∃ xs x,SqT K H a xs/\xs[i]? = some x,fun i H x H' => H'=H/\∀ xs,SqT K H a xs->xs[i]? = some x,fun i H=>∃ xs,SqT K H a xs/\xs.length<=i⟩
def Itr (lo:Int) (n:Nat):It:=⟨fun i _=>i<n,fun i H x H' => H'=H/\x = .int (lo+i),fun i _=>n<=i⟩
theorem zgN {P:Program} {w:World} {K:PySem.W.Frag} {tg:Expr} (a it:Addr):Turn P w K tg (Itl K a) [it] it (fun i h=>h.IsListIter it a i) where
 mem:=by simp
 obj:=fun i h st b hb=>by
  have e:b=it:=by simpa using hb
  subst e
  obtain ⟨o,e,c,d⟩:=st
  exact ⟨o,e,fun v z=>by rw [d] at z;cases z⟩
 keep:=fun i h h' st k=>st.at fun o e=>k it (by simp) o e
 item:=by
  intro X hP hw hK hc i pins s σ H E I hf st hg
  subst hP hw hK
  obtain ⟨xs,x,hq,hx⟩:=hg
  obtain ⟨its,rv,p,hz⟩:=I.list hq
  obtain ⟨u,hu,ru⟩:=rv.get hx
  obtain ⟨f0,f1,f2,f3,f4,f5⟩:=hf it (by simp)
  refine wpAny_pyNext_list_item st p.isList (x:=u) (by simpa using hu) fun h' st' sb=>?_
  have I1:Inv X pins σ H { s with heap:=h' }:=I.turned (t' := s.toks) (fun b o hb e=>(sb.2 b hb).trans e) f0 f1 f3 f4 f5
  obtain ⟨o,e,c,d⟩:=id st'
  exact ⟨u,rfl,yeF (s:={ s with heap:=h' }) e c d (by decide) ⟨x,H,I1,ru,⟨rfl,fun ys hy=>by rw [I.list_inj hy hq];exact hx⟩,st',fun b hb=>(hf b hb).1⟩⟩
 done:=by
  intro X hP hw hK hc i pins s σ H E I hf st hg
  subst hP hw hK
  obtain ⟨xs,hq,hx⟩:=hg
  obtain ⟨its,rv,p,hz⟩:=I.list hq
  obtain ⟨f0,f1,f2,f3,f4,f5⟩:=hf it (by simp)
  have hl:=rv.length
  exact wpAny_pyNext_list_end (I.ok.hd hc) st p.isList (by simp;omega) fun h' eb=>⟨rfl,I.turned (t' := s.toks) (fun b o hb e=>eb b o hb e) f0 f1 f3 f4 f5⟩
 self:=fun _ _ _ _ _ st h=>wpAny_pyIter_listiter st h
theorem zgf {P:Program} {w:World} {K:PySem.W.Frag} {tg:Expr} (a it:Addr):Turn P w K tg (Itt K a) [it] it (fun i h=>h.IsTupleIter it a i) where
 mem:=by simp
 obj:=fun i h st b hb=>by
  have e:b=it:=by simpa using hb
  subst e
  obtain ⟨o,e,c,d⟩:=st
  exact ⟨o,e,fun v z=>by rw [d] at z;cases z⟩
 keep:=fun i h h' st k=>st.at fun o e=>k it (by simp) o e
 item:=by
  intro X hP hw hK hc i pins s σ H E I hf st hg
  subst hP hw hK
  obtain ⟨xs,x,hq,hx⟩:=hg
  obtain ⟨its,rv,p,hz⟩:=I.tuple hq
  obtain ⟨u,hu,ru⟩:=rv.get hx
  obtain ⟨f0,f1,f2,f3,f4,f5⟩:=hf it (by simp)
  refine wpAny_pyNext_tuple_item st (show s.heap.IsTuple a its.toArray from p) (x:=u) (by simpa using hu) fun h' st' sb=>?_
  have I1:Inv X pins σ H { s with heap:=h' }:=I.turned (t' := s.toks) (fun b o hb e=>(sb.2 b hb).trans e) f0 f1 f3 f4 f5
  obtain ⟨o,e,c,d⟩:=id st'
  exact ⟨u,rfl,yeF (s:={ s with heap:=h' }) e c d (by decide) ⟨x,H,I1,ru,⟨rfl,fun ys hy=>by rw [I.tuple_inj hy hq];exact hx⟩,st',fun b hb=>(hf b hb).1⟩⟩
 done:=by
  intro X hP hw hK hc i pins s σ H E I hf st hg
  subst hP hw hK
  obtain ⟨xs,hq,hx⟩:=hg
  obtain ⟨its,rv,p,hz⟩:=I.tuple hq
  obtain ⟨f0,f1,f2,f3,f4,f5⟩:=hf it (by simp)
  have hl:=rv.length
  exact wpAny_pyNext_tuple_end (I.ok.hd hc) st (show s.heap.IsTuple a its.toArray from p) (by simp;omega) fun h' eb=>⟨rfl,I.turned (t' := s.toks) (fun b o hb e=>eb b o hb e) f0 f1 f3 f4 f5⟩
 self:=fun _ _ _ _ _ st h=>wpAny_pyIter_tupleiter st h
theorem zgg {P:Program} {w:World} {K:PySem.W.Frag} {tg:Expr} (it:Addr) (lo:Int) (n:Nat):Turn P w K tg (Itr lo n) [it] it (fun i h=>IsRangeIter h it (lo+(i:Nat)*1) ((n:Int)-(i:Nat)) 1) where
 mem:=by simp
 obj:=fun i h st b hb=>by
  have e:b=it:=by simpa using hb
  subst e
  exact ⟨_,st,fun v z=>by
   have z':Data.fields _=Data.cell v:=z
   cases z'⟩
 keep:=fun i h h' st k=>k it (by simp) _ st
 item:=by
  intro X hP hw hK hc i pins s σ H E I hf st hg
  subst hP hw hK
  obtain ⟨f0,f1,f2,f3,f4,f5⟩:=hf it (by simp)
  have W:=Walks.range (prog:=X.prog) (w:=X.w) (I.ok.hd hc) it lo 1 n
  refine W.item i s _ _ hg st fun v h' tk hv st' kk=>?_
  obtain ⟨t,rfl⟩:=hv
  have I1:Inv X pins σ H { s with heap:=h',toks:=tk }:=I.turned (fun b o hb e=>kk b o (by simpa using hb) e) f0 f1 f3 f4 f5
  refine ⟨_,rfl,yeF (s:={ s with heap:=h',toks:=tk }) (n := "range_iterator") st' rfl rfl (by decide) ⟨.int (lo+i),H,I1,⟨t,?_⟩,⟨rfl,rfl⟩,st',fun b hb=>(hf b hb).1⟩⟩
  rw [Int.mul_one]
 done:=by
  intro X hP hw hK hc i pins s σ H E I hf st hg
  subst hP hw hK
  obtain ⟨f0,f1,f2,f3,f4,f5⟩:=hf it (by simp)
  exact wpAny_pyNext_range_end (I.ok.hd hc) st (by have:n<=i:=hg;omega) fun h' eb=>⟨rfl,I.turned (t' := s.toks) (fun b o hb e=>eb b o hb e) f0 f1 f3 f4 f5⟩
 self:=fun _ _ _ _ _ st h=>wpAny_pyIter_rangeiter st h
end L2
namespace L2
open PySem PySem.Spec PyProof.Rows
section
variable {X:Cx} {tg:Expr}
def yfN (K:PySem.W.Frag) (tl:TE):TI:=fun σ H R=>tl σ H fun x H1=>∃ a,x = .ref a/\(∃ xs,SqL K H1 a xs)/\R (Itl K a) H1
def iTup (K:PySem.W.Frag) (tl:TE):TI:=fun σ H R=>tl σ H fun x H1=>∃ a,x = .ref a/\(∃ xs,SqT K H1 a xs)/\R (Itt K a) H1
theorem ziz {l:Expr} {tl:TE} (hl:PE X l tl):PI X tg l (yfN X.K tl):=by
 intro pins s σ H R I h
 refine thn (hl pins s σ H _ I h) fun v s1 ⟨x,H1,I1,r1,q1⟩=>?_
 obtain ⟨a,e,⟨xs,hq⟩,q⟩:=q1
 subst e
 cases r1
 obtain ⟨its,rv,p,hz⟩:=I1.list hq
 refine wpAny_pyIter_list p.isList ?_
 refine ⟨s1.heap.objs.size,[s1.heap.objs.size],_,_,H1,rfl,I1.kept (t' := s1.toks) fun b o e=>Heap.get?_push_of_some _ e,zgN a _,⟨_,Heap.get?_push_size _ rfl,rfl,rfl⟩,fun b hb=>?_,q⟩
 have e:b=s1.heap.objs.size:=by simpa using hb
 subst e
 exact I1.fpOk (Nat.le_refl _) (I1.hok.fresh (Nat.le_refl _))
theorem ygp {l:Expr} {tl:TE} (hl:PE X l tl):PI X tg l (iTup X.K tl):=by
 intro pins s σ H R I h
 refine thn (hl pins s σ H _ I h) fun v s1 ⟨x,H1,I1,r1,q1⟩=>?_
 obtain ⟨a,e,⟨xs,hq⟩,q⟩:=q1
 subst e
 cases r1
 obtain ⟨its,rv,p,hz⟩:=I1.tuple hq
 refine wpAny_pyIter_tuple (show s1.heap.IsTuple a its.toArray from p) ?_
 refine ⟨s1.heap.objs.size,[s1.heap.objs.size],_,_,H1,rfl,I1.kept (t' := s1.toks) fun b o e=>Heap.get?_push_of_some _ e,zgf a _,⟨_,Heap.get?_push_size _ rfl,rfl,rfl⟩,fun b hb=>?_,q⟩
 have e:b=s1.heap.objs.size:=by simpa using hb
 subst e
 exact I1.fpOk (Nat.le_refl _) (I1.hok.fresh (Nat.le_refl _))
theorem zhG {pins:List (Addr×Obj)} {σ:St} {H:Hp} {s:Shared} {R:It->Hp->Prop} {E:Value->Shared->Prop} {lo hi:Int} {t u v:Tok} {tk:Nat} (I:Inv X pins σ H s) (h1 : -(2 ^ 62)<=lo) (h2:lo<2 ^ 62) (h3 : -(2 ^ 62)<=hi) (h4:hi<2 ^ 62)
  (q:R (Itr lo (hi-lo).toNat) H):wpAny (model X.prog X.w) X.A (pyIter (.ref s.heap.objs.size)) (PIE X pins σ tg R) E { s with heap:=s.heap.push { cls:=.type "range",data:=.fields #[.int lo t,.int hi u,.int 1 v] },toks:=tk }:=by
 refine wpAny_pyIter_range (IsRange.new ..) (small_one h1 h2 h3 h4) ?_
 have I1:Inv X pins σ H { s with heap:=s.heap.push { cls:=.type "range",data:=.fields #[.int lo t,.int hi u,.int 1 v] },toks:=tk }:=I.kept fun b o e=>Heap.get?_push_of_some _ e
 refine ⟨(s.heap.push { cls:=.type "range",data:=.fields #[.int lo t,.int hi u,.int 1 v] }).objs.size,[(s.heap.push { cls:=.type "range",data:=.fields #[.int lo t,.int hi u,.int 1 v] }).objs.size],_,_,H,rfl,
  I1.kept (t' := tk) fun b o e=>Heap.get?_push_of_some _ e,zgg _ lo (hi-lo).toNat,?_,fun b hb=>?_,q⟩
 ·have e1:lo+((0:Nat):Int)*1=lo:=by simp
  have e2:(((hi-lo).toNat:Nat):Int)-((0:Nat):Int)=Builtin.Range.rangeSize lo hi 1:=by rw [rangeSize_one];split<;>omega
  show IsRangeIter _ _ (lo+((0:Nat):Int)*1) ((((hi-lo).toNat:Nat):Int)-((0:Nat):Int)) 1
  rw [e1,e2]
  exact Heap.get?_push_size _ rfl
 ·have e:b=(s.heap.push { cls:=.type "range",data:=.fields #[.int lo t,.int hi u,.int 1 v] }).objs.size:=by simpa using hb
  subst e
  exact I1.fpOk (Nat.le_refl _) (I1.hok.fresh (Nat.le_refl _))
def yhn (ta:TA):TI:=fun σ H R=>ta σ H fun vs H1=>∃ j:Int,vs=[.int j] /\ -(2 ^ 62)<=j/\j<2 ^ 62/\R (Itr 0 j.toNat) H1
theorem zgO {a:Expr} {ta:TA} {p pos:Pos} (hg:Gl X "range") (hm:X.mg "range" = none) (ha:PA X [a] ta) (hs:starEach [a] X.env=[(false,eval a X.env)]:=by rfl):PI X tg (.Call (.Name "range" p) [a] [] pos) (yhn ta):=by
 intro pins s σ H R I h
 refine Call_ (ydX I hg hm boot_range (PyProof.Rows.callWith_type1 (thn (ha pos pins s σ H _ I h) fun us s1 ⟨vs,H1,I1,r1,q1⟩=>?_) hs rfl))
 obtain ⟨j,e,q1,q2,q⟩:=q1
 subst e
 cases r1 with
 | cons r rr =>
  cases rr
  obtain ⟨t,rfl⟩:=r
  exact call_range_1 (zhG I1 (by omega) (by omega) q1 q2 (by simpa using q))
def tFor (wi:TI) (g:TG) (tb:TS):TS:=fun D σ H=>wi σ H fun J H1=>∃ W:Nat->Nat->St->Hp->Prop,(∃ m,W 0 m σ H1)/\∀ i m σ H,W i m σ H ->
 (J.stop i H/\D.nx σ H)\/(J.go i H/\∃ N:St->Hp->Prop,(∀ σ' H',N σ' H'->∃ m',m'<m/\W (i+1) m' σ' H')/\∀ x H',J.yld i H x H'->g x σ H' fun σ2 H2=>tb { D with nx:=N,ct:=N,bk:=D.nx } σ2 H2)
def ybT (fp:List Addr) (h:Heap):List (Addr×Obj):=fp.filterMap fun b=>(h.get? b).map fun o=>(b,o)
theorem za2 {fp:List Addr} {h:Heap} {b:Addr} {o:Obj} (hb:b∈fp) (e:h.get? b=some o):(b,o)∈ybT fp h:=List.mem_filterMap.mpr ⟨b,hb,by rw [e];rfl⟩
theorem zgP {fp:List Addr} {h:Heap} {p:Addr×Obj} (hp:p∈ybT fp h):p.1∈fp/\h.get? p.1=some p.2:=by
 obtain ⟨b,hb,e⟩:=List.mem_filterMap.mp hp
 cases q:h.get? b with
 | none=>rw [q] at e;cases e
 | some o =>
  rw [q] at e
  have e':(b,o)=p:=Option.some.inj e
  subst e'
  exact ⟨hb,q⟩
theorem Inv.pinned {pins:List (Addr×Obj)} {σ:St} {H:Hp} {s:Shared} {fp:List Addr} (I:Inv X pins σ H s) (hf:∀ b∈fp,FpOk X pins H b) (ho:∀ b∈fp,∃ o,s.heap.get? b=some o/\∀ v,o.data ≠ .cell v):Inv X (pins++ybT fp s.heap) σ H s :=
 I.pins_of fun p hp=>(List.mem_append.mp hp).elim (fun z=>I.pin p (List.mem_append_right _ z)) fun z=>by
  obtain ⟨hb,e⟩:=zgP z
  obtain ⟨f0,f1,f2,_⟩:=hf p.1 hb
  obtain ⟨o,e',d⟩:=ho p.1 hb
  rw [e] at e';cases e'
  exact ⟨e,f0,f1,f2,d⟩
theorem Inv.unpinned {pins pl:List (Addr×Obj)} {σ:St} {H:Hp} {s:Shared} (I:Inv X (pins++pl) σ H s):Inv X pins σ H s:=I.pins_of fun p hp=>I.pin p (List.mem_append_right _ (List.mem_append_left _ hp))
theorem ygq {iter:Expr} {body:List Stmt} {wi:TI} {g:TG} {tb:TS} {pos:Pos} (hp:PassesOwn (model X.prog X.w) X.A X.env X.xe) (hc:X.calm=true) (hi:PI X tg iter wi) (hg:PG X tg g) (hb:PSs X body tb)
  (hs:∀ x,foldedSetIterable iter X.env x=pure x:=by intro _;rfl):PS X (.For tg iter body [] pos) (tFor wi g tb):=by
 intro pins s σ H D I h
 refine wpAny_For (thn (hi pins s σ H _ I h) fun v s1 h1=>thn h1 fun itv s2 h2=>?_) hs
 obtain ⟨it,fp,tn,J,H2,e,I2,T,st2,f2,W,⟨m0,w0⟩,turn⟩:=h2
 subst e
 have stat:∀ {H':Hp},(∀ b∈fp,H' b=none)->∀ b∈fp,FpOk X pins H' b:=fun hn b hb=>⟨hn b hb,(f2 b hb).2⟩
 refine codeAny_forLoop_any (fun n s' => ∃ i σ' H',Inv X pins σ' H' s'/\tn i s'.heap/\(∀ b∈fp,H' b=none)/\W i n σ' H') ?_ m0 ⟨0,σ,H2,I2,st2,fun b hb=>(f2 b hb).1,w0⟩
 rintro n s3 ⟨i,σ3,H3,I3,st3,fr3,w3⟩
 rcases turn i n σ3 H3 w3 with ⟨stop,qn⟩ | ⟨go,N,hN,step⟩
 ·refine wpAny_passesOwn hp (thn (T.done X rfl rfl rfl hc i pins s3 σ3 H3 X.xe I3 (stat fr3) st3 stop) fun r s4 ⟨hr,I4⟩=>?_)
  subst hr
  exact wpAny_execs_nil ⟨σ3,H3,I4,qn⟩
 ·refine wpAny_passesOwn hp (thn (T.item X rfl rfl rfl hc i pins s3 σ3 H3 X.xe I3 (stat fr3) st3 go) fun r s4 ⟨u,hr,h4⟩=>?_)
  subst hr
  refine wpAny_passesOwn hp (thn h4 fun _ s5 ⟨x,H5,I5,r5,y5,st5,fr5⟩=>?_)
  have I5' := I5.pinned (stat fr5) (T.obj _ _ st5)
  refine wpAny_passesOwn hp (thn (hg _ s5 σ3 H5 x u _ I5' r5 (step x H5 y5)) fun _ s6 ⟨σ6,H6,I6,q6⟩=>?_)
  refine wpAny_passesOwn hp (thn (hb _ s6 σ6 H6 _ I6 q6) fun f s7 q7=>?_)
  have again:∀ {σ7:St} {H7:Hp},Inv X (pins++ybT fp s5.heap) σ7 H7 s7->N σ7 H7->∃ m,m<n/\∃ i σ' H',Inv X pins σ' H' s7/\tn i s7.heap/\(∀ b∈fp,H' b=none)/\W i m σ' H' := fun {σ7 H7} I7 n7=>by
   obtain ⟨m',hm,w7⟩:=hN σ7 H7 n7
   refine ⟨m',hm,i+1,σ7,H7,I7.unpinned,T.keep _ _ _ st5 fun b hb o e=>(I7.pin (b,o) (List.mem_append_right _ (List.mem_append_right _ (za2 hb e)))).1,fun b hb=>?_,w7⟩
   obtain ⟨o,e,d⟩:=T.obj _ _ st5 b hb
   exact (I7.pin (b,o) (List.mem_append_right _ (List.mem_append_right _ (za2 hb e)))).2.1
  cases f with
  | next=>obtain ⟨σ7,H7,I7,n7⟩:=q7;exact again I7 n7
  | cont=>obtain ⟨σ7,H7,I7,n7⟩:=q7;exact again I7 n7
  | brk=>obtain ⟨σ7,H7,I7,q7⟩:=q7;exact ⟨σ7,H7,I7.unpinned,q7⟩
  | ret v=>obtain ⟨x7,σ7,H7,I7,r7,q7⟩:=q7;exact ⟨x7,σ7,H7,I7.unpinned,r7,q7⟩
end
end L2
namespace L2
open PySem PySem.Spec PyProof.Rows
abbrev R2:=V->V->Hp->VK->Prop
def OpR (X:Cx) (f:Value->Value->Sem Value) (r:R2):Prop :=
 ∀ (pins:List (Addr×Obj)) (s:Shared) (σ:St) (H:Hp) (x y:V) (v u:Value) (Q:VK),Inv X pins σ H s->RelV x v->RelV y u->r x y H Q ->
  wpAny (model X.prog X.w) X.A (f v u) (EP X pins σ Q) X.xe s
def UnR (X:Cx) (f:Value->Sem Value) (r:V->Hp->VK->Prop):Prop :=
 ∀ (pins:List (Addr×Obj)) (s:Shared) (σ:St) (H:Hp) (x:V) (v:Value) (Q:VK),Inv X pins σ H s->RelV x v->r x H Q ->
  wpAny (model X.prog X.w) X.A (f v) (EP X pins σ Q) X.xe s
def CallR (X:Cx) (f:Value) (r:List V->Hp->VK->Prop):Prop :=
 ∀ (pins:List (Addr×Obj)) (s:Shared) (σ:St) (H:Hp) (xs:List V) (us:List Value) (Q:VK),Inv X pins σ H s->Vals xs us->r xs H Q ->
  wpAny (model X.prog X.w) X.A (call f us) (EP X pins σ Q) X.xe s
def TruR (X:Cx) (r:V->Hp->(Bool->Hp->Prop)->Prop):Prop :=
 ∀ (pins:List (Addr×Obj)) (s:Shared) (σ:St) (H:Hp) (x:V) (v:Value) (Q:Bool->Hp->Prop),Inv X pins σ H s->RelV x v->r x H Q ->
  wpAny (model X.prog X.w) X.A (truthy v) (TP X pins σ Q) X.xe s
def tOp (r:R2) (ta tb:TE):TE:=fun σ H Q=>ta σ H fun x H1=>tb σ H1 fun y H2=>r x y H2 Q
def tUn (r:V->Hp->VK->Prop) (ta:TE):TE:=fun σ H Q=>ta σ H fun x H1=>r x H1 Q
def rI (C:Int->Int->Prop) (g:Int->Int->V):R2:=fun x y H Q=>∃ i j,x = .int i/\y = .int j/\C i j/\Q (g i j) H
def rI0 (g:Int->Int->V):R2:=fun x y H Q=>∃ i j,x = .int i/\y = .int j/\Q (g i j) H
def rU (g:Int->V):V->Hp->VK->Prop:=fun x H Q=>∃ i,x = .int i/\Q (g i) H
section
variable {X:Cx} {a b c:Expr} {ta tb tc:TE} {pos:Pos}
theorem binT (ha:PE X a ta) (hb:PE X b tb) {pins:List (Addr×Obj)} {s:Shared} {σ:St} {H:Hp} {R:V->V->Hp->Prop} (I:Inv X pins σ H s)
  (h:ta σ H fun x H1=>tb σ H1 fun y H2=>R x y H2) {Q:Value->Shared->Prop} {f:Value->Value->Sem Value}
  (hf:∀ v u s2 x y H2,Inv X pins σ H2 s2->RelV x v->RelV y u->R x y H2->wpAny (model X.prog X.w) X.A (f v u) Q X.xe s2) :
  wpAny (model X.prog X.w) X.A (eval a X.env) (fun v s₁=>wpAny (model X.prog X.w) X.A (eval b X.env) (fun u s₂=>wpAny (model X.prog X.w) X.A (f v u) Q X.xe s₂) X.xe s₁) X.xe s:=by
 refine thn (ha pins s σ H _ I h) fun v s1 ⟨x,H1,I1,r1,q1⟩=>?_
 refine thn (hb pins s1 σ H1 _ I1 q1) fun u s2 ⟨y,H2,I2,r2,q2⟩=>?_
 exact hf v u s2 x y H2 I2 r1 r2 q2
theorem yho {op:Operator} {r:R2} (ho:OpR X (binaryOp op) r) (ha:PE X a ta) (hb:PE X b tb):PE X (.BinOp a op b pos) (tOp r ta tb):=by
 intro pins s σ H Q I h
 exact wpAny_BinOp (binT ha hb I h fun v u s2 x y H2 I2 rx ry q=>ho pins s2 σ H2 x y v u Q I2 rx ry q)
theorem yhp {op:UnaryOp} {r:V->Hp->VK->Prop} (ho:UnR X (unaryOp op) r) (ha:PE X a ta):PE X (.UnaryOp op a pos) (tUn r ta):=by
 intro pins s σ H Q I h
 exact UnaryOp_ (thn (ha pins s σ H _ I h) fun v s1 ⟨x,H1,I1,r1,q1⟩=>ho pins s1 σ H1 x v Q I1 r1 q1)
theorem opI {f:Value->Value->Sem Value} {C:Int->Int->Prop} {g:Int->Int->Int}
  (rule:∀ (i j:Int) (t u:Tok) (s:Shared) (Q:Value->Shared->Prop) (E:Value->Shared->Prop),C i j->Q (.int (g i j) s.toks) { s with toks:=s.toks+1 }->wpAny (model X.prog X.w) X.A (f (.int i t) (.int j u)) Q E s) :
  OpR X f (rI C fun i j=>.int (g i j)):=by
 intro pins s σ H x y v u Q I rx ry h
 obtain ⟨i,j,rfl,rfl,hc,q⟩:=h
 obtain ⟨t,rfl⟩:=rx
 obtain ⟨t',rfl⟩:=ry
 exact rule i j t t' s _ _ hc ⟨.int (g i j),H,I.tok _,⟨_,rfl⟩,q⟩
theorem opI0 {f:Value->Value->Sem Value} {g:Int->Int->Int}
  (rule:∀ (i j:Int) (t u:Tok) (s:Shared) (Q:Value->Shared->Prop) (E:Value->Shared->Prop),Q (.int (g i j) s.toks) { s with toks:=s.toks+1 }->wpAny (model X.prog X.w) X.A (f (.int i t) (.int j u)) Q E s) :
  OpR X f (rI0 fun i j=>.int (g i j)):=by
 intro pins s σ H x y v u Q I rx ry h
 obtain ⟨i,j,rfl,rfl,q⟩:=h
 obtain ⟨t,rfl⟩:=rx
 obtain ⟨t',rfl⟩:=ry
 exact rule i j t t' s _ _ ⟨.int (g i j),H,I.tok _,⟨_,rfl⟩,q⟩
theorem opB0 {f:Value->Value->Sem Value} {g:Int->Int->Bool}
  (rule:∀ (i j:Int) (t u:Tok) (s:Shared) (Q:Value->Shared->Prop) (E:Value->Shared->Prop),Q (.bool (g i j)) s->wpAny (model X.prog X.w) X.A (f (.int i t) (.int j u)) Q E s) :
  OpR X f (rI0 fun i j=>.bl (g i j)):=by
 intro pins s σ H x y v u Q I rx ry h
 obtain ⟨i,j,rfl,rfl,q⟩:=h
 obtain ⟨t,rfl⟩:=rx
 obtain ⟨t',rfl⟩:=ry
 exact rule i j t t' s _ _ ⟨.bl (g i j),H,I,rfl,q⟩
def CPow (i j:Int):Prop:=0<=j/\j<=1000000/\i.natAbs<2 ^ 64
def CMul (i j:Int):Prop:=(-(2 ^ 64)<i/\i<2 ^ 64)\/(-(2 ^ 64)<j/\j<2 ^ 64)
theorem CMul.ok {i j:Int} (h:CMul i j):IntMulOk i j:=by
 rcases h with ⟨h1,h2⟩ | ⟨h1,h2⟩
 ·exact .of_left (intBits_le_64 h1 h2)
 ·exact .of_right (intBits_le_64 h1 h2)
theorem op_add:OpR X (binaryOp .Add) (rI0 fun i j=>.int (i+j)):=opI0 fun _ _ _ _ _ _ _ q=>add_int q
theorem ygr:OpR X (binaryOp .Sub) (rI0 fun i j=>.int (i-j)):=opI0 fun _ _ _ _ _ _ _ q=>sub_int q
theorem ygs:OpR X (binaryOp .Mod) (rI (fun _ j=>0<j) fun i j=>.int (i % j)):=opI fun i j _ _ _ _ _ hc q=>by
 have h1:(0:Int)<j:=hc
 exact mod_int' (by omega) (by rw [Int.fmod_eq_emod_of_nonneg i (by omega)];exact q)
theorem ygt:OpR X (binaryOp .Pow) (rI CPow fun i j=>.int (i ^ j.toNat)):=opI fun _ _ _ _ _ _ _ hc q=>pow_int_small hc.1 hc.2.1 hc.2.2 q
theorem unI {f:Value->Sem Value} {g:Int->Int}
  (rule:∀ (i:Int) (t:Tok) (s:Shared) (Q:Value->Shared->Prop) (E:Value->Shared->Prop),Q (.int (g i) s.toks) { s with toks:=s.toks+1 }->wpAny (model X.prog X.w) X.A (f (.int i t)) Q E s) :
  UnR X f (rU fun i=>.int (g i)):=by
 intro pins s σ H x v Q I rx h
 obtain ⟨i,rfl,q⟩:=h
 obtain ⟨t,rfl⟩:=rx
 exact rule i t s _ _ ⟨.int (g i),H,I.tok _,⟨_,rfl⟩,q⟩
theorem ygu:UnR X (unaryOp .USub) (rU fun i=>.int (-i)):=unI fun _ _ _ _ _ q=>neg_int q
end
def scal:V->V->Bool
 | .non,.non=>true | .non,.int _=>true | .int _,.non=>true | .non,.bl _=>true | .bl _,.non=>true | .non,.str _=>true | .str _,.non=>true
 | .int _,.int _=>true | .bl _,.bl _=>true | .str _,.str _=>true | .byt _,.byt _=>true
 | .int _,.str _=>true | .str _,.int _=>true | .bl _,.str _=>true | .str _,.bl _=>true
 | _,_=>false
def rEq:R2:=fun x y H Q=>scal x y=true/\Q (.bl (decide (x=y))) H
def rNe:R2:=fun x y H Q=>scal x y=true/\Q (.bl (!decide (x=y))) H
theorem zfy {i j:Int}:decide (V.int i=V.int j)=(i == j):=by
 rw [Bool.eq_iff_iff]
 simp
theorem yfj {i j:Bool}:decide (V.bl i=V.bl j)=(i == j):=by
 rw [Bool.eq_iff_iff]
 simp
theorem zfz {i j:Str}:decide (V.str i=V.str j)=(i == j):=by
 rw [Bool.eq_iff_iff]
 simp
theorem zfA {i j:Array UInt8}:decide (V.byt i=V.byt j)=(i.toList == j.toList):=by
 rw [Bool.eq_iff_iff]
 cases i
 cases j
 simp
section
variable {X:Cx} {a b c:Expr} {ta tb tc:TE} {pos:Pos}
theorem yaQ {pins:List (Addr×Obj)} {σ:St} {H:Hp} {s:Shared} {Q:VK} {k k':Bool} (I:Inv X pins σ H s) (q:Q (.bl k) H) (e:k=k'):EP X pins σ Q (.bool k') s:=by
 subst e
 exact ⟨.bl k,H,I,rfl,q⟩
theorem op_eq:OpR X (compareOp .Eq) rEq:=by
 intro pins s σ H x y v u Q I rx ry h
 obtain ⟨hs,q⟩:=h
 cases x with
 | non =>
  cases rx
  cases y with
  | non=>cases ry;exact PySem.EqNone.eq_none_none (yaQ I q (by simp))
  | bl j=>cases ry;exact PySem.EqNone.eq_none_bool (yaQ I q (by simp))
  | int j=>obtain ⟨t',rfl⟩:=ry;exact PySem.EqNone.eq_none_int (yaQ I q (by simp))
  | str j=>obtain ⟨t',rfl⟩:=ry;exact PySem.EqNone.eq_none_str (yaQ I q (by simp))
  | _=>exact absurd (show false=true from hs) Bool.false_ne_true
 | bl i =>
  cases rx
  cases y with
  | non=>cases ry;exact PySem.EqNone.eq_bool_none (yaQ I q (by simp))
  | bl j=>cases ry;exact eq_bool (yaQ I q yfj)
  | str j=>obtain ⟨t',rfl⟩:=ry;exact PySem.EqMixed.eq_bool_str (yaQ I q (by simp))
  | _=>exact absurd (show false=true from hs) Bool.false_ne_true
 | int i =>
  obtain ⟨t,rfl⟩:=rx
  cases y with
  | non=>cases ry;exact PySem.EqNone.eq_int_none (yaQ I q (by simp))
  | int j=>obtain ⟨t',rfl⟩:=ry;exact eq_int (yaQ I q zfy)
  | str j=>obtain ⟨t',rfl⟩:=ry;exact PySem.EqMixed.eq_int_str (yaQ I q (by simp))
  | _=>exact absurd (show false=true from hs) Bool.false_ne_true
 | str i =>
  obtain ⟨t,rfl⟩:=rx
  cases y with
  | non=>cases ry;exact PySem.EqNone.eq_str_none (yaQ I q (by simp))
  | bl j=>cases ry;exact PySem.EqMixed.eq_str_bool (yaQ I q (by simp))
  | int j=>obtain ⟨t',rfl⟩:=ry;exact PySem.EqMixed.eq_str_int (yaQ I q (by simp))
  | str j=>obtain ⟨t',rfl⟩:=ry;exact eq_str (yaQ I q zfz)
  | _=>exact absurd (show false=true from hs) Bool.false_ne_true
 | byt i =>
  obtain ⟨t,rfl⟩:=rx
  cases y with
  | byt j=>obtain ⟨t',rfl⟩:=ry;exact PySem.W.eq_bytes (yaQ I q zfA)
  | _=>exact absurd (show false=true from hs) Bool.false_ne_true
 | _=>cases y<;>exact absurd (show false=true from hs) Bool.false_ne_true
theorem op_ne:OpR X (compareOp .NotEq) rNe:=by
 intro pins s σ H x y v u Q I rx ry h
 obtain ⟨hs,q⟩:=h
 cases x with
 | non =>
  cases rx
  cases y with
  | non=>cases ry;exact PySem.EqNone.ne_none_none (yaQ I q (by simp))
  | bl j=>cases ry;exact PySem.EqNone.ne_none_bool (yaQ I q (by simp))
  | int j=>obtain ⟨t',rfl⟩:=ry;exact PySem.EqNone.ne_none_int (yaQ I q (by simp))
  | str j=>obtain ⟨t',rfl⟩:=ry;exact PySem.EqNone.ne_none_str (yaQ I q (by simp))
  | _=>exact absurd (show false=true from hs) Bool.false_ne_true
 | bl i =>
  cases rx
  cases y with
  | non=>cases ry;exact PySem.EqNone.ne_bool_none (yaQ I q (by simp))
  | bl j=>cases ry;exact ne_bool (yaQ I q (congrArg not yfj))
  | str j=>obtain ⟨t',rfl⟩:=ry;exact PySem.EqMixed.ne_bool_str (yaQ I q (by simp))
  | _=>exact absurd (show false=true from hs) Bool.false_ne_true
 | int i =>
  obtain ⟨t,rfl⟩:=rx
  cases y with
  | non=>cases ry;exact PySem.EqNone.ne_int_none (yaQ I q (by simp))
  | int j=>obtain ⟨t',rfl⟩:=ry;exact ne_int (yaQ I q (congrArg not zfy))
  | str j=>obtain ⟨t',rfl⟩:=ry;exact PySem.EqMixed.ne_int_str (yaQ I q (by simp))
  | _=>exact absurd (show false=true from hs) Bool.false_ne_true
 | str i =>
  obtain ⟨t,rfl⟩:=rx
  cases y with
  | non=>cases ry;exact PySem.EqNone.ne_str_none (yaQ I q (by simp))
  | bl j=>cases ry;exact PySem.EqMixed.ne_str_bool (yaQ I q (by simp))
  | int j=>obtain ⟨t',rfl⟩:=ry;exact PySem.EqMixed.ne_str_int (yaQ I q (by simp))
  | str j=>obtain ⟨t',rfl⟩:=ry;exact ne_str (yaQ I q (congrArg not zfz))
  | _=>exact absurd (show false=true from hs) Bool.false_ne_true
 | byt i =>
  obtain ⟨t,rfl⟩:=rx
  cases y with
  | byt j=>obtain ⟨t',rfl⟩:=ry;exact PySem.W.ne_bytes (yaQ I q (congrArg not zfA))
  | _=>exact absurd (show false=true from hs) Bool.false_ne_true
 | _=>cases y<;>exact absurd (show false=true from hs) Bool.false_ne_true
theorem op_lt:OpR X (compareOp .Lt) (rI0 fun i j=>.bl (decide (i<j))):=opB0 fun _ _ _ _ _ _ _ q=>lt_int q
theorem op_le:OpR X (compareOp .LtE) (rI0 fun i j=>.bl (decide (i<=j))):=opB0 fun _ _ _ _ _ _ _ q=>le_int q
theorem yhq:OpR X (compareOp .Gt) (rI0 fun i j=>.bl (decide (j<i))):=opB0 fun _ _ _ _ _ _ _ q=>gt_int q
theorem yhr:OpR X (compareOp .GtE) (rI0 fun i j=>.bl (decide (j<=i))):=opB0 fun _ _ _ _ _ _ _ q=>ge_int q
theorem zgQ:OpR X (compareOp .Lt) (fun x y H Q=>∃ i j,x = .str i/\y = .str j/\Q (.bl (decide (i.cps.toList<j.cps.toList))) H):=by
 intro pins s σ H x y v u Q I rx ry h
 obtain ⟨i,j,rfl,rfl,q⟩:=h
 obtain ⟨t,rfl⟩:=rx
 obtain ⟨t',rfl⟩:=ry
 exact lt_str (yaQ I q rfl)
theorem OpR.or {f:Value->Value->Sem Value} {r r':R2} (h:OpR X f r) (h':OpR X f r'):OpR X f (fun x y H Q=>r x y H Q\/r' x y H Q):=by
 intro pins s σ H x y v u Q I rx ry q
 rcases q with q | q
 ·exact h pins s σ H x y v u Q I rx ry q
 ·exact h' pins s σ H x y v u Q I rx ry q
theorem yau (b:Expr) {op:CmpOp} (h:op ≠ .In:=by decide) (h2:op ≠ .NotIn:=by decide):behindInMarks op b=false:=by
 have e1:(op == CmpOp.In)=false:=by cases op<;>first | rfl | exact absurd rfl h
 have e2:(op == CmpOp.NotIn)=false:=by cases op<;>first | rfl | exact absurd rfl h2
 cases b<;>simp [behindInMarks,e1,e2]
theorem ziA {op:CmpOp} {r:R2} (ho:OpR X (compareOp op) r) (ha:PE X a ta) (hb:PE X b tb) (hm:behindInMarks op b=false):PE X (.Compare a [op] [b] pos) (tOp r ta tb):=by
 intro pins s σ H Q I h
 exact wpAny_Compare1 (binT ha hb I h fun v u s2 x y H2 I2 rx ry q=>ho pins s2 σ H2 x y v u Q I2 rx ry q) hm
def ye1 (t:TE):TT:=fun σ H Q=>t σ H fun x H' => ∃ k,x = .bl k/\Q k H'
theorem ziB {op:CmpOp} {r:R2} (ho:OpR X (compareOp op) r) (ha:PE X a ta) (hb:PE X b tb) (hm:behindInMarks op b=false):PT X (.Compare a [op] [b] pos) (ye1 (tOp r ta tb)):=by
 intro pins s σ H Q I h
 refine wpAny_isTrue_Compare1 (thn (ha pins s σ H _ I h) fun v s1 ⟨x,H1,I1,r1,q1⟩=>thn (hb pins s1 σ H1 _ I1 q1) fun u s2 ⟨y,H2,I2,r2,q2⟩ =>
  thn (ho pins s2 σ H2 x y v u _ I2 r1 r2 q2) fun c s3 ⟨z,H3,I3,r3,k,e,q3⟩=>?_) hm
 subst e
 cases r3
 exact wpAny_truthy_bool ⟨H3,I3,q3⟩
def yeN (r r':R2) (ta tb tc:TE):TE:=fun σ H Q=>ta σ H fun x H1=>tb σ H1 fun y H2=>r x y H2 fun z H3=>∃ k,z = .bl k /\
 (if k=true then tc σ H3 fun w' H4=>r' y w' H4 Q else Q (.bl false) H3)
theorem zhH {op op':CmpOp} {r r':R2} (ho:OpR X (compareOp op) r) (ho':OpR X (compareOp op') r') (ha:PE X a ta) (hb:PE X b tb) (hc:PE X c tc)
  (hm:lastMarks [op,op'] [b,c]=false:=by with_unfolding_all rfl):PE X (.Compare a [op,op'] [b,c] pos) (yeN r r' ta tb tc):=by
 intro pins s σ H Q I h
 refine Compare_chain (thn (ha pins s σ H _ I h) fun v s1 ⟨x,H1,I1,r1,q1⟩=>chain_link (thn (hb pins s1 σ H1 _ I1 q1) fun u s2 ⟨y,H2,I2,r2,q2⟩ =>
  thn (ho pins s2 σ H2 x y v u _ I2 r1 r2 q2) fun d s3 ⟨z,H3,I3,r3,k,e,q3⟩=>?_)) hm
 subst e
 cases r3
 refine wpAny_truthy_bool ?_
 cases k with
 | false=>exact ite_ff ⟨.bl false,H3,I3,rfl,q3⟩
 | true=>exact ite_tt (chain_last (thn (hc pins s3 σ H3 _ I3 q3) fun w' s4 ⟨z',H4,I4,r4,q4⟩=>ho' pins s4 σ H4 y z' u w' Q I4 r2 r4 q4))
theorem zhI {op op':CmpOp} {r r':R2} (ho:OpR X (compareOp op) r) (ho':OpR X (compareOp op') r') (ha:PE X a ta) (hb:PE X b tb) (hc:PE X c tc)
  (hm:lastMarks [op,op'] [b,c]=false:=by with_unfolding_all rfl):PT X (.Compare a [op,op'] [b,c] pos) (ye1 (yeN r r' ta tb tc)):=by
 intro pins s σ H Q I h
 refine isTrue_chain (thn (ha pins s σ H _ I h) fun v s1 ⟨x,H1,I1,r1,q1⟩=>test_link (thn (hb pins s1 σ H1 _ I1 q1) fun u s2 ⟨y,H2,I2,r2,q2⟩ =>
  thn (ho pins s2 σ H2 x y v u _ I2 r1 r2 q2) fun d s3 ⟨z,H3,I3,r3,k,e,q3⟩=>?_)) hm
 subst e
 cases r3
 refine wpAny_truthy_bool ?_
 cases k with
 | false =>
  obtain ⟨k',e',q'⟩:=q3
  cases e'
  exact ite_ff ⟨H3,I3,q'⟩
 | true =>
  refine ite_tt (test_last (thn (hc pins s3 σ H3 _ I3 q3) fun w' s4 ⟨z',H4,I4,r4,q4⟩=>thn (ho' pins s4 σ H4 y z' u w' _ I4 r2 r4 q4) fun d' s5 ⟨z2,H5,I5,r5,k2,e2,q5⟩=>?_))
  subst e2
  cases r5
  exact wpAny_truthy_bool ⟨H5,I5,q5⟩
def TruV (K:PySem.W.Frag) (x:V) (H:Hp) (k:Bool):Prop :=
 match x with
 | .non=>k=false
 | .bl b=>k=b
 | .int i=>k=(i != 0)
 | .str y=>y.length<=sizeLine/\k=((y.length:Int) != 0)
 | .byt y=>y.size<=sizeLine/\k=((y.size:Int) != 0)
 | .ref p=>(∃ xs,SqL K H p xs/\k = !xs.isEmpty)\/(∃ xs,SqT K H p xs/\k = !xs.isEmpty)\/∃ kvs,H p=some (.dK kvs)/\k = !kvs.isEmpty
 | _=>False
theorem zgh {κ:Type} {kvs:List (κ×V)} {vs:List (κ×Value)} (r:KV kvs vs):(!vs.isEmpty) = !kvs.isEmpty:=by
 cases r<;>rfl
theorem zdv {xs:List V} {its:List Value} (r:Vals xs its):(!its.toArray.isEmpty) = !xs.isEmpty:=by
 cases r<;>simp
theorem ydQ:(sizeLine:Nat)<2 ^ 63:=by rw [sizeLine_eq];decide
theorem ygv:TruR X (fun x H Q=>∃ k,TruV X.K x H k/\Q k H):=by
 intro pins s σ H x v Q I rx h
 obtain ⟨k,e,q⟩:=h
 have hl:=ydQ
 have hs:sizeLine=16777216:=sizeLine_eq
 cases x with
 | non =>
  cases rx
  have e':k=false:=e
  subst e'
  exact truthy_none ⟨H,I,q⟩
 | bl b =>
  cases rx
  have e':k=b:=e
  subst e'
  exact wpAny_truthy_bool ⟨H,I,q⟩
 | int i =>
  obtain ⟨t,rfl⟩:=rx
  have e':k=(i != 0):=e
  subst e'
  exact PySem.P.truthy_int ⟨H,I,q⟩
 | str y =>
  obtain ⟨t,rfl⟩:=rx
  obtain ⟨hy,e'⟩:y.length<=sizeLine/\k=((y.length:Int) != 0):=e
  subst e'
  exact PySem.P.truthy_str (by omega) ⟨H,I.tok _,q⟩
 | byt y =>
  obtain ⟨t,rfl⟩:=rx
  obtain ⟨hy,e'⟩:y.size<=sizeLine/\k=((y.size:Int) != 0):=e
  subst e'
  exact PySem.W.truthy_bytes (by omega) ⟨H,I.tok _,q⟩
 | ref p =>
  cases rx
  have e':(∃ xs,SqL X.K H p xs/\k = !xs.isEmpty)\/(∃ xs,SqT X.K H p xs/\k = !xs.isEmpty)\/∃ kvs,H p=some (.dK kvs)/\k = !kvs.isEmpty:=e
  rcases e' with ⟨xs,hx,e'⟩ | ⟨xs,hx,e'⟩ | ⟨kvs,hx,e'⟩
  ·subst e'
   obtain ⟨its,r,pl,hz⟩:=I.list hx
   have hlen:=r.length
   exact wpAny_truthy_list pl.isList (by simp only [List.size_toArray];omega) ⟨H,I.tok _,by rw [zdv r];exact q⟩
  ·subst e'
   obtain ⟨its,r,pl,hz⟩:=I.tuple hx
   have hlen:=r.length
   exact truthy_tuple pl (by simp only [List.size_toArray];omega) ⟨H,I.tok _,by rw [zdv r];exact q⟩
  ·subst e'
   obtain ⟨hz,hS,vs,r,m⟩:kvs.length<=sizeLine/\(p == sysModules)=false/\∃ vs,KV kvs vs/\s.heap.DictOf (ybv X.prog X.w) p vs:=I.hok p _ hx
   have hlen:kvs.length=vs.length:=Paired.length r
   exact wpAny_truthy_dict hS m (by omega) ⟨H,I.tok _,by rw [zgh r];exact q⟩
 | _=>exact (show False from e).elim
theorem zhJ (ha:PE X a ta) (he:∀ whole,isTrue a X.env whole=(do let v <- whole;standAt a.pos;holding [v] (truthy v))) :
  PT X a (fun σ H Q=>ta σ H fun x H' => ∃ k,TruV X.K x H' k/\Q k H'):=by
 intro pins s σ H Q I h
 exact isTrue_plain (thn (ha pins s σ H _ I h) fun v s1 ⟨x,H1,I1,r1,q1⟩=>ygv pins s1 σ H1 x v Q I1 r1 q1) (he _)
theorem zgi:OpR X (binaryOp .Add) (fun x y H Q=>∃ i j,x = .str i/\y = .str j/\i.length+j.length<=sizeLine/\Q (.str (i++j)) H):=by
 intro pins s σ H x y v u Q I rx ry h
 obtain ⟨i,j,rfl,rfl,hz,q⟩:=h
 obtain ⟨t,rfl⟩:=rx
 obtain ⟨t',rfl⟩:=ry
 exact add_str (fun t' tk=>⟨.str (i++j),H,I.tok _,⟨_,rfl⟩,q⟩) hz
theorem ydy {x:V} {us:List Value} (r:Vals [x] us):∃ u,us=[u]/\RelV x u:=by
 cases r with
 | cons r1 r2=>cases r2;exact ⟨_,rfl,r1⟩
theorem ye2 {x y:V} {us:List Value} (r:Vals [x,y] us):∃ u w',us=[u,w']/\RelV x u/\RelV y w' := by
 cases r with
 | cons r1 r2 =>
  cases r2 with
  | cons r3 r4=>cases r4;exact ⟨_,_,rfl,r1,r3⟩
theorem zhK:CallR X (.builtin "abs") (fun xs H Q=>∃ i,xs=[.int i]/\Q (.int (if i<0 then -i else i)) H):=by
 intro pins s σ H xs us Q I r h
 obtain ⟨i,rfl,q⟩:=h
 obtain ⟨u,rfl,t,rfl⟩:=ydy r
 exact call_abs_int fun u tk=>⟨.int (if i<0 then -i else i),H,I.tok _,⟨_,rfl⟩,q⟩
theorem zgR (hc:X.calm=true):CallR X (.builtin "max") (fun xs H Q=>∃ i j,xs=[.int i,.int j]/\Q (.int (if j > i then j else i)) H):=by
 intro pins s σ H xs us Q I r h
 obtain ⟨i,j,rfl,q⟩:=h
 obtain ⟨u,w',rfl,⟨t,rfl⟩,⟨t',rfl⟩⟩:=ye2 r
 refine max_two_ints (I.ok.hd hc) fun h' tk k=>⟨_,H,I.kept k,?_,q⟩
 by_cases hj:j > i
 ·rw [if_pos hj,if_pos hj];exact ⟨_,rfl⟩
 ·rw [if_neg hj,if_neg hj];exact ⟨_,rfl⟩
theorem zgS:CallR X (.type "int") (fun xs H Q=>(∃ i,xs=[.int i]/\Q (.int i) H)\/∃ k,xs=[.bl k]/\Q (.int (if k then 1 else 0)) H):=by
 intro pins s σ H xs us Q I r h
 rcases h with ⟨i,rfl,q⟩ | ⟨k,rfl,q⟩
 ·obtain ⟨u,rfl,t,rfl⟩:=ydy r
  exact call_int_int ⟨.int i,H,I,⟨_,rfl⟩,q⟩
 ·obtain ⟨u,rfl,r1⟩:=ydy r
  cases r1
  exact call_int_bool ⟨.int (if k then 1 else 0),H,I.tok _,⟨_,rfl⟩,q⟩
end
end L2
namespace L2
open PySem PySem.Spec PyProof.Rows
structure ObjM (h:Heap) (x dx C:Addr) (mA:Str->Option Value):Prop where
 obj:h.get? x=some (PySem.W.instObj C dx)
 ns:h.Ns1 dx mA
 ne:dx≠x
theorem zgT {h:Heap} {dx:Addr} {mA:Str->Option Value} (n:h.Ns1 dx mA):∃ od,h.get? dx=some od/\∀ name,PySem.W.lookIn name od=some (mA name):=by
 obtain ⟨o,es,ep,ho,hd,hk,_,hm⟩:=n
 refine ⟨o,ho,fun name=>?_⟩
 have e:=hm name
 unfold nsFind findBy at e
 rw [<- Array.find?_toList] at e
 unfold PySem.W.lookIn
 rw [hd]
 dsimp only
 split
 ·rename_i y q
  rw [q] at e
  exact congrArg some e
 ·rename_i q
  rw [q] at e
  have a:es.toList.any (·.refKey)=false:=by
   rw [List.any_eq_false]
   intro y hy
   obtain ⟨z,t,hkey⟩:=hk y (Array.mem_toList_iff.mp hy)
   simp [DictEntry.refKey,hkey]
  have a' : ¬ es.toList.any (·.refKey)=true:=by rw [a];exact Bool.false_ne_true
  rw [if_neg a']
  exact congrArg some e
theorem ObjM.look {h:Heap} {x dx C:Addr} {mA:Str->Option Value} (I:ObjM h x dx C mA):∃ od,PySem.W.InstAt h x (PySem.W.instObj C dx) C (some od)/\∀ name,PySem.W.lookIn name od=some (mA name) :=
 let ⟨od,ho,hl⟩:=zgT I.ns
 ⟨od,⟨I.obj,rfl,rfl,ho⟩,hl⟩
section
variable {prog:Program} {w:World} {A:Around} {E:Value->Shared->Prop} {s:Shared} {K:PySem.W.Frag} {x dx C f:Addr} {mA:Str->Option Value} {name:Str} {v:Value}
theorem ziC {expr:Bool} {Q:Value->Shared->Prop} (X:K.In s.heap) (I:ObjM s.heap x dx C mA) (hg:PySem.W.plainGet K C name=true) (hh:PySem.W.hasDictIn K C=true)
  (ha:PySem.W.findIn K (.ref C) name=some none) (hv:mA name=some v) (hv':PySem.W.handedIn v=true) (h:Q v { s with toks:=s.toks+1 }) :
  wpAny (model prog w) A (getAttr (.ref x) name expr) Q E s:=by
 obtain ⟨od,J,hl⟩:=I.look
 exact PySem.W.get_value X J (PySem.W.plainGet_of hg).1 (PySem.W.findObj_own hh ha rfl (by rw [hl,hv])) hv' h
theorem zhL {pl:Sem Bool} {Q:Value×List Value->Shared->Prop} (X:K.In s.heap) (I:ObjM s.heap x dx C mA) (hg:PySem.W.plainGet K C name=true)
  (hf:PySem.W.findIn K (.ref C) name=some (some (.ref f))) (ht:PySem.W.isFn K (.ref f)=true) (hv:mA name=none) (h:Q (.ref f,[.ref x]) s) :
  wpAny (model prog w) A (getMethod (.ref x) name pl) Q E s:=by
 obtain ⟨od,J,hl⟩:=I.look
 exact PySem.W.method_fn X J (PySem.W.plainGet_of hg).1 (PySem.W.plainGet_of hg).2 hf (beq_iff_eq.mp ht) (by show (PySem.W.lookIn name od).map (·.isSome)=some false;rw [hl,hv];rfl) h
theorem ziD {ns:List Str} {Q:Unit->Shared->Prop} (X:K.In s.heap) (I:ObjM s.heap x dx C mA)
  (hs:PySem.W.findIn K (.ref C) "__setattr__" = some (some (.builtin "object.__setattr__"))) (hp:PySem.W.plainOver K C=true) (ht:PySem.W.takerIn K C name=some none) (hh:PySem.W.hasDictIn K C=true)
  (hw:PySem.Within mA ns) (hsz:ns.length<=sizeLine)
  (h:∀ h',ObjM h' x dx C (fun y=>if y=name then some v else mA y)->Heap.SameBut dx s.heap h'->Q () { s with heap:=h',toks:=s.toks+2 }) :
  wpAny (model prog w) A (setAttr (.ref x) name v) Q E s:=by
 obtain ⟨od,J,hl⟩:=I.look
 refine PySem.W.set_plain X J hs (PySem.W.osa_open (s:={ s with toks:=s.toks+1 }) (r:=none) X J hp ht fun b=>?_)
 obtain ⟨cd,hc,hd'⟩:=PySem.W.any_some hh
 have hx:s.heap.get? x=some ⟨.ref C,some dx,.plain,#[]⟩:=I.obj
 refine wpAny_bind (wpAny_pure (wpAny_bind (wpAny_bind (wpAny_loadPart hx (wpAny_bind (PySem.W.Looks.here (s:={ s with toks:=s.toks+1 }) (PySem.W.looks_clsIn X hc) ?_))))))
 rw [hd']
 refine wpAny_pure (a:=some dx) (wpAny_bind (wpAny_pure (wpAny_bind ?_)))
 refine wpAny_nsSet1 (s:={ s with toks:=s.toks+1 }) I.ns fun h' hn2 hs2=>?_
 obtain ⟨oD,esD,epD,hoD,hdD,hcD⟩:=hn2.count (PySem.Within.cons name v hw)
 refine wpAny_bind (wpAny_lookBehind hoD (by rw [hdD];exact pastItsLine_dict (Nat.le_trans hcD (by rw [List.length_cons];omega))) ?_)
 exact wpAny_pure (h _ ⟨(hs2.2 _ (Ne.symm I.ne)).trans I.obj,hn2,I.ne⟩ hs2)
theorem zhM {R:Result->Shared->Prop} {vs:List Value} {kw:List (Str×Value)} (X:K.In s.heap) (hm:PySem.W.makesIn K C=true)
  (hi:PySem.W.findIn K (.ref C) "__init__" = some (some (.ref f))) (hf:PySem.W.typeIn K (.ref f)=some (.type "function"))
  (h:codeAny (model prog w) (A.under (.builtin "type.__call__" ⟨.ref C::vs,kw⟩)) (.call (.ref f) ⟨.ref (s.heap.objs.size+1)::vs,kw⟩) (PySem.W.InitBack (s.heap.objs.size+1) R)
   { s with heap:=(s.heap.push PySem.W.emptyDict).push (PySem.W.instObj C s.heap.objs.size) }) :
  codeAny (model prog w) A (.call (.ref C) ⟨vs,kw⟩) R s:=by
 obtain ⟨hh,g,d,t,os⟩:=s
 exact PySem.W.make_core (PySem.W.makes_of X hm) (PySem.W.looks_findIn X hi) (fun self=>PySem.W.bind_fn X self hf) (.inl rfl) h
end
def putF (f:Str) (v:V):List (Str×V)->List (Str×V)
 | []=>[(f,v)]
 | (g,x)::r=>if g=f then (g,v)::r else (g,x)::putF f v r
theorem zbm (f g:Str) (v:V):∀ fs:List (Str×V),(putF f v fs).lookup g=if g=f then some v else fs.lookup g
 | []=>by
  show List.lookup g [(f,v)]=_
  by_cases h:g=f
  ·have hb:(g == f)=true:=beq_iff_eq.mpr h
   simp only [List.lookup,hb,if_pos h]
  ·have hb:(g == f)=false:=beq_eq_false_iff_ne.mpr h
   simp only [List.lookup,hb,if_neg h]
 | (k,x)::r=>by
  have ih:=zbm f g v r
  rw [show putF f v ((k,x)::r)=(if k=f then (k,v)::r else (k,x)::putF f v r) from rfl]
  by_cases hk:k=f
  ·rw [if_pos hk]
   by_cases h:g=k
   ·have hb:(g == k)=true:=beq_iff_eq.mpr h
    simp only [List.lookup,hb,if_pos (h.trans hk)]
   ·have hb:(g == k)=false:=beq_eq_false_iff_ne.mpr h
    simp only [List.lookup,hb,if_neg (fun e:g=f=>h (e.trans hk.symm))]
  ·rw [if_neg hk]
   by_cases h:g=k
   ·have hb:(g == k)=true:=beq_iff_eq.mpr h
    simp only [List.lookup,hb,if_neg (fun e:g=f=>hk (h.symm.trans e))]
   ·have hb:(g == k)=false:=beq_eq_false_iff_ne.mpr h
    simp only [List.lookup,hb]
    exact ih
theorem zcr (f:Str) (v:V):∀ fs:List (Str×V),f∈(putF f v fs).map (·.1)/\∀ g,g∈fs.map (·.1)->g∈(putF f v fs).map (·.1)
 | []=>⟨by simp [putF],fun g h=>by simp at h⟩
 | (k,x)::r=>by
  obtain ⟨i1,i2⟩:=zcr f v r
  rw [show putF f v ((k,x)::r)=(if k=f then (k,v)::r else (k,x)::putF f v r) from rfl]
  by_cases hk:k=f
  ·rw [if_pos hk]
   subst hk
   exact ⟨by simp,fun g h=>by simpa using h⟩
  ·rw [if_neg hk]
   refine ⟨?_,fun g h=>?_⟩
   ·rw [List.map_cons]
    exact List.mem_cons_of_mem _ i1
   ·rw [List.map_cons] at h ⊢
    rcases List.mem_cons.mp h with e | e
    ·exact List.mem_cons.mpr (.inl e)
    ·exact List.mem_cons_of_mem _ (i2 g e)
theorem zcX (f:Str) (v:V):∀ fs:List (Str×V),(putF f v fs).length<=fs.length+1
 | []=>by simp [putF]
 | (k,x)::r=>by
  have ih:=zcX f v r
  rw [show putF f v ((k,x)::r)=(if k=f then (k,v)::r else (k,x)::putF f v r) from rfl]
  by_cases hk:k=f
  ·rw [if_pos hk,List.length_cons,List.length_cons];omega
  ·rw [if_neg hk,List.length_cons,List.length_cons];omega
theorem RelO.some_of {v:V} {o:Option Value} (r:RelO (some v) o):∃ u,o=some u/\RelV v u:=by
 cases o with
 | none=>exact (show False from r).elim
 | some u=>exact ⟨u,rfl,r⟩
theorem RelO.none_of {o:Option Value} (r:RelO none o):o=none:=by
 cases o with
 | none=>rfl
 | some u=>exact (show False from r).elim
theorem zgU {v:V} {u:Value} (r:RelV v u):PySem.W.handedIn u=true:=by
 cases v with
 | non=>cases (show u=Value.none from r);rfl
 | bl b=>cases (show u=Value.bool b from r);rfl
 | int i=>obtain ⟨t,e⟩:=(show ∃ t,u=Value.int i t from r);cases e;rfl
 | str x=>obtain ⟨t,e⟩:=(show ∃ t,u=Value.str x t from r);cases e;rfl
 | byt b=>obtain ⟨t,e⟩:=(show ∃ t,u=Value.bytes b t from r);cases e;rfl
 | flt b=>obtain ⟨t,e⟩:=(show ∃ t,u=Value.float b t from r);cases e;rfl
 | ref a=>cases (show u=Value.ref a from r);rfl
 | ty n=>cases (show u=Value.type n from r);rfl
section
variable {P:Program} {w:World} {H H':Hp} {h h':Heap} {a C dx:Addr} {fs fs':List (Str×V)}
theorem zcK (hok:HOk P w H h) (e:H a=some (.ins C dx fs)):∃ mA,ObjM h a dx C mA/\(∀ f,RelO (fs.lookup f) (mA f))/\PySem.Within mA (fs.map (·.1))/\fs.length<=1000/\H dx=some (.own a):=by
 obtain ⟨d,z,ne,ob,mA,n,r,q⟩:=(show ObjOk P w H h a (.ins C dx fs) from hok a _ e)
 exact ⟨mA,⟨ob,n,ne⟩,r,q,z,d⟩
end
structure Cls (K:PySem.W.Frag) (C:Addr):Prop where
 pg:PySem.W.plainGet K C Str.empty=true
 hd:PySem.W.hasDictIn K C=true
 po:PySem.W.plainOver K C=true
 sa:PySem.W.findIn K (.ref C) "__setattr__" = some (some (.builtin "object.__setattr__"))
theorem Cls.get {K:PySem.W.Frag} {C:Addr} (c:Cls K C) (f:Str):PySem.W.plainGet K C f=true:=c.pg
def NoAttr (K:PySem.W.Frag) (C:Addr) (f:Str):Prop:=PySem.W.findIn K (.ref C) f=some none
theorem NoAttr.taker {K:PySem.W.Frag} {C:Addr} {f:Str} (n:NoAttr K C f):PySem.W.takerIn K C f=some none:=by
 unfold PySem.W.takerIn
 rw [show PySem.W.findIn K (.ref C) f=some none from n]
 rfl
structure Meth (K:PySem.W.Frag) (C:Addr) (m:Str) (f:Addr):Prop where
 at_:PySem.W.findIn K (.ref C) m=some (some (.ref f))
 fn:PySem.W.isFn K (.ref f)=true
 kp:PySem.W.keepIn K (.ref f)=true
section
variable {X:Cx} {pins:List (Addr×Obj)} {σ:St} {H:Hp} {s:Shared} {a C dx:Addr} {fs:List (Str×V)} {f:Str} {v:V} {A:Around} {E:Value->Shared->Prop}
theorem zgj {b:Bool} {Q:Value->Shared->Prop} (I:Inv X pins σ H s) (e:H a=some (.ins C dx fs)) (c:Cls X.K C) (n:NoAttr X.K C f) (l:fs.lookup f=some v)
  (h:∀ u s',Inv X pins σ H s'->RelV v u->Q u s'):wpAny (model X.prog X.w) A (getAttr (.ref a) f b) Q E s:=by
 obtain ⟨mA,O,r,_,_,_⟩:=zcK I.hok e
 obtain ⟨u,hu,ru⟩:=RelO.some_of (v:=v) (o:=mA f) (by rw [<- l];exact r f)
 exact ziC I.kIn O (c.get f) c.hd n hu (zgU ru) (h u _ (I.tok _) ru)
theorem zgk {m:Str} {g:Addr} {pl:Sem Bool} {Q:Value×List Value->Shared->Prop} (I:Inv X pins σ H s) (e:H a=some (.ins C dx fs)) (c:Cls X.K C) (k:Meth X.K C m g) (l:fs.lookup m=none)
  (h:Q (.ref g,[.ref a]) s):wpAny (model X.prog X.w) A (getMethod (.ref a) m pl) Q E s:=by
 obtain ⟨mA,O,r,_,_,_⟩:=zcK I.hok e
 have hn:mA m=none:=RelO.none_of (by rw [<- l];exact r m)
 exact zhL I.kIn O (c.get m) k.at_ k.fn hn h
theorem zgl {y:V} {u:Value} {Q:Unit->Shared->Prop} (I:Inv X pins σ H s) (e:H a=some (.ins C dx fs)) (c:Cls X.K C) (n:NoAttr X.K C f) (hl:fs.length<1000) (ry:RelV y u)
  (h:∀ s',Inv X pins σ (upd H a (.ins C dx (putF f y fs))) s'->Q () s'):wpAny (model X.prog X.w) A (setAttr (.ref a) f u) Q E s:=by
 obtain ⟨mA,O,r,wi,_,ho⟩:=zcK I.hok e
 have hz:(fs.map (·.1)).length<=sizeLine:=by rw [List.length_map,sizeLine_eq];omega
 refine ziD I.kIn O c.sa c.po n.taker c.hd wi hz fun h' O' sb=>h _ ?_
 have hd:∃ o,h'.get? dx=some o:=let ⟨o,_,_,e',_⟩:=O'.ns;⟨o,e'⟩
 refine I.write (x:=a) (e:=dx) (by rw [e];exact True.intro) (.inr ho) (fun b q hb z=>(sb.2 b hb).trans z) hd ?_
 refine ⟨by rw [yaC O.ne];exact ho,?_,O.ne,O'.obj,_,O'.ns,fun g=>?_,fun g hg=>?_⟩
 ·have:=zcX f y fs;omega
 ·show RelO ((putF f y fs).lookup g) (if g=f then some u else mA g)
  rw [zbm]
  by_cases q:g=f
  ·rw [if_pos q,if_pos q];exact ry
  ·rw [if_neg q,if_neg q];exact r g
 ·by_cases q:g=f
  ·rw [q];exact (zcr f y fs).1
  ·refine (zcr f y fs).2 g (wi g fun z=>hg ?_)
   show (if g=f then some u else mA g)=none
   rw [if_neg q];exact z
theorem Inv.made (I:Inv X pins σ H s):Inv X pins σ (upd (upd H s.heap.objs.size (.own (s.heap.objs.size+1))) (s.heap.objs.size+1) (.ins C s.heap.objs.size []))
  { s with heap:=(s.heap.push PySem.W.emptyDict).push (PySem.W.instObj C s.heap.objs.size) }:=by
 have e1:(s.heap.push PySem.W.emptyDict).get? s.heap.objs.size=some PySem.W.emptyDict:=Heap.get?_push_size s.heap rfl
 have e2:((s.heap.push PySem.W.emptyDict).push (PySem.W.instObj C s.heap.objs.size)).get? (s.heap.objs.size+1)=some (PySem.W.instObj C s.heap.objs.size):=by
  have:=Heap.get?_push_size (s.heap.push PySem.W.emptyDict) (o:=PySem.W.instObj C s.heap.objs.size) rfl
  rwa [Heap.size_push] at this
 have e3:(s.heap.push PySem.W.emptyDict).Ns s.heap.objs.size (fun _=>none):=⟨PySem.W.emptyDict,#[],_,e1,rfl,(fun e he=>absurd he (by simp)),fun _=>rfl⟩
 have I1:=I.laid (a:=s.heap.objs.size) (o:=.own (s.heap.objs.size+1)) (h' := s.heap.push PySem.W.emptyDict) (t' := s.toks) (fun b u q=>Heap.get?_push_of_some _ q) (Nat.le_refl _) ⟨_,e1⟩
 refine I1.laid (a:=s.heap.objs.size+1) (o:=.ins C s.heap.objs.size []) (t' := s.toks) (fun b u q=>Heap.get?_push_of_some _ q) (Nat.le_of_eq (Heap.size_push _ _)) ?_
 have ne:s.heap.objs.size≠s.heap.objs.size+1:=Nat.ne_of_lt (Nat.lt_succ_self _)
 refine ⟨by rw [yaC ne,zar],Nat.zero_le _,ne,e2,fun _=>none,(Heap.Ns1.of_empty e3).at fun o q=>Heap.get?_push_of_some _ q,fun _=>True.intro,fun y hy=>absurd rfl hy⟩
theorem ziE {prog:Program} {w:World} {env:Env} {e:Expr} {f:Str} {pos:Pos} {s:Shared} {Q:Value->Shared->Prop} (hb:attributeBase e f env (eval e env)=eval e env)
  (h:wpAny (model prog w) A (eval e env) (fun o s₁=>wpAny (model prog w) A (getAttr o f true) Q E s₁) E s):wpAny (model prog w) A (eval (.Attribute e f pos) env) Q E s :=
 Attribute_any_ h (by rw [arm_eval_Attribute,hb])
end
def tFld (K:PySem.W.Frag) (ta:TE) (f:Str):TE:=fun σ H Q=>ta σ H fun x H1=>∃ a C dx fs v,x = .ref a/\H1 a=some (.ins C dx fs)/\Cls K C/\NoAttr K C f/\fs.lookup f=some v/\Q v H1
def sFld (K:PySem.W.Frag) (ta tv:TE) (f:Str):TS:=fun D σ H=>tv σ H fun y H1=>ta σ H1 fun x H2=>∃ a C dx fs,x = .ref a/\H2 a=some (.ins C dx fs)/\Cls K C/\NoAttr K C f/\fs.length<1000 /\
 D.nx σ (upd H2 a (.ins C dx (putF f y fs)))
section
variable {X:Cx} {o e value:Expr} {f:Str} {pos pos' tpos:Pos} {ta tv:TE}
theorem ygw (he:PE X e ta) (hb:attributeBase e f X.env (eval e X.env)=eval e X.env):PE X (.Attribute e f pos) (tFld X.K ta f):=by
 intro pins s σ H Q I h
 refine ziE hb (thn (he pins s σ H _ I h) fun u s1 ⟨x,H1,I1,rx,a,C,dx,fs,v,ex,ea,c,n,l,q⟩=>?_)
 subst ex
 obtain rfl:u=Value.ref a:=rx
 exact zgj I1 ea c n l fun u' s2 I2 ru=>⟨v,H1,I2,ru,q⟩
theorem ygx (ha:PE X o ta) (hv:PE X value tv) (hs:swapsWith value (some (.Attribute o f pos')) pos.line X.env=pure false):PS X (.Assign [.Attribute o f pos'] value pos) (sFld X.K ta tv f):=by
 intro pins s σ H D I h
 refine plainObj_wpAny_Assign_Attribute (thn (hv pins s σ H _ I h) fun u s1 ⟨y,H1,I1,ry,q⟩=>thn (ha pins s1 σ H1 _ I1 q) fun ov s2 ⟨x,H2,I2,rx,a,C,dx,fs,ex,ea,c,n,l,q2⟩=>?_) hs
 subst ex
 obtain rfl:ov=Value.ref a:=rx
 exact zgl I2 ea c n l ry fun s3 I3=>⟨σ,_,I3,q2⟩
end
section
variable {X:Cx} {pins:List (Addr×Obj)} {σ:St} {H:Hp} {s:Shared} {A:Around} {E:Value->Shared->Prop} {Q:Value->Shared->Prop} {c:Value} {b:Bool}
inductive TyOf (K:PySem.W.Frag) (H:Hp):V->Value->Prop where
 | non:TyOf K H .non (.type "NoneType")
 | bl (x:Bool):TyOf K H (.bl x) (.type "bool")
 | int (i:Int):TyOf K H (.int i) (.type "int")
 | str (x:Str):TyOf K H (.str x) (.type "str")
 | flt (x:UInt64):TyOf K H (.flt x) (.type "float")
 | lst {a:Addr} {xs:List V} (e:H a=some (.lst xs)):TyOf K H (.ref a) (.type "list")
 | frz {a:Addr} {o:Obj} {xs:List V} (e:H a=some (.frz o (.lst xs))):TyOf K H (.ref a) (.type "list")
 | tup {a:Addr} {xs:List V} (e:H a=some (.tup xs)):TyOf K H (.ref a) (.type "tuple")
 | dK {a:Addr} {kvs:List (Key×V)} (e:H a=some (.dK kvs)):TyOf K H (.ref a) (.type "dict")
 | dT {a:Addr} {kvs:List (List Key×V)} (e:H a=some (.dT kvs)):TyOf K H (.ref a) (.type "dict")
 | ins {a C dx:Addr} {fs:List (Str×V)} (e:H a=some (.ins C dx fs)) (cl:Cls K C) (ha:PySem.W.findIn K (.ref C) "__class__" = some (some (.builtin "object.__class__")))
   (hn:PySem.W.specialIn K (.builtin "object.__class__") "__get__" = some (some (.builtin "getset_descriptor.__get__"))) (htk:PySem.W.takesIn K (.builtin "object.__class__")=some true)
   (hm:PySem.W.mroIn K C (.type "object")=some true):TyOf K H (.ref a) (.ref C)
theorem zgV {x:V} {u t:Value} (I:Inv X pins σ H s) (rx:RelV x u) (ty:TyOf X.K H x t) (e:PySem.W.kitOne X.K t c=some b) (h:∀ tk,Q (.bool b) { s with toks:=tk }) :
  wpAny (model X.prog X.w) A (call (.builtin "isinstance") [u,c]) Q E s:=by
 cases ty with
 | non=>cases (show u=Value.none from rx);exact PySem.W.kia_one PySem.W.kitx_none I.kIn True.intro e (fun z=>nomatch z) h
 | bl y=>cases (show u=Value.bool y from rx);exact PySem.W.kia_one PySem.W.kitx_bool I.kIn True.intro e (fun z=>nomatch z) h
 | int i=>obtain ⟨t,q⟩:=(show ∃ t,u=Value.int i t from rx);cases q;exact PySem.W.kia_one PySem.W.kitx_int I.kIn True.intro e (fun z=>nomatch z) h
 | str y=>obtain ⟨t,q⟩:=(show ∃ t,u=Value.str y t from rx);cases q;exact PySem.W.kia_one PySem.W.kitx_str I.kIn True.intro e (fun z=>nomatch z) h
 | flt y=>obtain ⟨t,q⟩:=(show ∃ t,u=Value.float y t from rx);cases q;exact PySem.W.kia_one PySem.W.kitx_float I.kIn True.intro e (fun z=>nomatch z) h
 | @lst a xs ea =>
  cases (show u=Value.ref a from rx)
  obtain ⟨_,_,n,_,h1⟩:=(show ObjOk X.prog X.w H s.heap a (.lst xs) from I.hok a _ ea)
  exact PySem.W.kia_one PySem.W.kitx_list I.kIn ⟨_,h1,rfl⟩ e (fun z=>nomatch z) h
 | @frz a ob xs ea =>
  cases (show u=Value.ref a from rx)
  obtain ⟨_,_,_,n,_,h1⟩:=(show ObjOk X.prog X.w H s.heap a (.frz ob (.lst xs)) from I.hok a _ ea)
  exact PySem.W.kia_one PySem.W.kitx_list I.kIn ⟨_,h1,rfl⟩ e (fun z=>nomatch z) h
 | @tup a xs ea =>
  cases (show u=Value.ref a from rx)
  obtain ⟨_,_,_,p⟩:=(show ObjOk X.prog X.w H s.heap a (.tup xs) from I.hok a _ ea)
  obtain ⟨o,h1,h2,_⟩:=p
  exact PySem.W.kia_one PySem.W.kitx_tuple I.kIn ⟨o,h1,h2⟩ e (fun z=>nomatch z) h
 | @dK a kvs ea =>
  cases (show u=Value.ref a from rx)
  obtain ⟨_,_,vs,_,p⟩:=(show ObjOk X.prog X.w H s.heap a (.dK kvs) from I.hok a _ ea)
  obtain ⟨o,es,ep,h1,h2,_⟩:=p
  exact PySem.W.kia_one PySem.W.kitx_dict I.kIn ⟨o,h1,h2.1⟩ e (fun z=>nomatch z) h
 | @dT a kvs ea =>
  cases (show u=Value.ref a from rx)
  obtain ⟨_,_,xs,_,o,es,ep,h1,h2,_⟩:=(show ObjOk X.prog X.w H s.heap a (.dT kvs) from I.hok a _ ea)
  exact PySem.W.kia_one PySem.W.kitx_dict I.kIn ⟨o,h1,h2.1⟩ e (fun z=>nomatch z) h
 | @ins a C dx fs ea cl ha hn htk hm =>
  cases (show u=Value.ref a from rx)
  obtain ⟨mA,O,_⟩:=zcK I.hok ea
  obtain ⟨od,J,_⟩:=O.look
  exact PySem.W.kia_one (PySem.W.kitx_own (cl.get _) cl.hd ha hn htk hm) I.kIn J e (fun z=>nomatch z) h
end
end L2
namespace L2
open PySem PySem.Spec PyProof.Rows
structure Room (k:Nat) (A:Around):Prop where
 hd:A.handled=none
 dp:A.depth+3*k+5<recursionLimit
 un:A.units+16*k+200<cLine
theorem Room.mono {j k:Nat} {A:Around} (r:Room k A) (h:j<=k):Room j A:=⟨r.hd,by have:=r.dp;omega,by have:=r.un;omega⟩
theorem Room.deeper {k:Nat} {A:Around} (r:Room (k+1) A) (env:Env):Room k (A.deeper env) :=
 ⟨r.hd,by have:=r.dp;show A.depth+1+3*k+5<_;omega,by have:=r.un;show A.units+3+16*k+200<_;omega⟩
theorem zgm {A:Around} {C:Addr} {us:List Value} {kw:List (Str×Value)}:(A.under (.builtin "type.__call__" ⟨.ref C::us,kw⟩)).depth=A.depth+1:=by
 first | rfl | simp [Around.under,Code.weight,Code.isCreation,Code.isGuard,Code.isCaller,Code.frames,Code.isFrame,guardIds]
theorem zgn {A:Around} {C:Addr} {us:List Value} {kw:List (Str×Value)}:(A.under (.builtin "type.__call__" ⟨.ref C::us,kw⟩)).units=A.units+1:=by
 first | rfl | simp [Around.under,Code.cUnits,Code.frames,Code.isFrame]
theorem Room.make {k:Nat} {A:Around} (r:Room (k+1) A) (C:Addr) (us:List Value) (kw:List (Str×Value)):Room k (A.under (.builtin "type.__call__" ⟨.ref C::us,kw⟩)) :=
 ⟨r.hd,by have:=r.dp;rw [zgm];omega,by have:=r.un;rw [zgn];omega⟩
theorem Room.depth {k:Nat} {A:Around} (r:Room k A):A.depth<recursionLimit:=by have:=r.dp;omega
def tNil:TA:=fun _ H Q=>Q [] H
def yhs (ta:TE) (tr:TA):TA:=fun σ H Q=>ta σ H fun x H1=>tr σ H1 fun xs H2=>Q (x::xs) H2
section
variable {X:Cx} {e:Expr} {es:List Expr} {te:TE} {t:TA} {pos:Pos}
theorem yfk:PA X [] tNil:=fun _ _ _ _ H Q I h=>Calls.spliced_nil ⟨[],H,I,.nil,h⟩
theorem zdO (ha:PE X e te) (hr:PA X es t) (hs:starEach (e::es) X.env=(false,eval e X.env)::starEach es X.env:=by rfl):PA X (e::es) (yhs te t):=by
 intro pos pins s σ H Q I h
 rw [hs]
 show wpAny _ _ (spliced ((false,eval e X.env)::backTo pos (starEach es X.env))) _ _ s
 refine Calls.spliced_cons (thn (ha pins s σ H _ I h) fun u s1 ⟨x,H1,I1,r1,q1⟩=>?_)
 exact thn (hr pos pins s1 σ H1 _ I1 q1) fun us s2 ⟨xs,H2,I2,r2,q2⟩=>⟨x::xs,H2,I2,.cons r1 r2,q2⟩
def tTup (t:TA):TE:=fun σ H Q=>t σ H fun xs H1=>xs.length<=sizeLine/\∀ p,H1 p=none->Q (.ref p) (upd H1 p (.tup xs))
def tLst (t:TA):TE:=fun σ H Q=>t σ H fun xs H1=>xs.length<=sizeLine/\∀ p,H1 p=none->Q (.ref p) (upd H1 p (.lst xs))
theorem ygy {x1} (h:PA X es t):PE X (.Tuple es x1 pos) (tTup t):=by
 intro pins s σ H Q I hq
 refine wpAny_Tuple_spliced (thn (h pos pins s σ H _ I hq) fun us s1 ⟨xs,H1,I1,r,z,q⟩=>⟨by rw [<- r.length];exact z,?_⟩)
 have hf:H1 s1.heap.objs.size=none:=I1.hok.fresh (Nat.le_refl _)
 refine ⟨.ref s1.heap.objs.size,upd H1 s1.heap.objs.size (.tup xs),I1.laid (t' := s1.toks) (fun b u e=>Heap.get?_push_of_some _ e) (Nat.le_refl _) ?_,rfl,q _ hf⟩
 exact ⟨z,us,r,⟨_,Heap.get?_push_size _ rfl,rfl,_,rfl⟩⟩
theorem yfl (h:PA X es t):PE X (.List es pos) (tLst t):=by
 intro pins s σ H Q I hq
 refine wpAny_List_spliced (thn (h pos pins s σ H _ I hq) fun us s1 ⟨xs,H1,I1,r,z,q⟩=>⟨by rw [<- r.length];exact z,?_⟩)
 have hf:H1 s1.heap.objs.size=none:=I1.hok.fresh (Nat.le_refl _)
 refine ⟨.ref s1.heap.objs.size,upd H1 s1.heap.objs.size (.lst xs),I1.laid (t' := s1.toks) (fun b u e=>Heap.get?_push_of_some _ e) (Nat.le_refl _) ?_,rfl,q _ hf⟩
 exact ⟨z,us,0,r,Heap.get?_push_size _ rfl⟩
end
abbrev Sp:=List V->Hp->VK->XK->Prop
abbrev CXT:=List Env->Hp->Shared->XK->Value->Shared->Prop
structure Env0 (P:Program) (w:World) (K:PySem.W.Frag) (mg:Str->Option Value) (base:Heap) (A:Around) (outer:List Env) (s:Shared) (H:Hp):Prop where
 frames:A.frames=some outer
 mod:Mod K mg base
 bs:∀ b o,base.get? b=some o->s.heap.get? b=some o/\H b=none
 bsz:base.objs.size<=s.heap.objs.size
 funs:s.heap.FunFrames base outer
 frf:∀ b∈frs outer,H b=none
 hok:HOk P w H s.heap
 bare:AllBare s.gens
def CE (outer:List Env) (P:Program) (w:World) (H:Hp) (s:Shared) (Q:VK) (u:Value) (s':Shared):Prop :=
 ∃ v H',s'.os=s.os/\AllBare s'.gens/\Un (frs outer) [] H H' s.heap s'.heap/\HOk P w H' s'.heap/\RelV v u/\Q v H'
def CR (CX:CXT) (outer:List Env) (P:Program) (w:World) (H:Hp) (s:Shared) (Q:VK) (E:XK) (r:Result) (s':Shared):Prop :=
 match r with
 | .ok (.ret u)=>CE outer P w H s Q u s'
 | .ok _=>False
 | .error e=>CX outer H s E e s'
structure FnOk (P:Program) (w:World) (K:PySem.W.Frag) (mg:Str->Option Value) (base:Heap) (CX:CXT) (k:Nat) (f:Addr) (fd:FuncData) (ps:List Str) (sp:Sp):Prop where
 len:∀ vs H Q E,sp vs H Q E->vs.length=ps.length
 run:∀ (A:Around) (outer:List Env) (s:Shared) (H:Hp) (args:Args) (us:List Value) (vs:List V) (Q:VK) (E:XK),Room k A->Env0 P w K mg base A outer s H->BindsTo s fd args (ps.zip us)->Vals vs us->sp vs H Q E ->
  codeAny (model P w) A (.call (.ref f) args) (CR CX outer P w H s Q E) s
theorem FnOk.imp {P:Program} {w:World} {K:PySem.W.Frag} {mg:Str->Option Value} {base:Heap} {CX:CXT} {k:Nat} {f:Addr} {fd:FuncData} {ps:List Str} {sp sp':Sp} (F:FnOk P w K mg base CX k f fd ps sp)
  (h:∀ vs H Q E,sp' vs H Q E->sp vs H Q E):FnOk P w K mg base CX k f fd ps sp' :=
 ⟨fun vs H Q E q=>F.len vs H Q E (h _ _ _ _ q),fun A outer s H args us vs Q E hr he hb hv hs=>F.run A outer s H args us vs Q E hr he hb hv (h _ _ _ _ hs)⟩
theorem Env0.make {P:Program} {w:World} {K:PySem.W.Frag} {mg:Str->Option Value} {base:Heap} {A:Around} {outer:List Env} {s:Shared} {H:Hp} (e:Env0 P w K mg base A outer s H) (C:Addr) (us:List Value) (kw:List (Str×Value)) :
  Env0 P w K mg base (A.under (.builtin "type.__call__" ⟨.ref C::us,kw⟩)) outer s H:=⟨by first | exact e.frames | (simpa [Around.under,Code.envs,Code.isFrame,pushEnvs] using e.frames),e.mod,e.bs,e.bsz,e.funs,e.frf,e.hok,e.bare⟩
section
variable {X:Cx} {pins:List (Addr×Obj)} {σ:St} {H:Hp} {s s':Shared}
theorem Inv.env0 (I:Inv X pins σ H s):Env0 X.prog X.w X.K X.mg X.base X.A X.stack s H :=
 ⟨I.ok.frames,I.ok.mod,I.bs,Nat.le_trans I.ok.bsz I.sz,I.stack,I.stkFree,I.hok,I.bare⟩
theorem Inv.after {Q:VK} {u:Value} (I:Inv X pins σ H s) (h:CE X.stack X.prog X.w H s Q u s'):EP X pins σ Q u s' := by
 obtain ⟨v,H',os,bare,un,hok,r,q⟩:=h
 obtain ⟨hh,g,d,t,os'⟩:=s'
 obtain rfl:os'=s.os:=os
 exact ⟨v,H',I.call (h' := hh) (g' := g) (d' := d) (t' := t) (ch:=[]) un hok bare (fun b z=>absurd z (by simp)),r,q⟩
end
def Binds (K:PySem.W.Frag) (fd:FuncData) (ps:List Str) (ds:List Value):Prop :=
 ∀ (s:Shared) (us:List Value),K.In s.heap->(us++ds).length=ps.length->BindsTo s fd ⟨us,[]⟩ (ps.zip (us++ds))
theorem Binds.all {K:PySem.W.Frag} {fd:FuncData} {ps:List Str} (h:∀ us:List Value,us.length=ps.length->bindArgs fd ⟨us,[]⟩=pure (ps.zip us)):Binds K fd ps []:=fun s us _ hl=>by
 rw [List.append_nil] at hl ⊢
 exact .of_eq (h us hl)
def ygz (CX:CXT) (X:Cx) (E:XK):Prop:=∀ (pins:List (Addr×Obj)) (σ:St) (H:Hp) (s:Shared) (e:Value) (s':Shared),Inv X pins σ H s->CX X.stack H s E e s'->X.xe e s'
section
variable {X:Cx} {CX:CXT} {k:Nat} {f C:Addr} {fd:FuncData} {ps:List Str} {sp:Sp} {dvs:List V} {ds:List Value} {E:XK} {x m:Str} {p pos apos:Pos} {e o:Expr} {es:List Expr} {ta:TE} {t:TA}
structure Mk (K:PySem.W.Frag) (C f:Addr):Prop where
 makes:PySem.W.makesIn K C=true
 init:PySem.W.findIn K (.ref C) "__init__" = some (some (.ref f))
 fn:PySem.W.isFn K (.ref f)=true
 kp:PySem.W.keepIn K (.ref C)=true
end
section
variable {X:Cx} {CX:CXT} {k:Nat} {f C:Addr} {fd:FuncData} {ps ks:List Str} {sp:Sp} {E:XK} {x m:Str} {p pos apos kpos:Pos} {e o:Expr} {es:List Expr} {kws:List Keyword} {te ta:TE} {t tk:TA} {nm:Option Str}
variable {g:List Value->List Value->List Value} {gV:List V->List V->List V}
end
structure FnScope (N P:List Str) (sc:Scope):Prop where
 kind:sc.kind = .function
 co:sc.isCoroutine=false
 gen:sc.isGenerator=false
 nd:N.Nodup
 pre:N.take P.length=P
 par:∀ x∈P,sc.names.lookup x=some .local\/sc.names.lookup x=some .cell
 nofree:∀ y∈sc.names,y.2 ≠ .free
theorem zd7 {kindOf:Str->Option NameKind} {x:Str}:∀ {binds:List (Str×Value)} {m:Str->Option Value},(∀ v,(x,v)∉binds)->bindL kindOf binds m x=m x
 | [],_,_=>rfl
 | (n,v)::r,m,h=>by
  unfold bindL
  rw [zd7 fun w hw=>h w (List.mem_cons_of_mem _ hw)]
  split
  ·have:x≠n:=by rintro rfl;exact h v List.mem_cons_self
   simp [this]
  ·rfl
theorem zd8 {kindOf:Str->Option NameKind} {x:Str}:∀ {binds:List (Str×Value)} {m:Str->Option Value},(∀ v,(x,v)∉binds)->bindC kindOf binds m x=m x
 | [],_,_=>rfl
 | (n,v)::r,m,h=>by
  unfold bindC
  rw [zd8 fun w hw=>h w (List.mem_cons_of_mem _ hw)]
  split
  ·rfl
  ·have:x≠n:=by rintro rfl;exact h v List.mem_cons_self
   simp [this]
theorem zd9 {kindOf:Str->Option NameKind} {x:Str} {v:Value}:∀ {P:List Str} {vs:List Value} {i:Nat} {m:Str->Option Value},P.Nodup->P[i]? = some x->vs[i]? = some v->kindOf x=some .local ->
  bindL kindOf (P.zip vs) m x=some v
 | [],_,_,_,_,h,_,_=>by simp at h
 | _::_,[],_,_,_,_,h,_=>by simp at h
 | p::P,w::vs,0,m,nd,h1,h2,hk=>by
  simp at h1 h2;subst h1;subst h2
  show bindL kindOf ((p,w)::P.zip vs) m p=_
  unfold bindL
  rw [zd7 fun v hv=>(List.nodup_cons.mp nd).1 (List.of_mem_zip hv).1,if_pos hk]
  simp
 | p::P,w::vs,i+1,m,nd,h1,h2,hk=>by
  show bindL kindOf ((p,w)::P.zip vs) m x=_
  unfold bindL
  exact zd9 (i:=i) (List.nodup_cons.mp nd).2 (by simpa using h1) (by simpa using h2) hk
theorem zea {kindOf:Str->Option NameKind} {x:Str} {v:Value}:∀ {P:List Str} {vs:List Value} {i:Nat} {m:Str->Option Value},P.Nodup->P[i]? = some x->vs[i]? = some v->kindOf x≠some .local ->
  bindC kindOf (P.zip vs) m x=some v
 | [],_,_,_,_,h,_,_=>by simp at h
 | _::_,[],_,_,_,_,h,_=>by simp at h
 | p::P,w::vs,0,m,nd,h1,h2,hk=>by
  simp at h1 h2;subst h1;subst h2
  show bindC kindOf ((p,w)::P.zip vs) m p=_
  unfold bindC
  rw [zd8 fun v hv=>(List.nodup_cons.mp nd).1 (List.of_mem_zip hv).1,if_neg hk]
  simp
 | p::P,w::vs,i+1,m,nd,h1,h2,hk=>by
  show bindC kindOf ((p,w)::P.zip vs) m x=_
  unfold bindC
  exact zea (i:=i) (List.nodup_cons.mp nd).2 (by simpa using h1) (by simpa using h2) hk
def start (N:List Str) (vs:List V):St:=vs.map some++List.replicate (N.length-vs.length) none
def cxOf (CX:CXT) (P:Program) (w:World) (K:PySem.W.Frag) (mg:Str->Option Value) (base:Heap) (N:List Str) (qual:Str) (scope:Scope) (f:Addr) (cd:Value) (A:Around) (outer:List Env) (s:Shared) (H:Hp) (E:XK):Cx where
 prog:=P
 w:=w
 K:=K
 mg:=mg
 base:=base
 A:=A.deeper (envOfC qual scope s.heap.objs.size f cd)
 N:=N
 s₀:=s
 H₀:=H
 env:=envOfC qual scope s.heap.objs.size f cd
 outer:=outer
 stack:=envOfC qual scope s.heap.objs.size f cd::outer
 ex:=[]
 calm:=true
 fn:=fun _=>true
 pn:=[]
 xe:=fun e s' => wpAny (model P w) (A.deeper (envOfC qual scope s.heap.objs.size f cd)) (leaving (envOfC qual scope s.heap.objs.size f cd) e) (fun _ s'' => CX outer H s E e s'') (fun e' s'' => CX outer H s E e' s'') s'
theorem zeD {sc:Scope} {n:Nat} {x:Str} (h:sc.names.lookup x=some .cell):∃ c,(cellsFrom n sc.names []).lookup x=some c:=by
 have q:=PySem.W.cellsFrom_some sc.names n [] (.inl h)
 exact Option.isSome_iff_exists.mp q
theorem zgW {CX:CXT} {P:Program} {w:World} {K:PySem.W.Frag} {mg:Str->Option Value} {base:Heap} {N ps:List Str} {qual:Str} {scope:Scope} {f:Addr} {cd:Value} {A:Around} {outer:List Env} {s s1:Shared} {H:Hp} {E:XK} {us:List Value} {vs:List V}
  (S:FnScope N ps scope) (hd:A.handled=none) (e0:Env0 P w K mg base A outer s H) (hl:vs.length=ps.length) (r:Vals vs us)
  (x:InCallC s s.heap.objs.size (bindL (envOfC qual scope s.heap.objs.size f cd).kindOf (ps.zip us) fun _=>none) (cellsFrom (s.heap.objs.size+1) scope.names []) (bindC (envOfC qual scope s.heap.objs.size f cd).kindOf (ps.zip us) fun _=>none) s1) :
  Inv (cxOf CX P w K mg base N qual scope f cd A outer s H E) [] (start N vs) H s1:=by
 have hpl:ps.length<=N.length:=by have:=congrArg List.length S.pre;rw [List.length_take] at this;omega
 obtain ⟨h1,tk,rfl,hk⟩:=x.done
 have noA:∀ b:Addr,b∉(cxOf CX P w K mg base N qual scope f cd A outer s H E).ex:=fun b z=>absurd (show b∈([]:List Addr) from z) (by simp)
 refine ⟨⟨e0.mod,S.kind,rfl,rfl,Nat.le_refl _,fun y z c h1 h2=>?_,fun y hy=>?_,fun y c _ h=>?_,fun _=>hd,Around.frames_deeper e0.frames,.inr ⟨rfl,rfl⟩,fun b z=>absurd z (noA b),e0.bs,e0.bsz,fun b _ _=>noA b,fun b z=>absurd z (noA b),e0.funs,e0.frf⟩,
  rfl,e0.bare,Un.kept hk,⟨_,x.toInCall.ns,fun i y v h1 h2 h3=>?_⟩,fun y c h=>⟨_,x.cell y c h⟩,e0.hok.fresh (Nat.le_refl _),fun y c h=>?_,fun p hp=>absurd (show p∈([]:List (Addr×Obj)) from hp) (by simp),e0.hok.kept hk,?_⟩
 ·exact name_of_addr x.apart (PySem.mem_of_lookup h1) (PySem.mem_of_lookup h2)
 ·have hy:scope.names.lookup y=some .cell\/scope.names.lookup y=some .free:=hy
  rcases hy with hy | hy
  ·exact zeD hy
  ·exact absurd rfl (S.nofree _ (PySem.mem_of_lookup hy))
 ·exact Nat.le_of_lt (x.above y c (PySem.mem_of_lookup h))
 ·have hi:i<vs.length:=by
   unfold start at h2
   by_cases hi:i<vs.length
   ·exact hi
   ·rw [List.getElem?_append_right (by simpa using hi)] at h2
    rw [List.getElem?_replicate] at h2
    split at h2<;>cases h2
  have ha:vs[i]? = some v:=by
   unfold start at h2
   rw [List.getElem?_append_left (by simpa using hi),List.getElem?_map] at h2
   cases e:vs[i]? with
   | none=>rw [e] at h2;cases h2
   | some a=>rw [e] at h2;cases h2;rfl
  obtain ⟨u,hu,rv⟩:=r.get ha
  have hp:ps[i]? = some y:=by
   rw [<- S.pre,List.getElem?_take_of_lt (by omega)];exact h1
  have ndP:ps.Nodup:=by rw [<- S.pre];exact S.nd.sublist (List.take_sublist _ _)
  refine ⟨u,rv,?_⟩
  rcases S.par y (List.mem_of_getElem? hp) with k | k
  ·exact .inl ⟨k,zd9 ndP hp hu k⟩
  ·obtain ⟨c,e⟩:=zeD (n:=s.heap.objs.size+1) k
   refine .inr ⟨.inl k,c,e,?_⟩
   have q:=x.cell y c e
   rw [zea ndP hp hu (by show scope.names.lookup y≠_;rw [k];decide)] at q
   exact q
 ·exact e0.hok.fresh (Nat.le_of_lt (x.above y c (PySem.mem_of_lookup h)))
 ·unfold start
  show _=N.length
  rw [List.length_append,List.length_map,List.length_replicate]
  omega
theorem yht {CX:CXT} {P:Program} {w:World} {K:PySem.W.Frag} {mg:Str->Option Value} {base:Heap} {k:Nat} {f:Addr} {name qual:Str} {params:Arguments} {body:List Stmt} {scope:Scope} {dV kV doc pm cdv ct oc:Value} {an od:Option Addr}
  {osl:Array (Option Value)} {N ps:List Str} {sp:Sp} (lk:K.lookup f=some ⟨oc,od,.func (PySem.W.fnOf name qual params body scope dV kV doc pm an cdv ct),osl⟩) (hcd:PySem.W.codeIn K cdv qual=true) (S:FnScope N ps scope)
  (len:∀ vs H Q E,sp vs H Q E->vs.length=ps.length)
  (hbody:∀ (A:Around) (outer:List Env) (s:Shared) (H:Hp) (vs:List V) (Q:VK) (E:XK),Room k (A.deeper (envOfC qual scope s.heap.objs.size f cdv))->sp vs H Q E ->
   ∃ t,PSs (cxOf CX P w K mg base N qual scope f cdv A outer s H E) body t/\t { nx:=fun _ H' => Q .non H',rt:=Q } (start N vs) H) :
  FnOk P w K mg base CX (k+1) f (PySem.W.fnOf name qual params body scope dV kV doc pm an cdv ct) ps sp:=by
 refine ⟨len,fun A outer s H args us vs Q E hr e0 hb r hsp=>?_⟩
 have hl:=len _ _ _ _ hsp
 have KX:K.In s.heap:=e0.mod.kin.keeps fun b o e=>(e0.bs b o e).1
 have lim:s.heap.NoLimit:=e0.mod.nolimit.keeps fun b o e=>(e0.bs b o e).1
 have hkind:∀ y∈ps.zip us,scope.names.lookup y.1=some .local\/(scope.names.lookup y.1=some .cell/\((cellsFrom (s.heap.objs.size+1) scope.names []).lookup y.1).isSome=true):=fun ⟨n,v⟩ hy=>by
  rcases S.par n (List.of_mem_zip hy).1 with q | q
  ·exact .inl q
  ·exact .inr ⟨q,PySem.W.cellsFrom_some _ _ _ (.inl q)⟩
 refine codeAny_call_function hr.depth (KX _ _ lk) rfl S.co S.gen rfl (PySem.W.codeRec_of KX hcd) (hb _ _ _ _ ?_)
 refine wpAny_newFunctionEnv_cells S.kind hkind fun env he s1 x=>?_
 subst he
 refine ⟨lim.keeps x.toInCall.keep,codeAny_func ?_⟩
 obtain ⟨t,ht,hq⟩:=hbody A outer s H vs Q E (hr.deeper _) hsp
 have I:Inv (cxOf CX P w K mg base N qual scope f cdv A outer s H E) [] (start N vs) H s1:=zgW S hr.hd e0 hl r x
 refine wpAny_mono (ht [] s1 (start N vs) H _ I hq) (fun fl s' hs=>?_) fun e s' hs=>hs
 have fin:∀ {σ':St} {H':Hp} {v:V} {u:Value},Inv (cxOf CX P w K mg base N qual scope f cdv A outer s H E) [] σ' H' s'->RelV v u->Q v H'->CE outer P w H s Q u s' :=
  fun {σ' H' v u} J rv q=>⟨v,H',J.os,J.bare,J.base,J.hok,rv,q⟩
 cases fl with
 | ret u =>
  obtain ⟨v,σ',H',J,rv,q⟩:=hs
  exact fin J rv q
 | next =>
  obtain ⟨σ',H',J,q⟩:=hs
  exact fin (v:=V.non) (u:=Value.none) J rfl q
 | brk =>
  obtain ⟨_,_,_,q⟩:=hs
  exact False.elim q
 | cont =>
  obtain ⟨_,_,_,q⟩:=hs
  exact False.elim q
end L2
namespace L2
open PySem PySem.Spec PyProof.Rows
section
variable {X:Cx} {x:Str} {p pos:Pos} {e:Expr} {es:List Expr} {t:TA} {id T:String} {r:List V->Hp->VK->Prop}
def tCB (r:List V->Hp->VK->Prop) (t:TA):TE:=fun σ H Q=>t σ H fun vs H1=>r vs H1 Q
theorem zeE (hc:CallR X (.builtin id) r) (hg:Gl X x) (hm:X.mg x=none) (hv:bootBuiltins x=some (.builtin id)) (ha:PA X (e::es) t) (hn:x ≠ "__name__" := by decide) (hdb:(x == ("__debug__" : Str))=false:=by decide)
  (he:starEach (e::es) X.env=(false,eval e X.env)::starEach es X.env:=by rfl) (hpl:(backTo pos (starEach es X.env)).any (·.1)=false:=by rfl):PE X (.Call (.Name x p) (e::es) [] pos) (tCB r t):=by
 intro pins s σ H Q I h
 refine wpAny_Call_Name_kw (ydX I hg hm hv ?_ hn hdb)
 exact PyProof.Rows.callWith_builtin1 (thn (ha pos pins s σ H _ I h) fun us s1 ⟨vs,H1,I1,r1,q1⟩=>hc pins s1 σ H1 vs us Q I1 r1 q1) he hpl
theorem zgX (hc:CallR X (.type T) r) (hg:Gl X x) (hm:X.mg x=none) (hv:bootBuiltins x=some (.type T)) (ha:PA X (e::es) t) (hn:x ≠ "__name__" := by decide) (hdb:(x == ("__debug__" : Str))=false:=by decide)
  (he:starEach (e::es) X.env=(false,eval e X.env)::starEach es X.env:=by rfl) (hpl:(backTo pos (starEach es X.env)).any (·.1)=false:=by rfl):PE X (.Call (.Name x p) (e::es) [] pos) (tCB r t):=by
 intro pins s σ H Q I h
 refine wpAny_Call_Name_kw (ydX I hg hm hv ?_ hn hdb)
 exact PyProof.Rows.callWith_type1 (thn (ha pos pins s σ H _ I h) fun us s1 ⟨vs,H1,I1,r1,q1⟩=>hc pins s1 σ H1 vs us Q I1 r1 q1) he hpl
end
end L2
namespace HT
open PySem PyProof.Rows
section
open PySem.SeqAt
open PySem.AutoSeq1 (wpAny_loadPart')
open PySem.MeetsSeq PySem.MeetsSeq2 PySem.MeetsSeq3
end
section
variable {prog:Program} {w:World} {A:Around} {E:Value->Shared->Prop} {s:Shared}
theorem cat_tup {t b:Addr} {vs ws:List Value} {Q:Value->Shared->Prop} (ht:IsTup s.heap t vs.toArray) (hb:IsTup s.heap b ws.toArray) (hv:vs≠[])
  (h1:ws=[]->Q (.ref t) s) (h2:ws≠[]->Q (.ref s.heap.objs.size) { s with heap:=s.heap.push { cls:=.type "tuple",data:=.seq (vs++ws).toArray } })
  (hsz:vs.length+ws.length<=sizeLine):wpAny (model prog w) A (binaryOp .Add (.ref t) (.ref b)) Q E s:=by
 obtain ⟨⟨cls,dd,data,sl⟩,ho,hc,n,hd⟩:=id ht
 obtain ⟨⟨cls2,dd2,data2,sl2⟩,ho2,hc2,n2,hd2⟩:=id hb
 simp only at hc hd hc2 hd2
 subst hc hd hc2 hd2
 have e:vs.toArray++ws.toArray=(vs++ws).toArray:=by simp
 by_cases hw:ws=[]
 ·exact concat_meets ⟨_,ho,rfl⟩ ⟨_,ho2,rfl⟩ noFill_tuple_add seq_tuple_add PySem.F.slot_tuple_add PySem.F.entry_tuple_add (PySem.F.args_tuple_add_2 _ _)
   (tuple_addW1 t b vs.toArray ws.toArray n n2 dd dd2 sl sl2 (by simpa using hv) (by simp [hw])) ⟨ho,ho2,h1 hw⟩
 ·refine concat_meets ⟨_,ho,rfl⟩ ⟨_,ho2,rfl⟩ noFill_tuple_add seq_tuple_add PySem.F.slot_tuple_add PySem.F.entry_tuple_add (PySem.F.args_tuple_add_2 _ _)
   (tuple_addW2 t b vs.toArray ws.toArray n n2 dd dd2 sl sl2 (by simpa using hv) (by simpa using hw) (by rw [List.size_toArray,List.size_toArray];exact hsz)) ⟨ho,ho2,?_⟩
  rw [e]
  exact h2 hw
def sIx (n d:Nat):Option Int->Nat
 | none=>d
 | some v=>if v<0 then (v+(n:Int)).toNat else min v.toNat n
theorem sIx_none (n d:Nat):sIx n d none=d:=rfl
theorem sIx_nat (n d k:Nat):sIx n d (some (k:Int))=min k n:=by
 show (if (k:Int)<0 then ((k:Int)+(n:Int)).toNat else min (k:Int).toNat n)=min k n
 rw [if_neg (by omega),Int.toNat_natCast]
theorem sIx_le (n d:Nat) (hd:d<=n) (o:Option Int):sIx n d o<=n:=by
 cases o with
 | none=>exact hd
 | some v =>
  show (if v<0 then (v+(n:Int)).toNat else min v.toNat n)<=n
  by_cases hv:v<0
  ·rw [if_pos hv];omega
  ·rw [if_neg hv];exact Nat.min_le_right _ _
theorem zfB (v:Int) (n d:Nat):(if v<0 then max (v+(n:Int)) 0 else min v (n:Int))=((sIx n d (some v):Nat):Int):=by
 show (if v<0 then max (v+(n:Int)) 0 else min v (n:Int))=(((if v<0 then (v+(n:Int)).toNat else min v.toNat n):Nat):Int)
 by_cases hv:v<0
 ·simp only [if_pos hv];omega
 ·simp only [if_neg hv];omega
theorem zgo (lo hi:Option Int) (n:Nat):Builtin.Slice.sliceAdjust lo hi 1 (n:Int)=(((sIx n 0 lo:Nat):Int),((sIx n n hi:Nat):Int)):=by
 have h1 : ¬ ((1:Int)<0):=by omega
 unfold Builtin.Slice.sliceAdjust
 simp only [h1,if_false]
 refine Prod.ext ?_ ?_
 ·cases lo with
  | none=>rfl
  | some v=>exact zfB v n 0
 ·cases hi with
  | none=>rfl
  | some v=>exact zfB v n n
theorem zgp (i j:Nat):Builtin.Slice.slicePlaces (i:Int) (j:Int) 1=j-i:=by
 unfold Builtin.Slice.slicePlaces
 have h1:(1:Int) > 0:=by omega
 simp only [h1,if_true,Int.ediv_one]
 split<;>omega
theorem zdw {v:Value} {o:Option Int} {Q:Option Int->Shared->Prop} (p:IsPart v o) (h:Q o s):wpAny (model prog w) A (Builtin.Slice.slicePartIndex v) Q E s:=by
 cases p with
 | none=>exact slicePart_none h
 | int i t=>exact slicePart_int h
theorem zdc {sl:Addr} {vl vu:Value} {lo hi:Option Int} {n:Nat} {Q:Int×Int×Nat->Shared->Prop} (hs:s.heap.IsSliceOf sl vl vu .none) (pl:IsPart vl lo) (pu:IsPart vu hi)
  (h:Q (((sIx n 0 lo:Nat):Int),1,sIx n n hi-sIx n 0 lo) s):wpAny (model prog w) A (Builtin.Slice.sliceApplied (.ref sl) (pure (n:Int))) Q E s:=by
 obtain ⟨os,hos,hcs,hds⟩:=id hs
 unfold Builtin.Slice.sliceApplied Builtin.Slice.sliceFields
 refine wpAny_bind (wpAny_bind (wpAny_field hos hds (x:=vl) rfl (wpAny_bind (wpAny_field hos hds (x:=vu) rfl (wpAny_bind (wpAny_field hos hds (x:=.none) rfl (wpAny_pure ?_)))))))
 refine wpAny_bind (slicePart_none ?_)
 show wpAny _ _ (if ((1:Int) == 0)=true then _ else _) _ _ s
 rw [if_neg (by decide)]
 refine wpAny_bind (zdw pl (wpAny_bind (zdw pu (wpAny_bind (wpAny_pure ?_)))))
 show wpAny _ _ (match Builtin.Slice.sliceAdjust lo hi 1 (n:Int) with | (lo,hi)=>pure (lo,(1:Int),Builtin.Slice.slicePlaces lo hi 1)) _ _ s
 rw [zgo lo hi n]
 show wpAny _ _ (pure (((sIx n 0 lo:Nat):Int),(1:Int),Builtin.Slice.slicePlaces ((sIx n 0 lo:Nat):Int) ((sIx n n hi:Nat):Int) 1)) _ _ s
 rw [zgp]
 exact wpAny_pure h
theorem zhN (xs:Array Value) (i k:Nat):((List.range k).filterMap fun (m:Nat)=>xs[((i:Int)+(m:Int)*1).toNat]?).toArray=((xs.toList.drop i).take k).toArray:=by
 have e:(fun (m:Nat)=>xs[((i:Int)+(m:Int)*1).toNat]?)=fun m=>xs[i+m]? := by
  funext m
  have:((i:Int)+(m:Int)*1).toNat=i+m:=by omega
  rw [this]
 rw [e]
 have:=pick_run xs i k
 rw [List.filterMap_map] at this
 have e2:((fun x=>xs[x]?) ∘ fun x=>i+x)=fun m=>xs[i+m]? := rfl
 rw [e2] at this
 rw [this]
theorem getItem_tuple_cut {t sl:Addr} {items:Array Value} {vl vu:Value} {lo hi:Option Int} {Q:Value->Shared->Prop} (ht:IsTup s.heap t items) (hs:s.heap.IsSliceOf sl vl vu .none) (pl:IsPart vl lo) (pu:IsPart vu hi)
  (hw : ¬ (sIx items.size 0 lo=0/\sIx items.size items.size hi=items.size))
  (h:Q (.ref s.heap.objs.size) { s with heap:=s.heap.push { cls:=.type "tuple",data:=.seq ((items.toList.drop (sIx items.size 0 lo)).take (sIx items.size items.size hi-sIx items.size 0 lo)).toArray } })
  (hsz:items.size<=sizeLine):wpAny (model prog w) A (getItem (.ref t) (.ref sl)) Q E s:=by
 have htake:sizeOk (.seq ((items.toList.drop (sIx items.size 0 lo)).take (sIx items.size items.size hi-sIx items.size 0 lo)).toArray):=by
  show ((items.toList.drop (sIx items.size 0 lo)).take (sIx items.size items.size hi-sIx items.size 0 lo)).toArray.size<=sizeLine
  rw [List.size_toArray,List.length_take,List.length_drop,Array.length_toList]
  omega
 have hj:sIx items.size items.size hi<=items.size:=sIx_le _ _ (Nat.le_refl _) hi
 obtain ⟨os,hos,hcs,hds⟩:=id hs
 have hTs:s.TypeIs (.ref sl) "slice" := ⟨os,hos,hcs⟩
 unfold getItem
 try with_reducible refine wpAny_holding ?_
 first | refine wpAny_bind (wpAny_pure ?_) | skip
 refine wpAny_bind (wpAny_sequenceKey ht.typeIs (by decide) ?_)
 refine wpAny_bind (wpAny_callSpecial?_slot (name:=Str.ofString "__getitem__") ht.typeIs PyProof.Rows.slot_tuple_getitem
  (wpAny_call_entry PyProof.Rows.slot_tuple_getitem ht.typeIs entry_tuple_getitem ?_ (args_tuple_getitem _ _)))
 show wpAny _ _ (Builtin.Tuple.tupleItemsOf (.ref t) >>= _) _ _ s
 refine wpAny_bind (tupleItemsOf_ ht ?_)
 refine wpAny_bind (wpAny_typeOf hTs ?_)
 rw [if_pos (by decide)]
 refine wpAny_bind (zdc hs pl pu ?_)
 have hno : ¬ ((((sIx items.size 0 lo:Nat):Int) == 0 && (1:Int) == 1 && (sIx items.size items.size hi-sIx items.size 0 lo) == items.size)=true):=by
  intro q
  rw [Bool.and_eq_true,Bool.and_eq_true] at q
  have q1:((sIx items.size 0 lo:Nat):Int)=0:=eq_of_beq q.1.1
  have q2:sIx items.size items.size hi-sIx items.size 0 lo=items.size:=eq_of_beq q.2
  exact hw ⟨by omega,by omega⟩
 show wpAny _ _ (if (((sIx items.size 0 lo:Nat):Int) == 0 && (1:Int) == 1 && (sIx items.size items.size hi-sIx items.size 0 lo) == items.size)=true then _ else _) _ _ s
 rw [if_neg hno,zhN]
 first
  | exact wpAny_bind (m:=Builtin.Tuple.tupleExact _) (wpAny_newObj_type (wpAny_pure ⟨_,rfl,wpAny_pure h⟩) htake)
  | exact wpAny_bind (m:=Builtin.Tuple.tupleExact _) (wpAny_newObj_type (wpAny_bind (wpAny_pure (wpAny_pure ⟨_,rfl,wpAny_pure h⟩))) htake)
  | exact wpAny_bind (wpAny_bind (m:=Builtin.Tuple.tupleExact _) (wpAny_newObj_type (wpAny_pure (wpAny_pure ⟨_,rfl,wpAny_pure h⟩)) htake))
  | exact wpAny_bind (wpAny_bind (m:=Builtin.Tuple.tupleExact _) (wpAny_newObj_type (wpAny_pure ⟨_,rfl,wpAny_pure h⟩) htake))
end
end HT
namespace L2
open PySem PySem.Spec PyProof.Rows
abbrev TO:=St->Hp->(Option Int->Hp->Prop)->Prop
def PO (X:Cx) (e:Option Expr) (t:TO):Prop :=
 ∀ (pins:List (Addr×Obj)) (s:Shared) (σ:St) (H:Hp) (Q:Option Int->Hp->Prop),Inv X pins σ H s->t σ H Q ->
  wpAny (model X.prog X.w) X.A (evalPart e X.env) (fun u s' => ∃ o H',Inv X pins σ H' s'/\IsPart u o/\Q o H') X.xe s
def yeY:TO:=fun _ H Q=>Q none H
def yfO (t:TE):TO:=fun σ H Q=>t σ H fun x H1=>∃ i,x = .int i/\Q (some i) H1
section
variable {X:Cx} {e:Expr} {te:TE} {lo hi:Option Expr} {tl th:TO} {pos p2:Pos}
theorem ziF:PO X none yeY:=by
 intro pins s σ H Q I h
 rw [evalPart_none]
 exact wpAny_pure ⟨none,H,I,.none,h⟩
theorem ziG (h:PE X e te):PO X (some e) (yfO te):=by
 intro pins s σ H Q I hw
 rw [evalPart_some]
 refine thn (h pins s σ H _ I hw) fun u s1 ⟨x,H1,I1,r1,q1⟩=>?_
 obtain ⟨i,rfl,q⟩:=q1
 obtain ⟨t,rfl⟩:=r1
 exact ⟨some i,H1,I1,.int i t,q⟩
def SlR (X:Cx) (r:V->Option Int->Option Int->Hp->VK->Prop):Prop :=
 ∀ (pins:List (Addr×Obj)) (s:Shared) (σ:St) (H:Hp) (x:V) (v vl vu:Value) (lo hi:Option Int) (sl:Addr) (Q:VK),Inv X pins σ H s->RelV x v->s.heap.IsSliceOf sl vl vu .none->IsPart vl lo->IsPart vu hi->r x lo hi H Q ->
  ∃ T id,typeLookup (.type T) "__getitem__" = pure (some (.builtin id))/\s.TypeIs v T/\wpAny (model X.prog X.w) X.A (getItem v (.ref sl)) (EP X pins σ Q) X.xe s
theorem SlR.or {r r':V->Option Int->Option Int->Hp->VK->Prop} (h:SlR X r) (h':SlR X r'):SlR X (fun x lo hi H Q=>r x lo hi H Q\/r' x lo hi H Q):=by
 intro pins s σ H x v vl vu lo hi sl Q I rx hs pl pu q
 rcases q with q | q
 ·exact h pins s σ H x v vl vu lo hi sl Q I rx hs pl pu q
 ·exact h' pins s σ H x v vl vu lo hi sl Q I rx hs pl pu q
def tSl (r:V->Option Int->Option Int->Hp->VK->Prop) (te:TE) (tl th:TO):TE:=fun σ H Q=>te σ H fun x H1=>tl σ H1 fun l H2=>th σ H2 fun u H3=>r x l u H3 Q
theorem zhO {r:V->Option Int->Option Int->Hp->VK->Prop} (hr:SlR X r) (he:PE X e te) (hl:PO X lo tl) (hu:PO X hi th):PE X (.Subscript e (.Slice lo hi none p2) pos) (tSl r te tl th):=by
 intro pins s σ H Q I h
 refine Subscript_ (thn (he pins s σ H _ I h) fun v s1 ⟨x,H1,I1,r1,q1⟩=>?_)
 refine wpAny_Slice (thn (hl pins s1 σ H1 _ I1 q1) fun vl s2 ⟨l,H2,I2,pl,q2⟩=>thn (hu pins s2 σ H2 _ I2 q2) fun vu s3 ⟨u,H3,I3,pu,q3⟩=>?_)
 rw [evalPart_none]
 refine wpAny_pure ?_
 have I4:Inv X pins σ H3 { s3 with heap:=s3.heap.push { cls:=.type "slice",data:=.fields #[vl,vu,.none] } }:=I3.kept (t' := s3.toks) fun b ob q=>Heap.get?_push_of_some _ q
 obtain ⟨T,id,hT,ht,hg⟩:=hr pins { s3 with heap:=s3.heap.push { cls:=.type "slice",data:=.fields #[vl,vu,.none] } } σ H3 x v vl vu l u s3.heap.objs.size Q I4 r1 (Heap.IsSliceOf.new ..) pl pu q3
 show wpAny (model X.prog X.w) X.A (subscriptTail e (.Slice lo hi none p2) v (.ref s3.heap.objs.size)) (EP X pins σ Q) X.xe { s3 with heap:=s3.heap.push { cls:=.type "slice",data:=.fields #[vl,vu,.none] } }
 exact tail_any (ops:=[.ref s3.heap.objs.size,v]) ht hT hg (by with_unfolding_all rfl)
def cutV (xs:List V) (lo hi:Option Int):List V:=(xs.drop (HT.sIx xs.length 0 lo)).take (HT.sIx xs.length xs.length hi-HT.sIx xs.length 0 lo)
theorem zcY (xs:List V) (lo hi:Option Int):(cutV xs lo hi).length<=xs.length:=by
 unfold cutV
 rw [List.length_take,List.length_drop]
 omega
def rSlT (K:PySem.W.Frag):V->Option Int->Option Int->Hp->VK->Prop:=fun x lo hi H Q=>∃ a xs,x = .ref a/\SqT K H a xs /\
 ¬ (HT.sIx xs.length 0 lo=0/\HT.sIx xs.length xs.length hi=xs.length)/\∀ p,H p=none->Q (.ref p) (upd H p (.tup (cutV xs lo hi)))
theorem sl_tup:SlR X (rSlT X.K):=by
 intro pins s σ H x v vl vu lo hi sl Q I rx hs pl pu h
 obtain ⟨a,xs,rfl,hx,hw,q⟩:=h
 cases rx
 obtain ⟨its,r,ht,hz⟩:=I.tuple hx
 have hlen:its.toArray.size=xs.length:=by rw [List.size_toArray];exact r.length.symm
 refine ⟨"tuple",_,PyProof.Rows.slot_tuple_getitem.lookup,ht.typeIs,?_⟩
 refine HT.getItem_tuple_cut ht hs pl pu (by rw [hlen];exact hw) ?_ (by rw [hlen];exact hz)
 rw [hlen]
 refine ⟨.ref s.heap.objs.size,_,I.laid (t' := s.toks) (o:=.tup (cutV xs lo hi)) (fun b ob q=>Heap.get?_push_of_some _ q) (Nat.le_refl _) ?_,rfl,q _ (I.hok.fresh (Nat.le_refl _))⟩
 exact ⟨Nat.le_trans (zcY xs lo hi) hz,_,(r.drop (HT.sIx xs.length 0 lo)).take (HT.sIx xs.length xs.length hi-HT.sIx xs.length 0 lo),IsTup.new _ _⟩
def yhu (K:PySem.W.Frag):R2:=fun x y H Q=>∃ a b xs ys,x = .ref a/\y = .ref b/\SqT K H a xs/\SqT K H b ys/\xs≠[]/\xs.length+ys.length<=sizeLine /\
 (ys=[]->Q (.ref a) H)/\(ys≠[]->∀ p,H p=none->Q (.ref p) (upd H p (.tup (xs++ys))))
theorem Vals.nil_iff {xs:List V} {us:List Value} (r:Vals xs us):us=[] ↔ xs=[]:=by
 cases r with
 | nil=>simp
 | cons _ _=>simp
theorem ziH:OpR X (binaryOp .Add) (yhu X.K):=by
 intro pins s σ H x y v u Q I rx ry h
 obtain ⟨a,b,xs,ys,rfl,rfl,ha,hb,hx,hz,q1,q2⟩:=h
 cases rx
 cases ry
 obtain ⟨its,r1,p1,_⟩:=I.tuple ha
 obtain ⟨its2,r2,p2,_⟩:=I.tuple hb
 refine HT.cat_tup p1 p2 (fun z=>hx (r1.nil_iff.mp z)) (fun z=>⟨.ref a,H,I,rfl,q1 (r2.nil_iff.mp z)⟩) (fun z=>?_) (by rw [<- r1.length,<- r2.length];exact hz)
 refine ⟨.ref s.heap.objs.size,_,I.laid (t' := s.toks) (o:=.tup (xs++ys)) (fun b ob q=>Heap.get?_push_of_some _ q) (Nat.le_refl _) ?_,rfl,q2 (fun w=>z (r2.nil_iff.mpr w)) _ (I.hok.fresh (Nat.le_refl _))⟩
 exact ⟨by rw [List.length_append];exact hz,_,r1.append r2,IsTup.new _ _⟩
end
end L2
namespace L2
open PySem PySem.Spec PyProof.Rows
def ixN (n:Nat) (i:Int):Option Nat:=if 0<=i then (if i<n then some i.toNat else none) else if -(n:Int)<=i then some (i+n).toNat else none
def atI {α:Type} (xs:List α) (i:Int):Option α:=(ixN xs.length i).bind fun j=>xs[j]?
theorem zfC {n:Nat} {i:Int} {j:Nat} (h:ixN n i=some j):seqIndex? i n=some j/\j<n /\ -(n:Int)<=i/\i<n:=by
 unfold ixN at h
 by_cases h0:0<=i
 ·rw [if_pos h0] at h
  by_cases h1:i<n
  ·rw [if_pos h1] at h
   have e:i.toNat=j:=Option.some.inj h
   exact ⟨by rw [seqIndex_of h0 h1,e],by omega,by omega,h1⟩
  ·rw [if_neg h1] at h;cases h
 ·rw [if_neg h0] at h
  by_cases h1 : -(n:Int)<=i
  ·rw [if_pos h1] at h
   have e:(i+n).toNat=j:=Option.some.inj h
   exact ⟨by rw [seqIndex_neg (by omega) h1,e],by omega,h1,by omega⟩
  ·rw [if_neg h1] at h;cases h
theorem zcL {α:Type} {xs:List α} {i:Int} {v:α} (h:atI xs i=some v):∃ j,seqIndex? i xs.length=some j/\xs[j]? = some v/\j<xs.length /\ -(xs.length:Int)<=i/\i<xs.length:=by
 unfold atI at h
 cases e:ixN xs.length i with
 | none=>rw [e] at h;cases h
 | some j =>
  rw [e] at h
  obtain ⟨h1,h2,h3,h4⟩:=zfC e
  exact ⟨j,h1,h,h2,h3,h4⟩
theorem zdP {α:Type} {xs:List α} {j:Nat} {v:α} (h:xs[j]? = some v):atI xs (j:Int)=some v:=by
 have hj:j<xs.length:=(List.getElem?_eq_some_iff.mp h).1
 have e:ixN xs.length (j:Int)=some j:=by
  unfold ixN
  rw [if_pos (by omega),if_pos (by omega)];simp
 unfold atI;rw [e];exact h
def yeZ (b:Expr):Prop:=∀ o i,subscripted b false o i=operate [o,i] (getItem o i)
def IxR (X:Cx) (r:R2):Prop :=
 ∀ (value slice:Expr) (pins:List (Addr×Obj)) (s:Shared) (σ:St) (H:Hp) (x y:V) (v u:Value) (Q:VK),Inv X pins σ H s->RelV x v->RelV y u->r x y H Q ->
  subscripted slice false v u=operate [v,u] (getItem v u)->wpAny (model X.prog X.w) X.A (subscriptTail value slice v u) (EP X pins σ Q) X.xe s
def MtR (X:Cx) (id:String) (r:V->List V->Hp->VK->Prop):Prop :=
 ∀ (pins:List (Addr×Obj)) (s:Shared) (σ:St) (H:Hp) (x:V) (xs:List V) (v:Value) (us:List Value) (Q:VK),Inv X pins σ H s->RelV x v->Vals xs us->r x xs H Q ->
  wpAny (model X.prog X.w) X.A (call (.builtin id) (v::us)) (EP X pins σ Q) X.xe s
section
variable {X:Cx} {a b:Expr} {ta tb:TE} {pos:Pos}
theorem IxR.or {r r':R2} (h:IxR X r) (h':IxR X r'):IxR X (fun x y H Q=>r x y H Q\/r' x y H Q):=by
 intro value slice pins s σ H x y v u Q I rx ry q hs
 rcases q with q | q
 ·exact h value slice pins s σ H x y v u Q I rx ry q hs
 ·exact h' value slice pins s σ H x y v u Q I rx ry q hs
theorem yhv {r:R2} (hr:IxR X r) (ha:PE X a ta) (hb:PE X b tb) (hs:yeZ b):PE X (.Subscript a b pos) (tOp r ta tb):=by
 intro pins s σ H Q I h
 exact Subscript_ (binT ha hb I h fun v u s2 x y H2 I2 rx ry q=>hr a b pins s2 σ H2 x y v u Q I2 rx ry q (hs _ _))
def rIxL (K:PySem.W.Frag):R2:=fun x y H Q=>∃ p xs i v,x = .ref p/\y = .int i/\SqL K H p xs/\atI xs i=some v/\Q v H
def rIxT (K:PySem.W.Frag):R2:=fun x y H Q=>∃ p xs i v,x = .ref p/\y = .int i/\SqT K H p xs/\atI xs i=some v/\Q v H
def rIxS:R2:=fun x y H Q=>∃ z i c,x = .str z/\y = .int i/\z.length<=sizeLine/\atI z.cps.toList i=some c/\Q (.str ⟨#[c]⟩) H
theorem ziI:IxR X (rIxL X.K):=by
 intro value slice pins s σ H x y v u Q I rx ry h hs
 obtain ⟨p,xs,i,z,rfl,rfl,hq,he,q⟩:=h
 cases rx
 obtain ⟨t,rfl⟩:=ry
 obtain ⟨its,r,pl,hz⟩:=I.list hq
 obtain ⟨j,h1,h2,h3,h4,h5⟩:=zcL he
 obtain ⟨w,ew,rw'⟩:=r.get h2
 have hl:=r.length
 have hn:=ydQ
 have fin:EP X pins σ Q w s:=⟨z,H,I,rw',q⟩
 by_cases h0:0<=i
 ·have hj:i.toNat=j:=by
   rw [seqIndex_of h0 h5] at h1
   exact Option.some.inj h1
  exact item_listR pl.isList h0 (by omega) (by rw [hj];simpa using ew) fin hs
 ·have hj:(i+(its.toArray.size:Int)).toNat=j:=by
   rw [seqIndex_neg (by omega) h4] at h1
   rw [List.size_toArray,<- hl]
   exact Option.some.inj h1
  exact subscriptTail_builtinR (x:=w) pl.isList.typeIs slot_list_getitem.lookup
   (wpAny_getItem_list_neg (Q:=fun r s' => r=w/\EP X pins σ Q r s') pl.isList (by omega) (by rw [List.size_toArray]<;>omega) (by omega) (by rw [hj];simpa using ew) ⟨rfl,fin⟩) hs
theorem ix_tup:IxR X (rIxT X.K):=by
 intro value slice pins s σ H x y v u Q I rx ry h hs
 obtain ⟨p,xs,i,z,rfl,rfl,hq,he,q⟩:=h
 cases rx
 obtain ⟨t,rfl⟩:=ry
 obtain ⟨its,r,pl,hz⟩:=I.tuple hq
 obtain ⟨j,h1,h2,h3,h4,h5⟩:=zcL he
 obtain ⟨w,ew,rw'⟩:=r.get h2
 have hl:=r.length
 have hn:=ydQ
 have fin:EP X pins σ Q w s:=⟨z,H,I,rw',q⟩
 exact subscriptTail_builtinR (x:=w) pl.typeIs slot_tuple_getitem.lookup
  (getItem_tuple (j:=j) (Q:=fun r s' => r=w/\EP X pins σ Q r s') pl (by omega) (by omega) (by rw [List.size_toArray,<- hl];exact h1) (by simpa using ew) ⟨rfl,fin⟩) hs
theorem ygA:IxR X rIxS:=by
 intro value slice pins s σ H x y v u Q I rx ry h hs
 obtain ⟨z,i,c,rfl,rfl,hz,he,q⟩:=h
 obtain ⟨t,rfl⟩:=rx
 obtain ⟨t',rfl⟩:=ry
 obtain ⟨j,h1,h2,h3,h4,h5⟩:=zcL he
 have hl:z.cps.toList.length=z.length:=by simp [Str.length]
 rw [hl] at h1 h4 h5
 have hn:=ydQ
 exact tail_any (typeIs_str s z t) slot_str_getitem.lookup (getItem_str (c:=c) (by
  have e1:decide (i < -(2 ^ 63:Int))=false:=decide_eq_false (by omega)
  have e2:decide (i ≥ 2 ^ 63)=false:=decide_eq_false (by omega)
  rw [e1,e2,Bool.or_false]) (by rw [h1];simpa using h2) ⟨.str ⟨#[c]⟩,H,I.tok _,⟨_,rfl⟩,q⟩) hs
def rIx (K:PySem.W.Frag):R2:=fun x y H Q=>rIxL K x y H Q\/rIxT K x y H Q\/rIxS x y H Q
theorem ygB:IxR X (rIx X.K):=ziI.or (ix_tup.or ygA)
theorem zgq (its:List Value) (n j:Nat) (u:Value):Obj.mapSeq (·.setIfInBounds j u) { cls:=.type "list",data:=.seq its.toArray n }={ cls:=.type "list",data:=.seq (its.set j u).toArray n }:=by
 simp [Obj.mapSeq]
theorem Inv.lst {pins:List (Addr×Obj)} {σ:St} {H:Hp} {s:Shared} {p:Addr} {xs:List V} (I:Inv X pins σ H s) (h:H p=some (.lst xs)) :
  ∃ (its:List Value) (n:Nat),Vals xs its/\s.heap.get? p=some { cls:=.type "list",data:=.seq its.toArray n }/\xs.length<=sizeLine:=by
 obtain ⟨z,its,n,r,e⟩:=I.hok p _ h
 exact ⟨its,n,r,e,z⟩
theorem Inv.lstUpd {pins:List (Addr×Obj)} {σ:St} {H:Hp} {s:Shared} {p:Addr} {xs ys:List V} {its its':List Value} {n n':Nat} {f:Obj->Obj} (I:Inv X pins σ H s) (h:H p=some (.lst xs))
  (ho:s.heap.get? p=some { cls:=.type "list",data:=.seq its.toArray n }) (hf:f { cls:=.type "list",data:=.seq its.toArray n }={ cls:=.type "list",data:=.seq its'.toArray n' }) (r:Vals ys its') (hz:ys.length<=sizeLine) (t:Nat) :
  Inv X pins σ (upd H p (.lst ys)) { s with heap:=s.heap.update p f,toks:=t }:=by
 have e:(s.heap.update p f).get? p=some { cls:=.type "list",data:=.seq its'.toArray n' }:=by
  rw [Heap.get?_update_self f ho (by rw [hf]<;>rfl),hf]
 refine I.write (x:=p) (e:=p) (by rw [h];trivial) (.inl rfl) (fun b u hb q=>(Heap.get?_update_other _ _ (Ne.symm hb)).trans q) ⟨_,e⟩ ?_
 exact ⟨hz,its',n',r,e⟩
def yhw:V->V->V->Hp->(Hp->Prop)->Prop:=fun o i v H Q=>∃ p xs k j,o = .ref p/\i = .int k/\H p=some (.lst xs)/\ixN xs.length k=some j/\Q (upd H p (.lst (xs.set j v)))
theorem zhP:PSet X yhw:=by
 intro pins s σ H o i v ov iv u Q I ro ri rv h
 obtain ⟨p,xs,k,j,rfl,rfl,hp,hj,q⟩:=h
 cases ro
 obtain ⟨t,rfl⟩:=ri
 obtain ⟨its,n,r,ho,hz⟩:=I.lst hp
 obtain ⟨h1,h2,h3,h4⟩:=zfC hj
 have hl:=r.length
 have hn:=ydQ
 have I':Inv X pins σ (upd H p (.lst (xs.set j v))) { s with heap:=s.heap.update p (Obj.mapSeq (·.setIfInBounds j u)) } :=
  I.lstUpd hp ho (zgq its n j u) (r.set rv j) (by rw [List.length_set];exact hz) s.toks
 by_cases h0:0<=k
 ·have hk:k.toNat=j:=by
   rw [seqIndex_of h0 h4] at h1
   exact Option.some.inj h1
  exact PySem.W.ki_setAt ho h0 (by omega) (by rw [List.size_toArray,<- hl];exact h4) (by rw [hk];exact ⟨_,I',q⟩)
 ·have hk:(k+(its.toArray.size:Int)).toNat=j:=by
   rw [seqIndex_neg (by omega) h3] at h1
   rw [List.size_toArray,<- hl]
   exact Option.some.inj h1
  exact PySem.W.ki_setBack ho (by omega) (by rw [List.size_toArray,<- hl];exact h3) (by omega) (by rw [hk];exact ⟨_,I',q⟩)
theorem zeF (lo hi:Option Int) (n:Nat):(sliceBounds lo hi none n).1=((HT.sIx n 0 lo:Nat):Int)/\(sliceBounds lo hi none n).2.1=((HT.sIx n n hi:Nat):Int)/\(sliceBounds lo hi none n).2.2=1:=by
 refine ⟨?_,?_,rfl⟩
 ·cases lo with
  | none=>simp [sliceBounds,HT.sIx]
  | some i =>
   simp only [sliceBounds,HT.sIx,Option.getD_none,show (1:Int) > 0 by decide,if_true]
   by_cases h:i<0
   ·simp only [h,if_true]<;>omega
   ·simp only [h,if_false]<;>omega
 ·cases hi with
  | none=>simp [sliceBounds,HT.sIx]
  | some i =>
   simp only [sliceBounds,HT.sIx,Option.getD_none,show (1:Int) > 0 by decide,if_true]
   by_cases h:i<0
   ·simp only [h,if_true]<;>omega
   ·simp only [h,if_false]<;>omega
theorem zew (its:List Value) (lo hi:Option Int):slicePick its.toArray lo hi none=((its.drop (HT.sIx its.length 0 lo)).take (HT.sIx its.length its.length hi-HT.sIx its.length 0 lo)).toArray:=by
 obtain ⟨h1,h2,h3⟩:=zeF lo hi its.toArray.size
 unfold slicePick
 rw [h1,h2,h3]
 simp only [sliceRange_one,pick_run,List.size_toArray]<;>rfl
def rSlL (K:PySem.W.Frag):V->Option Int->Option Int->Hp->VK->Prop:=fun x lo hi H Q=>∃ a xs,x = .ref a/\SqL K H a xs/\∀ p,H p=none->Q (.ref p) (upd H p (.lst (cutV xs lo hi)))
theorem ziJ:SlR X (rSlL X.K):=by
 intro pins s σ H x v vl vu lo hi sl Q I rx hs pl pu h
 obtain ⟨a,xs,rfl,hx,q⟩:=h
 cases rx
 obtain ⟨its,r,ht,hz⟩:=I.list hx
 have hlen:=r.length
 refine ⟨"list",_,slot_list_getitem.lookup,ht.isList.typeIs,?_⟩
 refine wpAny_getItem_list_slice ht.isList hs pl pu .none (by simp) ?_ (by rw [List.size_toArray]<;>omega)
 rw [zew,<- hlen]
 refine ⟨.ref s.heap.objs.size,_,I.laid (t' := s.toks) (o:=.lst (cutV xs lo hi)) (fun b ob q=>Heap.get?_push_of_some _ q) (Nat.le_refl _) ?_,rfl,q _ (I.hok.fresh (Nat.le_refl _))⟩
 exact ⟨Nat.le_trans (zcY xs lo hi) hz,_,0,(r.drop (HT.sIx xs.length 0 lo)).take (HT.sIx xs.length xs.length hi-HT.sIx xs.length 0 lo),Heap.get?_push_size _ rfl⟩
theorem zeG:OpR X (compareOp .NotIn) (fun x y H Q=>∃ i j,x = .str i/\y = .str j/\Q (.bl (!(!(Builtin.Str.occurrences j i 0 j.length 1).isEmpty))) H):=by
 intro pins s σ H x y v u Q I rx ry h
 obtain ⟨i,j,rfl,rfl,q⟩:=h
 obtain ⟨t,rfl⟩:=rx
 obtain ⟨t',rfl⟩:=ry
 exact notIn_str ⟨.bl _,H,I,rfl,q⟩
theorem zeH:CallR X (.builtin "len") (fun xs H Q=>∃ p ys,xs=[.ref p]/\(SqL X.K H p ys\/SqT X.K H p ys)/\Q (.int ys.length) H):=by
 intro pins s σ H xs us Q I r h
 obtain ⟨p,ys,rfl,hq,q⟩:=h
 obtain ⟨u,rfl,rx⟩:=ydy r
 cases rx
 have hn:=ydQ
 rcases hq with hq | hq
 ·obtain ⟨its,r',pl,hz⟩:=I.list hq
  have hlen:=r'.length
  exact Calls.call_len_list pl.isList (by simp only [List.size_toArray]<;>omega) ⟨.int ys.length,H,I.tok _,⟨s.toks+1,by rw [List.size_toArray,hlen]⟩,q⟩
 ·obtain ⟨its,r',pl,hz⟩:=I.tuple hq
  have hlen:=r'.length
  exact len_tuple pl (by simp only [List.size_toArray]<;>omega) ⟨.int ys.length,H,I.tok _,⟨s.toks+1,by rw [List.size_toArray,hlen]⟩,q⟩
theorem zeI:CallR X (.builtin "len") (fun xs H Q=>∃ z,xs=[.str z]/\z.length<=sizeLine/\Q (.int z.length) H):=by
 intro pins s σ H xs us Q I r h
 obtain ⟨z,rfl,hz,q⟩:=h
 obtain ⟨u,rfl,t,rfl⟩:=ydy r
 have hn:=ydQ
 exact len_str (by omega) ⟨.int z.length,H,I.tok _,⟨_,rfl⟩,q⟩
theorem CallR.or {f:Value} {r r':List V->Hp->VK->Prop} (h:CallR X f r) (h':CallR X f r'):CallR X f (fun xs H Q=>r xs H Q\/r' xs H Q):=by
 intro pins s σ H xs us Q I rs q
 rcases q with q | q
 ·exact h pins s σ H xs us Q I rs q
 ·exact h' pins s σ H xs us Q I rs q
def tyV (K:PySem.W.Frag) (T:String) (x:V) (H:Hp):Prop:=match x with
 | .str _=>T = "str"
 | .int _=>T = "int"
 | .ref p=>(T = "list" /\ ∃ xs,SqL K H p xs)\/(T = "tuple" /\ ∃ o,K.lookup p=some o/\o.cls = .type "tuple" /\ o.dict=none) \/
   (T = "dict" /\ ((∃ kvs,H p=some (.dK kvs))\/∃ kvs,H p=some (.dT kvs)))\/(T = "set" /\ ∃ S n,H p=some (.set S n))
 | _=>False
theorem yfm {pins:List (Addr×Obj)} {σ:St} {H:Hp} {s:Shared} {T:String} {x:V} {v:Value} (I:Inv X pins σ H s) (r:RelV x v) (ty:tyV X.K T x H) :
  s.TypeIs v T/\∀ a,v = .ref a->∃ ob,s.heap.get? a=some ob/\ob.dict=none:=by
 cases x with
 | str z =>
  obtain ⟨t,rfl⟩:=r
  cases (show T = "str" from ty)
  exact ⟨typeIs_str s z t,fun _ e=>nomatch e⟩
 | int i =>
  obtain ⟨t,rfl⟩:=r
  cases (show T = "int" from ty)
  exact ⟨typeIs_int s i t,fun _ e=>nomatch e⟩
 | ref p =>
  cases r
  rcases ty with ⟨rfl,xs,hq⟩ | ⟨rfl,o,hk,hc,hd⟩ | ⟨rfl,hk⟩ | ⟨rfl,S,n,hk⟩
  ·obtain ⟨its,_,pl,_⟩:=I.list hq
   refine ⟨pl.isList.typeIs,fun a e=>?_⟩
   cases e
   obtain ⟨o,n,e,c,hd,_⟩:=pl
   exact ⟨o,e,hd⟩
  ·refine ⟨⟨o,I.kIn p o hk,hc⟩,fun a e=>?_⟩
   cases e
   exact ⟨o,I.kIn _ o hk,hd⟩
  ·have z:∃ o,s.heap.get? p=some o/\o.ExactDict:=by
    rcases hk with ⟨kvs,hk⟩ | ⟨kvs,hk⟩
    ·obtain ⟨_,_,_,_,o,_,_,e,ex,_⟩:=I.hok p _ hk
     exact ⟨o,e,ex⟩
    ·obtain ⟨_,_,_,_,o,_,_,e,ex,_⟩:=I.hok p _ hk
     exact ⟨o,e,ex⟩
   obtain ⟨o,e,ex⟩:=z
   refine ⟨⟨o,e,ex.1⟩,fun a e2=>?_⟩
   cases e2
   exact ⟨o,e,ex.2.1⟩
  ·obtain ⟨o,_,_,_,e,ex,_⟩:=I.hok p _ hk
   refine ⟨⟨o,e,ex.1⟩,fun a e2=>?_⟩
   cases e2
   exact ⟨o,e,ex.2.1⟩
 | _=>exact False.elim ty
def tBM0 (K:PySem.W.Frag) (T:String) (r:V->List V->Hp->VK->Prop) (to:TE):TE:=fun σ H Q=>to σ H fun x H1=>tyV K T x H1/\r x [] H1 Q
def tBM (K:PySem.W.Frag) (T:String) (r:V->List V->Hp->VK->Prop) (to:TE) (t:TA):TE:=fun σ H Q=>to σ H fun x H1=>tyV K T x H1/\t σ H1 fun xs H2=>r x xs H2 Q
variable {o e:Expr} {es:List Expr} {to:TE} {t:TA} {name:Str} {apos cpos:Pos} {T id:String} {r:V->List V->Hp->VK->Prop}
theorem ygC (pa:PlainAttrs T) (slot:Slot T name id) (hty:typeOf (.builtin id)=pure (.type "method_descriptor")) (hm:MtR X id r) (ho:PE X o to)
  (hbase:attributeBase o name X.env (eval o X.env)=eval o X.env:=by rfl) (hline:(apos.endLine == cpos.line)=true:=by rfl):PE X (.Call (.Attribute o name apos) [] [] cpos) (tBM0 X.K T r to):=by
 intro pins s σ H Q I h
 refine wpAny_Call_method0_late hbase hline (thn (ho pins s σ H _ I h) fun v s1 ⟨x,H1,I1,r1,ty,q1⟩=>?_)
 obtain ⟨h1,h2⟩:=yfm I1 r1 ty
 exact ⟨T,id,pa,slot,hty,h1,h2,Calls.callWith_builtin rfl (PySem.evalArgs_none (hm pins s1 σ H1 x [] v [] Q I1 r1 .nil q1))⟩
theorem yhx (pa:PlainAttrs T) (slot:Slot T name id) (hty:typeOf (.builtin id)=pure (.type "method_descriptor")) (hm:MtR X id r) (ho:PE X o to) (ha:PA X (e::es) t)
  (hbase:attributeBase o name X.env (eval o X.env)=eval o X.env:=by rfl)
  (hfew:((backTo cpos (starEach (e::es) X.env)).all (fun x=>!x.1) && (backToKw cpos (keywordEach [] X.env)).all (fun x=>x.1.isSome)
   && decide ((e::es).length+([]:List Keyword).length+(if ([]:List Keyword).isEmpty then 0 else 1)<30))=true:=by rfl)
  (hline:(apos.endLine == cpos.line)=true:=by rfl) (hs:starEach (e::es) X.env=(false,eval e X.env)::starEach es X.env:=by rfl) (hplain:(backTo cpos (starEach es X.env)).any (·.1)=false:=by rfl) :
  PE X (.Call (.Attribute o name apos) (e::es) [] cpos) (tBM X.K T r to t):=by
 intro pins s σ H Q I h
 refine wpAny_Call_method_late hbase hfew hline rfl (thn (ho pins s σ H _ I h) fun v s1 ⟨x,H1,I1,r1,ty,q1⟩=>?_)
 obtain ⟨h1,h2⟩:=yfm I1 r1 ty
 refine ⟨T,id,pa,slot,hty,h1,h2,?_⟩
 have hA:=ha cpos pins s1 σ H1 _ I1 q1
 rw [hs] at hA ⊢
 refine Calls.callWith_builtin (by show (false || (backTo cpos (starEach es X.env)).any (·.1))=false;rw [hplain]<;>rfl) (Calls.evalArgs_plain ?_)
 exact thn hA fun us s2 ⟨vs,H2,I2,r2,q2⟩=>hm pins s2 σ H2 x vs v us Q I2 r1 r2 q2
end
end L2
namespace L2
open PySem PySem.Spec PyProof.Rows
def MtM (X:Cx) (id:String) (r:V->List V->Hp->VK->Prop):Prop :=
 ∀ (pins:List (Addr×Obj)) (s:Shared) (σ:St) (H:Hp) (x:V) (xs:List V) (v:Value) (us:List Value) (Q:VK),Inv X pins σ H s->RelV x v->Vals xs us->r x xs H Q ->
  wpAny (model X.prog X.w) X.A (call (.builtin id) (v::us)) (EP X pins σ Q) X.xe s
theorem Vals.one:∀ {x:V} {us:List Value},Vals [x] us->∃ u,us=[u]/\RelV x u
 | _,_,.cons r .nil=>⟨_,rfl,r⟩
theorem Vals.zero:∀ {us:List Value},Vals [] us->us=[]
 | _,.nil=>rfl
theorem Vals.dropLast {xs:List V} {us:List Value} (h:Vals xs us):Vals xs.dropLast us.dropLast:=by
 induction h with
 | nil=>exact .nil
 | cons r t ih =>
  cases t with
  | nil=>exact .nil
  | cons q t' => exact .cons r ih
theorem zgr {α:Type} (l:List α):l.eraseIdx (l.length-1)=l.dropLast:=by
 induction l with
 | nil=>rfl
 | cons a r ih =>
  cases r with
  | nil=>rfl
  | cons b r =>
   have e:(a::b::r).length-1=((b::r).length-1)+1:=by
    have h1:(a::b::r).length=r.length+2:=rfl
    have h2:(b::r).length=r.length+1:=rfl
    omega
   rw [e,List.eraseIdx_cons_succ,ih]
   all_goals rfl
section
variable {X:Cx} {pins:List (Addr×Obj)} {σ:St} {H:Hp} {s:Shared} {l b:Addr} {xs ys zs:List V}
theorem Inv.lset {its its':List Value} {n:Nat} {f:Array Value->Array Value} {t':Nat} (I:Inv X pins σ H s) (hH:H l=some (.lst xs))
  (e:s.heap.get? l=some { cls:=.type "list",data:=.seq its.toArray n }) (hf:f its.toArray=its'.toArray) (hv:Vals ys its') (hz:ys.length<=sizeLine) :
  Inv X pins σ (upd H l (.lst ys)) { s with heap:=s.heap.update l (Obj.mapSeq f),toks:=t' }:=by
 have q:=PySem.IsL.update e f
 rw [hf] at q
 refine I.write (x:=l) (e:=l) (by rw [hH];exact trivial) (.inl rfl) (fun b' u hb hu=>(Heap.get?_update_other s.heap (Obj.mapSeq f) (Ne.symm hb)).trans hu) ⟨_,q⟩ ?_
 exact ⟨hz,its',_,hv,q⟩
theorem Inv.lnew {its:List Value} {t':Nat} (I:Inv X pins σ H s) (hv:Vals ys its) (hz:ys.length<=sizeLine) :
  Inv X pins σ (upd H s.heap.objs.size (.lst ys)) { s with heap:=s.heap.push { cls:=.type "list",data:=.seq its.toArray },toks:=t' } :=
 I.laid (fun _ _ q=>Heap.get?_push_of_some _ q) (Nat.le_refl _) ⟨hz,its,0,hv,Heap.get?_push_size _ rfl⟩
theorem Inv.fresh (I:Inv X pins σ H s):H s.heap.objs.size=none:=I.hok.fresh (Nat.le_refl _)
theorem Inv.lstM (I:Inv X pins σ H s) (hH:H l=some (.lst xs)):xs.length<=sizeLine/\∃ (its:List Value) (n:Nat),Vals xs its/\xs.length=its.length/\s.heap.get? l=some { cls:=.type "list",data:=.seq its.toArray n }:=by
 obtain ⟨z,its,n,r,e⟩:=I.hok l _ hH
 exact ⟨z,its,n,r,r.length,e⟩
end
section
variable {X:Cx}
def yf7:V->List V->Hp->VK->Prop:=fun x vs H Q=>∃ l xs y,x = .ref l/\vs=[y]/\H l=some (.lst xs)/\xs.length<sizeLine/\Q .non (upd H l (.lst (xs++[y])))
theorem zcs:MtM X "list.append" yf7:=by
 intro pins s σ H x vs v us Q I rx rv h
 obtain ⟨l,xs,y,rfl,rfl,hH,hz,q⟩:=h
 cases rx
 obtain ⟨u,rfl,ru⟩:=rv.one
 obtain ⟨z,its,n,r,hl,e⟩:=I.lstM hH
 refine call_meets F.slot_list_append ⟨_,e,rfl⟩ F.entry_list_append (F.args_list_append_2 _ _) (PySem.list_append l its.toArray n u (by rw [List.size_toArray];omega)) ⟨e,?_⟩
 refine ⟨.non,_,I.lset (its' := its++[u]) hH e (by simp) (r.append (.cons ru .nil)) ?_,rfl,q⟩
 rw [List.length_append,List.length_singleton]
 omega
def rPop:V->List V->Hp->VK->Prop:=fun x vs H Q=>∃ l xs y,x = .ref l/\vs=[]/\H l=some (.lst xs)/\xs[xs.length-1]? = some y/\Q y (upd H l (.lst xs.dropLast))
theorem ygD:MtM X "list.pop" rPop:=by
 intro pins s σ H x vs v us Q I rx rv h
 obtain ⟨l,xs,y,rfl,rfl,hH,hy,q⟩:=h
 cases rx
 have hus:=rv.zero
 subst hus
 obtain ⟨z,its,n,r,hl,e⟩:=I.lstM hH
 obtain ⟨u,hu,ru⟩:=r.get hy
 have hy':its.toArray[its.toArray.size-1]? = some u:=by
  show its.toArray[its.length-1]? = some u
  rw [<- Array.getElem?_toList,<- hl]
  exact hu
 refine call_meets F.slot_list_pop ⟨_,e,rfl⟩ F.entry_list_pop (F.args_list_pop_1 _) (MeetsSeq.list_pop_last l its.toArray n u hy' (by rw [List.size_toArray];omega)) ⟨e,?_⟩
 refine ⟨y,_,I.lset (its' := its.dropLast) hH e ?_ r.dropLast ?_,ru,q⟩
 ·show its.toArray.eraseIdxIfInBounds (its.toArray.size-1)=its.dropLast.toArray
  rw [List.size_toArray,List.eraseIdxIfInBounds_toArray,zgr]
 ·rw [List.length_dropLast]
  omega
end
section
variable {prog:Program} {w:World} {A:Around} {E:Value->Shared->Prop} {s:Shared}
end
section
variable {X:Cx}
end
end L2
namespace L2
open PySem PySem.Spec PyProof.Rows
section
variable {κ:Type} [DecidableEq κ]
def valV (kvs:List (κ×V)) (k:κ):Option V:=(kvs.find? fun kv=>decide (kv.1=k)).map (·.2)
def putK (kvs:List (κ×V)) (k:κ) (v:V):List (κ×V) :=
 if (kvs.any fun kv=>decide (kv.1=k))=true then kvs.map (fun kv=>if kv.1=k then (kv.1,v) else kv) else kvs++[(k,v)]
theorem zb3 {p:κ×V} {r:List (κ×V)} {k:κ} (e:p.1=k):valV (p::r) k=some p.2:=by simp [valV,List.find?_cons,e]
theorem zbA {p:κ×V} {r:List (κ×V)} {k:κ} (e : ¬ p.1=k):valV (p::r) k=valV r k:=by simp [valV,List.find?_cons,e]
theorem zdd (k:κ):∀ kvs:List (κ×V),(kvs.any fun kv=>decide (kv.1=k))=(valV kvs k).isSome
 | []=>rfl
 | p::r=>by
  rw [List.any_cons]
  by_cases e:p.1=k
  ·simp only [zb3 e,decide_eq_true e,Bool.true_or,Option.isSome_some]
  ·rw [zbA e,decide_eq_false e,Bool.false_or];exact zdd k r
theorem zcZ (kvs:List (κ×V)) (k:κ) (v:V):(putK kvs k v).length<=kvs.length+1:=by
 unfold putK
 split
 ·rw [List.length_map];omega
 ·rw [List.length_append,List.length_cons,List.length_nil];omega
theorem RelO.isSome_eq {o:Option V} {u:Option Value} (r:RelO o u):o.isSome=u.isSome:=by
 cases o with
 | none=>cases u with
  | none=>rfl
  | some _=>exact (show False from r).elim
 | some _=>cases u with
  | none=>exact (show False from r).elim
  | some _=>rfl
theorem KV.val {kvs:List (κ×V)} {vs:List (κ×Value)} (r:KV kvs vs) (k:κ):RelO (valV kvs k) (valueAt vs k):=by
 unfold KV at r
 induction r with
 | nil=>exact True.intro
 | @cons p q ps qs h t ih =>
  obtain ⟨h1,h2⟩:=h
  by_cases e:p.1=k
  ·have e':q.1=k:=h1.symm.trans e
   have b:valueAt (q::qs) k=some q.2:=by simp [valueAt,List.find?_cons,e']
   rw [zb3 e,b];exact h2
  ·have e' : ¬ q.1=k:=fun z=>e (h1.trans z)
   have b:valueAt (q::qs) k=valueAt qs k:=by simp [valueAt,List.find?_cons,e']
   rw [zbA e,b];exact ih
theorem KV.any {kvs:List (κ×V)} {vs:List (κ×Value)} (r:KV kvs vs) (k:κ):(kvs.any fun kv=>decide (kv.1=k))=vs.any fun kv=>decide (kv.1=k):=by
 unfold KV at r
 induction r with
 | nil=>rfl
 | cons h t ih=>rw [List.any_cons,List.any_cons,ih,h.1]
theorem KV.repl {kvs:List (κ×V)} {vs:List (κ×Value)} (r:KV kvs vs) (k:κ) {y:V} {u:Value} (ry:RelV y u) :
  KV (kvs.map fun kv=>if kv.1=k then (kv.1,y) else kv) (vs.map fun kv=>if kv.1=k then (kv.1,u) else kv):=by
 unfold KV at r ⊢
 induction r with
 | nil=>exact .nil
 | @cons p q ps qs h t ih =>
  rw [List.map_cons,List.map_cons]
  refine .cons ?_ ih
  obtain ⟨h1,h2⟩:=h
  by_cases e:p.1=k
  ·rw [if_pos e,if_pos (h1.symm.trans e)];exact ⟨h1,ry⟩
  ·rw [if_neg e,if_neg (fun z=>e (h1.trans z))];exact ⟨h1,h2⟩
theorem KV.put {kvs:List (κ×V)} {vs:List (κ×Value)} (r:KV kvs vs) (k:κ) {y:V} {u:Value} (ry:RelV y u):KV (putK kvs k y) (stored vs k u):=by
 unfold putK stored
 rw [r.any k]
 by_cases e:(vs.any fun kv=>decide (kv.1=k))=true
 ·rw [if_pos e,if_pos e];exact r.repl k ry
 ·rw [if_neg e,if_neg e];exact Paired.snoc r ⟨rfl,ry⟩
theorem KV.length {kvs:List (κ×V)} {vs:List (κ×Value)} (r:KV kvs vs):kvs.length=vs.length:=Paired.length r
end
theorem ye3 {P:Program} {w:World} {k:Key} {u:Value} (r:RelV (kV k) u):(ybv P w).is k u=true:=by
 cases k with
 | inl i=>obtain ⟨t,e⟩:=(show ∃ t,u=Value.int i t from r);subst e;exact zcV P w i t
 | inr x=>obtain ⟨t,e⟩:=(show ∃ t,u=Value.str x t from r);subst e;exact zcW P w x t
theorem ygE {P:Program} {w:World} {y:V} {k:Key} {u:Value} (e:kOf y=some k) (r:RelV y u):(ybv P w).is k u=true:=by
 cases y with
 | int i=>cases e;obtain ⟨t,e⟩:=(show ∃ t,u=Value.int i t from r);subst e;exact zcV P w i t
 | str x=>cases e;obtain ⟨t,e⟩:=(show ∃ t,u=Value.str x t from r);subst e;exact zcW P w x t
 | bl b=>cases e;cases (show u=Value.bool b from r);exact decide_eq_true rfl
 | _=>cases e
theorem zeb {P:Program} {w:World}:∀ {ys:List V} {ks:List Key} {us:List Value},ys.map kOf=ks.map some->Vals ys us->ItemsAre (ybv P w) ks us
 | [],[],_,_,r=>by cases r;exact .nil
 | [],_::_,_,e,_=>by simp at e
 | _::_,[],_,e,_=>by simp at e
 | y::ys,k::ks,_,e,r=>by
  rw [List.map_cons,List.map_cons] at e
  injection e with e1 e2
  cases r with
  | cons h t=>exact .cons (ygE e1 h) (zeb e2 t)
def KTup (H:Hp) (b:Addr) (k:List Key):Prop:=∃ ys,H b=some (.tup ys)/\ys.map kOf=k.map some
theorem KTup.of {H:Hp} {b:Addr} {k:List Key} (e:H b=some (.tup (k.map kV))):KTup H b k:=⟨_,e,by rw [List.map_map];exact List.map_congr_left fun x _=>ygc x⟩
abbrev KT (H:Hp):List (List Key×V)->List (List Key×Addr×Value)->Prop:=Paired fun p q=>p.1=q.1/\(∃ ys,H q.2.1=some (.tup ys)/\ys.map kOf=p.1.map some)/\RelV p.2 q.2.2
theorem KT.val {H:Hp} {kvs:List (List Key×V)} {xs:List (List Key×Addr×Value)} (r:KT H kvs xs) (k:List Key):RelO (valV kvs k) ((atKey xs k).map (·.2)):=by
 induction r with
 | nil=>exact True.intro
 | @cons p q ps qs h t ih =>
  obtain ⟨h1,_,h2⟩:=h
  by_cases e:p.1=k
  ·have e':q.1=k:=h1.symm.trans e
   have b:atKey (q::qs) k=some q.2:=by simp [atKey,List.find?_cons,e']
   rw [zb3 e,b];exact h2
  ·have e' : ¬ q.1=k:=fun z=>e (h1.trans z)
   have b:atKey (q::qs) k=atKey qs k:=by simp [atKey,List.find?_cons,e']
   rw [zbA e,b];exact ih
theorem KT.repl {H:Hp} {kvs:List (List Key×V)} {xs:List (List Key×Addr×Value)} (r:KT H kvs xs) (k:List Key) {y:V} {u:Value} (ry:RelV y u) :
  KT H (kvs.map fun kv=>if kv.1=k then (kv.1,y) else kv) (xs.map (putAt k u)):=by
 induction r with
 | nil=>exact .nil
 | @cons p q ps qs h t ih =>
  rw [List.map_cons,List.map_cons]
  refine .cons ?_ ih
  obtain ⟨h1,h2,h3⟩:=h
  unfold putAt
  by_cases e:p.1=k
  ·rw [if_pos e,if_pos (h1.symm.trans e)];exact ⟨h1,h2,ry⟩
  ·rw [if_neg e,if_neg (fun z=>e (h1.trans z))];exact ⟨h1,h2,h3⟩
theorem KT.put {H:Hp} {kvs:List (List Key×V)} {xs:List (List Key×Addr×Value)} (r:KT H kvs xs) (k:List Key) {b:Addr} {y:V} {u:Value} (hb:KTup H b k) (ry:RelV y u) :
  KT H (putK kvs k y) (storedH xs k b u):=by
 have e:(kvs.any fun kv=>decide (kv.1=k))=(atKey xs k).isSome:=by
  rw [zdd,(r.val k).isSome_eq,Option.isSome_map]
 unfold putK storedH
 rw [e]
 by_cases q:(atKey xs k).isSome=true
 ·rw [if_pos q,if_pos q];exact r.repl k ry
 ·rw [if_neg q,if_neg q];exact Paired.snoc r ⟨rfl,hb,ry⟩
theorem KT.keeps {H H':Hp} {kvs:List (List Key×V)} {xs:List (List Key×Addr×Value)} (r:KT H kvs xs) (ht:∀ b ys,H b=some (.tup ys)->H' b=some (.tup ys)):KT H' kvs xs :=
 Paired.mapP r fun _ _ z=>⟨z.1,z.2.1.imp fun _ e=>⟨ht _ _ e.1,e.2⟩,z.2.2⟩
section
variable {P:Program} {w:World} {H:Hp} {h:Heap} {a:Addr}
theorem yfP {u:HO} (ok:HOk P w H h) (e:Rd H a u):ObjOk P w H h a u:=e.ok ok
theorem yel {kvs:List (Key×V)} (ok:HOk P w H h) (e:Rd H a (.dK kvs)):kvs.length<=sizeLine/\(a == sysModules)=false/\∃ vs,KV kvs vs/\h.DictOf (ybv P w) a vs :=
 show ObjOk P w H h a (.dK kvs) from yfP ok e
theorem yhy {kvs:List (Key×V)} (ok:HOk P w H h) (e:H a=some (.dK kvs)):kvs.length<=sizeLine/\(a == sysModules)=false/\∃ vs,KV kvs vs/\h.DictOf (ybv P w) a vs:=yel ok (.inl e)
theorem yem {ks:List Key} (ok:HOk P w H h) (e:KTup H a ks):(tupleKind (ybv P w)).is h ks a:=by
 obtain ⟨ys,e,ek⟩:=e
 obtain ⟨_,its,r,o,h1,h2,n,h3⟩:=(show ObjOk P w H h a (.tup ys) from ok a _ e)
 exact ⟨o,its.toArray,n,h1,h2,h3,by simpa using zeb ek r⟩
theorem yeG {kvs:List (List Key×V)} (ok:HOk P w H h) (e:Rd H a (.dT kvs)):kvs.length<=sizeLine/\(a == sysModules)=false /\
  ∃ xs,KT H kvs xs/\h.DictOfH (tupleKind (ybv P w)) a xs:=by
 obtain ⟨z,y,xs,r,o,es,ep,h1,h2,h3,h4,h5⟩:=(show ObjOk P w H h a (.dT kvs) from yfP ok e)
 refine ⟨z,y,xs,r,o,es,ep,h1,h2,h3,h4,fun x hx=>?_,h5⟩
 have all:∀ {l:List (List Key×V)} {m:List (List Key×Addr×Value)},KT H l m->∀ x∈m,(tupleKind (ybv P w)).is h x.1 x.2.1:=by
  intro l m q
  induction q with
  | nil=>intro x hx;exact nomatch hx
  | @cons p q ps qs hq t ih =>
   intro x hx
   rcases List.mem_cons.mp hx with e | hx
   ·subst e
    exact yem ok (by rw [<- hq.1];exact hq.2.1)
   ·exact ih x hx
 exact all r x hx
theorem yhz {kvs:List (List Key×V)} (ok:HOk P w H h) (e:H a=some (.dT kvs)):kvs.length<=sizeLine/\(a == sysModules)=false /\
  ∃ xs,KT H kvs xs/\h.DictOfH (tupleKind (ybv P w)) a xs:=yeG ok (.inl e)
end
def DGet (H:Hp) (a:Addr) (y:V) (r:Option V):Prop :=
 (∃ kvs k,Rd H a (.dK kvs)/\y=kV k/\r=valV kvs k)\/∃ kvs k b,Rd H a (.dT kvs)/\y = .ref b/\KTup H b k/\r=valV kvs k
def DPut (H:Hp) (a:Addr) (y v:V) (H':Hp):Prop :=
 (∃ kvs k,H a=some (.dK kvs)/\y=kV k/\kvs.length<sizeLine/\H'=upd H a (.dK (putK kvs k v))) \/
 ∃ kvs k b,H a=some (.dT kvs)/\y = .ref b/\KTup H b k/\kvs.length<sizeLine/\H'=upd H a (.dT (putK kvs k v))
theorem DGet.k {H:Hp} {a:Addr} {kvs:List (Key×V)} {k:Key} (e:H a=some (.dK kvs)):DGet H a (kV k) (valV kvs k):=.inl ⟨kvs,k,.inl e,rfl,rfl⟩
theorem DGet.t {H:Hp} {a b:Addr} {kvs:List (List Key×V)} {k:List Key} (e:H a=some (.dT kvs)) (eb:KTup H b k):DGet H a (.ref b) (valV kvs k):=.inr ⟨kvs,k,b,.inl e,rfl,eb,rfl⟩
theorem DPut.k {H:Hp} {a:Addr} {kvs:List (Key×V)} {k:Key} {v:V} (e:H a=some (.dK kvs)) (hl:kvs.length<sizeLine):DPut H a (kV k) v (upd H a (.dK (putK kvs k v))):=.inl ⟨kvs,k,e,rfl,hl,rfl⟩
theorem DPut.t {H:Hp} {a b:Addr} {kvs:List (List Key×V)} {k:List Key} {v:V} (e:H a=some (.dT kvs)) (eb:KTup H b k) (hl:kvs.length<sizeLine) :
  DPut H a (.ref b) v (upd H a (.dT (putK kvs k v))):=.inr ⟨kvs,k,b,e,rfl,eb,hl,rfl⟩
section
variable {X:Cx} {pins:List (Addr×Obj)} {σ:St} {H:Hp} {s:Shared} {a:Addr} {y v:V} {u r:Value} {o:Option V} {A:Around} {E:Value->Shared->Prop}
theorem Inv.big (I:Inv X pins σ H s):sysModules<s.heap.objs.size:=by
 have h:mainGlobals<s.heap.objs.size:=(I.mod.glob.keeps I.bk).lt
 exact Nat.lt_trans (by decide) h
theorem zgY {Q:Value->Shared->Prop} (hu:A.units+1<cLine) (I:Inv X pins σ H s) (g:DGet H a y (some v)) (ry:RelV y u) (h:∀ w' s',Inv X pins σ H s'->RelV v w'->Q w' s') :
  wpAny (model X.prog X.w) A (getItem (.ref a) u) Q E s:=by
 rcases g with ⟨kvs,k,e,ey,l⟩ | ⟨kvs,k,b,e,ey,eb,l⟩
 ·subst ey
  obtain ⟨z,hd,vs,rel,dd⟩:=yel I.hok e
  obtain ⟨w',hw,rw'⟩:=RelO.some_of (v:=v) (o:=valueAt vs k) (by rw [l];exact rel.val k)
  exact wpAny_getItem_of (ye3 ry) dd.mapOf hw (h w' _ (I.tok _) rw')
 ·subst ey
  cases (show u=Value.ref b from ry)
  obtain ⟨z,hd,xs,rel,dd⟩:=yeG I.hok e
  obtain ⟨w',hw,rw'⟩:=RelO.some_of (v:=v) (o:=(atKey xs k).map (·.2)) (by rw [l];exact rel.val k)
  obtain ⟨p,hp,hp2⟩:=Option.map_eq_some_iff.mp hw
  refine wpAny_getItem_heap (tupleKind_room_in1 hu) (yem I.hok eb) dd hp ?_
  rw [hp2]
  exact h w' _ (I.tok _) rw'
theorem ziK {Q:Value->Shared->Prop} (hu:A.units+1<cLine) (I:Inv X pins σ H s) (g:DGet H a y o) (ry:RelV y u) (h:∀ s',Inv X pins σ H s'->Q (.bool (!o.isSome)) s') :
  wpAny (model X.prog X.w) A (compareOp .NotIn u (.ref a)) Q E s:=by
 rcases g with ⟨kvs,k,e,ey,l⟩ | ⟨kvs,k,b,e,ey,eb,l⟩
 ·subst ey
  obtain ⟨z,hd,vs,rel,dd⟩:=yel I.hok e
  refine wpAny_notIn_of (ye3 ry) hd dd.mapOf ?_
  rw [<- (rel.val k).isSome_eq,<- l]
  exact h _ (I.tok _)
 ·subst ey
  cases (show u=Value.ref b from ry)
  obtain ⟨z,hd,xs,rel,dd⟩:=yeG I.hok e
  refine wpAny_notIn_heap (tupleKind_room_in1 hu) (yem I.hok eb) hd dd ?_
  have q:=(rel.val k).isSome_eq
  rw [Option.isSome_map] at q
  rw [<- q,<- l]
  exact h _ (I.tok _)
theorem zfD {h':Heap} {t':Nat} {ob:HO} (I:Inv X pins σ H s) (mu:Mut (H a)) (hs:Heap.SameBut a s.heap h') (he:∃ q,h'.get? a=some q) (new:ObjOk X.prog X.w (upd H a ob) h' a ob) :
  Inv X pins σ (upd H a ob) { s with heap:=h',toks:=t' } :=
 I.write (x:=a) (e:=a) mu (.inl rfl) (fun b q hb z=>(hs.2 b hb).trans z) he new
theorem ygF {P:Program} {w:World} {H':Hp} {h':Heap} {kvs:List (Key×V)} {vs:List (Key×Value)} (z:kvs.length<=sizeLine) (hd:(a == sysModules)=false) (rel:KV kvs vs) (dd:h'.DictOf (ybv P w) a vs) :
  ObjOk P w H' h' a (.dK kvs):=⟨z,hd,vs,rel,dd⟩
theorem zgZ {H':Hp} {Q:Unit->Shared->Prop} (hu:A.units+1<cLine) (I:Inv X pins σ H s) (g:DPut H a y v H') (ry:RelV y u) (rv:RelV v r) (h:∀ s',Inv X pins σ H' s'->Q () s') :
  wpAny (model X.prog X.w) A (setItem (.ref a) u r) Q E s:=by
 rcases g with ⟨kvs,k,e,ey,l,eH⟩ | ⟨kvs,k,b,e,ey,eb,l,eH⟩
 ·subst ey eH
  obtain ⟨z,hd,vs,rel,dd⟩:=yhy I.hok e
  have hz:vs.length<=sizeLine:=by rw [<- rel.length];exact z
  have hl:(putK kvs k v).length<=sizeLine:=by have:=zcZ kvs k v;omega
  refine wpAny_setItem_pairs (hsz:=hz) (ye3 ry) dd fun h' dd' hs=>h _ ?_
  have he:∃ q,h'.get? a=some q:=let ⟨q,_,_,hq,_⟩:=dd';⟨q,hq⟩
  exact zfD I (by rw [e];exact True.intro) hs he (ygF hl hd (rel.put k rv) dd')
 ·subst ey eH
  cases (show u=Value.ref b from ry)
  obtain ⟨z,hd,xs,rel,dd⟩:=yhz I.hok e
  have hz:xs.length<=sizeLine:=by rw [<- Paired.length rel];exact z
  have hl:(putK kvs k v).length<=sizeLine:=by have:=zcZ kvs k v;omega
  refine wpAny_setItem_heap (hsz:=hz) (tupleKind_room_in1 hu) (yem I.hok eb) dd fun h' dd' hs=>h _ ?_
  obtain ⟨q,es,ep,hq,h2,h3,h4,_,h5⟩:=dd'
  refine zfD I (by rw [e];exact True.intro) hs ⟨q,hq⟩ ⟨hl,hd,_,(rel.put k eb rv).keeps fun c ys ec=>?_,q,es,ep,hq,h2,h3,h4,h5⟩
  rw [yaC (yhd ec e (fun z=>nomatch z))]
  exact ec
end
section
variable {X:Cx} {pins:List (Addr×Obj)} {σ:St} {H:Hp} {s:Shared} {a:Addr} {kvs:List (Key×V)} {k:Key} {u:Value} {A:Around} {E:Value->Shared->Prop}
theorem yhA {Q:Value->Shared->Prop} (I:Inv X pins σ H s) (e:Rd H a (.dK kvs)) (h:∀ t s',Inv X pins σ H s'->Q (.int kvs.length t) s'):wpAny (model X.prog X.w) A (call (.builtin "len") [.ref a]) Q E s:=by
 obtain ⟨z,hd,vs,rel,dd⟩:=yel I.hok e
 refine call_len_dict hd dd (by rw [<- rel.length];rw [sizeLine_eq] at z;omega) ?_
 rw [<- rel.length]
 exact h _ _ (I.tok _)
end
def NoSl (i:Expr):Prop:=∀ ov iv,subscripted i false ov iv=operate [ov,iv] (getItem ov iv)
theorem ziL {prog:Program} {w:World} {A:Around} {E:Value->Shared->Prop} {s:Shared} {env:Env} {value slice:Expr} {pos:Pos} {T id:String} {Q:Value->Shared->Prop}
  (hl:typeLookup (.type T) "__getitem__" = pure (some (.builtin id))) (hs:NoSl slice)
  (h:wpAny (model prog w) A (eval value env) (fun o s₁=>wpAny (model prog w) A (eval slice env) (fun i s₂=>s₂.TypeIs o T/\wpAny (model prog w) A (getItem o i) Q E s₂) E s₁) E s) :
  wpAny (model prog w) A (eval (.Subscript value slice pos) env) Q E s:=by
 refine Subscript_ (wpAny_mono h (fun o s₁ h₁=>wpAny_mono h₁ (fun i s₂ h₂=>?_) fun _ _ x=>x) fun _ _ x=>x)
 obtain ⟨hT,h₂⟩:=h₂
 unfold subscriptTail
 refine wpAny_bind ?_
 rw [getitemInPython_of_ne hT.not_modules]
 refine wpAny_bind (wpAny_specialOf hT hl ?_)
 have fin:wpAny (model prog w) A (subscripted slice false o i) (fun r s₃=>wpAny (model prog w) A (letTemporaryGo value o r >>= fun _=>pure r) Q E s₃) E s₂:=by
  rw [hs o i]
  exact wpAny_operating (wpAny_mono h₂ (fun r s₃ h₃=>wpAny_bind (wpAny_letTemporaryGo (wpAny_pure h₃))) fun _ _ x=>x)
 first
  | exact wpAny_pure (wpAny_bind fin)
  | exact wpAny_bind (wpAny_pure (wpAny_bind fin))
  | exact wpAny_bind fin
theorem zfe {X:Cx} {pins:List (Addr×Obj)} {σ:St} {H:Hp} {s:Shared} {a:Addr} {y:V} {o:Option V} (I:Inv X pins σ H s) (g:DGet H a y o):s.TypeIs (.ref a) "dict" := by
 rcases g with ⟨kvs,k,e,_,_⟩ | ⟨kvs,k,b,e,_,_,_⟩
 ·obtain ⟨_,_,vs,_,dd⟩:=yel I.hok e
  exact dd.typeIs
 ·obtain ⟨_,_,xs,_,dd⟩:=yeG I.hok e
  exact dd.typeIs
def yhB (td ty:TE):TE:=fun σ H Q=>td σ H fun x H1=>ty σ H1 fun y H2=>∃ a v,x = .ref a/\DGet H2 a y (some v)/\Q v H2
def yhC (td ty tv:TE):TS:=fun D σ H=>tv σ H fun v H1=>td σ H1 fun x H2=>ty σ H2 fun y H3=>∃ a H4,x = .ref a/\DPut H3 a y v H4/\D.nx σ H4
section
variable {X:Cx} {o i e value:Expr} {pos pos' tpos:Pos} {td ty tv:TE}
theorem ziM (hu:X.A.units+1<cLine) (ho:PE X o td) (hi:PE X i ty) (hs:NoSl i):PE X (.Subscript o i pos) (yhB td ty):=by
 intro pins s σ H Q I h
 refine ziL PySem.F.slot_dict_getitem.lookup hs (thn (ho pins s σ H _ I h) fun u s1 ⟨x,H1,I1,rx,q1⟩=>thn (hi pins s1 σ H1 _ I1 q1) fun iv s2 ⟨y,H2,I2,ry,a,v,ex,g,q2⟩=>?_)
 subst ex
 obtain rfl:u=Value.ref a:=rx
 exact ⟨zfe I2 g,zgY hu I2 g ry fun w' s3 I3 rw' => ⟨v,H2,I3,rw',q2⟩⟩
theorem ziN (hu:X.A.units+1<cLine) (ho:PE X o td) (hi:PE X i ty) (hv:PE X value tv) (hs:swapsWith value (some (.Subscript o i pos')) pos.line X.env=pure false) :
  PS X (.Assign [.Subscript o i pos'] value pos) (yhC td ty tv):=by
 intro pins s σ H D I h
 refine wpAny_Assign_Subscript (thn (hv pins s σ H _ I h) fun r s1 ⟨v,H1,I1,rv,q1⟩=>thn (ho pins s1 σ H1 _ I1 q1) fun u s2 ⟨x,H2,I2,rx,q2⟩=>thn (hi pins s2 σ H2 _ I2 q2) fun iv s3 ⟨y,H3,I3,ry,a,H4,ex,g,q3⟩=>?_) hs
 subst ex
 obtain rfl:u=Value.ref a:=rx
 exact zgZ hu I3 g ry rv fun s4 I4=>⟨σ,H4,I4,q3⟩
end
theorem zhQ {P:Program} {w:World} {H:Hp} (h:Heap) (hb:sysModules<h.objs.size):ObjOk P w H (h.push { cls:=.type "dict",data:=.dict #[] }) h.objs.size (.dT []) :=
 ⟨Nat.zero_le _,beq_eq_false_iff_ne.mpr (Ne.symm (Nat.ne_of_lt hb)),[],.nil,_,#[],0,Heap.get?_push_size _ rfl,⟨rfl,rfl,rfl⟩,rfl,rfl,List.nodup_nil⟩
def ygG:TE:=fun _ H Q=>∀ p,H p=none->Q (.ref p) (upd H p (.dT []))
section
variable {X:Cx} {pos:Pos}
theorem zhR:PE X (.Dict [] [] pos) ygG:=fun pins s σ H Q I h =>
 wpAny_Dict_empty ⟨.ref s.heap.objs.size,_,I.laid (a:=s.heap.objs.size) (o:=.dT []) (t' := s.toks) (fun _ _ q=>Heap.get?_push_of_some _ q) (Nat.le_refl _) (zhQ s.heap I.big),rfl,h _ (I.hok.fresh (Nat.le_refl _))⟩
end
section
variable {X:Cx} {pins:List (Addr×Obj)} {σ:St} {H:Hp} {s:Shared} {a:Addr} {y d:V} {u r:Value} {o:Option V} {A:Around} {E:Value->Shared->Prop}
end
section
variable {X:Cx} {o e f:Expr} {apos cpos:Pos} {td ty tx:TE}
end
section
variable {X:Cx} {pins:List (Addr×Obj)} {σ:St} {H:Hp} {s:Shared} {a:Addr} {kvs:List (Key×V)} {A:Around} {E:Value->Shared->Prop}
end
section
variable {X:Cx} {pins:List (Addr×Obj)} {σ:St} {H:Hp} {s:Shared} {a:Addr} {y:V} {u:Value} {A:Around} {E:Value->Shared->Prop}
end
end L2
namespace Att
open PySem PySem.W PySem.Calls PyProof.Rows
theorem zdx {P:Params} {h:Heap}:∀ (ns:List Int) (vs:List Value),WellAll P h vs (ns.map WData.int)->IntsAre vs ns:=by
 intro ns
 induction ns with
 | nil =>
  intro vs w
  rw [List.map_nil] at w
  cases w
  exact .nil
 | cons n ns ih =>
  intro vs w
  rw [List.map_cons] at w
  cases w with
  | cons a b =>
   cases a
   exact .cons _ _ (ih _ b)
theorem zg0 {l:OpenLaw} {n:Nat} (hn:l.most=some n) {P:Params} {h:Heap} {args:List WData} {vals:List Value}
  (hpre:l.row.toRowW.claim.pre args=true) (hwl:WellAll P h vals args) :
  ∃ a vs ns,vals=[Value.ref a]/\args=[WData.list (ns.map WData.int)]/\h.get? a=some { cls:=.type "list",data:=.seq vs.toArray }/\IntsAre vs ns/\ns.length<=n:=by
 have hsh:WShape.hasAll [] args [.list .int]=true:=(pre_splitW hpre).1
 have hc:l.pre.holds [] { args:=args }=true:=(pre_splitW hpre).2
 obtain ⟨d,r,rfl,h1,h2⟩:=hasAllW_cons hsh
 obtain rfl:=hasAllW_nil h2
 obtain ⟨xs,rfl,h3⟩:=hasW_list h1
 obtain ⟨ns,rfl⟩:=items_int h3
 have hlen:ns.length<=n:=by
  unfold OpenLaw.pre at hc
  have h4:(WTm.not (.lt (.lit (.int (n:Int))) (.len (.arg 0)))).holds [] { args:=[.list (ns.map .int)] }=true:=by
   have h4:=(holds_andW hc).1
   rw [hn] at h4
   exact h4
  have h5:=condW_of h4 (w_not (w_lt w_lit (w_len_list (w_arg rfl))))
  rw [List.length_map] at h5
  refine Nat.le_of_not_lt fun q=>?_
  have q':(n:Int)<((ns.length:Nat):Int):=by omega
  first
   | (rw [decide_eq_true q'] at h5;exact absurd h5 (by decide))
   | (simp at h5;omega)
 cases hwl with
 | cons w1 w2 =>
  cases w2
  cases w1 with
  | list ho hall=>exact ⟨_,_,ns,rfl,rfl,ho,zdx ns _ hall,hlen⟩
theorem zg1 (l:OpenLaw) (args:List WData):l.row.toRowW.claim.post args (.bool true) args=true :=
 postW_of (r:=l.row.toRowW) (X:=(true == true))
  (show WShape.has [] (.bool true) .bool=true by first | rfl | decide | simp [WShape.has,WShape.arms,WShape.armsAll])
  (show (WTm.eq .res (.lit (.bool true))).value [] { args:=args,res:=some (.bool true),after:=args }=some (.bool (true == true)) from w_eq_bool (w_res rfl) w_lit) rfl
theorem attach_call {l:OpenLaw} {n:Nat} {q:Program} {loose:List Str} {XP:(Str->Option Value)->Heap->Prop} {YP:World->Heap->Prop} {d:DefRec}
  (hn:l.most=some n) (hdf:d.params.defaults=[])
  (call:∀ (w:World) (s₀ s₁:Shared) (mg mb:Str->Option Value) (fa:Addr) (o:Obj) (pm cd doc:Value) (a:Addr) (vs:List Value) (ns:List Int),
   Ground q loose [] XP w s₀ mg mb s₁.heap->YP w s₁.heap ->
   s₁.heap.get? fa=some o->o.data = .func (docDef d.name d.params d.body d.scope pm cd doc)->s₁.heap.CodeRec cd d.name->mg d.name=some (.ref fa) ->
   s₁.heap.get? a=some { cls:=.type "list",data:=.seq vs.toArray }->IntsAre vs ns->ns.length<=n->s₁.gens = #[] ->
   codeAny (model l.prog w) callerA (.call (.ref fa) ⟨[.ref a],[]⟩) (fun r s' => r = .ok (.ret (.bool true))/\OldK s₁.heap s'.heap/\s'.os=s₁.os/\AllBare s'.gens) s₁) :
  WalkO q loose XP YP l.row.toRowW d [] (fun f vs=>PySem.call f vs):=by
 intro w s₀ s₁ mg mb G Y fa o pm cd doc dV kV ho hd hcd hD hmg hg args vals as hpre hlay hrd hwl hlo
 obtain rfl:dV = .none:=Dflts.none hD hdf
 obtain rfl:kV = .none:=Dflts.noKw hD
 obtain ⟨a,vs,ns,rfl,rfl,hobj,hints,hlen⟩:=zg0 hn hpre hwl
 refine enter_call (codeAny_mono (call w s₀ s₁ mg mb fa o pm cd doc a vs ns G Y ho (fd_plain hd) hcd hmg hobj hints hlen hg) fun r s' hq=>?_)
 obtain ⟨rfl,h2,h3,h4⟩:=hq
 exact ⟨.inl ⟨.bool true,.bool true,[],rfl,fun _=>rfl,.bool true,zg1 l _,fun _=>⟨List.Pairwise.nil,fun _ hm=>(nomatch hm)⟩⟩,h2,h3,h4⟩
section
variable {prog:Program} {w:World} {A:Around} {E:Value->Shared->Prop} {s:Shared} {K:Frag}
end
end Att
namespace L2
open PySem PySem.Spec PyProof.Rows
theorem zec:∀ {vs:List Value} {ns:List Int},IntsAre vs ns->Vals (ns.map V.int) vs
 | _,_,.nil=>.nil
 | _,_,.cons n t h=>.cons ⟨t,rfl⟩ (zec h)
def Only (H:Hp):Prop:=∀ b,H b=none\/∃ o xs,H b=some (.frz o (.lst xs))
theorem zhS {P:Program} {w:World} {K:PySem.W.Frag} {mg mb:Str->Option Value} {CX:CXT} {k:Nat} {fa a:Addr} {fd:FuncData} {x:Str} {sp:Sp} {s₁:Shared} {vs:List Value} {ns:List Int}
  (KX:K.In s₁.heap) (hns:s₁.heap.Ns mainGlobals mg) (hb:s₁.heap.Ns builtinsNs mb) (hbb:∀ x:Str,x ≠ "__name__" -> mb x=bootBuiltins x) (hlim:s₁.heap.NoLimit) (hg:s₁.gens = #[])
  (ha:s₁.heap.get? a=some { cls:=.type "list",data:=.seq vs.toArray }) (hi:IntsAre vs ns) (hl:ns.length<=sizeLine) (hr:Room k callerA)
  (F:∀ base:Heap,K.In base->base.Ns mainGlobals mg->FnOk P w K mg base CX k fa fd [x] sp) (hbind:∀ (s:Shared) (u:Value),BindsTo s fd ⟨[u],[]⟩ [(x,u)])
  (hsp:∀ H:Hp,Only H->SqL K H a (ns.map V.int)->sp [.ref a] H (fun v _=>v = .bl true) fun _ _ _=>False)
  (hCX:∀ H e s',CX [] H s₁ (fun _ _ _=>False) e s'->False) :
  codeAny (model P w) callerA (.call (.ref fa) ⟨[.ref a],[]⟩) (fun r s' => r = .ok (.ret (.bool true))/\OldK s₁.heap s'.heap/\s'.os=s₁.os/\AllBare s'.gens) s₁:=by
 have rv:=zec hi
 have lenV:=hi.length
 have core:∀ H:Hp,Only H->SqL K H a (ns.map V.int)->HOk P w H s₁.heap->(∀ b,H b≠none->b=a)->(H a≠none->K.lookup a=none) ->
   codeAny (model P w) callerA (.call (.ref fa) ⟨[.ref a],[]⟩) (fun r s' => r = .ok (.ret (.bool true))/\OldK s₁.heap s'.heap/\s'.os=s₁.os/\AllBare s'.gens) s₁:=by
  intro H hO hS hok hA hK
  have base_of:∀ {b:Addr} {o:Obj},s₁.heap.get? b=some o->H b=none->(hidT s₁.heap H).get? b=some o:=fun e n=>zhD e n
  have noA:∀ {b:Addr} {o:Obj} {es:Array DictEntry} {ep:Nat},s₁.heap.get? b=some o->o.data = .dict es ep->H b=none:=fun {b o es ep} e d=>by
   cases q:H b with
   | none=>rfl
   | some u =>
    have e':b=a:=hA b (by rw [q];simp)
    subst e'
    rw [ha] at e;cases e
    have d':Data.seq vs.toArray _=Data.dict es ep:=d
    cases d'
  have nsK:∀ {b:Addr} {m:Str->Option Value},s₁.heap.Ns b m->(hidT s₁.heap H).Ns b m:=fun {b m} ⟨o,es,ep,e,d,r⟩=>⟨o,es,ep,base_of e (noA e d),d,r⟩
  have hKb:K.In (hidT s₁.heap H):=fun b o e=>base_of (KX b o e) (by
   cases q:H b with
   | none=>rfl
   | some u =>
    have e':b=a:=hA b (by rw [q];simp)
    subst e'
    rw [hK (by rw [q];simp)] at e;cases e)
  have hM:Mod K mg (hidT s₁.heap H):=⟨hKb,nsK hns,⟨mb,nsK hb,hbb⟩,let ⟨mc,h1,h2⟩:=hlim;⟨mc,nsK h1,h2⟩⟩
  have e0:Env0 P w K mg (hidT s₁.heap H) callerA [] s₁ H:=⟨rfl,hM,fun b o e=>zit e,Nat.le_of_eq (zgM _ _),trivial,fun b hb=>absurd (show b∈([]:List Addr) from hb) (by simp),hok,.of_eq hg⟩
  refine codeAny_mono ((F _ hKb (nsK hns)).run callerA [] s₁ H ⟨[.ref a],[]⟩ [.ref a] [.ref a] _ _ hr e0 (hbind s₁ (.ref a)) (.cons rfl .nil) (hsp H hO hS)) fun r s' h=>?_
  cases r with
  | error e=>exact (hCX H e s' h).elim
  | ok fl =>
   cases fl with
   | next=>exact False.elim h
   | brk=>exact False.elim h
   | cont=>exact False.elim h
   | ret u =>
    obtain ⟨v,H',os,bare,un,hok',r',q⟩:=h
    have q':v = .bl true:=q
    subst q'
    obtain rfl:u=Value.bool true:=r'
    refine ⟨rfl,OldK.of_keep fun b o e=>?_,os,bare⟩
    cases q:H b with
    | none=>exact un.keep b o e q (by intro z;exact absurd (show b∈([]:List Addr) from z) (by simp)) (by simp)
    | some u =>
     rcases hO b with z | ⟨ob,xs,z⟩
     ·rw [q] at z;cases z
     ·have z2:=un.frzs b ob _ z
      obtain ⟨e1,_⟩:=hok b _ z
      obtain ⟨e2,_⟩:=hok' b _ z2
      rw [e] at e1;cases e1
      exact e2
 cases hk:K.lookup a with
 | some o =>
  have e:=KX a o hk
  rw [ha] at e
  cases e
  refine core (fun _=>none) (fun _=>.inl rfl) (.inr ⟨_,vs.toArray,_,hk,rfl,rfl,rfl,by rw [List.size_toArray,lenV];exact hl,by simpa using rv⟩) (fun b u z=>by have z':(none:Option HO)=some u:=z;cases z') (fun b z=>absurd rfl z) fun z=>absurd rfl z
 | none =>
  refine core (fun b=>if b=a then some (.frz { cls:=.type "list",data:=.seq vs.toArray } (.lst (ns.map V.int))) else none) (fun b=>?_) (.inl (.inr ⟨{ cls:=.type "list",data:=.seq vs.toArray },if_pos rfl⟩)) (fun b u z=>?_) (fun b z=>?_) fun _=>hk
  ·by_cases hb:b=a
   ·exact .inr ⟨_,_,if_pos hb⟩
   ·exact .inl (if_neg hb)
  ·by_cases hb:b=a
   ·have z' := (if_pos hb).symm.trans z
    cases z'
    subst hb
    exact ⟨ha,by rw [List.length_map];exact hl,vs,_,rv,ha⟩
   ·have z' := (if_neg hb).symm.trans z
    cases z'
  ·by_cases hb:b=a
   ·exact hb
   ·exact absurd (if_neg hb) z
end L2
namespace L2
open PySem PySem.Spec PyProof.Rows
theorem walk_of {l:PySem.W.OpenLaw} {n k:Nat} {q:Program} {loose:List Str} {XP:(Str->Option Value)->Heap->Prop} {YP:World->Heap->Prop} {d:DefRec} {K:Params->PySem.W.Frag} {CX:World->CXT} {sp:World->Sp} {x:Str}
  (hn:l.most=some n) (hn2:n<=sizeLine) (hdf:d.params.defaults=[]) (hr:Room k callerA)
  (hY:∀ (w:World) (h:Heap),YP w h->(K w.params).In h)
  (F:∀ (w:World) (mg:Str->Option Value) (fa:Addr) (h:Heap),(K w.params).In h->h.Ns mainGlobals mg->mg d.name=some (.ref fa) ->
   ∃ fd:FuncData,(∀ (s:Shared) (u:Value),BindsTo s fd ⟨[u],[]⟩ [(x,u)]) /\
    ∀ base:Heap,(K w.params).In base->base.Ns mainGlobals mg->FnOk l.prog w (K w.params) mg base (CX w) k fa fd [x] (sp w))
  (hsp:∀ (w:World) (H:Hp) (a:Addr) (ns:List Int),ns.length<=n->Only H->SqL (K w.params) H a (ns.map V.int)->sp w [.ref a] H (fun v _=>v = .bl true) fun _ _ _=>False)
  (hCX:∀ (w:World) (H:Hp) (s:Shared) (e:Value) (s':Shared),CX w [] H s (fun _ _ _=>False) e s'->False) :
  PySem.W.WalkO q loose XP YP l.row.toRowW d [] (fun f vs=>PySem.call f vs):=by
 refine Att.attach_call hn hdf fun w s₀ s₁ mg mb fa o pm cd doc a vs ns G Y ho hd hcd hmg hobj hints hlen hg=>?_
 have KX:=hY w _ Y
 obtain ⟨fd,hb,hF⟩:=F w mg fa _ KX G.T.g hmg
 exact zhS KX G.T.g G.T.b G.T.builtins G.T.nolimit hg hobj hints (Nat.le_trans hlen hn2) hr hF hb (fun H hO hS=>hsp w H a ns hlen hO hS) fun H e s' => hCX w H s₁ e s'
end L2
namespace L2
open PySem PySem.Spec PyProof.Rows
def ybp (s:Stmt) (j:Nat):Stmt:=match s with
 | .ClassDef _ _ _ body _ _ _ _ _ _ _=>body.getD j (.Pass ⟨0,0,0,0⟩)
 | _=>.Pass ⟨0,0,0,0⟩
def yap (s:Stmt):Arguments:=match s with
 | .FunctionDef _ a _ _ _ _ _ _ _ _=>a
 | _=>{ posonlyargs:=[],args:=[],vararg:=none,kwonlyargs:=[],kw_defaults:=[],kwarg:=none,defaults:=[] }
def yan (s:Stmt):List Stmt:=match s with
 | .FunctionDef _ _ b _ _ _ _ _ _ _=>b
 | _=>[]
def yad (s:Stmt):Scope:=match s with
 | .FunctionDef _ _ _ _ _ _ sc _ _ _=>sc
 | _=>{ kind:=.function,names:=[],isGenerator:=false,isCoroutine:=false }
abbrev E0:XK:=fun _ _ _=>False
structure Fun (K:PySem.W.Frag) (x qual:Str) (st:Stmt) (f:Addr) (fd:FuncData):Prop where
 ex:∃ (oc:Value) (od:Option Addr) (kV doc pm:Value) (an:Option Addr) (cdv ct:Value) (osl:Array (Option Value)),
  fd=PySem.W.fnOf x qual (yap st) (yan st) (yad st) .none kV doc pm an cdv ct/\K.lookup f=some ⟨oc,od,.func fd,osl⟩/\PySem.W.codeIn K cdv qual=true
 kp:PySem.W.keepIn K (.ref f)=true
section
variable {P:Program} {w:World} {K:PySem.W.Frag} {mg:Str->Option Value} {base:Heap}
theorem Fun.binds {x qual:Str} {st:Stmt} {f:Addr} {fd:FuncData} {ps:List Str} (F:Fun K x qual st f fd)
  (h:∀ (kV doc pm:Value) (an:Option Addr) (cdv ct:Value) (us:List Value),us.length=ps.length->bindArgs (PySem.W.fnOf x qual (yap st) (yan st) (yad st) .none kV doc pm an cdv ct) ⟨us,[]⟩=pure (ps.zip us)):Binds K fd ps []:=by
 obtain ⟨oc,od,kV,doc,pm,an,cdv,ct,osl,rfl,lk,hcd⟩:=F.ex
 exact .all (h kV doc pm an cdv ct)
theorem yat {x qual:Str} {st:Stmt} {f:Addr} {oc:Value} {od an:Option Addr} {osl:Array (Option Value)} {kV doc pm cdv ct:Value} (l:K.lookup f=some ⟨oc,od,.func (PySem.W.fnOf x qual (yap st) (yan st) (yad st) .none kV doc pm an cdv ct),osl⟩)
  (c:PySem.W.codeIn K cdv qual=true) (k:PySem.W.keepIn K (.ref f)=true):Fun K x qual st f (PySem.W.fnOf x qual (yap st) (yan st) (yad st) .none kV doc pm an cdv ct):=⟨⟨oc,od,kV,doc,pm,an,cdv,ct,osl,rfl,l,c⟩,k⟩
end
section
variable {X:Cx}
theorem pv (i:Nat) {x:Str} {pos:Pos} (hN:X.N[i]? = some x:=by rfl) (hv:Vis X.env.scope x:=by first | exact Or.inl rfl | exact Or.inr (Or.inl rfl) | exact Or.inr (Or.inr rfl)) (hd:(x == ("__debug__" : Str))=false:=by decide)
  (hcd:(x == ("__classdict__" : Str))=false:=by decide):PE X (.Name x pos) (tVar i):=ygd hN hv hd hcd
theorem zg2:CallR X (.builtin "len") (fun xs H Q=>∃ a kvs,xs=[V.ref a]/\H a=some (.dK kvs)/\Q (.int kvs.length) H):=by
 intro pins s σ H xs us Q I r h
 obtain ⟨a,kvs,rfl,ha,q⟩:=h
 obtain ⟨u,rfl,ru⟩:=ydy r
 cases ru
 exact yhA I (.inl ha) fun t s' I' => ⟨.int kvs.length,H,I',⟨t,rfl⟩,q⟩
end
section
variable {κ:Type} [DecidableEq κ]
end
end L2
set_option maxHeartbeats 4000000
namespace L2
open PySem PySem.Spec PyProof.Rows
section
variable {X:Cx} {pins:List (Addr×Obj)} {σ:St} {H:Hp} {s:Shared} {h':Heap}
theorem Inv.turnedL {t':Nat} {fp:List Addr} (I:Inv X pins σ H s) (k:∀ b o,b∉fp->s.heap.get? b=some o->h'.get? b=some o) (hf:∀ b∈fp,FpOk X pins H b) :
  Inv X pins σ H { s with heap:=h',toks:=t' }:=by
 have nit:∀ b u,H b=some u->b∉fp:=fun b u e z=>by
  have q:=(hf b z).1
  rw [q] at e
  cases e
 refine I.step (g' := s.gens) (d' := s.drawn) (ch:=fp) (fun b hb=>?_) (fun b o _ _ hc e _=>k b o hc e) (fun b o _ _ hc e _=>⟨o.slots,k b o hc e⟩) (fun _ _ _ _ n=>n)
  (fun b o hc e=>⟨o,k b o hc e⟩) (fun _ _ e=>e) (fun _ _ _ e=>e) (fun b ps e=>⟨#[],by rw [e];simp⟩) (fun m hm=>?_) (fun b u e=>?_) I.bare
 ·obtain ⟨_,f1,_,f3,f4,f5⟩:=hf b hb
  exact ⟨f3,f1,f4,f5⟩
 ·obtain ⟨o,es,ep,ho,r⟩:=hm
  exact ⟨o,es,ep,k _ o (fun z=>(hf _ z).2.1 rfl) ho,r⟩
 ·refine (I.hok b u e).stay (fun c v hc q=>k c v ?_ q) (fun _ q=>q) fun _ _ q=>q
  rcases hc with z | z
  ·rw [z];exact nit b u e
  ·exact nit c _ z
theorem Inv.adopt {T:Addr} {ob:HO} (I:Inv X pins σ H s) (hn:H T=none) (hT:X.s₀.heap.objs.size<=T) (hL:T≠X.env.locals) (hc:∀ x c,X.env.cells.lookup x=some c->c≠T)
  (hp:∀ p∈X.pn++pins,p.1≠T) (new:ObjOk X.prog X.w (upd H T ob) s.heap T ob):Inv X pins σ (upd H T ob) s:=by
 have hne:∀ b u,H b=some u->b≠T:=fun b u e=>zaw e hn
 refine I.step (h' := s.heap) (g' := s.gens) (d' := s.drawn) (t' := s.toks) (ch:=[T]) (fun b hb=>?_) (fun b o _ _ _ e _=>e) (fun b o _ _ _ e _=>⟨o.slots,e⟩) (fun b o hb e n=>?_) (fun b o _ e=>⟨o,e⟩)
  (fun b xs e=>by rw [yaC (hne b _ e)];exact e) (fun b o u e=>by rw [yaC (hne b _ e)];exact e) (fun b ps e=>⟨#[],by rw [yaC (hne b _ e),e];simp⟩) (fun m hm=>hm) (fun b u e=>?_) I.bare
 ·have e:b=T:=by simpa using hb
  subst e
  exact ⟨.inr hT,hL,hc,hp⟩
 ·rw [yaC (fun z=>hb (by simp [z]))];exact n
 ·by_cases hb:b=T
  ·subst hb;rw [zar] at e;cases e;exact new
  ·rw [yaC hb] at e
   exact (I.hok b u e).stay (fun c v _ q=>q) (fun c q=>by rw [yaC (hne c _ q)];exact q) fun c xs q=>by rw [yaC (hne c _ q)];exact q
end
section
variable {X:Cx}
end
def Its (x:Str):It:=⟨fun i _=>i<x.cps.size,fun i H v H' => H'=H/\∃ c,x.cps[i]? = some c/\v = .str ⟨#[c]⟩,fun i _=>x.cps.size<=i⟩
theorem zg3 {P:Program} {w:World} {A:Around} (hh:A.handled=none) (it:Addr) (x:Str) (t:Tok) :
  Walks P w A it [it] [it] x.cps.size (SignAt x) (fun i h=>h.IsStrIter it (strIterType x) x t i):=by
 cases ha:x.cps.all (· < 128) with
 | false =>
  have e:strIterType x = "str_iterator" := by simp [strIterType,ha]
  rw [e]
  exact Walks.strWide hh it x t
 | true =>
  have e:strIterType x = "str_ascii_iterator" := by simp [strIterType,ha]
  rw [e]
  exact Walks.strAscii hh it x t
theorem zhT {P:Program} {w:World} {K:PySem.W.Frag} {y:Str} {py:Pos} (it:Addr) (x:Str) (t:Tok):Turn P w K (.Name y py) (Its x) [it] it (fun i h=>h.IsStrIter it (strIterType x) x t i) where
 mem:=by simp
 obj:=fun i h st b hb=>by
  have e:b=it:=by simpa using hb
  subst e
  obtain ⟨o,e,c,d⟩:=st
  exact ⟨o,e,fun v z=>by rw [d] at z;cases z⟩
 keep:=fun i h h' st k=>by
  obtain ⟨o,e,r⟩:=st
  exact ⟨o,k it (by simp) o e,r⟩
 item:=by
  intro X hP hw hK hc i pins s σ H E I hf st hg
  subst hP hw hK
  refine (zg3 (I.ok.hd hc) it x t).item i s _ _ hg st fun v h1 tk hv st1 kk=>?_
  obtain ⟨c,u,hcp,rfl⟩:=hv
  have I1:Inv X pins σ H { s with heap:=h1,toks:=tk }:=I.turnedL (fp:=[it]) kk hf
  exact ⟨_,rfl,wpAny_pure ⟨.str ⟨#[c]⟩,H,I1,⟨u,rfl⟩,⟨rfl,c,hcp,rfl⟩,st1,fun b hb=>(hf b hb).1⟩⟩
 done:=by
  intro X hP hw hK hc i pins s σ H E I hf st hg
  subst hP hw hK
  have hx:x.cps[i]? = none:=Array.getElem?_eq_none hg
  cases ha:x.cps.all (· < 128) with
  | false =>
   have e:strIterType x = "str_iterator" := by simp [strIterType,ha]
   rw [e] at st
   exact wpAny_pyNext_wide_end (I.ok.hd hc) st hx fun h' eb=>⟨rfl,I.turnedL (fp:=[it]) (t' := s.toks) (fun b o hb q=>eb b o (fun z=>hb (by simp [z])) q) hf⟩
  | true =>
   have e:strIterType x = "str_ascii_iterator" := by simp [strIterType,ha]
   rw [e] at st
   exact wpAny_pyNext_ascii_end (I.ok.hd hc) st hx fun h' eb=>⟨rfl,I.turnedL (fp:=[it]) (t' := s.toks) (fun b o hb q=>eb b o (fun z=>hb (by simp [z])) q) hf⟩
 self:=fun A i s Q E st h=>by
  cases ha:x.cps.all (· < 128) with
  | false =>
   have e:strIterType x = "str_iterator" := by simp [strIterType,ha]
   rw [e] at st
   exact wpAny_pyIter_striter_wide st h
  | true =>
   have e:strIterType x = "str_ascii_iterator" := by simp [strIterType,ha]
   rw [e] at st
   exact wpAny_pyIter_striter_ascii st h
section
variable {X:Cx}
def iStr (tl:TE):TI:=fun σ H R=>tl σ H fun x H1=>∃ t,x = .str t/\R (Its t) H1
theorem ygH {l:Expr} {tl:TE} {y:Str} {py:Pos} (hl:PE X l tl):PI X (.Name y py) l (iStr tl):=by
 intro pins s σ H R I h
 refine thn (hl pins s σ H _ I h) fun v s1 ⟨x,H1,I1,r1,q1⟩=>?_
 obtain ⟨t,e,q⟩:=q1
 subst e
 obtain ⟨tk,rfl⟩:=r1
 refine wpAny_pyIter_strU ?_
 refine ⟨s1.heap.objs.size,[s1.heap.objs.size],_,_,H1,rfl,I1.kept (t' := s1.toks) fun b o e=>Heap.get?_push_of_some _ e,zhT _ t tk,⟨_,Heap.get?_push_size _ rfl,rfl,rfl⟩,fun b hb=>?_,q⟩
 have e:b=s1.heap.objs.size:=by simpa using hb
 subst e
 exact I1.fpOk (Nat.le_refl _) (I1.hok.fresh (Nat.le_refl _))
end
def yay (env:Env):List (Str×NameKind)->List (Str×Addr)->List (Str×Addr)
 | [],acc=>acc
 | (n,k)::r,acc=>yay env r (if k = .free then (n,(env.cells.lookup n).getD 0)::acc else acc)
theorem zdy {env:Env} {scope:Scope} (h:∀ y∈scope.names,y.2 = .free->(env.cells.lookup y.1).isSome=true):closureFor scope env=pure (yay env scope.names []):=by
 have all:∀ (l:List (Str×NameKind)) (acc:List (Str×Addr)),(∀ y∈l,y.2 = .free->(env.cells.lookup y.1).isSome=true) ->
   (forIn l acc fun (x:Str×NameKind) (cs:List (Str×Addr))=>if (x.2 == NameKind.free)=true then (do let a <- cellOf env x.1;pure (ForInStep.yield ((x.1,a)::cs))) else (pure (ForInStep.yield cs):Sem _))=pure (yay env l acc):=by
  intro l
  induction l with
  | nil=>intro acc _;rfl
  | cons y r ih =>
   intro acc hl
   obtain ⟨n,k⟩:=y
   rw [List.forIn_cons]
   have hr:=fun z hz=>hl z (List.mem_cons_of_mem _ hz)
   by_cases hk:k = .free
   ·subst hk
    obtain ⟨c,hc⟩:=Option.isSome_iff_exists.mp (hl (n,.free) List.mem_cons_self rfl)
    have e1:cellOf env n=pure c:=by
     simp only [cellOf]
     have hc':env.cells.lookup n=some c:=hc
     rw [hc']
    simp only [beq_self_eq_true,if_true,e1,pure_bind,yay]
    have hc':env.cells.lookup n=some c:=hc
    rw [hc']
    exact ih _ hr
   ·have hb:(k == NameKind.free)=false:=by simpa using hk
    simp only [hb,Bool.false_eq_true,if_false,pure_bind,yay,hk]
    exact ih _ hr
 unfold closureFor
 have q:=all scope.names [] h
 first
  | exact q
  | (simp only [bind_pure];exact q)
  | (rw [<- q];simp)
theorem zbB {env:Env}:∀ {l:List (Str×NameKind)} {acc:List (Str×Addr)},(∀ y∈l,y.2 = .free->(env.cells.lookup y.1).isSome=true)->(∀ y c,acc.lookup y=some c->env.cells.lookup y=some c) ->
  ∀ y c,(yay env l acc).lookup y=some c->env.cells.lookup y=some c
 | [],_,_,h,y,c,e=>h y c e
 | (n,k)::r,acc,hl,h,y,c,e=>by
  refine zbB (l:=r) (fun z hz=>hl z (List.mem_cons_of_mem _ hz)) ?_ y c e
  intro y c e
  by_cases hk:k = .free
  ·rw [if_pos hk] at e
   rw [List.lookup_cons] at e
   cases hy:y == n with
   | true =>
    rw [hy] at e
    have e':y=n:=by simpa using hy
    obtain ⟨c',hc'⟩:=Option.isSome_iff_exists.mp (hl (n,k) List.mem_cons_self hk)
    have hc'':env.cells.lookup n=some c' := hc'
    rw [hc''] at e
    rw [e',hc'']
    exact e
   | false =>
    rw [hy] at e
    exact h y c e
  ·rw [if_neg hk] at e
   exact h y c e
theorem zbC {env:Env}:∀ {l:List (Str×NameKind)} {acc:List (Str×Addr)} {y:Str},(y,NameKind.free)∈l\/(acc.lookup y).isSome=true->((yay env l acc).lookup y).isSome=true
 | [],_,_,h=>by
  rcases h with h | h
  ·cases h
  ·exact h
 | (n,k)::r,acc,y,h=>by
  refine zbC (l:=r) ?_
  rcases h with h | h
  ·rcases List.mem_cons.mp h with e | e
   ·right
    cases e
    rw [if_pos rfl,List.lookup_cons]
    simp
   ·exact .inl e
  ·right
   by_cases hk:k = .free
   ·rw [if_pos hk,List.lookup_cons]
    cases hy:y == n with
    | true=>rfl
    | false=>exact h
   ·rw [if_neg hk];exact h
theorem zan {names:List (Str×NameKind)} {x:Str} {k:NameKind} (h:names.lookup x=some k):(x,k)∈names:=PySem.mem_of_lookup h
theorem zaE {env:Env} {x:Str} {k:NameKind}:∀ {names:List (Str×NameKind)},(names.map fun (n,k)=>if (k == NameKind.free && env.scope.kind == .function && env.kindOf n == some .cell) then (n,NameKind.cell) else (n,k)).lookup x=some k ->
  names.lookup x=some k\/(k = .cell/\names.lookup x=some .free)
 | [],h=>by simp at h
 | (n,kk)::r,h=>by
  have ih:=@zaE env x k r
  by_cases hc:(kk == NameKind.free && env.scope.kind == .function && env.kindOf n == some .cell)=true
  ·have hf:kk = .free:=by
    have q:=(Bool.and_eq_true _ _).mp ((Bool.and_eq_true _ _).mp hc).1
    simpa using q.1
   subst hf
   have h':List.lookup x ((n,NameKind.cell)::(r.map fun (n,k)=>if (k == NameKind.free && env.scope.kind == .function && env.kindOf n == some .cell) then (n,NameKind.cell) else (n,k)))=some k:=by
    have e:(fun (p:Str×NameKind)=>match p with | (n,k)=>if (k == NameKind.free && env.scope.kind == .function && env.kindOf n == some .cell)=true then (n,NameKind.cell) else (n,k)) (n,NameKind.free)=(n,NameKind.cell):=by
     show (if _ then _ else _)=_
     rw [if_pos hc]
    rw [List.map_cons] at h
    rw [<- e]
    exact h
   rw [List.lookup_cons] at h' ⊢
   cases hx:x == n with
   | true =>
    rw [hx] at h'
    right
    exact ⟨(Option.some.inj h').symm,rfl⟩
   | false =>
    rw [hx] at h'
    exact ih h'
  ·have h':List.lookup x ((n,kk)::(r.map fun (n,k)=>if (k == NameKind.free && env.scope.kind == .function && env.kindOf n == some .cell) then (n,NameKind.cell) else (n,k)))=some k:=by
    have e:(fun (p:Str×NameKind)=>match p with | (n,k)=>if (k == NameKind.free && env.scope.kind == .function && env.kindOf n == some .cell)=true then (n,NameKind.cell) else (n,k)) (n,kk)=(n,kk):=by
     show (if _ then _ else _)=_
     rw [if_neg hc]
    rw [List.map_cons] at h
    rw [<- e]
    exact h
   rw [List.lookup_cons] at h' ⊢
   cases hx:x == n with
   | true =>
    rw [hx] at h'
    exact .inl h'
   | false =>
    rw [hx] at h'
    exact ih h'
def ya7 (X:Cx) (pins:List (Addr×Obj)) (x₁:Str) (jf:List (Nat×Str)) (scope:Scope) (cl:List (Str×Addr)) (s:Shared) (H:Hp) (fp:List Addr):Cx where
 prog:=X.prog
 w:=X.w
 K:=X.K
 mg:=X.mg
 base:=X.base
 A:=X.A
 N:=x₁::jf.map (·.2)
 s₀:=s
 H₀:=H
 env:=compEnvC scope cl s.heap.objs.size X.env
 outer:=X.stack
 stack:=X.stack
 ex:=fp
 fn:=fun _=>false
 calm:=X.calm
 pn:=X.pn++pins
 xe:=fun _ _=>False
def ybL (v:Option V) (js:List (Nat×Str)) (σ:St):St:=v::js.map fun j=>(σ[j.1]?).join
def PTs (X:Cx) (ifs:List Expr) (t:TT):Prop :=
 ∀ (pins:List (Addr×Obj)) (s:Shared) (σ:St) (H:Hp) (Q:Bool->Hp->Prop),Inv X pins σ H s->t σ H Q ->
  wpAny (model X.prog X.w) X.A (forIn ifs true fun c r=>if r=true then do let ok <- isTrue c X.env (eval c X.env);pure (ForInStep.yield ok) else pure (ForInStep.yield r)) (TP X pins σ Q) X.xe s
def tYes:TT:=fun _ H Q=>Q true H
theorem ziO {X:Cx}:PTs X [] tYes:=fun pins s σ H Q I h=>wpAny_tests_nil ⟨H,I,h⟩
theorem ziP {X:Cx} {c:Expr} {t:TT} (hc:PT X c t):PTs X [c] t:=fun pins s σ H Q I h=>wpAny_tests_one (hc pins s σ H Q I h)
def yen (jf:List (Nat×Str)) (wi:TI) (tc:TT) (te:TE):TE:=fun σ H Q=>wi σ H fun J H1=>∀ D,H1 D=none->∃ W:Nat->Nat->List V->Hp->Prop,(∃ m,W 0 m [] (upd H1 D (.lst []))) /\
 ∀ i m ys H2,W i m ys H2->H2 D=some (.lst ys)/\((J.stop i H2/\Q (.ref D) H2)\/(J.go i H2/\ys.length<sizeLine/\∀ x H3,J.yld i H2 x H3->tc (ybL (some x) jf σ) H3 fun b H5 =>
  if b=true then te (ybL (some x) jf σ) H5 fun v H6=>H6 D=some (.lst ys)/\∃ m',m'<m/\W (i+1) m' (ys++[v]) (upd H6 D (.lst (ys++[v]))) else ∃ m',m'<m/\W (i+1) m' ys H5))
section
variable {X:Cx} {pins:List (Addr×Obj)} {σ:St} {H:Hp} {s:Shared} {x₁:Str} {jf:List (Nat×Str)} {scope:Scope} {fp:List Addr}
theorem Inv.block {h1:Heap} {tk:Nat} (I:Inv X pins σ H s) (hf:∀ b∈fp,FpOk X pins H b) (hlt:∀ b∈fp,b<s.heap.objs.size) (hjf:∀ p∈jf,X.N[p.1]? = some p.2) (hjl:∀ p∈jf,scope.names.lookup p.2=some .free) (hkind:scope.kind = .function)
  (hcell:∀ y∈scope.names,y.2 ≠ .cell) (hfr:∀ y∈scope.names,y.2 = .free->X.env.kindOf y.1=some .cell\/X.env.kindOf y.1=some .free)
  (hn:h1.Ns s.heap.objs.size (fun _=>none)) (hk:∀ b o,s.heap.get? b=some o->h1.get? b=some o) :
  Inv (ya7 X pins x₁ jf scope (yay X.env scope.names []) s H fp) [] (ybL none jf σ) H { s with heap:=h1,toks:=tk }:=by
 have hsome:∀ y∈scope.names,y.2 = .free->(X.env.cells.lookup y.1).isSome=true:=fun y hy hyf=>Option.isSome_iff_exists.mpr (I.ok.has y.1 (hfr y hy hyf))
 have sub:∀ y c,(yay X.env scope.names []).lookup y=some c->X.env.cells.lookup y=some c:=zbB hsome (fun y c e=>by simp at e)
 have hsz:=I.sz
 have inE:∀ b,b∈(ya7 X pins x₁ jf scope (yay X.env scope.names []) s H fp).ex->b∈fp:=fun b z=>z
 have stk:∀ b∈frs X.stack,b<s.heap.objs.size:=fun b hb=>by
  obtain ⟨_,o,ho,_⟩:=I.stack.mem hb
  exact Heap.lt_size ho
 refine ⟨⟨I.ok.mod,hkind,I.ok.glob,I.ok.blt,Nat.le_refl _,fun y z c e1 e2=>I.ok.inj y z c (sub y c e1) (sub z c e2),fun y hy=>?_,fun y c hfn _=>(by cases hfn),I.ok.hd,I.ok.frames,.inl rfl,fun b hb=>?_,fun b o e=>I.bs b o e,Nat.le_trans I.ok.bsz hsz,fun b o e z=>?_,fun b hb z=>?_,I.stack,I.stkFree⟩,
  rfl,I.bare,Un.kept hk,⟨_,hn,fun i y v e1 e2 e3=>?_⟩,fun y c e=>?_,I.hok.fresh (Nat.le_refl _),fun y c e=>I.freeC y c (sub y c e),fun p hp=>?_,I.hok.kept hk,?_⟩
 ·have hy':(relabel scope X.env).names.lookup y=some .cell\/(relabel scope X.env).names.lookup y=some .free:=hy
  have mem:(y,NameKind.free)∈scope.names:=by
   rcases hy' with q | q
   ·rcases zaE (env:=X.env) q with z | z
    ·exact absurd rfl (hcell _ (zan z))
    ·exact zan z.2
   ·rcases zaE (env:=X.env) q with z | z
    ·exact zan z
    ·exact zan z.2
  exact Option.isSome_iff_exists.mp (zbC (.inl mem))
 ·exact ⟨Nat.ne_of_lt (hlt b hb),fun y c e=>(hf b hb).2.2.2.2.1 y c (sub y c e)⟩
 ·rcases (hf b z).2.2.2.1 with q | q
  ·exact I.ok.noex b o e q
  ·exact absurd (Nat.lt_of_lt_of_le (Heap.lt_size e) (Nat.le_trans I.ok.bsz q)) (Nat.lt_irrefl _)
 ·rcases List.mem_cons.mp (I.stkSub b z) with q | q
  ·exact (hf b hb).2.1 q
  ·exact (hf b hb).2.2.1 q
 ·have e1':(x₁::jf.map (·.2))[i]? = some y:=e1
  unfold ybL at e2
  cases i with
  | zero=>cases e2
  | succ i =>
   rw [List.getElem?_cons_succ,List.getElem?_map] at e1' e2
   cases q:jf[i]? with
   | none=>rw [q] at e2;cases e2
   | some p =>
    rw [q] at e1' e2
    have ey:p.2=y:=Option.some.inj e1'
    have ev:(σ[p.1]?).join=some v:=Option.some.inj e2
    have hp:p∈jf:=List.mem_of_getElem? q
    have eσ:σ[p.1]? = some (some v):=by
     cases z:σ[p.1]? with
     | none=>rw [z] at ev;cases ev
     | some r=>rw [z] at ev;rw [show r=some v from ev]
    have hfree:scope.names.lookup y=some .free:=by rw [<- ey];exact hjl p hp
    have mem:=zan hfree
    have kX:=hfr _ mem rfl
    obtain ⟨m,hnX,hl⟩:=I.loc
    obtain ⟨u,ru,lk⟩:=hl p.1 y v (by rw [<- ey];exact hjf p hp) eσ (by
     rcases kX with z | z
     ·exact .inr (.inl z)
     ·exact .inr (.inr z))
    refine ⟨u,ru,.inr ⟨?_,?_⟩⟩
    ·have e3':Vis (relabel scope X.env) y:=e3
     rcases e3' with z | z | z
     ·exfalso
      rcases zaE (env:=X.env) z with q | q
      ·rw [hfree] at q;cases q
      ·cases q.1
     ·exact .inl z
     ·exact .inr z
    ·rcases lk with ⟨z,_⟩ | ⟨_,c,hc,hcell'⟩
     ·exfalso
      rcases kX with q | q
      ·rw [show X.env.kindOf y=some .cell from q] at z;cases z
      ·rw [show X.env.kindOf y=some .free from q] at z;cases z
     ·obtain ⟨c',hc'⟩:=Option.isSome_iff_exists.mp (zbC (env:=X.env) (acc:=[]) (.inl mem))
      have e:=sub y c' hc'
      rw [hc] at e
      cases e
      obtain ⟨o,ho,hd⟩:=hcell'
      exact ⟨c,hc',o,hk c o ho,hd⟩
 ·obtain ⟨v,o,ho,hd⟩:=I.cell y c (sub y c e)
  exact ⟨v,o,hk c o ho,hd⟩
 ·have hp':p∈X.pn++pins:=by simpa [ya7] using hp
  obtain ⟨e,n,ne,nf,d⟩:=I.pin p hp'
  refine ⟨hk _ _ e,n,Nat.ne_of_lt (Heap.lt_size e),fun z=>?_,d⟩
  rcases List.mem_cons.mp (I.stkSub p.1 z) with q | q
  ·exact ne q
  ·exact nf q
 ·unfold ybL
  show _=(x₁::jf.map (·.2)).length
  rw [List.length_cons,List.length_cons,List.length_map,List.length_map]
end
theorem zct {prog:Program} {w:World} {A:Around} {R:Result->Shared->Prop} {s:Shared} {elt target iter:Expr} {ifs:List Expr} {scope:Scope} {pos:Pos} {it acc:Value} {env:Env} (I:Nat->Shared->Prop)
  (turn:∀ n s,I n s->wpAny (model prog w) A (pyNext it) (fun r s₁=>match r with
   | none=>R (.ok .next) s₁
   | some v=>wpAny (model prog w) A (letOwnedTupleGo target it v) (fun _ s₂=>wpAny (model prog w) A (assign target env v) (fun _ s₃ =>
     wpAny (model prog w) A (forIn ifs true fun c r=>if r=true then do let ok <- isTrue c env (eval c env);pure (ForInStep.yield ok) else pure (ForInStep.yield r)) (fun ok s₄ =>
      if ok=true then wpAny (model prog w) A (eval elt env) (fun x s₅=>wpAny (model prog w) A (call (.builtin "list.append") [acc,x]) (fun _ s₆=>∃ m,m<n/\I m s₆) (fun _ _=>False) s₅) (fun _ _=>False) s₄
      else ∃ m,m<n/\I m s₄) (fun _ _=>False) s₃) (fun _ _=>False) s₂) (fun _ _=>False) s₁) (fun _ _=>False) s)
  (n:Nat) (h:I n s):codeAny (model prog w) A (.compLoop (.ListComp elt [⟨target,iter,ifs,0⟩] scope pos) 0 it acc env) R s:=by
 refine codeAny_loop rfl I (fun n s hI=>?_) n h
 show wpAny _ A ((compTurn (.ListComp elt [⟨target,iter,ifs,0⟩] scope pos) 0 it acc env).onRaise (fun x=>do noteFrame x env;theTreesLotGoes x)) _ _ s
 refine wpAny_noted ?_
 rw [compTurn_list]
 refine wpAny_bind (wpAny_standAt (wpAny_bind (wpAny_mono (turn n s hI) (fun r s₁ h₁=>?_) fun _ _ z=>z.elim)))
 cases r with
 | none=>exact wpAny_pure h₁
 | some v =>
  refine wpAny_bind (wpAny_mono h₁ (fun _ s₂ h₂=>?_) fun _ _ z=>z.elim)
  refine wpAny_bind (wpAny_mono h₂ (fun _ s₃ h₃=>wpAny_bind (wpAny_mono h₃ (fun ok s₄ h₄=>?_) fun _ _ z=>z.elim)) fun _ _ z=>z.elim)
  cases ok with
  | false=>exact wpAny_pure ⟨rfl,h₄⟩
  | true =>
   exact wpAny_bind (wpAny_bind (wpAny_mono h₄ (fun x s₅ h₅=>wpAny_bind (wpAny_mono h₅ (fun _ s₆ h₆=>wpAny_pure (wpAny_pure ⟨rfl,h₆⟩)) fun _ _ z=>z.elim)) fun _ _ z=>z.elim))
section
variable {X:Cx} {x₁:Str} {px:Pos} {jf:List (Nat×Str)} {scope:Scope} {iter elt:Expr} {ifs:List Expr} {pos:Pos} {wi:TI} {tc:TT} {te:TE}
theorem zeJ (hcalm:X.calm=true) (hi:PI X (.Name x₁ px) iter wi) (hc:∀ pins cl s H fp,PTs (ya7 X pins x₁ jf scope cl s H fp) ifs tc) (he:∀ pins cl s H fp,PE (ya7 X pins x₁ jf scope cl s H fp) elt te)
  (hN:(x₁::jf.map (·.2)).Nodup) (hx:scope.names.lookup x₁=some .local) (hjf:∀ p∈jf,X.N[p.1]? = some p.2) (hjl:∀ p∈jf,scope.names.lookup p.2=some .free) (hkind:scope.kind = .function)
  (hcell:∀ y∈scope.names,y.2 ≠ .cell) (hfr:∀ y∈scope.names,y.2 = .free->X.env.kindOf y.1=some .cell\/X.env.kindOf y.1=some .free)
  (hnames:∀ y∈scope.names,y.2 = .local->scope.names.lookup y.1=some .local) {use:Option (Value->Sem Unit)} {Qf:Value->Shared->Prop} {cpos:Pos}
  {pins:List (Addr×Obj)} {σ:St} {H:Hp} {s:Shared} {Q:VK} (I:Inv X pins σ H s) (h:yen jf wi tc te σ H Q)
  (fin:∀ D C s6 H6 m6,Inv X pins σ H6 s6->Q (.ref D) H6->FpOk X pins H6 C->s6.heap.Ns C m6->compPost (model X.prog X.w) X.A X.xe use Qf (.ref D) C (.ok .next) s6) (hs:∀ x,foldedSetIterable iter X.env x=pure x) :
  wpAny (model X.prog X.w) X.A (comprehension (.ListComp elt [⟨.Name x₁ px,iter,ifs,0⟩] scope pos) scope X.env cpos (newList []) false (eval iter X.env) use) Qf X.xe s:=by
 have hsome:∀ y∈scope.names,y.2 = .free->(X.env.cells.lookup y.1).isSome=true:=fun y hy hyf=>Option.isSome_iff_exists.mpr (I.ok.has y.1 (hfr y hy hyf))
 refine wpAny_comprehension_free (use:=use) rfl hs (zdy hsome) hkind hnames (thn (hi pins s σ H _ I h) fun xv s1 h1=>thn h1 fun itv s2 h2=>?_)
 obtain ⟨it,fp,tn,J,H2,e,I2,T,st2,f2,h⟩:=h2
 subst e
 refine wpAny_newObj_type (wpAny_newFunctionEnv hcell (by intro y hy;simp at hy) (fun h₁ hns₁ hsb₁=>?_) hkind)
 have hD0:H2 s2.heap.objs.size=none:=I2.hok.fresh (Nat.le_refl _)
 obtain ⟨W,⟨m0,w0⟩,step⟩:=h s2.heap.objs.size hD0
 dsimp only at hns₁ hsb₁ ⊢
 have I3:Inv X pins σ (upd H2 s2.heap.objs.size (.lst [])) { s2 with heap:=s2.heap.push { cls:=.type "list",dict:=none,data:=.seq ([]:List Value).toArray } } :=
  I2.laid (t' := s2.toks) (fun b u q=>Heap.get?_push_of_some _ q) (Nat.le_refl _) ⟨Nat.zero_le _,[],0,.nil,Heap.get?_push_size _ rfl⟩
 generalize hH3:s2.heap.push { cls:=.type "list",dict:=none,data:=.seq ([]:List Value).toArray }=hp3 at hns₁ hsb₁ I3 ⊢
 have hsz3:hp3.objs.size=s2.heap.objs.size+1:=by rw [<- hH3,Heap.size_push]
 have k23:∀ b o,s2.heap.get? b=some o->hp3.get? b=some o:=fun b o q=>by rw [<- hH3];exact Heap.get?_push_of_some _ q
 have flt:∀ b∈fp,b<s2.heap.objs.size:=fun b hb=>by
  obtain ⟨o,q,_⟩:=T.obj 0 _ st2 b hb
  exact Heap.lt_size q
 have f3:∀ b∈fp,FpOk X pins (upd H2 s2.heap.objs.size (.lst [])) b:=fun b hb=>by
  obtain ⟨g0,g⟩:=f2 b hb
  exact ⟨by rw [yaC (Nat.ne_of_lt (flt b hb))];exact g0,g⟩
 have kC:∀ b o,hp3.get? b=some o->h₁.get? b=some o:=fun b o q=>(hsb₁.2 b (Nat.ne_of_lt (Heap.lt_size q))).trans (Heap.get?_push_of_some _ q)
 have B0:=I3.block (x₁:=x₁) (jf:=jf) (scope:=scope) (fp:=fp) (h1:=h₁) (tk:=s2.toks+([]:List (Str×Value)).length) f3 (fun b hb=>by show b<hp3.objs.size;rw [hsz3];exact Nat.lt_succ_of_lt (flt b hb)) hjf hjl hkind hcell hfr (by simpa using hns₁) kC
 have st4:tn 0 h₁:=T.keep _ _ _ st2 fun b _ o q=>kC b o (k23 b o q)
 have w0' := w0
 have stat:∀ {H':Hp},(∀ b∈fp,H' b=none)->∀ b∈fp,FpOk (ya7 X pins x₁ jf scope (yay X.env scope.names []) { s2 with heap:=hp3 } (upd H2 s2.heap.objs.size (.lst [])) fp) [] H' b:=fun hn b hb=>by
  obtain ⟨_,g1,g2,g3,g4,g5⟩:=f2 b hb
  refine ⟨hn b hb,Nat.ne_of_lt (by show b<hp3.objs.size;rw [hsz3];exact Nat.lt_succ_of_lt (flt b hb)),fun z=>?_,.inl hb,fun y c q=>g4 y c (zbB hsome (fun y c e=>by simp at e) y c q),fun p hp=>g5 p (by simpa [ya7] using hp)⟩
  rcases List.mem_cons.mp (I2.stkSub b z) with q | q
  ·exact g1 q
  ·exact g2 q
 have loop:codeAny (model X.prog X.w) X.A (.compLoop (.ListComp elt [⟨.Name x₁ px,iter,ifs,0⟩] scope pos) 0 (.ref it) (.ref s2.heap.objs.size) (compEnvC scope (yay X.env scope.names []) hp3.objs.size X.env))
   (compPost (model X.prog X.w) X.A X.xe use Qf (.ref s2.heap.objs.size) hp3.objs.size) { s2 with heap:=h₁,toks:=s2.toks+([]:List (Str×Value)).length }:=by
  refine zct (fun n s' => ∃ i ys H',Inv (ya7 X pins x₁ jf scope (yay X.env scope.names []) { s2 with heap:=hp3 } (upd H2 s2.heap.objs.size (.lst [])) fp) [] (ybL none jf σ) H' s'/\tn i s'.heap/\(∀ b∈fp,H' b=none)/\W i n ys H') ?_ m0
   ⟨0,[],_,B0,st4,fun b hb=>(f3 b hb).1,w0⟩
  rintro n s5 ⟨i,ys,H5,I5,st5,fr5,w5⟩
  obtain ⟨hD5,alt⟩:=step i n ys H5 w5
  rcases alt with ⟨stop,q5⟩ | ⟨go,hlen,next⟩
  ·refine wpAny_mono (T.done (ya7 X pins x₁ jf scope (yay X.env scope.names []) { s2 with heap:=hp3 } (upd H2 s2.heap.objs.size (.lst [])) fp) rfl rfl rfl hcalm i [] s5 _ H5 (fun _ _=>False) I5 (stat fr5) st5 stop) (fun r s6 ⟨hr,I6⟩=>?_) fun _ _ z=>z
   subst hr
   obtain ⟨m6,hn6,_⟩:=id I6.loc
   refine fin _ _ s6 H5 m6 ?_ q5 (I3.fpOk (Nat.le_refl _) I6.free) hn6
   refine I3.call' (ch:=fp) I6.os I6.base I6.hok I6.bare (fun b hb=>?_)
   obtain ⟨_,g1,g2,g3,g4,g5⟩:=f2 b hb
   exact ⟨g3,g1,g4,g5⟩
  ·refine wpAny_mono (T.item (ya7 X pins x₁ jf scope (yay X.env scope.names []) { s2 with heap:=hp3 } (upd H2 s2.heap.objs.size (.lst [])) fp) rfl rfl rfl hcalm i [] s5 _ H5 (fun _ _=>False) I5 (stat fr5) st5 go) (fun r s6 ⟨u,hr,h6⟩=>?_) fun _ _ z=>z
   subst hr
   refine wpAny_mono h6 (fun _ s7 ⟨x,H7,I7,r7,y7,st7,fr7⟩=>?_) fun _ _ z=>z
   have I7' := I7.pinned (stat fr7) (T.obj _ _ st7)
   have hloc:Loc (ya7 X pins x₁ jf scope (yay X.env scope.names []) { s2 with heap:=hp3 } (upd H2 s2.heap.objs.size (.lst [])) fp).env.scope x₁:=.inl (lookup_relabel_local hx)
   refine wpAny_assign_Name (zda (i:=0) I7' hN rfl hloc r7 (fun s8 I8=>?_) (.inr (lookup_relabel_local hx)))
   have q8:=next x H7 y7
   have I8':Inv (ya7 X pins x₁ jf scope (yay X.env scope.names []) { s2 with heap:=hp3 } (upd H2 s2.heap.objs.size (.lst [])) fp) ([]++ybT fp s7.heap) (ybL (some x) jf σ) H7 s8:=I8
   have again:∀ {s9:Shared} {H9:Hp} {zs:List V} {m':Nat},Inv (ya7 X pins x₁ jf scope (yay X.env scope.names []) { s2 with heap:=hp3 } (upd H2 s2.heap.objs.size (.lst [])) fp) ([]++ybT fp s7.heap) (ybL (some x) jf σ) H9 s9->m'<n->W (i+1) m' zs H9 ->
     ∃ m,m<n/\∃ i ys H',Inv (ya7 X pins x₁ jf scope (yay X.env scope.names []) { s2 with heap:=hp3 } (upd H2 s2.heap.objs.size (.lst [])) fp) [] (ybL none jf σ) H' s9/\tn i s9.heap/\(∀ b∈fp,H' b=none)/\W i m ys H' := fun {s9 H9 zs m'} I9 hm w9=>by
    refine ⟨m',hm,i+1,zs,H9,I9.unpinned.weak (by simp [ybL]) (fun j v e=>?_),T.keep _ _ _ st7 fun b hb o e=>(I9.pin (b,o) (List.mem_append_right _ (List.mem_append_right _ (za2 hb e)))).1,fun b hb=>?_,w9⟩
    ·cases j with
     | zero=>simp [ybL] at e
     | succ j=>simpa [ybL] using e
    ·obtain ⟨o,e,d⟩:=T.obj _ _ st7 b hb
     exact (I9.pin (b,o) (List.mem_append_right _ (List.mem_append_right _ (za2 hb e)))).2.1
   refine wpAny_mono (hc pins _ _ _ fp ([]++ybT fp s7.heap) s8 _ H7 _ I8' q8) (fun ok s9 ⟨H9,I9,q9⟩=>?_) fun _ _ z=>z
   cases ok with
   | false =>
    rw [if_neg Bool.false_ne_true] at q9 ⊢
    obtain ⟨m',hm,w9⟩:=q9
    exact again I9 hm w9
   | true =>
    rw [if_pos rfl] at q9 ⊢
    refine wpAny_mono (he pins _ _ _ fp ([]++ybT fp s7.heap) s9 _ H9 _ I9 q9) (fun y s10 ⟨v,H10,I10,r10,hD10,m',hm,w10⟩=>?_) fun _ _ z=>z
    refine wpAny_mono (zcs (X:=(ya7 X pins x₁ jf scope (yay X.env scope.names []) { s2 with heap:=hp3 } (upd H2 s2.heap.objs.size (.lst [])) fp)) ([]++ybT fp s7.heap) s10 (ybL (some x) jf σ) H10 (.ref s2.heap.objs.size) [v] (.ref s2.heap.objs.size) [y] (fun _ H' => H'=upd H10 s2.heap.objs.size (.lst (ys++[v]))) I10 rfl (.cons r10 .nil) ⟨_,ys,v,rfl,rfl,hD10,hlen,rfl⟩)
     (fun _ s11 ⟨_,H11,I11,_,e11⟩=>?_) fun _ _ z=>z
    subst e11
    exact again I11 hm w10
 exact codeAny_compStart_list loop (T.self _ 0 _ _ _ st4 loop)
theorem ziQ (hcalm:X.calm=true) (hi:PI X (.Name x₁ px) iter wi) (hc:∀ pins cl s H fp,PTs (ya7 X pins x₁ jf scope cl s H fp) ifs tc) (he:∀ pins cl s H fp,PE (ya7 X pins x₁ jf scope cl s H fp) elt te)
  (hN:(x₁::jf.map (·.2)).Nodup) (hx:scope.names.lookup x₁=some .local) (hjf:∀ p∈jf,X.N[p.1]? = some p.2) (hjl:∀ p∈jf,scope.names.lookup p.2=some .free) (hkind:scope.kind = .function)
  (hcell:∀ y∈scope.names,y.2 ≠ .cell) (hfr:∀ y∈scope.names,y.2 = .free->X.env.kindOf y.1=some .cell\/X.env.kindOf y.1=some .free)
  (hnames:∀ y∈scope.names,y.2 = .local->scope.names.lookup y.1=some .local) (hs:∀ x,foldedSetIterable iter X.env x=pure x:=by intro _;rfl) :
  PE X (.ListComp elt [⟨.Name x₁ px,iter,ifs,0⟩] scope pos) (yen jf wi tc te):=by
 intro pins s σ H Q I h
 rw [eval_ListComp]
 refine zeJ hcalm hi hc he hN hx hjf hjl hkind hcell hfr hnames (use:=none) (Qf:=EP X pins σ Q) I h (fun D C s6 H6 m6 I6 q6 f6 n6=>?_) hs
 refine ⟨m6,n6,fun h' hs' => ⟨.ref D,H6,?_,rfl,q6⟩⟩
 exact I6.turnedL (fp:=[C]) (t' := s6.toks) (fun b o hb q=>(hs'.2 b (fun z=>hb (by simp [z]))).trans q) (fun b hb=>by
  have e:b=C:=by simpa using hb
  subst e
  exact f6)
theorem ziR {y:Str} {py spos:Pos} {i:Nat} (hcalm:X.calm=true) (hi:PI X (.Name x₁ px) iter wi) (hc:∀ pins cl s H fp,PTs (ya7 X pins x₁ jf scope cl s H fp) ifs tc) (he:∀ pins cl s H fp,PE (ya7 X pins x₁ jf scope cl s H fp) elt te)
  (hN:(x₁::jf.map (·.2)).Nodup) (hx:scope.names.lookup x₁=some .local) (hjf:∀ p∈jf,X.N[p.1]? = some p.2) (hjl:∀ p∈jf,scope.names.lookup p.2=some .free) (hkind:scope.kind = .function)
  (hcell:∀ y∈scope.names,y.2 ≠ .cell) (hfr:∀ y∈scope.names,y.2 = .free->X.env.kindOf y.1=some .cell\/X.env.kindOf y.1=some .free)
  (hnames:∀ y∈scope.names,y.2 = .local->scope.names.lookup y.1=some .local) (hNX:X.N.Nodup) (hi':X.N[i]? = some y) (hy:X.env.scope.names.lookup y=some .local)
  (hsw:swapsWith (.ListComp elt [⟨.Name x₁ px,iter,ifs,0⟩] scope pos) (some (.Name y py)) spos.line X.env=pure true) (hs:∀ x,foldedSetIterable iter X.env x=pure x:=by intro _;rfl) :
  PS X (.Assign [.Name y py] (.ListComp elt [⟨.Name x₁ px,iter,ifs,0⟩] scope pos) spos) (tAsg (yen jf wi tc te) (yd5 i)):=by
 intro pins s σ H D I h
 rw [exec_Assign_Name_used _ _ _ _ hsw]
 refine wpAny_bind (wpAny_standAt (wpAny_bind ?_))
 show wpAny _ X.A (do let _ <- comprehension (.ListComp elt [⟨.Name x₁ px,iter,ifs,0⟩] scope pos) scope X.env _ (newList []) false (eval iter X.env) (some (assign (.Name y py) X.env))) _ _ s
 refine wpAny_bind (wpAny_mono (zeJ (Qf:=fun _ s' => SP X pins D .next s') hcalm hi hc he hN hx hjf hjl hkind hcell hfr hnames (use:=some (assign (.Name y py) X.env)) I h (fun D' C s6 H6 m6 I6 q6 f6 n6=>?_) hs) (fun _ s' hq=>wpAny_pure (wpAny_pure hq)) fun _ _ e=>e)
 refine wpAny_assign_Name (zcq I6 hNX hi' (.inl hy) (v:=.ref D') rfl (fun s7 I7 ⟨a,hsa,ha⟩=>?_) (.inr hy))
 have ne:C≠a:=by
  rcases ha with z | z
  ·rw [z];exact f6.2.1
  ·exact fun q=>f6.2.2.2.2.1 y a z q.symm
 refine ⟨m6,n6.sameBut hsa ne,fun h' hs' => ⟨_,H6,?_,q6⟩⟩
 exact I7.turnedL (fp:=[C]) (t' := s7.toks) (fun b o hb q=>(hs'.2 b (fun z=>hb (by simp [z]))).trans q) (fun b hb=>by
  have e:b=C:=by simpa using hb
  subst e
  exact f6)
end
end L2
namespace L2
open PySem PySem.Spec PyProof.Rows
section
variable {X:Cx} {a b e:Expr} {ta tb:TE} {p p2 pos:Pos}
theorem zhU {c:V} {cv:Value} (rc:∀ u,RelV c u->u=cv) :
  CallR X (.builtin "isinstance") (fun xs H Q=>∃ x t r,xs=[x,c]/\TyOf X.K H x t/\PySem.W.kitOne X.K t cv=some r/\Q (.bl r) H):=by
 intro pins s σ H xs us Q I r h
 obtain ⟨x,t,k,rfl,ty,hk,q⟩:=h
 obtain ⟨u,w',rfl,rx,ry⟩:=ye2 r
 obtain rfl:=rc _ ry
 exact zgV I rx ty hk fun tk=>⟨.bl k,H,I.tok _,rfl,q⟩
theorem yfQ (n:String):∀ u,RelV (.ty n) u->u=Value.type n:=fun _ r=>r
theorem zg4:OpR X (compareOp .LtE) (fun x y H Q=>∃ i j,x = .str i/\y = .str j/\Q (.bl (!decide (j.cps.toList<i.cps.toList))) H):=by
 intro pins s σ H x y v u Q I rx ry h
 obtain ⟨i,j,rfl,rfl,q⟩:=h
 obtain ⟨t,rfl⟩:=rx
 obtain ⟨t',rfl⟩:=ry
 exact PySem.P.le_str (yaQ I q rfl)
theorem zeK:MtR X "str.count" (fun x vs H Q=>∃ z y,x = .str z/\vs=[.str y]/\Q (.int ((Builtin.Str.occurrences z y 0 z.length (z.length+1)).length:Nat)) H):=by
 intro pins s σ H x vs v us Q I rx rv h
 obtain ⟨z,y,rfl,rfl,q⟩:=h
 obtain ⟨t,rfl⟩:=rx
 obtain ⟨u,rfl,t',rfl⟩:=ydy rv
 exact call_gives F.slot_str_count (typeIs_str s z t) F.entry_str_count (F.args_str_count_2 _ _) (gives_str_count z y t t') ⟨.int _,H,I.tok _,⟨_,rfl⟩,q⟩
theorem zhV (hc:X.calm=true):CallR X (.builtin "all") (fun xs H Q=>∃ (a:Addr) (bs:List Bool),xs=[.ref a]/\SqL X.K H a (bs.map V.bl)/\Q (.bl (bs.all id)) H):=by
 intro pins s σ H xs us Q I r h
 obtain ⟨l,bs,rfl,hq,q⟩:=h
 obtain ⟨u,rfl,rx⟩:=ydy r
 cases rx
 obtain ⟨its,rv,pl,hz⟩:=I.list hq
 have hlt:l<s.heap.objs.size:=by obtain ⟨_,_,e,_⟩:=pl;exact Heap.lt_size e
 have hlen:its.length=bs.length:=by rw [<- rv.length,List.length_map]
 refine call_all_walk (wpAny_pyIter_list pl.isList ?_)
 refine ⟨s.heap.objs.size,[s.heap.objs.size,l],[s.heap.objs.size],its.toArray.size,_,_,fun i=>(bs[i]?).getD true,rfl,Walks.list (A:=X.A.in1) (I.ok.hd hc) _ l (Nat.ne_of_lt hlt) its.toArray,
  ⟨⟨_,Heap.get?_push_size _ rfl,rfl,rfl⟩,pl.isList.push _⟩,fun i v s' Q' E' hP hQ=>?_,fun h' tk hk=>?_⟩
 ·have hP':its[i]? = some v:=by simpa using hP
  have hi:i<its.length:=(List.getElem?_eq_some_iff.mp hP').1
  have hb:(bs.map V.bl)[i]? = some (V.bl (bs[i]'(by omega))):=by rw [List.getElem?_map,List.getElem?_eq_getElem (by omega)];rfl
  obtain ⟨u,hu,ru⟩:=rv.get hb
  rw [hP'] at hu
  cases hu
  cases ru
  have e:(bs[i]?).getD true=bs[i]'(by omega):=by rw [List.getElem?_eq_getElem (by omega)];rfl
  have hQ2:Q' ((bs[i]?).getD true) s' := hQ
  rw [e] at hQ2
  exact wpAny_truthy_bool hQ2
 ·have e:((List.range its.toArray.size).all fun i=>(bs[i]?).getD true)=bs.all id:=by
   rw [List.size_toArray,hlen,Bool.eq_iff_iff,List.all_eq_true,List.all_eq_true]
   constructor
   ·intro z c hc'
    obtain ⟨i,hi,rfl⟩:=List.getElem_of_mem hc'
    have:=z i (List.mem_range.mpr hi)
    rw [List.getElem?_eq_getElem hi] at this
    exact this
   ·intro z i hi
    have hi' := List.mem_range.mp hi
    rw [List.getElem?_eq_getElem hi']
    exact z _ (List.getElem_mem hi')
  rw [e]
  refine ⟨.bl _,H,I.kept (t' := tk) fun b o q=>?_,rfl,q⟩
  exact hk b o (fun hm=>by rw [List.mem_singleton.mp hm] at q;exact Nat.lt_irrefl _ (Heap.lt_size q)) (Heap.get?_push_of_some _ q)
end
end L2
namespace L2
open PySem PySem.Spec PyProof.Rows
section
variable {X:Cx}
theorem zhW:OpR X (binaryOp .FloorDiv) (rI (fun _ j=>0<j/\j<2 ^ 200) fun i j=>.int (i / j)):=opI fun i j _ _ _ _ _ hc q=>by
 obtain ⟨h1,h2⟩:=hc
 refine floordiv_int (by omega) (by rw [Int.fdiv_eq_ediv_of_nonneg i (by omega)];exact q) (.inl (PyProof.noPylong_of_log2 ?_))
 have h3:j.natAbs<2 ^ 200:=by omega
 have h4:j.natAbs.log2<200:=(Nat.log2_lt (by omega)).mpr h3
 omega
theorem zhX:OpR X (binaryOp .Mult) (rI IntMulOk fun i j=>.int (i*j)):=opI fun _ _ _ _ _ _ _ hc q=>mul_int q hc
end
end L2
namespace L2
open PySem PySem.Spec PyProof.Rows
theorem yfn:bootBuiltins "int" = some (.type "int"):=by decide +kernel
theorem ziS:bootBuiltins "bool" = some (.type "bool"):=by decide +kernel
theorem ygI:bootBuiltins "str" = some (.type "str"):=by decide +kernel
end L2
namespace L2
open PySem PySem.Spec PyProof.Rows
theorem ObjOk.some {P:Program} {w:World} {H:Hp} {h:Heap} {a:Addr} {o:HO} (x:ObjOk P w H h a o):∃ ob,h.get? a=Option.some ob:=by
 cases o with
 | lst xs=>obtain ⟨_,_,_,_,e⟩:=x;exact ⟨_,e⟩
 | tup xs=>obtain ⟨_,_,_,o,e,_⟩:=x;exact ⟨o,e⟩
 | dK kvs=>obtain ⟨_,_,_,_,o,_,_,e,_⟩:=x;exact ⟨_,e⟩
 | dT kvs=>obtain ⟨_,_,_,_,o,_,_,e,_⟩:=x;exact ⟨_,e⟩
 | set S n=>obtain ⟨o,_,_,_,e,_⟩:=x;exact ⟨_,e⟩
 | ins C dx fs=>obtain ⟨_,_,_,e,_⟩:=x;exact ⟨_,e⟩
 | own y=>obtain ⟨_,e⟩:=x;exact ⟨_,e⟩
 | xd fs=>obtain ⟨_,⟨_,_,_,e,_⟩,_⟩:=x;exact ⟨_,e⟩
 | rng lo hi=>obtain ⟨_,_,_,e⟩:=x;exact ⟨_,e⟩
 | frz ob u=>obtain ⟨e,_⟩:=x;exact ⟨_,e⟩
 | tbl ps=>exact ⟨_,(show h.get? a=Option.some _ from x)⟩
 | met f y=>exact ⟨_,(show h.get? a=Option.some _ from x)⟩
 | ext φ=>obtain ⟨_,⟨_,e⟩,_⟩:=x;exact ⟨_,e⟩
def Firm (X:Cx) (pins:List (Addr×Obj)) (H:Hp) (h B:Heap):Prop :=
 ∀ b o,h.get? b=some o->b∉frs X.stack->((∃ u,H b=some u)\/(∃ o',X.s₀.heap.get? b=some o')\/∃ p∈X.pn++pins,p.1=b)->B.get? b=some o
section
variable {X:Cx} {pins:List (Addr×Obj)} {σ:St} {H:Hp} {s:Shared}
theorem Inv.nofr (I:Inv X pins σ H s) {b:Addr} {o:Obj} (e:X.s₀.heap.get? b=some o) (hb:b∉X.fs):b∉frs X.stack:=fun z=>by
 rcases List.mem_cons.mp (I.stkSub b z) with q | q
 ·exact Nat.ne_of_lt (Nat.lt_of_lt_of_le (Heap.lt_size e) I.ok.above) q
 ·exact hb q
theorem Inv.nofrT (I:Inv X pins σ H s) {b:Addr} {u:HO} (e:H b=some u):b∉frs X.stack:=fun z=>by
 have q:=I.stkFree b z
 rw [q] at e
 cases e
theorem Inv.nofrP (I:Inv X pins σ H s) {p:Addr×Obj} (hp:p∈X.pn++pins):p.1∉frs X.stack:=fun z=>by
 obtain ⟨_,_,ne,nf,_⟩:=I.pin p hp
 rcases List.mem_cons.mp (I.stkSub p.1 z) with q | q
 ·exact ne q
 ·exact nf q
theorem Inv.flown {B h':Heap} {t':Nat} (I:Inv X pins σ H s) (hex:X.ex=[]) (F:Firm X pins H s.heap B) (st:B.StaysIn h') (sm:s.heap.UpToSlots h'):Inv X pins σ H { s with heap:=h',toks:=t' }:=by
 have nx:∀ b,b∉X.ex:=fun b z=>by rw [hex] at z;cases z
 refine ⟨I.ok,I.os,I.bare,⟨fun b o e n hb hx=>?_,fun b o e n hb hx=>?_,I.base.free,fun b o e hx=>?_,I.base.tups,I.base.frzs,I.base.tbls⟩,?_,fun x c e=>?_,I.free,I.freeC,fun p hp=>?_,fun b u e=>?_,I.len⟩
 ·exact st b o (F b o (I.base.keep b o e n hb hx) (I.nofr e hb) (.inr (.inl ⟨o,e⟩)))
 ·obtain ⟨sl,q⟩:=I.base.slot b o e n hb hx
  obtain ⟨_,o',ho',hd⟩:=I.funs.mem hb
  rw [q] at ho'
  cases ho'
  obtain ⟨sl',q'⟩:=sm b _ q hd
  exact ⟨sl',q'⟩
 ·obtain ⟨o',q⟩:=I.base.there b o e hx
  by_cases hb:b∈X.fs
  ·obtain ⟨_,o'',ho'',hd⟩:=I.funs.mem hb
   rw [q] at ho''
   cases ho''
   obtain ⟨sl',q'⟩:=sm b _ q hd
   exact ⟨_,q'⟩
  ·exact ⟨o',st b o' (F b o' q (I.nofr e hb) (.inr (.inl ⟨o,e⟩)))⟩
 ·obtain ⟨m,hn,hl⟩:=I.loc
  refine ⟨m,sm.ns hn,fun i x v e1 e2 e3=>?_⟩
  obtain ⟨u,r,l⟩:=hl i x v e1 e2 e3
  refine ⟨u,r,?_⟩
  rcases l with l | ⟨k,c,e,o,ho,hd⟩
  ·exact .inl l
  ·obtain ⟨sl,q⟩:=sm c o ho fun vs z=>by rw [hd] at z;cases z
   exact .inr ⟨k,c,e,_,q,hd⟩
 ·obtain ⟨v,o,ho,hd⟩:=I.cell x c e
  obtain ⟨sl,q⟩:=sm c o ho fun vs z=>by rw [hd] at z;cases z
  exact ⟨v,_,q,hd⟩
 ·obtain ⟨e,n,ne,nf,d⟩:=I.pin p hp
  exact ⟨st _ _ (F _ _ e (I.nofrP hp) (.inr (.inr ⟨p,hp,rfl⟩))),n,ne,nf,d⟩
 ·refine (I.hok b u e).stay (fun c v hc q=>?_) (fun _ q=>q) fun _ _ q=>q
  rcases hc with z | z
  ·subst z
   exact st _ _ (F _ _ q (I.nofrT e) (.inl ⟨_,e⟩))
  ·exact st _ _ (F _ _ q (I.nofrT z) (.inl ⟨_,z⟩))
end
structure Arr (X:Cx) (pins:List (Addr×Obj)) (σ:St) (H:Hp) (a:Addr) (cls:Value) (s:Shared):Prop where
 inv:Inv X pins σ H s
 un:H a=none
 new:X.s₀.heap.get? a=none
 nl:a≠X.env.locals
 nc:∀ x c,X.env.cells.lookup x=some c->c≠a
 np:∀ p∈X.pn++pins,p.1≠a
 fly:∃ B a0,Firm X pins H s.heap B/\B.StaysIn s.heap/\B.get? a=none/\s.heap.FunFrames B X.stack /\
  ((∃ oe vs,s.heap.get? a=some oe/\oe.cls=cls/\oe.data = .fields vs/\vs[0]? = some a0/\vs[1]? = some .none)\/s.heap.TracedW B a cls a0)
def CXE (P:Program) (w:World):CXT:=fun outer H s E e s' => ∃ (a:Addr) (cls a0:Value) (H':Hp) (B:Heap),e = .ref a/\s'.os=s.os/\AllBare s'.gens/\Un (frs outer) [] H H' s.heap s'.heap/\HOk P w H' s'.heap /\
 Heap.FlyingW B outer a cls a0 s'.heap/\(∀ b o,s'.heap.get? b=some o->b∉frs outer->((∃ u,H' b=some u)\/∃ o',s.heap.get? b=some o')->B.get? b=some o)/\H' a=none/\s.heap.get? a=none/\E cls none H'
section
variable {X:Cx} {pins:List (Addr×Obj)} {σ:St} {H:Hp} {s:Shared}
theorem zhY {h':Heap} {e:Addr} {cls:Value} {args:List Value} {t':Nat} (I:Inv X pins σ H s) (hex:X.ex=[]) (hx:Heap.MadeExcOf s.heap h' e cls args):Arr X pins σ H e cls { s with heap:=h',toks:=t' }:=by
 have nx:∀ b,b∉X.ex:=fun b z=>by rw [hex] at z;cases z
 have none_of:∀ b o,s.heap.get? b=some o->b≠e:=fun b o q z=>by rw [z,hx.new] at q;cases q
 have eq_of:∀ b o o1,h'.get? b=some o->s.heap.get? b=some o1->o1=o:=fun b o o1 q q1=>by
  have z:=hx.keeps b o1 q1
  rw [q] at z
  exact (Option.some.inj z).symm
 obtain ⟨t,he,_,_⟩:=hx.there
 refine ⟨I.kept hx.keeps,?_,?_,fun z=>?_,fun x c q z=>?_,fun p hp z=>?_,PySem.W.hideAll s.heap (frs X.stack),.ref t,fun b o q nb alt=>?_,fun b o q=>hx.keeps b o (PySem.W.of_hideAll _ q),?_,?_,.inl ⟨_,_,he,rfl,rfl,rfl,rfl⟩⟩
 ·cases q:H e with
  | none=>rfl
  | some u =>
   obtain ⟨ob,z⟩:=(I.hok e u q).some
   exact absurd rfl (none_of e ob z)
 ·cases q:X.s₀.heap.get? e with
  | none=>rfl
  | some o =>
   obtain ⟨ob,z⟩:=I.base.there e o q (nx e)
   exact absurd rfl (none_of e ob z)
 ·obtain ⟨m,⟨o,_,_,ho,_⟩,_⟩:=I.loc
  exact none_of _ o ho z.symm
 ·obtain ⟨v,o,ho,_⟩:=I.cell x c q
  exact none_of _ o ho z
 ·exact none_of _ _ (I.pin p hp).1 z
 ·have there:∃ o1,s.heap.get? b=some o1:=by
   rcases alt with ⟨u,q'⟩ | ⟨o',q'⟩ | ⟨p,hp,rfl⟩
   ·exact (I.hok b u q').some
   ·exact I.base.there b o' q' (nx b)
   ·exact ⟨_,(I.pin p hp).1⟩
  obtain ⟨o1,q1⟩:=there
  rw [<- eq_of b o o1 q q1]
  exact PySem.W.hideAll_get _ q1 nb
 ·cases q:(PySem.W.hideAll s.heap (frs X.stack)).get? e with
  | none=>rfl
  | some o=>exact absurd rfl (none_of e o (PySem.W.of_hideAll _ q))
 ·refine (PySem.W.funFrames_hide I.stack fun env henv b hb=>List.mem_filterMap.mpr ⟨env,henv,hb⟩).of_keeps fun b o q _=>⟨o,hx.keeps b o q,rfl⟩
theorem zhZ {E:XK} {e:Value} {s':Shared} (I:Inv X pins σ H s) (hex:X.ex=[]) (h:CXE X.prog X.w X.stack H s E e s'):∃ a cls H',e = .ref a/\Arr X pins σ H' a cls s'/\E cls none H' := by
 obtain ⟨a,cls,a0,H',B,rfl,os,bare,un,hok,⟨f1,f2,f3,f4⟩,ext,na,ns,q⟩:=h
 have nx:∀ b,b∉X.ex:=fun b z=>by rw [hex] at z;cases z
 have none_of:∀ b o,s.heap.get? b=some o->b≠a:=fun b o q z=>by rw [z,ns] at q;cases q
 refine ⟨a,cls,H',rfl,⟨I.call' (ch:=[]) os un hok bare (fun b z=>absurd z (by simp)),na,?_,fun z=>?_,fun x c q z=>?_,fun p hp z=>?_,B,a0,fun b o q nb alt=>?_,f1,f2,f3,.inr f4⟩,q⟩
 ·cases q:X.s₀.heap.get? a with
  | none=>rfl
  | some o =>
   obtain ⟨ob,z⟩:=I.base.there a o q (nx a)
   exact absurd rfl (none_of a ob z)
 ·obtain ⟨m,⟨o,_,_,ho,_⟩,_⟩:=I.loc
  exact none_of _ o ho z.symm
 ·obtain ⟨v,o,ho,_⟩:=I.cell x c q
  exact none_of _ o ho z
 ·exact none_of _ _ (I.pin p hp).1 z
 ·refine ext b o q nb ?_
  rcases alt with ⟨u,q'⟩ | ⟨o',q'⟩ | ⟨p,hp,rfl⟩
  ·exact .inl ⟨u,q'⟩
  ·exact .inr (I.base.there b o' q' (nx b))
  ·exact .inr ⟨_,(I.pin p hp).1⟩
theorem Arr.land {a:Addr} {cls:Value} {Q:Unit->Shared->Prop} {E:Value->Shared->Prop} {M:Model} {A:Around} (R:Arr X pins σ H a cls s) (hex:X.ex=[]) (hfr:A.frames=some X.stack) {outer:List Env} (hst:X.stack=X.env::outer) (hf:X.env.frame=some X.env.locals)
  (hQ:∀ h' B a0,Firm X pins H s.heap B->Heap.FlyingW B X.stack a cls a0 h'->s.heap.UpToSlots h'->Inv X pins σ H { s with heap:=h' }->Q () { s with heap:=h' }) :
  wpAny M A (noteFrame (.ref a) X.env) (fun _ s₂=>wpAny M A (setFlight (.ref a) none) Q E s₂) E s:=by
 obtain ⟨B,a0,fm,st,hb,ff,alt⟩:=R.fly
 have after:∀ h4,Heap.HeldW B X.stack a cls a0 X.env.locals h4->s.heap.UpToSlots h4->wpAny M A (setFlight (.ref a) none) Q E { s with heap:=h4 }:=fun h4 hh sm=>by
  refine wpAny_landsW (s:={ s with heap:=h4 }) hh fun h5 fl sm5=>?_
  have sm':s.heap.UpToSlots h5:=sm.trans sm5
  exact hQ h5 B a0 fm fl sm' (R.inv.flown (t' := s.toks) hex fm fl.1 sm')
 rw [hst] at hfr
 rw [hst] at ff
 rcases alt with ⟨oe,vs,he,hc,hd,h0,h1⟩ | tr
 ·subst hc
  have hsz:1<vs.size:=(Array.getElem?_eq_some_iff.mp h1).1
  unfold noteFrame
  simp only [hf]
  refine wpAny_bind (wpAny_field he hd h1 ?_)
  rw [if_neg (by decide)]
  refine wpAny_entryW hfr ff hf he st hb hd hsz h0 fun h4 hN=>?_
  obtain ⟨k1,k2,k3,k4⟩:=hN
  exact after h4 (by rw [hst];exact ⟨k1,hb,k2,k3⟩) k4
 ·exact wpAny_looks_onW hfr hf ⟨st,hb,ff,tr⟩ fun h4 hh sm=>after h4 (by rw [hst];exact hh) sm
theorem zed {P:Program} {w:World} {K:PySem.W.Frag} {mg:Str->Option Value} {base:Heap} {N:List Str} {qual:Str} {scope:Scope} {f:Addr} {cd:Value} {A:Around} {outer:List Env} {s0:Shared} {H0:Hp} {E:XK} {a:Addr} {cls:Value}
  (R:Arr (cxOf (CXE P w) P w K mg base N qual scope f cd A outer s0 H0 E) pins σ H a cls s) (q:E cls none H):(cxOf (CXE P w) P w K mg base N qual scope f cd A outer s0 H0 E).xe (.ref a) s:=by
 show wpAny _ _ (leaving _ _) _ _ s
 unfold leaving
 refine wpAny_bind (R.land (E:=fun e' s'' => CXE P w outer H0 s0 E e' s'') rfl R.inv.ok.frames rfl rfl fun h' B a0 fm fl sm I' => ?_)
 have I:=R.inv
 obtain ⟨k1,k2,⟨_,_,k3⟩,k4⟩:=fl
 refine ⟨a,cls,a0,H,B,rfl,I'.os,I'.bare,I'.base,I'.hok,⟨k1,k2,k3,k4⟩,fun b o e nb alt=>?_,R.un,R.new,q⟩
 have nstk:b∉frs (cxOf (CXE P w) P w K mg base N qual scope f cd A outer s0 H0 E).stack:=by
  rcases alt with ⟨u,z⟩ | ⟨o',z⟩
  ·exact I.nofrT z
  ·exact I.nofr z nb
 have there:∃ o1,s.heap.get? b=some o1:=by
  rcases alt with ⟨u,z⟩ | ⟨o',z⟩
  ·exact (I.hok b u z).some
  ·exact I.base.there b o' z (fun z=>absurd (show b∈([]:List Addr) from z) (by simp))
 obtain ⟨o1,q1⟩:=there
 have z:B.get? b=some o1:=fm b o1 q1 nstk (by
  rcases alt with ⟨u,z⟩ | ⟨o',z⟩
  ·exact .inl ⟨u,z⟩
  ·exact .inr (.inl ⟨o',z⟩))
 have z2:=k1 b o1 z
 rw [show (Heap.get? h' b)=some o from e] at z2
 cases z2
 exact z
end
def yeC (X:Cx) (Ex:St->XK):Prop:=∀ (pins:List (Addr×Obj)) (σ:St) (H:Hp) (s:Shared) (a:Addr) (cls:Value),Arr X pins σ H a cls s->Ex σ cls none H->X.xe (.ref a) s
def ydY (CX:CXT) (X:Cx) (Ex:St->XK):Prop:=∀ (pins:List (Addr×Obj)) (σ:St) (H:Hp) (s:Shared) (e:Value) (s':Shared),Inv X pins σ H s->CX X.stack H s (Ex σ) e s'->X.xe e s'
section
variable {P:Program} {w:World} {K:PySem.W.Frag} {mg:Str->Option Value} {base:Heap} {N:List Str} {qual:Str} {scope:Scope} {f:Addr} {cd:Value} {A:Around} {outer:List Env} {s0:Shared} {H0:Hp} {E:XK}
theorem zaJ:yeC (cxOf (CXE P w) P w K mg base N qual scope f cd A outer s0 H0 E) (fun _=>E):=fun _ _ _ _ _ _ R q=>zed R q
theorem ziT:ygz (CXE P w) (cxOf (CXE P w) P w K mg base N qual scope f cd A outer s0 H0 E) E:=fun pins σ H s e s' I h=>by
 obtain ⟨a,cls,H',rfl,R,q⟩:=zhZ (X:=cxOf (CXE P w) P w K mg base N qual scope f cd A outer s0 H0 E) I rfl h
 exact zed R q
end
section
variable {X:Cx} {x:Str} {C:Addr} {bm:List Value} {B newId initId:String} {np cpos pos:Pos} {e:Expr} {es:List Expr} {t:TA} {Ex:St->XK}
def ygJ (cls:Value) (Ex:St->XK) (t:TA):TS:=fun _ σ H=>t σ H fun vs H1=>vs.length<=1000/\Ex σ cls none H1
theorem zh0 (O:OwnCls x C bm newId X.mg X.base) (FB:ExcBaseFacts B newId initId bm) (hc:X.calm=true) (hex:X.ex=[]) (hr:yeC X Ex) (hg:Gl X x) (ha:PA X (e::es) t)
  (hdb:(x == ("__debug__" : Str))=false:=by decide) (he:starEach (e::es) X.env=(false,eval e X.env)::starEach es X.env:=by rfl) (hpl:(backTo cpos (starEach es X.env)).any (·.1)=false:=by rfl) :
  PS X (.Raise (some (.Call (.Name x np) (e::es) [] cpos)) none pos) (ygJ (.ref C) Ex t):=by
 intro pins s σ H D I h
 obtain ⟨tl,NN,nm,q,bs,hdct,sn,sub,ab,col,dd,k0,k1,k2,k3,k5,mN,hC,hN,hni,T⟩:=O.obj
 refine wpAny_Raise_call_subT (C:=C) (nm:=nm) (q:=q) (N:=NN) (bs:=bs) (bm:=tl) (hdct:=hdct) (sn:=sn) (sub:=sub) (ab:=ab) (col:=col) (dd:=dd) (k0:=k0) (k1:=k1) (k2:=k2) (k3:=k3) (k5:=k5) FB (mN:=mN)
  (T.hasType FB.hasBase) (I.ok.hd hc) (by rw [he];show (false || (backTo cpos (starEach es X.env)).any (·.1))=false;rw [hpl];rfl) hni (zcI I hg O.bound ⟨rfl,?_⟩ hdb)
 have hA:=ha cpos pins s σ H _ I h
 rw [he] at hA ⊢
 refine Calls.evalArgs_plain (thn hA fun us s2 ⟨vs,H1,I1,r1,hl,q1⟩=>⟨rfl,?_,I1.bk _ _ hC,hN.keeps I1.bk,T.keeps I1.bk,fun h' a hm=>hr pins σ H1 _ a _ (zhY (t' := s2.toks) I1 hex hm) q1⟩)
 show us.length<=sizeLine
 rw [<- r1.length]
 exact Nat.le_trans hl (by decide)
end
section
variable {X:Cx} {CX:CXT} {k:Nat} {f C:Addr} {fd:FuncData} {ps:List Str} {sp:Sp} {dvs:List V} {ds:List Value} {Ex:St->XK} {x m:Str} {p pos apos:Pos} {e o:Expr} {es:List Expr} {ta:TE} {t:TA}
theorem zfE {pins:List (Addr×Obj)} {σ:St} {H:Hp} {s:Shared} {Q:VK} {us:List Value} {vs:List V} (F:FnOk X.prog X.w X.K X.mg X.base CX k f fd ps sp) (hr:Room k X.A) (hb:Binds X.K fd ps ds) (hd:Vals dvs ds) (hx:ydY CX X Ex)
  (I:Inv X pins σ H s) (r:Vals vs us) (h:sp (vs++dvs) H Q (Ex σ)):wpAny (model X.prog X.w) X.A (call (.ref f) us) (EP X pins σ Q) X.xe s:=by
 have r2:Vals (vs++dvs) (us++ds):=r.append hd
 have hl:(us++ds).length=ps.length:=by rw [<- r2.length];exact F.len _ _ _ _ h
 refine wpAny_call (codeAny_mono (F.run X.A X.stack s H ⟨us,[]⟩ (us++ds) (vs++dvs) Q (Ex σ) hr I.env0 (hb s us I.kIn hl) r2 h) fun r s' hq=>?_)
 cases r with
 | error e=>exact hx pins σ H s e s' I hq
 | ok fl =>
  cases fl with
  | ret u=>exact I.after hq
  | next=>exact False.elim hq
  | brk=>exact False.elim hq
  | cont=>exact False.elim hq
def ygK (sp:Sp) (dvs:List V) (Ex:St->XK) (t:TA):TE:=fun σ H Q=>t σ H fun vs H1=>sp (vs++dvs) H1 Q (Ex σ)
theorem zh1 (F:FnOk X.prog X.w X.K X.mg X.base CX k f fd ps sp) (hr:Room k X.A) (hg:Gl X x) (hm:X.mg x=some (.ref f)) (hk:PySem.W.keepIn X.K (.ref f)=true) (hb:Binds X.K fd ps ds) (hd:Vals dvs ds) (hx:ydY CX X Ex)
  (ha:PA X (e::es) t) (hdb:(x == ("__debug__" : Str))=false:=by decide) (he:starEach (e::es) X.env=(false,eval e X.env)::starEach es X.env:=by rfl) (hpl:(backTo pos (starEach es X.env)).any (·.1)=false:=by rfl) :
  PE X (.Call (.Name x p) (e::es) [] pos) (ygK sp dvs Ex t):=by
 intro pins s σ H Q I h
 refine wpAny_Call_Name_kw (zcI I hg hm ?_ hdb)
 refine PySem.W.callWith_K (h₀:=X.base) I.ok.mod.kin hk (thn (ha pos pins s σ H _ I h) fun us s1 ⟨vs,H1,I1,r,q⟩=>⟨I1.kIn,?_⟩) he hpl
 exact zfE F hr hb hd hx I1 r q
def yfo (C:Addr) (m:Str) (sp:Sp) (dvs:List V) (Ex:St->XK) (ta:TE) (t:TA):TE:=fun σ H Q=>ta σ H fun x H1=>∃ a dx fs,x = .ref a/\H1 a=some (.ins C dx fs)/\fs.lookup m=none /\
 t σ H1 fun vs H2=>sp (x::(vs++dvs)) H2 Q (Ex σ)
theorem zh2 {pl:Sem Bool} (he:PE X o ta) (c:Cls X.K C) (hm:Meth X.K C m f) (F:FnOk X.prog X.w X.K X.mg X.base CX k f fd ps sp) (hr:Room k X.A) (hb:Binds X.K fd ps ds) (hd:Vals dvs ds) (hx:ydY CX X Ex) (ha:PA X (e::es) t)
  (hst:starEach (e::es) X.env=(false,eval e X.env)::starEach es X.env:=by rfl) (hpl:(backTo pos (starEach es X.env)).any (·.1)=false:=by rfl)
  (ht:eval (.Call (.Attribute o m apos) (e::es) [] pos) X.env=(do
   let ov <- eval o X.env
   standAt apos.atName
   let (f,first) <- holding [ov] (getMethod ov m pl)
   callWith pos f first (backTo pos (starEach (e::es) X.env)) (backToKw pos (keywordEach [] X.env))):=by rfl) :
  PE X (.Call (.Attribute o m apos) (e::es) [] pos) (yfo C m sp dvs Ex ta t):=by
 intro pins s σ H Q I h
 refine PySem.W.methodCall_KW (pl:=pl) (thn (he pins s σ H _ I h) fun u s1 ⟨x,H1,I1,rx,a,dx,fs,ex,ea,l,q⟩=>?_) ht
 subst ex
 obtain rfl:u=Value.ref a:=rx
 refine zgk I1 ea c hm l ?_
 refine PySem.W.callWith_K (first:=[.ref a]) (h₀:=X.base) I.ok.mod.kin hm.kp (thn (ha pos pins s1 σ H1 _ I1 q) fun us s2 ⟨vs,H2,I2,r,q2⟩=>⟨I2.kIn,?_⟩) hst hpl
 exact zfE (us:=.ref a::us) (vs:=.ref a::vs) F hr hb hd hx I2 (.cons rfl r) q2
end
def excO (a:Addr) (cls:Value):HO:=.ext fun h=>∃ ob vs,h.get? a=some ob/\ob.cls=cls/\ob.data = .fields vs
section
variable {X:Cx} {pins pins':List (Addr×Obj)} {σ:St} {H:Hp} {s:Shared} {xe:Value->Shared->Prop}
end
section
variable {X:Cx} {xc n:Str} {C:Addr} {i:Nat} {body suite:List Stmt} {b0:Stmt} {np hpos pos:Pos} {tb:(St->XK)->TS} {th:TS} {outer:List Env}
end
section
variable {P:Program} {w:World} {K:PySem.W.Frag} {mg:Str->Option Value} {base:Heap}
theorem Fun.okE {x qual:Str} {st:Stmt} {f:Addr} {fd:FuncData} {N ps:List Str} {k:Nat} {sp:Sp} (F:Fun K x qual st f fd) (S:FnScope N ps (yad st)) (len:∀ vs H Q E,sp vs H Q E->vs.length=ps.length)
  (hbody:∀ (cdv:Value) (A:Around) (outer:List Env) (s:Shared) (H:Hp) (vs:List V) (Q:VK) (E:XK),Room k (A.deeper (envOfC qual (yad st) s.heap.objs.size f cdv))->sp vs H Q E ->
   ∃ t,PSs (cxOf (CXE P w) P w K mg base N qual (yad st) f cdv A outer s H E) (yan st) t/\t { nx:=fun _ H' => Q .non H',rt:=Q } (start N vs) H):FnOk P w K mg base (CXE P w) (k+1) f fd ps sp:=by
 obtain ⟨oc,od,kV,doc,pm,an,cdv,ct,osl,rfl,lk,hcd⟩:=F.ex
 exact yht lk hcd S len fun A outer s H vs Q E hr hsp=>hbody cdv A outer s H vs Q E hr hsp
end
end L2
namespace L2
open PySem PySem.Spec PyProof.Rows
theorem zbe {K:PySem.W.Frag} {hp:Heap} {g:Str->Option Value} {nm:Str} {Ca:Addr} {bb:List Value} {nid:String} (Z:K.In hp) (hb:g nm=some (.ref Ca)) (ok:PySem.W.excIn K Ca bb nid=true):OwnCls nm Ca bb nid g hp:=by
 refine ⟨hb,?_⟩
 unfold PySem.W.excIn at ok
 split at ok
 ·rename_i dA cA sA hA
  split at ok
  ·rename_i D' tl w0 w1 w2 w3 bn w5 eM eS
   simp only [Bool.and_eq_true,beq_iff_eq,Bool.not_eq_true'] at ok
   obtain ⟨⟨⟨⟨⟨rfl,rfl⟩,e1⟩,e2⟩,e3⟩,e4⟩:=ok
   obtain ⟨f1,f2,f3,f4,f5,f6,f7,f8,f9,f10,f11⟩:=cA
   dsimp only at eM e1 e3 e4
   subst eM e1
   have eA:sA = #[w0,w1,w2,w3,some (.builtin bn),w5]:=by
    obtain ⟨ll⟩:=sA
    simp only at eS
    rw [eS]
   subst eA
   refine ⟨tl,f4,f1,f5,f2,f6,f7,f8,f9,f10,dA,w0,w1,w2,w3,w5,_,Z _ _ hA,.of_isNs (PySem.W.isNs_of_in Z e3),?_,PySem.W.tail_of_in Z e2⟩
   exact PySem.W.nsMap_none_of_in Z e3 e4
  ·cases ok
 ·cases ok
mutual
inductive DaV (K:PySem.W.Frag) (H:Hp):V->PyData->Prop
 | non:DaV K H .non .none
 | bl (b):DaV K H (.bl b) (.bool b)
 | int (i):DaV K H (.int i) (.int i)
 | str (x):DaV K H (.str x) (.str x)
 | lst {a xs ds}:SqL K H a xs->DaVs K H xs ds->DaV K H (.ref a) (.list ds)
 | tup {a xs ds}:SqT K H a xs->DaVs K H xs ds->DaV K H (.ref a) (.tuple ds)
inductive DaVs (K:PySem.W.Frag) (H:Hp):List V->List PyData->Prop
 | nil:DaVs K H [] []
 | cons {x xs d ds}:DaV K H x d->DaVs K H xs ds->DaVs K H (x::xs) (d::ds)
end
section
variable {X:Cx} {pins:List (Addr×Obj)} {σ:St} {H:Hp} {s:Shared}
mutual
theorem DaV.reads (I:Inv X pins σ H s):∀ {x:V} {d:PyData} {u:Value},DaV X.K H x d->RelV x u->∃ as,Reads s.heap u d as
 | _,_,_,.non,r=>by cases r;exact ⟨_,.none⟩
 | _,_,_,.bl b,r=>by cases r;exact ⟨_,.bool b⟩
 | _,_,_,.int i,r=>by obtain ⟨t,rfl⟩:=r;exact ⟨_,.int i t⟩
 | _,_,_,.str x,r=>by obtain ⟨t,rfl⟩:=r;exact ⟨_,.str x t⟩
 | _,_,_,.lst (a:=a) h1 h2,r=>by
  cases r
  obtain ⟨its,rv,⟨o,n,e1,e2,e3⟩,_⟩:=I.list h1
  obtain ⟨as,q⟩:=DaVs.reads I h2 rv
  exact ⟨_,.list (vs:=its.toArray) (n:=n) e1 (by first | exact e2.1 | exact e2) (by first | exact e2.2.2 | exact e2.2 | exact e3 | exact e3.2) (by simpa using q)⟩
 | _,_,_,.tup (a:=a) h1 h2,r=>by
  cases r
  obtain ⟨its,rv,⟨o,e1,e2,n,e3⟩,_⟩:=I.tuple h1
  obtain ⟨as,q⟩:=DaVs.reads I h2 rv
  exact ⟨_,.tuple (vs:=its.toArray) (n:=n) e1 e2 e3 (by simpa using q)⟩
theorem DaVs.reads (I:Inv X pins σ H s):∀ {xs:List V} {ds:List PyData} {us:List Value},DaVs X.K H xs ds->Vals xs us->∃ as,ReadsAll s.heap us ds as
 | _,_,_,.nil,r=>by cases r;exact ⟨_,.nil⟩
 | _,_,_,.cons h1 h2,r=>by
  cases r with
  | cons r1 r2 =>
   obtain ⟨as,q1⟩:=DaV.reads I h1 r1
   obtain ⟨bs,q2⟩:=DaVs.reads I h2 r2
   exact ⟨_,.cons q1 q2⟩
end
def rEqD (K:PySem.W.Frag):R2:=fun x y H Q=>∃ d e,DaV K H x d/\DaV K H y e/\d.canLay0=true/\e.canLay0=true/\d.depth<=60/\Q (.bl (PyData.eqv d e)) H
def rNeD (K:PySem.W.Frag):R2:=fun x y H Q=>∃ d e,DaV K H x d/\DaV K H y e/\d.canLay0=true/\e.canLay0=true/\d.depth<=60/\Q (.bl (!PyData.eqv d e)) H
theorem yfp (hu:X.A.units+64<cLine):OpR X (compareOp .Eq) (rEqD X.K):=by
 intro pins s σ H x y v u Q I rx ry h
 obtain ⟨d,e,h1,h2,c1,c2,dp,q⟩:=h
 obtain ⟨as,r1⟩:=h1.reads I rx
 obtain ⟨bs,r2⟩:=h2.reads I ry
 exact SeqAt.compareEq_reads r1 r2 c1 c2 (by have:=Nat.min_le_left d.depth e.depth;omega) ⟨.bl _,H,I,rfl,q⟩
theorem yfq (hu:X.A.units+64<cLine):OpR X (compareOp .NotEq) (rNeD X.K):=by
 intro pins s σ H x y v u Q I rx ry h
 obtain ⟨d,e,h1,h2,c1,c2,dp,q⟩:=h
 obtain ⟨as,r1⟩:=h1.reads I rx
 obtain ⟨bs,r2⟩:=h2.reads I ry
 exact SeqAt.compareNe_reads r1 r2 c1 c2 (by have:=Nat.min_le_left d.depth e.depth;omega) ⟨.bl _,H,I,rfl,q⟩
end
theorem hu64 {A:Around} {k:Nat} (hr:Room k A):A.units+64<cLine:=by
 have:=hr.un
 omega
def yhD (K:PySem.W.Frag):R2:=fun x y H Q=>∃ l b xs zs,x = .ref l/\y = .ref b/\SqL K H l xs/\SqL K H b zs/\xs.length+zs.length<=sizeLine/\∀ p,H p=none->Q (.ref p) (upd H p (.lst (xs++zs)))
theorem ziU {X:Cx}:OpR X (binaryOp .Add) (yhD X.K):=by
 intro pins s σ H x y v u Q I rx ry h
 obtain ⟨l,b,xs,zs,rfl,rfl,hH,hB,hz,q⟩:=h
 cases rx
 cases ry
 obtain ⟨its,r,⟨o,n,e1,e2,e3,e4⟩,z⟩:=I.list hH
 obtain ⟨its2,r2,⟨o2,n2,g1,g2,g3,g4⟩,z2⟩:=I.list hB
 obtain ⟨oc,od,oda,osl⟩:=o
 obtain ⟨oc2,od2,oda2,osl2⟩:=o2
 dsimp only at e2 e3 e4 g2 g3 g4
 subst e2 e3 e4 g2 g3 g4
 have l1:=r.length
 have l2:=r2.length
 refine concat_meets ⟨_,e1,rfl⟩ ⟨_,g1,rfl⟩ noFill_list_add seq_list_add PySem.F.slot_list_add PySem.F.entry_list_add (PySem.F.args_list_add_2 _ _) (list_addW l b its.toArray its2.toArray n n2 none none osl osl2 (by rw [List.size_toArray,List.size_toArray];omega)) ⟨e1,g1,?_⟩
 have ea:its.toArray++its2.toArray=(its++its2).toArray:=by simp
 rw [ea]
 exact ⟨.ref s.heap.objs.size,_,I.lnew (t' := s.toks) (r.append r2) (by rw [List.length_append];exact hz),rfl,q _ I.fresh⟩
end L2
namespace L2
open PySem PySem.Spec PyProof.Rows
section
variable {X:Cx} {pins:List (Addr×Obj)} {σ:St} {H:Hp} {s:Shared}
open Classical in
def isD (h:Heap) (d:PyData) (v:Value):Bool:=if q:∃ e as,e.canLay0=true/\Reads h v e as then PyData.eqv q.choose d else false
theorem yfr {h:Heap} {d e:PyData} {v:Value} {as:List Addr} (c:e.canLay0=true) (r:Reads h v e as):isD h d v=PyData.eqv e d:=by
 have q:∃ e as,e.canLay0=true/\Reads h v e as:=⟨e,as,c,r⟩
 unfold isD
 rw [dif_pos q]
 obtain ⟨as',c',r'⟩:=q.choose_spec
 have z:q.choose=e:=by first | exact (Reads.unique _ _ r' r).1 | exact (Reads.unique r' r).1 | exact Reads.unique _ _ _ _ _ c' r' r | exact PySem.SeqAt.Reads.unique _ _ _ _ _ c' r' r | exact PySem.Reads.unique _ _ _ _ _ c' r' r
 rw [z]
theorem zfF (I:Inv X pins σ H s):∀ {xs:List V} {ds:List PyData} {us:List Value},DaVs X.K H xs ds->Vals xs us->us.length=ds.length/\∀ (j:Nat) u d,us[j]? = some u->ds[j]? = some d->∃ as,Reads s.heap u d as
 | _,_,_,.nil,r=>by cases r;exact ⟨rfl,fun j u d e=>by cases e⟩
 | _,_,_,.cons h1 h2,r=>by
  cases r with
  | cons r1 r2 =>
   obtain ⟨l,q⟩:=zfF I h2 r2
   refine ⟨by rw [List.length_cons,List.length_cons,l],fun j u d e1 e2=>?_⟩
   cases j with
   | zero=>cases e1;cases e2;exact h1.reads I r1
   | succ j=>exact q j u d e1 e2
theorem zfG {h:Heap} {d:PyData}:∀ {us:List Value} {ds:List PyData},us.length=ds.length->(∀ (j:Nat) u e,us[j]? = some u->ds[j]? = some e->isD h d u=PyData.eqv e d)->us.any (isD h d)=ds.any fun e=>PyData.eqv e d
 | [],[],_,_=>rfl
 | u::us,e::ds,hl,hh=>by
  rw [List.any_cons,List.any_cons,hh 0 u e rfl rfl,zfG (us:=us) (ds:=ds) (Nat.succ.inj hl) fun j u' e' a b=>hh (j+1) u' e' a b]
end
theorem zfH:∀ {xs:List Str} {us:List Value},Vals (xs.map V.str) us->∃ l:List (Str×Tok),us=strValues l/\l.map (·.1)=xs
 | [],_,r=>by cases r;exact ⟨[],rfl,rfl⟩
 | x::xs,_,r=>by
  cases r with
  | cons r1 r2 =>
   obtain ⟨t,rfl⟩:=r1
   obtain ⟨l,e1,e2⟩:=zfH r2
   exact ⟨(x,t)::l,by rw [e1];rfl,by rw [List.map_cons,e2]⟩
theorem zgs:∀ (xs:List Str),(Builtin.Str.glued Str.empty xs).cps.toList=(xs.map fun x=>x.cps.toList).flatten:=by
 have all:∀ (xs:List Str) (acc:Array Nat),(xs.foldl (fun acc p=>acc++Str.empty.cps++p.cps) acc).toList=acc.toList++(xs.map fun x=>x.cps.toList).flatten:=by
  intro xs
  induction xs with
  | nil=>intro acc;simp
  | cons x r ih =>
   intro acc
   rw [List.foldl_cons,ih]
   have e:(Str.empty.cps) = #[]:=rfl
   simp [e]
 intro xs
 unfold Builtin.Str.glued
 cases xs with
 | nil=>rfl
 | cons x r=>simp only [List.drop_succ_cons,List.drop_zero,List.headD_cons];rw [all];simp
theorem zde:∀ (xs:List Str) (a:Nat),xs.foldl (fun n x=>n+x.length+Str.empty.length) a=a+((xs.map fun x=>x.cps.toList).flatten).length
 | [],a=>by simp
 | x::r,a=>by
  rw [List.foldl_cons,zde r]
  have e1:Str.empty.length=0:=rfl
  have e2:x.length=x.cps.toList.length:=by simp [Str.length]
  rw [e1,e2,List.map_cons,List.flatten_cons,List.length_append]
  omega
def yhE (K:PySem.W.Frag):V->List V->Hp->VK->Prop:=fun x vs H Q=>∃ (l:Addr) (xs:List Str),x = .str Str.empty/\vs=[.ref l]/\SqL K H l (xs.map V.str)/\((xs.map fun x:Str=>x.cps.toList).flatten).length<=1000000/\∀ r:Str,r.cps.toList=(xs.map fun x:Str=>x.cps.toList).flatten->Q (.str r) H
theorem ziV {X:Cx}:MtR X "str.join" (yhE X.K):=by
 intro pins s σ H x vs v us Q I rx rv h
 obtain ⟨l,xs,rfl,rfl,hq,hz,q⟩:=h
 obtain ⟨t,rfl⟩:=rx
 obtain ⟨u,rfl,ru⟩:=ydy rv
 cases ru
 obtain ⟨its,r,pl,_⟩:=I.list hq
 obtain ⟨ll,rfl,e2⟩:=zfH r
 have hok:JoinOk Str.empty xs=true:=by
  unfold JoinOk
  rw [Bool.not_eq_true']
  first
   | (rw [List.foldl_toArray,zde,Nat.zero_add];unfold Builtin.Str.tooLong;exact decide_eq_false (Nat.not_lt.mpr (Nat.le_trans hz (by decide))))
   | (unfold joinFit;rw [List.foldl_toArray,zde,Nat.zero_add];unfold Builtin.Str.tooLong;exact decide_eq_false (Nat.not_lt.mpr (Nat.le_trans hz (by decide))))
 exact SC.join pl.isList e2 hok fun t' k=>⟨.str _,H,I.tok _,⟨_,rfl⟩,q _ (zgs xs)⟩
end L2
namespace L2
open PySem PySem.Spec PyProof.Rows
section
variable {X:Cx} {tg:Expr}
theorem zc0 (ns:List Int):∀ k,k<=ns.length->preSum (fun i=>(ns[i]?).getD 0) k=(ns.take k).sum
 | 0,_=>by simp [preSum]
 | k+1,h=>by
  show preSum _ k+(ns[k]?).getD 0=_
  rw [zc0 ns k (by omega),List.take_succ,List.sum_append]
  congr 1
  rw [List.getElem?_eq_getElem (by omega)]
  simp
theorem zh3 (hc:X.calm=true):CallR X (.builtin "sum") (fun xs H Q=>∃ (a:Addr) (ns:List Int),xs=[.ref a]/\SqL X.K H a (ns.map V.int)/\Q (.int ns.sum) H):=by
 intro pins s σ H xs us Q I r h
 obtain ⟨l,bs,rfl,hq,q⟩:=h
 obtain ⟨u,rfl,rx⟩:=ydy r
 cases rx
 obtain ⟨its,rv,pl,hz⟩:=I.list hq
 have hlt:l<s.heap.objs.size:=by obtain ⟨_,_,e,_⟩:=pl;exact Heap.lt_size e
 have hlen:its.length=bs.length:=by rw [<- rv.length,List.length_map]
 refine call_sum_walkAnyS (wpAny_pyIter_list pl.isList ?_)
 refine ⟨s.heap.objs.size,[s.heap.objs.size,l],[s.heap.objs.size],_,its.toArray.size,_,_,fun i=>(bs[i]?).getD 0,rfl,(Walks.list (prog:=X.prog) (w:=X.w) (A:=X.A.in1) (I.ok.hd hc) s.heap.objs.size l (Nat.ne_of_lt hlt) its.toArray).toS,
  ⟨⟨_,Heap.get?_push_size _ rfl,rfl,rfl⟩,pl.isList.push _⟩,fun b hb=>?_,fun i v hP=>?_,fun s' t' hm=>?_⟩
 ·rcases List.mem_cons.mp hb with rfl | hb
  ·exact Heap.lt_size (Heap.get?_push_size _ rfl)
  ·obtain rfl:=List.mem_singleton.mp hb
   obtain ⟨_,_,e,_⟩:=pl
   exact Heap.lt_size (Heap.get?_push_of_some _ e)
 ·have hP':its[i]? = some v:=by simpa using hP
  have hi:i<its.length:=(List.getElem?_eq_some_iff.mp hP').1
  have hb:(bs.map V.int)[i]? = some (V.int (bs[i]'(by omega))):=by rw [List.getElem?_map,List.getElem?_eq_getElem (by omega)];rfl
  obtain ⟨u,hu,ru⟩:=rv.get hb
  rw [hP'] at hu
  cases hu
  obtain ⟨t,rfl⟩:=ru
  refine ⟨t,?_⟩
  show Value.int _ t=Value.int ((bs[i]?).getD 0) t
  rw [List.getElem?_eq_getElem (by omega)];rfl
 ·obtain ⟨h',g',d',tk',os'⟩:=s'
  have e1:g'=s.gens:=hm.gens
  have e2:d'=s.drawn:=hm.drawn
  have e3:os'=s.os:=hm.os
  subst e1 e2 e3
  have e:preSum (fun i=>(bs[i]?).getD 0) its.toArray.size=bs.sum:=by
   rw [List.size_toArray,hlen,zc0 bs _ (Nat.le_refl _),List.take_of_length_le (Nat.le_refl _)]
  rw [e]
  refine ⟨.int _,H,I.kept (t' := tk') fun b o q=>?_,⟨_,rfl⟩,q⟩
  exact hm.heap b o (fun hb=>by rw [List.mem_singleton.mp hb] at q;exact Nat.lt_irrefl _ (Heap.lt_size q)) (Heap.get?_push_of_some _ q)
def Itr3 (lo c:Int) (n:Nat):It:=⟨fun i _=>i<n,fun i H x H' => H'=H/\x = .int (lo+i*c),fun i _=>n<=i⟩
theorem zff {P:Program} {w:World} {K:PySem.W.Frag} {tg:Expr} (it:Addr) (lo c:Int) (n:Nat):Turn P w K tg (Itr3 lo c n) [it] it (fun i h=>IsRangeIter h it (lo+(i:Nat)*c) ((n:Int)-(i:Nat)) c) where
 mem:=by simp
 obj:=fun i h st b hb=>by
  have e:b=it:=by simpa using hb
  subst e
  exact ⟨_,st,fun v z=>by
   have z':Data.fields _=Data.cell v:=z
   cases z'⟩
 keep:=fun i h h' st k=>k it (by simp) _ st
 item:=by
  intro X hP hw hK hc i pins s σ H E I hf st hg
  subst hP hw hK
  obtain ⟨f0,f1,f2,f3,f4,f5⟩:=hf it (by simp)
  have W:=Walks.range (prog:=X.prog) (w:=X.w) (I.ok.hd hc) it lo c n
  refine W.item i s _ _ hg st fun v h' tk hv st' kk=>?_
  obtain ⟨t,rfl⟩:=hv
  have I1:Inv X pins σ H { s with heap:=h',toks:=tk }:=I.turned (fun b o hb e=>kk b o (by simpa using hb) e) f0 f1 f3 f4 f5
  exact ⟨_,rfl,yeF (s:={ s with heap:=h',toks:=tk }) (n := "range_iterator") st' rfl rfl (by decide) ⟨.int (lo+i*c),H,I1,⟨t,rfl⟩,⟨rfl,rfl⟩,st',fun b hb=>(hf b hb).1⟩⟩
 done:=by
  intro X hP hw hK hc i pins s σ H E I hf st hg
  subst hP hw hK
  obtain ⟨f0,f1,f2,f3,f4,f5⟩:=hf it (by simp)
  exact wpAny_pyNext_range_end (I.ok.hd hc) st (by have:n<=i:=hg;omega) fun h' eb=>⟨rfl,I.turned (t' := s.toks) (fun b o hb e=>eb b o hb e) f0 f1 f3 f4 f5⟩
 self:=fun _ _ _ _ _ st h=>wpAny_pyIter_rangeiter st h
theorem zg5 {a b c:Int} (hc:0<c):Builtin.Range.rangeSize a b c=(((if a<b then (b-a-1) / c+1 else 0:Int).toNat:Nat):Int):=by
 unfold Builtin.Range.rangeSize
 rw [if_pos hc]
 split
 ·have:0<=(b-a-1) / c:=Int.ediv_nonneg (by omega) (by omega)
  omega
 ·rfl
theorem zbY {x:Int} (h:x.natAbs<2 ^ 42):Builtin.Range.rangeFitsLong x=true:=by
 have h2:x.natAbs<4398046511104:=h
 simp only [Builtin.Range.rangeFitsLong,Bool.and_eq_true,decide_eq_true_eq]
 omega
theorem zg6 {a b c:Int} (ha:a.natAbs<2 ^ 40) (hb:b.natAbs<2 ^ 40) (hc:0<c):(Builtin.Range.rangeSize a b c).natAbs<2 ^ 42:=by
 have ha2:a.natAbs<1099511627776:=ha
 have hb2:b.natAbs<1099511627776:=hb
 show _<4398046511104
 unfold Builtin.Range.rangeSize
 rw [if_pos hc]
 split
 ·have h1:0<=(b-a-1) / c:=Int.ediv_nonneg (by omega) (by omega)
  have h2:(b-a-1) / c<=b-a-1:=Int.ediv_le_self _ (by omega)
  generalize (b-a-1) / c=d at *
  omega
 ·decide
theorem zgt {a b c:Int} (ha:a.natAbs<2 ^ 40) (hb:b.natAbs<2 ^ 40) (hc:0<c) (hc':c<2 ^ 20):Builtin.Range.small a b c=true:=by
 have l:(2:Nat) ^ 40<2 ^ 42:=by decide
 unfold Builtin.Range.small
 rw [zbY (Nat.lt_trans ha l),zbY (Nat.lt_trans hb l),zbY (x:=c) (by have h2:c<1048576:=hc';show _<4398046511104;omega),zbY (zg6 ha hb hc),if_pos hc,zbY (x:=b+(c-1)) (by have h2:c<1048576:=hc';have h3:b.natAbs<1099511627776:=hb;show _<4398046511104;omega)]
 simp
def yhF (ta:TA):TI:=fun σ H R=>ta σ H fun vs H1=>∃ i j c:Int,vs=[.int i,.int j,.int c]/\(i.natAbs<2 ^ 40/\j.natAbs<2 ^ 40/\0<c/\c<2 ^ 20)/\R (Itr3 i c (if i<j then (j-i-1) / c+1 else 0:Int).toNat) H1
theorem zg7 {pins:List (Addr×Obj)} {σ:St} {H:Hp} {s:Shared} {R:It->Hp->Prop} {E:Value->Shared->Prop} {lo hi c:Int} {t u v:Tok} {tk:Nat} (I:Inv X pins σ H s) (h1:lo.natAbs<2 ^ 40) (h2:hi.natAbs<2 ^ 40) (h3:0<c) (h4:c<2 ^ 20)
  (q:R (Itr3 lo c (if lo<hi then (hi-lo-1) / c+1 else 0:Int).toNat) H):wpAny (model X.prog X.w) X.A (pyIter (.ref s.heap.objs.size)) (PIE X pins σ tg R) E { s with heap:=s.heap.push { cls:=.type "range",data:=.fields #[.int lo t,.int hi u,.int c v] },toks:=tk }:=by
 refine wpAny_pyIter_range (IsRange.new ..) (zgt h1 h2 h3 h4) ?_
 have I1:Inv X pins σ H { s with heap:=s.heap.push { cls:=.type "range",data:=.fields #[.int lo t,.int hi u,.int c v] },toks:=tk }:=I.kept fun b o e=>Heap.get?_push_of_some _ e
 refine ⟨(s.heap.push { cls:=.type "range",data:=.fields #[.int lo t,.int hi u,.int c v] }).objs.size,[(s.heap.push { cls:=.type "range",data:=.fields #[.int lo t,.int hi u,.int c v] }).objs.size],_,_,H,rfl,
  I1.kept (t' := tk) fun b o e=>Heap.get?_push_of_some _ e,zff _ lo c (if lo<hi then (hi-lo-1) / c+1 else 0:Int).toNat,?_,fun b hb=>?_,q⟩
 ·have e1:lo+((0:Nat):Int)*c=lo:=by simp
  have e2:(((if lo<hi then (hi-lo-1) / c+1 else 0:Int).toNat:Nat):Int)-((0:Nat):Int)=Builtin.Range.rangeSize lo hi c:=by rw [zg5 h3];omega
  show IsRangeIter _ _ (lo+((0:Nat):Int)*c) ((((if lo<hi then (hi-lo-1) / c+1 else 0:Int).toNat:Nat):Int)-((0:Nat):Int)) c
  rw [e1,e2]
  exact Heap.get?_push_size _ rfl
 ·have e:b=(s.heap.push { cls:=.type "range",data:=.fields #[.int lo t,.int hi u,.int c v] }).objs.size:=by simpa using hb
  subst e
  exact I1.fpOk (Nat.le_refl _) (I1.hok.fresh (Nat.le_refl _))
theorem zg8 {a b c:Expr} {ta:TA} {p pos:Pos} (hg:Gl X "range") (hm:X.mg "range" = none) (ha:PA X [a,b,c] ta) (hs:starEach [a,b,c] X.env=[(false,eval a X.env),(false,eval b X.env),(false,eval c X.env)]:=by rfl) (hs2:starEach [b,c] X.env=[(false,eval b X.env),(false,eval c X.env)]:=by rfl) :
  PI X tg (.Call (.Name "range" p) [a,b,c] [] pos) (yhF ta):=by
 intro pins s σ H R I h
 refine Call_ (ydX I hg hm boot_range (PyProof.Rows.callWith_type1 (thn (ha pos pins s σ H _ I h) fun us s1 ⟨vs,H1,I1,r1,q1⟩=>?_) (by rw [hs,hs2]) (by rw [hs2];rfl)))
 obtain ⟨i,j,c,e,⟨q1,q2,q3,q4⟩,q⟩:=q1
 subst e
 cases r1 with
 | cons r rr =>
  cases rr with
  | cons r' rr =>
   cases rr with
   | cons r'' rr =>
    cases rr
    obtain ⟨t,rfl⟩:=r
    obtain ⟨t',rfl⟩:=r'
    obtain ⟨t'',rfl⟩:=r''
    exact call_range_3 (by omega) (zg7 I1 q1 q2 q3 q4 q) (.inl (PyProof.noPylong_small (by omega)))
end
end L2
namespace L2
open PySem PySem.Spec PyProof.Rows
open PySem.Builtin PySem.Builtin.Str
section
variable {X:Cx}
def cutS (z:Str) (lo hi:Option Int):Str:=⟨((z.cps.toList.drop (HT.sIx z.cps.toList.length 0 lo)).take (HT.sIx z.cps.toList.length z.cps.toList.length hi-HT.sIx z.cps.toList.length 0 lo)).toArray⟩
theorem zbL (n d:Nat) (i:Int):max 0 (min (if i<0 then i+(n:Int) else i) (n:Int))=((HT.sIx n d (some i):Nat):Int):=by
 show max 0 (min (if i<0 then i+(n:Int) else i) (n:Int))=(((if i<0 then (i+(n:Int)).toNat else min i.toNat n):Nat):Int)
 split<;>omega
theorem zb4 {a b:Int} {A B:Nat} (ha:a=A) (hb:b=B):sliceRange a b 1=(List.range (B-A)).map fun k=>A+k:=by
 subst ha hb
 unfold sliceRange
 simp only [show (1:Int) > 0 by decide,if_true]
 have:(if (A:Int)<(B:Int) then ((B:Int)-A+1-1) / 1 else 0).toNat=B-A:=by
  split<;>(try simp only [Int.ediv_one])<;>omega
 rw [this]
 apply List.map_congr_left
 intro k _
 omega
theorem zh4 (xs:List Nat) (i k:Nat):(List.range k).filterMap (fun m=>xs[i+m]?)=(xs.drop i).take k:=by
 induction k generalizing i with
 | zero=>simp
 | succ k ih =>
  rw [List.range_succ_eq_map,List.filterMap_cons,List.filterMap_map]
  have e:((fun m=>xs[i+m]?) ∘ Nat.succ)=fun m=>xs[(i+1)+m]? := by
   funext m;show xs[i+(m+1)]? = _;congr 1;omega
  rw [e,ih (i+1)]
  cases h:xs[i]? with
  | none =>
   have hl:xs.length<=i:=List.getElem?_eq_none_iff.mp h
   simp only [Nat.add_zero,h]
   rw [List.drop_of_length_le (by omega),List.drop_of_length_le hl];simp
  | some v =>
   have hi:=(List.getElem?_eq_some_iff.mp h).1
   simp only [Nat.add_zero,h]
   rw [List.drop_eq_getElem_cons hi,List.take_succ_cons]
   congr 1
   exact (Option.some.inj ((List.getElem?_eq_getElem hi).symm.trans h)).symm
theorem zgu (n:Nat) (lo hi:Option Int):strSliceIndices lo hi 1 n=(List.range (HT.sIx n n hi-HT.sIx n 0 lo)).map fun k=>HT.sIx n 0 lo+k:=by
 cases lo with
 | none =>
  cases hi with
  | none=>exact zb4 rfl rfl
  | some j=>exact zb4 rfl (zbL n n j)
 | some i =>
  cases hi with
  | none=>exact zb4 (zbL n 0 i) rfl
  | some j=>exact zb4 (zbL n 0 i) (zbL n n j)
theorem zh5 (z:Str) (lo hi:Option Int):Txt.slice z lo hi=cutS z lo hi:=by
 have hz:z.length=z.cps.toList.length:=by simp [Str.length]
 unfold Txt.slice cutS
 rw [hz,zgu,List.filterMap_map]
 have e:((fun x=>z.cps[x]?) ∘ fun k=>HT.sIx z.cps.toList.length 0 lo+k)=fun m=>z.cps.toList[HT.sIx z.cps.toList.length 0 lo+m]? := by
  funext m;simp
 rw [e,zh4]
 split
 ·rename_i hc
  simp only [beq_self_eq_true,Bool.true_and,beq_iff_eq,List.length_map,List.length_range] at hc
  have h1:HT.sIx z.cps.toList.length z.cps.toList.length hi<=z.cps.toList.length:=HT.sIx_le _ _ (Nat.le_refl _) _
  have h2:HT.sIx z.cps.toList.length 0 lo=0\/z.cps.toList.length=0:=by omega
  rw [hc]
  rcases h2 with h2 | h2
  ·rw [h2,List.drop_zero,List.take_of_length_le (Nat.le_refl _)]
  ·have:z.cps.toList=[]:=List.eq_nil_of_length_eq_zero h2
   have h3:z.cps = #[]:=by simpa using this
   simp [h3]
   cases z;simp_all
 ·rfl
theorem zdz {v:Value} {o:Option Int} (p:IsPart v o):∃ l:Option (Int×Tok),v=partValue l/\l.map (·.1)=o:=by
 cases p with
 | none=>exact ⟨none,rfl,rfl⟩
 | int i t=>exact ⟨some (i,t),rfl,rfl⟩
theorem ygL:SlR X (fun x lo hi H Q=>∃ z,x = .str z/\z.length<=sizeLine/\Q (.str (cutS z lo hi)) H):=by
 intro pins s σ H x v vl vu lo hi sl Q I rx hs pl pu h
 obtain ⟨z,rfl,hz,q⟩:=h
 obtain ⟨t,rfl⟩:=rx
 obtain ⟨l,rfl,rfl⟩:=zdz pl
 obtain ⟨u,rfl,rfl⟩:=zdz pu
 refine ⟨"str",_,F.slot_str_getitem.lookup,typeIs_str _ _ _,?_⟩
 refine wpAny_getItem_str_slice (l:=l) (u:=u) (st:=none) hs rfl ?_
 refine post_val_or_str ⟨Nat.le_trans (Txt.slice_le z (l.map (·.1)) (u.map (·.1))) hz,fun t' k=>?_⟩
 have e:=zh5 z (l.map (·.1)) (u.map (·.1))
 refine ⟨.str (cutS z (l.map (·.1)) (u.map (·.1))),H,I.tok _,⟨t',?_⟩,q⟩
 rw [<- e];rfl
theorem zeL:MtR X "str.find" (fun x vs H Q=>∃ z y i,x = .str z/\vs=[.str y,.int i]/\Q (.int (match occurrences z y (fromIndex z.length i) z.length 1 with | k::_=>(k:Int) | []=>-1)) H):=by
 intro pins s σ H x vs v us Q I rx rv h
 obtain ⟨z,y,i,rfl,rfl,q⟩:=h
 obtain ⟨t,rfl⟩:=rx
 cases rv with
 | cons r1 r2 =>
  cases r2 with
  | cons r3 r4 =>
   cases r4
   obtain ⟨t1,rfl⟩:=r1
   obtain ⟨t2,rfl⟩:=r3
   exact call_gives F.slot_str_find (typeIs_str s z t) F.entry_str_find (F.args_str_find_3 _ _ _) (gives_str_find_from z y i t t1 t2) ⟨.int _,H,I.tok _,⟨_,rfl⟩,q⟩
def yf8 (r r' r'':R2) (ta tb tc td:TE):TE:=fun σ H Q=>ta σ H fun x H1=>tb σ H1 fun y H2=>r x y H2 fun z H3=>∃ k,z = .bl k /\
 (if k=true then tc σ H3 fun w' H4=>r' y w' H4 fun z2 H5=>∃ k2,z2 = .bl k2/\(if k2=true then td σ H5 fun v' H6=>r'' w' v' H6 Q else Q (.bl false) H5) else Q (.bl false) H3)
theorem zg9 {a b c d:Expr} {ta tb tc td:TE} {pos:Pos} {op op' op'':CmpOp} {r r' r'':R2} (ho:OpR X (compareOp op) r) (ho':OpR X (compareOp op') r') (ho'':OpR X (compareOp op'') r'') (ha:PE X a ta) (hb:PE X b tb) (hc:PE X c tc) (hd:PE X d td)
  (hm:lastMarks [op,op',op''] [b,c,d]=false:=by with_unfolding_all rfl):PT X (.Compare a [op,op',op''] [b,c,d] pos) (ye1 (yf8 r r' r'' ta tb tc td)):=by
 intro pins s σ H Q I h
 refine isTrue_chain (thn (ha pins s σ H _ I h) fun v s1 ⟨x,H1,I1,r1,q1⟩=>test_link (thn (hb pins s1 σ H1 _ I1 q1) fun u s2 ⟨y,H2,I2,r2,q2⟩ =>
  thn (ho pins s2 σ H2 x y v u _ I2 r1 r2 q2) fun d s3 ⟨z,H3,I3,r3,k,e,q3⟩=>?_)) hm
 subst e
 cases r3
 refine wpAny_truthy_bool ?_
 cases k with
 | false =>
  obtain ⟨k',e',q'⟩:=q3
  cases e'
  exact ite_ff ⟨H3,I3,q'⟩
 | true =>
  refine ite_tt (test_link (thn (hc pins s3 σ H3 _ I3 q3) fun w' s4 ⟨z',H4,I4,r4,q4⟩=>thn (ho' pins s4 σ H4 y z' u w' _ I4 r2 r4 q4) fun d' s5 ⟨z2,H5,I5,r5,k2,e2,q5⟩=>?_))
  subst e2
  cases r5
  refine wpAny_truthy_bool ?_
  cases k2 with
  | false =>
   obtain ⟨k',e',q'⟩:=q5
   cases e'
   exact ite_ff ⟨H5,I5,q'⟩
  | true =>
   refine ite_tt (test_last (thn (hd pins s5 σ H5 _ I5 q5) fun w2 s6 ⟨z3,H6,I6,r6,q6⟩=>thn (ho'' pins s6 σ H6 z' z3 w' w2 _ I6 r4 r6 q6) fun d2 s7 ⟨z4,H7,I7,r7,k3,e3,q7⟩=>?_))
   subst e3
   cases r7
   exact wpAny_truthy_bool ⟨H7,I7,q7⟩
def repS (z:Str) (n:Nat):Str:=⟨((List.replicate n z.cps.toList).flatten).toArray⟩
end
end L2
namespace L2
open PySem PySem.Spec PyProof.Rows
def ya4 (X:Cx) (pins:List (Addr×Obj)) (x₁ x₂:Str) (jf:List (Nat×Str)) (scope:Scope) (cl:List (Str×Addr)) (s:Shared) (H:Hp) (fp:List Addr):Cx where
 prog:=X.prog
 w:=X.w
 K:=X.K
 mg:=X.mg
 base:=X.base
 A:=X.A
 N:=x₁::x₂::jf.map (·.2)
 s₀:=s
 H₀:=H
 env:=compEnvC scope cl s.heap.objs.size X.env
 outer:=X.stack
 stack:=X.stack
 ex:=fp
 fn:=fun _=>false
 calm:=X.calm
 pn:=X.pn++pins
 xe:=fun _ _=>False
def ybj (v v2:Option V) (js:List (Nat×Str)) (σ:St):St:=v::v2::js.map fun j=>(σ[j.1]?).join
def yeo (K:PySem.W.Frag) (jf:List (Nat×Str)) (wi:TI) (tc:TT) (te:TE):TE:=fun σ H Q=>wi σ H fun J H1=>∀ D,H1 D=none->∃ W:Nat->Nat->List V->Hp->Prop,(∃ m,W 0 m [] (upd H1 D (.lst []))) /\
 ∀ i m ys H2,W i m ys H2->H2 D=some (.lst ys)/\((J.stop i H2/\Q (.ref D) H2)\/(J.go i H2/\ys.length<sizeLine/\∀ x H3,J.yld i H2 x H3->∃ a u v,x = .ref a/\SqT K H3 a [u,v]/\tc (ybj (some u) (some v) jf σ) H3 fun b H5 =>
  if b=true then te (ybj (some u) (some v) jf σ) H5 fun w H6=>H6 D=some (.lst ys)/\∃ m',m'<m/\W (i+1) m' (ys++[w]) (upd H6 D (.lst (ys++[w]))) else ∃ m',m'<m/\W (i+1) m' ys H5))
section
variable {X:Cx} {pins:List (Addr×Obj)} {σ:St} {H:Hp} {s:Shared} {x₁ x₂:Str} {jf:List (Nat×Str)} {scope:Scope} {fp:List Addr}
theorem Inv.block2 {h1:Heap} {tk:Nat} (I:Inv X pins σ H s) (hf:∀ b∈fp,FpOk X pins H b) (hlt:∀ b∈fp,b<s.heap.objs.size) (hjf:∀ p∈jf,X.N[p.1]? = some p.2) (hjl:∀ p∈jf,scope.names.lookup p.2=some .free) (hkind:scope.kind = .function)
  (hcell:∀ y∈scope.names,y.2 ≠ .cell) (hfr:∀ y∈scope.names,y.2 = .free->X.env.kindOf y.1=some .cell\/X.env.kindOf y.1=some .free)
  (hn:h1.Ns s.heap.objs.size (fun _=>none)) (hk:∀ b o,s.heap.get? b=some o->h1.get? b=some o) :
  Inv (ya4 X pins x₁ x₂ jf scope (yay X.env scope.names []) s H fp) [] (ybj none none jf σ) H { s with heap:=h1,toks:=tk }:=by
 have hsome:∀ y∈scope.names,y.2 = .free->(X.env.cells.lookup y.1).isSome=true:=fun y hy hyf=>Option.isSome_iff_exists.mpr (I.ok.has y.1 (hfr y hy hyf))
 have sub:∀ y c,(yay X.env scope.names []).lookup y=some c->X.env.cells.lookup y=some c:=zbB hsome (fun y c e=>by simp at e)
 have hsz:=I.sz
 have inE:∀ b,b∈(ya4 X pins x₁ x₂ jf scope (yay X.env scope.names []) s H fp).ex->b∈fp:=fun b z=>z
 have stk:∀ b∈frs X.stack,b<s.heap.objs.size:=fun b hb=>by
  obtain ⟨_,o,ho,_⟩:=I.stack.mem hb
  exact Heap.lt_size ho
 refine ⟨⟨I.ok.mod,hkind,I.ok.glob,I.ok.blt,Nat.le_refl _,fun y z c e1 e2=>I.ok.inj y z c (sub y c e1) (sub z c e2),fun y hy=>?_,fun y c hfn _=>(by cases hfn),I.ok.hd,I.ok.frames,.inl rfl,fun b hb=>?_,fun b o e=>I.bs b o e,Nat.le_trans I.ok.bsz hsz,fun b o e z=>?_,fun b hb z=>?_,I.stack,I.stkFree⟩,
  rfl,I.bare,Un.kept hk,⟨_,hn,fun i y v e1 e2 e3=>?_⟩,fun y c e=>?_,I.hok.fresh (Nat.le_refl _),fun y c e=>I.freeC y c (sub y c e),fun p hp=>?_,I.hok.kept hk,?_⟩
 ·have hy':(relabel scope X.env).names.lookup y=some .cell\/(relabel scope X.env).names.lookup y=some .free:=hy
  have mem:(y,NameKind.free)∈scope.names:=by
   rcases hy' with q | q
   ·rcases zaE (env:=X.env) q with z | z
    ·exact absurd rfl (hcell _ (zan z))
    ·exact zan z.2
   ·rcases zaE (env:=X.env) q with z | z
    ·exact zan z
    ·exact zan z.2
  exact Option.isSome_iff_exists.mp (zbC (.inl mem))
 ·exact ⟨Nat.ne_of_lt (hlt b hb),fun y c e=>(hf b hb).2.2.2.2.1 y c (sub y c e)⟩
 ·rcases (hf b z).2.2.2.1 with q | q
  ·exact I.ok.noex b o e q
  ·exact absurd (Nat.lt_of_lt_of_le (Heap.lt_size e) (Nat.le_trans I.ok.bsz q)) (Nat.lt_irrefl _)
 ·rcases List.mem_cons.mp (I.stkSub b z) with q | q
  ·exact (hf b hb).2.1 q
  ·exact (hf b hb).2.2.1 q
 ·have e1':(x₁::x₂::jf.map (·.2))[i]? = some y:=e1
  unfold ybj at e2
  cases i with
  | zero=>cases e2
  | succ i=>cases i with
   | zero=>cases e2
   | succ i =>
   rw [List.getElem?_cons_succ,List.getElem?_cons_succ,List.getElem?_map] at e1' e2
   cases q:jf[i]? with
   | none=>rw [q] at e2;cases e2
   | some p =>
    rw [q] at e1' e2
    have ey:p.2=y:=Option.some.inj e1'
    have ev:(σ[p.1]?).join=some v:=Option.some.inj e2
    have hp:p∈jf:=List.mem_of_getElem? q
    have eσ:σ[p.1]? = some (some v):=by
     cases z:σ[p.1]? with
     | none=>rw [z] at ev;cases ev
     | some r=>rw [z] at ev;rw [show r=some v from ev]
    have hfree:scope.names.lookup y=some .free:=by rw [<- ey];exact hjl p hp
    have mem:=zan hfree
    have kX:=hfr _ mem rfl
    obtain ⟨m,hnX,hl⟩:=I.loc
    obtain ⟨u,ru,lk⟩:=hl p.1 y v (by rw [<- ey];exact hjf p hp) eσ (by
     rcases kX with z | z
     ·exact .inr (.inl z)
     ·exact .inr (.inr z))
    refine ⟨u,ru,.inr ⟨?_,?_⟩⟩
    ·have e3':Vis (relabel scope X.env) y:=e3
     rcases e3' with z | z | z
     ·exfalso
      rcases zaE (env:=X.env) z with q | q
      ·rw [hfree] at q;cases q
      ·cases q.1
     ·exact .inl z
     ·exact .inr z
    ·rcases lk with ⟨z,_⟩ | ⟨_,c,hc,hcell'⟩
     ·exfalso
      rcases kX with q | q
      ·rw [show X.env.kindOf y=some .cell from q] at z;cases z
      ·rw [show X.env.kindOf y=some .free from q] at z;cases z
     ·obtain ⟨c',hc'⟩:=Option.isSome_iff_exists.mp (zbC (env:=X.env) (acc:=[]) (.inl mem))
      have e:=sub y c' hc'
      rw [hc] at e
      cases e
      obtain ⟨o,ho,hd⟩:=hcell'
      exact ⟨c,hc',o,hk c o ho,hd⟩
 ·obtain ⟨v,o,ho,hd⟩:=I.cell y c (sub y c e)
  exact ⟨v,o,hk c o ho,hd⟩
 ·have hp':p∈X.pn++pins:=by simpa [ya4] using hp
  obtain ⟨e,n,ne,nf,d⟩:=I.pin p hp'
  refine ⟨hk _ _ e,n,Nat.ne_of_lt (Heap.lt_size e),fun z=>?_,d⟩
  rcases List.mem_cons.mp (I.stkSub p.1 z) with q | q
  ·exact ne q
  ·exact nf q
 ·unfold ybj
  show _=(x₁::x₂::jf.map (·.2)).length
  simp
end
section
variable {X:Cx} {x₁ x₂:Str} {px p1 p2:Pos} {kk:Nat} {jf:List (Nat×Str)} {scope:Scope} {iter elt:Expr} {ifs:List Expr} {pos:Pos} {wi:TI} {tc:TT} {te:TE}
theorem zha (hcalm:X.calm=true) (hi:PI X (.Tuple [.Name x₁ p1,.Name x₂ p2] kk px) iter wi) (hc:∀ pins cl s H fp,PTs (ya4 X pins x₁ x₂ jf scope cl s H fp) ifs tc) (he:∀ pins cl s H fp,PE (ya4 X pins x₁ x₂ jf scope cl s H fp) elt te)
  (hN:(x₁::x₂::jf.map (·.2)).Nodup) (hx:scope.names.lookup x₁=some .local) (hx2:scope.names.lookup x₂=some .local) (hjf:∀ p∈jf,X.N[p.1]? = some p.2) (hjl:∀ p∈jf,scope.names.lookup p.2=some .free) (hkind:scope.kind = .function)
  (hcell:∀ y∈scope.names,y.2 ≠ .cell) (hfr:∀ y∈scope.names,y.2 = .free->X.env.kindOf y.1=some .cell\/X.env.kindOf y.1=some .free)
  (hnames:∀ y∈scope.names,y.2 = .local->scope.names.lookup y.1=some .local) {use:Option (Value->Sem Unit)} {Qf:Value->Shared->Prop} {cpos:Pos}
  {pins:List (Addr×Obj)} {σ:St} {H:Hp} {s:Shared} {Q:VK} (I:Inv X pins σ H s) (h:yeo X.K jf wi tc te σ H Q)
  (fin:∀ D C s6 H6 m6,Inv X pins σ H6 s6->Q (.ref D) H6->FpOk X pins H6 C->s6.heap.Ns C m6->compPost (model X.prog X.w) X.A X.xe use Qf (.ref D) C (.ok .next) s6) (hs:∀ x,foldedSetIterable iter X.env x=pure x) :
  wpAny (model X.prog X.w) X.A (comprehension (.ListComp elt [⟨.Tuple [.Name x₁ p1,.Name x₂ p2] kk px,iter,ifs,0⟩] scope pos) scope X.env cpos (newList []) false (eval iter X.env) use) Qf X.xe s:=by
 have hsome:∀ y∈scope.names,y.2 = .free->(X.env.cells.lookup y.1).isSome=true:=fun y hy hyf=>Option.isSome_iff_exists.mpr (I.ok.has y.1 (hfr y hy hyf))
 refine wpAny_comprehension_free (use:=use) rfl hs (zdy hsome) hkind hnames (thn (hi pins s σ H _ I h) fun xv s1 h1=>thn h1 fun itv s2 h2=>?_)
 obtain ⟨it,fp,tn,J,H2,e,I2,T,st2,f2,h⟩:=h2
 subst e
 refine wpAny_newObj_type (wpAny_newFunctionEnv hcell (by intro y hy;simp at hy) (fun h₁ hns₁ hsb₁=>?_) hkind)
 have hD0:H2 s2.heap.objs.size=none:=I2.hok.fresh (Nat.le_refl _)
 obtain ⟨W,⟨m0,w0⟩,step⟩:=h s2.heap.objs.size hD0
 dsimp only at hns₁ hsb₁ ⊢
 have I3:Inv X pins σ (upd H2 s2.heap.objs.size (.lst [])) { s2 with heap:=s2.heap.push { cls:=.type "list",dict:=none,data:=.seq ([]:List Value).toArray } } :=
  I2.laid (t' := s2.toks) (fun b u q=>Heap.get?_push_of_some _ q) (Nat.le_refl _) ⟨Nat.zero_le _,[],0,.nil,Heap.get?_push_size _ rfl⟩
 generalize hH3:s2.heap.push { cls:=.type "list",dict:=none,data:=.seq ([]:List Value).toArray }=hp3 at hns₁ hsb₁ I3 ⊢
 have hsz3:hp3.objs.size=s2.heap.objs.size+1:=by rw [<- hH3,Heap.size_push]
 have k23:∀ b o,s2.heap.get? b=some o->hp3.get? b=some o:=fun b o q=>by rw [<- hH3];exact Heap.get?_push_of_some _ q
 have flt:∀ b∈fp,b<s2.heap.objs.size:=fun b hb=>by
  obtain ⟨o,q,_⟩:=T.obj 0 _ st2 b hb
  exact Heap.lt_size q
 have f3:∀ b∈fp,FpOk X pins (upd H2 s2.heap.objs.size (.lst [])) b:=fun b hb=>by
  obtain ⟨g0,g⟩:=f2 b hb
  exact ⟨by rw [yaC (Nat.ne_of_lt (flt b hb))];exact g0,g⟩
 have kC:∀ b o,hp3.get? b=some o->h₁.get? b=some o:=fun b o q=>(hsb₁.2 b (Nat.ne_of_lt (Heap.lt_size q))).trans (Heap.get?_push_of_some _ q)
 have B0:=I3.block2 (x₁:=x₁) (x₂:=x₂) (jf:=jf) (scope:=scope) (fp:=fp) (h1:=h₁) (tk:=s2.toks+([]:List (Str×Value)).length) f3 (fun b hb=>by show b<hp3.objs.size;rw [hsz3];exact Nat.lt_succ_of_lt (flt b hb)) hjf hjl hkind hcell hfr (by simpa using hns₁) kC
 have st4:tn 0 h₁:=T.keep _ _ _ st2 fun b _ o q=>kC b o (k23 b o q)
 have w0' := w0
 have stat:∀ {H':Hp},(∀ b∈fp,H' b=none)->∀ b∈fp,FpOk (ya4 X pins x₁ x₂ jf scope (yay X.env scope.names []) { s2 with heap:=hp3 } (upd H2 s2.heap.objs.size (.lst [])) fp) [] H' b:=fun hn b hb=>by
  obtain ⟨_,g1,g2,g3,g4,g5⟩:=f2 b hb
  refine ⟨hn b hb,Nat.ne_of_lt (by show b<hp3.objs.size;rw [hsz3];exact Nat.lt_succ_of_lt (flt b hb)),fun z=>?_,.inl hb,fun y c q=>g4 y c (zbB hsome (fun y c e=>by simp at e) y c q),fun p hp=>g5 p (by simpa [ya4] using hp)⟩
  rcases List.mem_cons.mp (I2.stkSub b z) with q | q
  ·exact g1 q
  ·exact g2 q
 have loop:codeAny (model X.prog X.w) X.A (.compLoop (.ListComp elt [⟨.Tuple [.Name x₁ p1,.Name x₂ p2] kk px,iter,ifs,0⟩] scope pos) 0 (.ref it) (.ref s2.heap.objs.size) (compEnvC scope (yay X.env scope.names []) hp3.objs.size X.env))
   (compPost (model X.prog X.w) X.A X.xe use Qf (.ref s2.heap.objs.size) hp3.objs.size) { s2 with heap:=h₁,toks:=s2.toks+([]:List (Str×Value)).length }:=by
  refine zct (fun n s' => ∃ i ys H',Inv (ya4 X pins x₁ x₂ jf scope (yay X.env scope.names []) { s2 with heap:=hp3 } (upd H2 s2.heap.objs.size (.lst [])) fp) [] (ybj none none jf σ) H' s'/\tn i s'.heap/\(∀ b∈fp,H' b=none)/\W i n ys H') ?_ m0
   ⟨0,[],_,B0,st4,fun b hb=>(f3 b hb).1,w0⟩
  rintro n s5 ⟨i,ys,H5,I5,st5,fr5,w5⟩
  obtain ⟨hD5,alt⟩:=step i n ys H5 w5
  rcases alt with ⟨stop,q5⟩ | ⟨go,hlen,next⟩
  ·refine wpAny_mono (T.done (ya4 X pins x₁ x₂ jf scope (yay X.env scope.names []) { s2 with heap:=hp3 } (upd H2 s2.heap.objs.size (.lst [])) fp) rfl rfl rfl hcalm i [] s5 _ H5 (fun _ _=>False) I5 (stat fr5) st5 stop) (fun r s6 ⟨hr,I6⟩=>?_) fun _ _ z=>z
   subst hr
   obtain ⟨m6,hn6,_⟩:=id I6.loc
   refine fin _ _ s6 H5 m6 ?_ q5 (I3.fpOk (Nat.le_refl _) I6.free) hn6
   refine I3.call' (ch:=fp) I6.os I6.base I6.hok I6.bare (fun b hb=>?_)
   obtain ⟨_,g1,g2,g3,g4,g5⟩:=f2 b hb
   exact ⟨g3,g1,g4,g5⟩
  ·refine wpAny_mono (T.item (ya4 X pins x₁ x₂ jf scope (yay X.env scope.names []) { s2 with heap:=hp3 } (upd H2 s2.heap.objs.size (.lst [])) fp) rfl rfl rfl hcalm i [] s5 _ H5 (fun _ _=>False) I5 (stat fr5) st5 go) (fun r s6 ⟨u,hr,h6⟩=>?_) fun _ _ z=>z
   subst hr
   refine wpAny_mono h6 (fun _ s7 ⟨x,H7,I7,r7,y7,st7,fr7⟩=>?_) fun _ _ z=>z
   have I7' := I7.pinned (stat fr7) (T.obj _ _ st7)
   have hloc:Loc (ya4 X pins x₁ x₂ jf scope (yay X.env scope.names []) { s2 with heap:=hp3 } (upd H2 s2.heap.objs.size (.lst [])) fp).env.scope x₁:=.inl (lookup_relabel_local hx)
   have hloc2:Loc (ya4 X pins x₁ x₂ jf scope (yay X.env scope.names []) { s2 with heap:=hp3 } (upd H2 s2.heap.objs.size (.lst [])) fp).env.scope x₂:=.inl (lookup_relabel_local hx2)
   obtain ⟨a8,u1,u2,rfl,sq8,q8⟩:=next x H7 y7
   have PGt:PG (ya4 X pins x₁ x₂ jf scope (yay X.env scope.names []) { s2 with heap:=hp3 } (upd H2 s2.heap.objs.size (.lst [])) fp) (.Tuple [.Name x₁ p1,.Name x₂ p2] kk px) (gTup X.K 2 (ye0 (yd5 0) (ye0 (yd5 1) gNil))) :=
    yfh hcalm (zdb (zcJ hN rfl hloc (.inr (lookup_relabel_local hx))) (zdb (zcJ hN rfl hloc2 (.inr (lookup_relabel_local hx2))) zfx))
   refine wpAny_mono (PGt ([]++ybT fp s7.heap) s7 _ H7 (.ref a8) _ (fun σ' H' => σ'=ybj (some u1) (some u2) jf σ/\H7=H') I7' r7 ⟨a8,[u1,u2],rfl,sq8,rfl,u1,[u2],rfl,u2,[],rfl,rfl,rfl,rfl⟩) (fun _ s8 ⟨σ8,H8,I8,e8,e8'⟩=>?_) fun _ _ z=>z
   subst e8 e8'
   have I8':Inv (ya4 X pins x₁ x₂ jf scope (yay X.env scope.names []) { s2 with heap:=hp3 } (upd H2 s2.heap.objs.size (.lst [])) fp) ([]++ybT fp s7.heap) (ybj (some u1) (some u2) jf σ) H7 s8:=I8
   have again:∀ {s9:Shared} {H9:Hp} {zs:List V} {m':Nat},Inv (ya4 X pins x₁ x₂ jf scope (yay X.env scope.names []) { s2 with heap:=hp3 } (upd H2 s2.heap.objs.size (.lst [])) fp) ([]++ybT fp s7.heap) (ybj (some u1) (some u2) jf σ) H9 s9->m'<n->W (i+1) m' zs H9 ->
     ∃ m,m<n/\∃ i ys H',Inv (ya4 X pins x₁ x₂ jf scope (yay X.env scope.names []) { s2 with heap:=hp3 } (upd H2 s2.heap.objs.size (.lst [])) fp) [] (ybj none none jf σ) H' s9/\tn i s9.heap/\(∀ b∈fp,H' b=none)/\W i m ys H' := fun {s9 H9 zs m'} I9 hm w9=>by
    refine ⟨m',hm,i+1,zs,H9,I9.unpinned.weak (by simp [ybj]) (fun j v e=>?_),T.keep _ _ _ st7 fun b hb o e=>(I9.pin (b,o) (List.mem_append_right _ (List.mem_append_right _ (za2 hb e)))).1,fun b hb=>?_,w9⟩
    ·cases j with
     | zero=>simp [ybj] at e
     | succ j=>cases j with
      | zero=>simp [ybj] at e
      | succ j=>simpa [ybj] using e
    ·obtain ⟨o,e,d⟩:=T.obj _ _ st7 b hb
     exact (I9.pin (b,o) (List.mem_append_right _ (List.mem_append_right _ (za2 hb e)))).2.1
   refine wpAny_mono (hc pins _ _ _ fp ([]++ybT fp s7.heap) s8 _ H7 _ I8' q8) (fun ok s9 ⟨H9,I9,q9⟩=>?_) fun _ _ z=>z
   cases ok with
   | false =>
    rw [if_neg Bool.false_ne_true] at q9 ⊢
    obtain ⟨m',hm,w9⟩:=q9
    exact again I9 hm w9
   | true =>
    rw [if_pos rfl] at q9 ⊢
    refine wpAny_mono (he pins _ _ _ fp ([]++ybT fp s7.heap) s9 _ H9 _ I9 q9) (fun y s10 ⟨v,H10,I10,r10,hD10,m',hm,w10⟩=>?_) fun _ _ z=>z
    refine wpAny_mono (zcs (X:=(ya4 X pins x₁ x₂ jf scope (yay X.env scope.names []) { s2 with heap:=hp3 } (upd H2 s2.heap.objs.size (.lst [])) fp)) ([]++ybT fp s7.heap) s10 (ybj (some u1) (some u2) jf σ) H10 (.ref s2.heap.objs.size) [v] (.ref s2.heap.objs.size) [y] (fun _ H' => H'=upd H10 s2.heap.objs.size (.lst (ys++[v]))) I10 rfl (.cons r10 .nil) ⟨_,ys,v,rfl,rfl,hD10,hlen,rfl⟩)
     (fun _ s11 ⟨_,H11,I11,_,e11⟩=>?_) fun _ _ z=>z
    subst e11
    exact again I11 hm w10
 exact codeAny_compStart_list loop (T.self _ 0 _ _ _ st4 loop)
end
section
variable {X:Cx}
end
end L2
namespace Sm
open PySem L2
inductive AV where
 | non | bl (b:Bool) | int (i:Int) | str (x:Str)
 | tup (xs:List AV)
 | fl (xs:List AV)
 | ref (n:Nat)
 | exc (c:Nat)
 deriving Inhabited
inductive AO where
 | lst (xs:List AV)
 | dct (t:Bool) (kvs:List (AV×AV))
 | ins (c:Nat) (fs:List (Option AV))
abbrev AH:=List AO
abbrev En:=List (Option AV)
inductive Out (α:Type) where
 | ok (a:α) (h:AH)
 | ex (c:Nat) (h:AH)
 | bad
@[simp] def Out.bind {α β:Type} (o:Out α) (f:α->AH->Out β):Out β :=
 match o with
 | .ok a h=>f a h
 | .ex c h=>.ex c h
 | .bad=>.bad
inductive OutS where
 | nx (e:En) (h:AH)
 | rt (v:AV) (h:AH)
 | bk (e:En) (h:AH)
 | ct (e:En) (h:AH)
 | ex (c:Nat) (e:En) (h:AH)
 | bad
abbrev SE:=En->AH->Out AV
abbrev SB:=En->AH->Out Bool
abbrev SL:=En->AH->Out (List AV)
abbrev SS:=En->AH->OutS
abbrev Fn:=List AV->AH->Out AV
@[simp] def Out.go {α:Type} (o:Out α) (e:En) (f:α->AH->OutS):OutS :=
 match o with
 | .ok a h=>f a h
 | .ex c h=>.ex c e h
 | .bad=>.bad
structure Tb where
 K:PySem.W.Frag
 cls:Nat->Option Addr
 exc:Nat->Option Addr
 fields:Nat->List Str
 nd:∀ c,(fields c).Nodup
 few:∀ c,(fields c).length<=500
def KL (K:PySem.W.Frag) (a:Addr) (xs:List V):Prop:=∃ (o:Obj) (its:Array Value) (n:Nat),K.lookup a=some o/\o.cls = .type "list" /\ o.dict=none/\o.data = .seq its n/\its.size<=sizeLine/\Vals xs its.toList
structure Ix where
 refs:List Addr
 priv:List Addr
def Ix.all (ι:Ix):List Addr:=ι.refs++ι.priv
mutual
inductive RV (T:Tb) (ι:Ix) (H:Hp):AV->V->Prop
 | non:RV T ι H .non .non
 | bl (b:Bool):RV T ι H (.bl b) (.bl b)
 | int (i:Int):RV T ι H (.int i) (.int i)
 | str {x:Str} (n:x.length<=sizeLine) (o:x.cps.all (· < 0x110000)=true):RV T ι H (.str x) (.str x)
 | tup {xs:List AV} {us:List V} {a:Addr} (n:a∉ι.all) (h:H a=some (.tup us)) (r:RVs T ι H xs us):RV T ι H (.tup xs) (.ref a)
 | fl {xs:List AV} {us:List V} {a:Addr} (n:a∉ι.all) (h:Rd H a (.lst us)) (r:RVs T ι H xs us):RV T ι H (.fl xs) (.ref a)
 | kfl {xs:List AV} {us:List V} {a:Addr} (h:KL T.K a us) (r:RVs T ι H xs us):RV T ι H (.fl xs) (.ref a)
 | ref {k:Nat} {a:Addr} (h:ι.refs[k]? = some a):RV T ι H (.ref k) (.ref a)
 | exc {c:Nat} {C a:Addr} (n:a∉ι.all) (h:T.exc c=some C) (q:H a=some (excO a (.ref C))):RV T ι H (.exc c) (.ref a)
inductive RVs (T:Tb) (ι:Ix) (H:Hp):List AV->List V->Prop
 | nil:RVs T ι H [] []
 | cons {x:AV} {u:V} {xs:List AV} {us:List V} (r:RV T ι H x u) (rs:RVs T ι H xs us):RVs T ι H (x::xs) (u::us)
end
structure Grow (ι:Ix) (H:Hp) (ι':Ix) (H':Hp):Prop where
 pre:∃ n,ι'.refs=ι.refs++n/\∀ a∈n,H a=none
 priv:ι'.priv=ι.priv
 keep:∀ a o,a∉ι.refs->H a=some o->H' a=some o
 live:∀ a∈ι.all,H' a≠none
theorem zeM:∀ {l:List Addr} {i j:Nat} {a:Addr},l.Nodup->l[i]? = some a->l[j]? = some a->i=j
 | [],_,_,_,_,e,_=>by simp at e
 | x::l,0,0,_,_,_,_=>rfl
 | x::l,0,j+1,a,n,e,f=>by
  simp at e f;subst e
  exact absurd (List.mem_of_getElem? f) (List.nodup_cons.mp n).1
 | x::l,i+1,0,a,n,e,f=>by
  simp at e f;subst f
  exact absurd (List.mem_of_getElem? e) (List.nodup_cons.mp n).1
 | x::l,i+1,j+1,a,n,e,f=>by
  simp at e f
  rw [zeM (List.nodup_cons.mp n).2 e f]
theorem Ix.nr {ι:Ix} {a:Addr} (h:a∉ι.all):a∉ι.refs:=fun z=>h (List.mem_append_left _ z)
theorem Ix.np {ι:Ix} {a:Addr} (h:a∉ι.all):a∉ι.priv:=fun z=>h (List.mem_append_right _ z)
theorem Grow.refl {ι:Ix} {H:Hp} (l:∀ a∈ι.all,H a≠none):Grow ι H ι H:=⟨⟨[],by simp,by simp⟩,rfl,fun _ _ _ e=>e,l⟩
theorem Grow.at {ι ι':Ix} {H H':Hp} (g:Grow ι H ι' H') {k:Nat} {a:Addr} (h:ι.refs[k]? = some a):ι'.refs[k]? = some a:=by
 obtain ⟨n,e,_⟩:=g.pre
 rw [e,List.getElem?_append_left (List.getElem?_eq_some_iff.mp h).1]
 exact h
theorem Grow.outR {ι ι':Ix} {H H':Hp} (g:Grow ι H ι' H') {a:Addr} {o:HO} (n:a∉ι.refs) (e:H a=some o):a∉ι'.refs:=fun z=>by
 obtain ⟨m,e',hm⟩:=g.pre
 rw [e'] at z
 rcases List.mem_append.mp z with z | z
 ·exact n z
 ·rw [hm a z] at e;cases e
theorem Grow.out {ι ι':Ix} {H H':Hp} (g:Grow ι H ι' H') {a:Addr} {o:HO} (n:a∉ι.all) (e:H a=some o):a∉ι'.all:=fun z=>by
 rcases List.mem_append.mp z with z | z
 ·exact g.outR (Ix.nr n) e z
 ·rw [g.priv] at z;exact Ix.np n z
theorem Grow.trans {ι ι' ι'':Ix} {H H' H'':Hp} (g:Grow ι H ι' H') (k:Grow ι' H' ι'' H''):Grow ι H ι'' H'' := by
 obtain ⟨n,e1,hn⟩:=g.pre
 obtain ⟨m,e2,hm⟩:=k.pre
 refine ⟨⟨n++m,by rw [e2,e1];simp,fun a ha=>?_⟩,k.priv.trans g.priv,fun a o na e=>k.keep a o (g.outR na e) (g.keep a o na e),fun a ha=>k.live a ?_⟩
 ·rcases List.mem_append.mp ha with z | z
  ·exact hn a z
  ·have q:=hm a z
   by_cases hi:a∈ι.refs
   ·exact absurd q (g.live a (List.mem_append_left _ hi))
   ·cases e:H a with
    | none=>rfl
    | some o=>rw [g.keep a o hi e] at q;cases q
 ·rcases List.mem_append.mp ha with z | z
  ·exact List.mem_append_left _ (by rw [e1];exact List.mem_append_left _ z)
  ·exact List.mem_append_right _ (by rw [g.priv];exact z)
structure Ext (ι:Ix) (H:Hp) (ι':Ix) (H':Hp):Prop where
 at_:∀ {k:Nat} {a:Addr},ι.refs[k]? = some a->ι'.refs[k]? = some a
 keep:∀ a o,a∉ι.all->H a=some o->H' a=some o
 out:∀ a o,a∉ι.all->H a=some o->a∉ι'.all
theorem Grow.ext {ι ι':Ix} {H H':Hp} (g:Grow ι H ι' H'):Ext ι H ι' H' := ⟨g.at,fun a o n e=>g.keep a o (Ix.nr n) e,fun a o n e=>g.out n e⟩
theorem Ext.trans {ι ι' ι'':Ix} {H H' H'':Hp} (g:Ext ι H ι' H') (k:Ext ι' H' ι'' H''):Ext ι H ι'' H'' :=
 ⟨fun e=>k.at_ (g.at_ e),fun a o n e=>k.keep a o (g.out a o n e) (g.keep a o n e),fun a o n e=>k.out a o (g.out a o n e) (g.keep a o n e)⟩
theorem zfI {ι ι':Ix} {H H':Hp} (g:Ext ι H ι' H') {a:Addr} {u:HO} (n:a∉ι.all) (r:Rd H a u):Rd H' a u:=by
 rcases r with r | ⟨o,r⟩
 ·exact .inl (g.keep a _ n r)
 ·exact .inr ⟨o,g.keep a _ n r⟩
theorem ygM {ι ι':Ix} {H H':Hp} (g:Ext ι H ι' H') {a:Addr} {u:HO} (n:a∉ι.all) (r:Rd H a u):a∉ι'.all:=by
 rcases r with r | ⟨o,r⟩
 ·exact g.out _ _ n r
 ·exact g.out _ _ n r
mutual
theorem RV.ext {T:Tb} {ι ι':Ix} {H H':Hp} (g:Ext ι H ι' H'):∀ {x:AV} {u:V},RV T ι H x u->RV T ι' H' x u
 | _,_,.non=>.non
 | _,_,.bl b=>.bl b
 | _,_,.int i=>.int i
 | _,_,.str n o=>.str n o
 | _,_,.tup n h r=>.tup (g.out _ _ n h) (g.keep _ _ n h) (RVs.ext g r)
 | _,_,.fl n h r=>.fl (ygM g n h) (zfI g n h) (RVs.ext g r)
 | _,_,.kfl h r=>.kfl h (RVs.ext g r)
 | _,_,.ref h=>.ref (g.at_ h)
 | _,_,.exc n h q=>.exc (g.out _ _ n q) h (g.keep _ _ n q)
theorem RVs.ext {T:Tb} {ι ι':Ix} {H H':Hp} (g:Ext ι H ι' H'):∀ {xs:List AV} {us:List V},RVs T ι H xs us->RVs T ι' H' xs us
 | _,_,.nil=>.nil
 | _,_,.cons r rs=>.cons (RV.ext g r) (RVs.ext g rs)
end
theorem RV.mono {T:Tb} {ι ι':Ix} {H H':Hp} (g:Grow ι H ι' H') {x:AV} {u:V} (r:RV T ι H x u):RV T ι' H' x u:=r.ext g.ext
theorem RVs.mono {T:Tb} {ι ι':Ix} {H H':Hp} (g:Grow ι H ι' H') {xs:List AV} {us:List V} (r:RVs T ι H xs us):RVs T ι' H' xs us:=r.ext g.ext
section
variable {T:Tb} {ι:Ix} {H:Hp}
theorem RVs.length:∀ {xs:List AV} {us:List V},RVs T ι H xs us->xs.length=us.length
 | _,_,.nil=>rfl
 | _,_,.cons _ rs=>by simp [RVs.length rs]
theorem RVs.get:∀ {xs:List AV} {us:List V} {i:Nat} {x:AV},RVs T ι H xs us->xs[i]? = some x->∃ u,us[i]? = some u/\RV T ι H x u
 | _,_,_,_,.nil,e=>by simp at e
 | _,_,0,_,.cons r _,e=>by simp at e;subst e;exact ⟨_,rfl,r⟩
 | _,_,i+1,x,.cons _ t,e=>by
  obtain ⟨u,h1,h2⟩:=RVs.get (i:=i) (x:=x) t (by simpa using e)
  exact ⟨u,by simpa using h1,h2⟩
theorem RVs.append:∀ {xs ys:List AV} {us ws:List V},RVs T ι H xs us->RVs T ι H ys ws->RVs T ι H (xs++ys) (us++ws)
 | _,_,_,_,.nil,s=>s
 | _,_,_,_,.cons r t,s=>.cons r (RVs.append t s)
theorem RVs.set {x:AV} {u:V} (r:RV T ι H x u):∀ {xs:List AV} {us:List V} (i:Nat),RVs T ι H xs us->RVs T ι H (xs.set i x) (us.set i u)
 | _,_,_,.nil=>.nil
 | _,_,0,.cons _ t=>.cons r t
 | _,_,i+1,.cons q t=>.cons q (RVs.set r i t)
theorem RVs.take:∀ {xs:List AV} {us:List V} (n:Nat),RVs T ι H xs us->RVs T ι H (xs.take n) (us.take n)
 | _,_,0,_=>by simpa using RVs.nil
 | _,_,_+1,.nil=>.nil
 | _,_,n+1,.cons r t=>.cons r (RVs.take n t)
theorem RVs.drop:∀ {xs:List AV} {us:List V} (n:Nat),RVs T ι H xs us->RVs T ι H (xs.drop n) (us.drop n)
 | _,_,0,r=>r
 | _,_,_+1,.nil=>.nil
 | _,_,n+1,.cons _ t=>RVs.drop n t
end
def kA:Key->AV
 | .inl i=>.int i
 | .inr x=>.str x
def OR (T:Tb) (ι:Ix) (H:Hp):AO->HO->Prop
 | .lst xs,o=>∃ us,o = .lst us/\RVs T ι H xs us
 | .dct false kvs,o=>∃ kus:List (Key×V),o = .dK kus/\Paired (fun (p:AV×AV) (q:Key×V)=>p.1=kA q.1/\RV T ι H p.2 q.2) kvs kus
 | .dct true kvs,o=>∃ kus:List (List Key×V),o = .dT kus/\Paired (fun (p:AV×AV) (q:List Key×V)=>p.1 = .tup (q.1.map kA)/\RV T ι H p.2 q.2) kvs kus
 | .ins c fs,o=>∃ C dx fus,T.cls c=some C/\o = .ins C dx fus/\(fus.map (·.1)).Nodup/\(∀ p∈fus,p.1∈T.fields c)/\fs.length=(T.fields c).length /\
   ∀ (i:Nat) (v:AV),fs[i]? = some (some v)->∃ f u,(T.fields c)[i]? = some f/\fus.lookup f=some u/\RV T ι H v u
theorem OR.mono {T:Tb} {ι ι':Ix} {H H':Hp} (g:Grow ι H ι' H') {o:AO} {u:HO} (h:OR T ι H o u):OR T ι' H' o u:=by
 cases o with
 | lst xs=>obtain ⟨us,e,r⟩:=h;exact ⟨us,e,r.mono g⟩
 | dct t kvs =>
  cases t with
  | false=>obtain ⟨us,e,r⟩:=h;exact ⟨us,e,Paired.mapP r fun _ _ ⟨a,b⟩=>⟨a,b.mono g⟩⟩
  | true=>obtain ⟨us,e,r⟩:=h;exact ⟨us,e,Paired.mapP r fun _ _ ⟨a,b⟩=>⟨a,b.mono g⟩⟩
 | ins c fs =>
  obtain ⟨C,dx,fus,a,b,n,w,l,r⟩:=h
  refine ⟨C,dx,fus,a,b,n,w,l,fun i v e=>?_⟩
  obtain ⟨f,u,e1,e2,q⟩:=r i v e
  exact ⟨f,u,e1,e2,q.mono g⟩
structure Sim (T:Tb) (ι:Ix) (h:AH) (H:Hp):Prop where
 len:ι.refs.length=h.length
 nd:ι.refs.Nodup
 plive:∀ a∈ι.priv,H a≠none
 obj:∀ (i:Nat) (o:AO) (a:Addr),h[i]? = some o->ι.refs[i]? = some a->∃ u,H a=some u/\OR T ι H o u
section
variable {T:Tb} {ι:Ix} {h:AH} {H:Hp}
theorem Sim.live (S:Sim T ι h H):∀ a∈ι.all,H a≠none:=fun a ha z=>by
 rcases List.mem_append.mp ha with ha | ha
 ·obtain ⟨i,hi⟩:=List.mem_iff_getElem?.mp ha
  have hl:i<h.length:=by rw [<- S.len];exact (List.getElem?_eq_some_iff.mp hi).1
  obtain ⟨u,e,_⟩:=S.obj i h[i] a (by simp [hl]) hi
  rw [z] at e;cases e
 ·exact S.plive a ha z
theorem Sim.refl (S:Sim T ι h H):Grow ι H ι H:=.refl S.live
theorem Sim.fresh (S:Sim T ι h H) {p:Addr} (n:H p=none):p∉ι.all:=fun z=>S.live p z n
theorem Sim.still (S:Sim T ι h H) {H':Hp} (g:Grow ι H ι H') (k:∀ a∈ι.refs,H' a=H a):Sim T ι h H' :=
 ⟨S.len,S.nd,fun a ha=>g.live a (List.mem_append_right _ ha),fun i o a e1 e2=>by
  obtain ⟨u,e,r⟩:=S.obj i o a e1 e2
  exact ⟨u,by rw [k a (List.mem_of_getElem? e2)];exact e,r.mono g⟩⟩
theorem Sim.growNew (S:Sim T ι h H) {p:Addr} {o:HO} (n:H p=none):Grow ι H ι (upd H p o) :=
 ⟨⟨[],by simp,by simp⟩,rfl,fun a u _ e=>by rw [yaC (zaw e n)];exact e,fun a ha=>by
  rw [yaC (show a≠p from fun z=>S.fresh n (z▸ha))];exact S.live a ha⟩
theorem Sim.new (S:Sim T ι h H) {p:Addr} {o:HO} (n:H p=none):Sim T ι h (upd H p o) :=
 S.still (S.growNew n) fun a ha=>yaC fun z=>S.fresh n (z▸List.mem_append_left _ ha)
def Ix.add (ι:Ix) (p:Addr):Ix:=⟨ι.refs++[p],ι.priv⟩
theorem Sim.growAdd (S:Sim T ι h H) {p:Addr} {u:HO} (n:H p=none):Grow ι H (ι.add p) (upd H p u) :=
 ⟨⟨[p],rfl,fun a ha=>by have e:a=p:=(by simpa using ha);rw [e];exact n⟩,rfl,(S.growNew n).keep,(S.growNew n).live⟩
theorem Sim.add (S:Sim T ι h H) {p:Addr} {u:HO} {o:AO} (n:H p=none) (r:OR T (ι.add p) (upd H p u) o u):Sim T (ι.add p) (h++[o]) (upd H p u):=by
 refine ⟨by simp [Ix.add,S.len],?_,fun a ha=>(S.growNew n).live a (List.mem_append_right _ ha),fun i o' a e1 e2=>?_⟩
 ·show (ι.refs++[p]).Nodup
  rw [List.nodup_append]
  exact ⟨S.nd,by simp,fun a ha b hb z=>by have e:b=p:=(by simpa using hb);subst e;subst z;exact S.fresh n (List.mem_append_left _ ha)⟩
 ·replace e2:(ι.refs++[p])[i]? = some a:=e2
  by_cases hi:i<h.length
  ·rw [List.getElem?_append_left hi] at e1
   rw [List.getElem?_append_left (by rw [S.len];exact hi)] at e2
   obtain ⟨v,e,q⟩:=S.obj i o' a e1 e2
   exact ⟨v,by rw [yaC (zaw e n)];exact e,q.mono (S.growAdd n)⟩
  ·have e3:i=h.length:=by
    have:=(List.getElem?_eq_some_iff.mp e1).1
    simp at this;omega
   subst e3
   rw [List.getElem?_append_right (Nat.le_refl _)] at e1
   rw [List.getElem?_append_right (by rw [S.len];exact Nat.le_refl _),S.len] at e2
   simp at e1 e2
   subst e1 e2
   exact ⟨u,zar,r⟩
theorem Sim.addAt (S:Sim T ι h H) {p:Addr}:(ι.add p).refs[h.length]? = some p:=by
 show (ι.refs++[p])[h.length]? = some p
 rw [<- S.len];simp
theorem Sim.growSet (S:Sim T ι h H) {i:Nat} {a:Addr} {u:HO} (e:ι.refs[i]? = some a):Grow ι H ι (upd H a u) :=
 ⟨⟨[],by simp,by simp⟩,rfl,fun b o nb q=>by rw [yaC (show b≠a from fun z=>nb (by rw [z];exact List.mem_of_getElem? e))];exact q,fun b hb=>by
  by_cases z:b=a
  ·subst z;rw [zar];simp
  ·rw [yaC z];exact S.live b hb⟩
theorem Sim.set (S:Sim T ι h H) {i:Nat} {a:Addr} {u:HO} {o:AO} (e:ι.refs[i]? = some a) (r:OR T ι (upd H a u) o u):Sim T ι (h.set i o) (upd H a u):=by
 refine ⟨by simp [S.len],S.nd,fun b hb=>(S.growSet e).live b (List.mem_append_right _ hb),fun j o' b e1 e2=>?_⟩
 by_cases hj:j=i
 ·subst hj
  rw [e] at e2;cases e2
  have hl:j<h.length:=by rw [<- S.len];exact (List.getElem?_eq_some_iff.mp e).1
  rw [List.getElem?_set_self hl] at e1;cases e1
  exact ⟨u,zar,r⟩
 ·rw [List.getElem?_set_ne (Ne.symm hj)] at e1
  obtain ⟨v,q,r'⟩:=S.obj j o' b e1 e2
  have ne:b≠a:=fun z=>hj (by
   subst z
   exact zeM S.nd e2 e)
  exact ⟨v,by rw [yaC ne];exact q,r'.mono (S.growSet e)⟩
end
def Ix.hide (ι:Ix) (D:Addr):Ix:=⟨ι.refs,D::ι.priv⟩
theorem Ix.hide_all {ι:Ix} {D a:Addr}:a∉(ι.hide D).all ↔ a∉ι.all/\a≠D:=by
 unfold Ix.all Ix.hide
 simp only [List.mem_append,List.mem_cons]
 constructor
 ·intro h;exact ⟨fun z=>h (z.elim .inl fun z=>.inr (.inr z)),fun z=>h (.inr (.inl z))⟩
 ·rintro ⟨h1,h2⟩ (z | z | z)
  ·exact h1 (.inl z)
  ·exact h2 z
  ·exact h1 (.inr z)
section
variable {T:Tb} {ι:Ix} {H:Hp} {D:Addr}
theorem Ext.hide {o:HO} (hn:H D=none):Ext ι H (ι.hide D) (upd H D o):=⟨fun e=>e,fun a u n e=>by rw [yaC (zaw e hn)];exact e,fun a u n e=>Ix.hide_all.mpr ⟨n,zaw e hn⟩⟩
theorem Ext.poke {o:HO}:Ext (ι.hide D) H (ι.hide D) (upd H D o):=⟨fun e=>e,fun a u n e=>by rw [yaC (Ix.hide_all.mp n).2];exact e,fun a u n e=>n⟩
theorem Ext.show:Ext (ι.hide D) H ι H:=⟨fun e=>e,fun a u n e=>e,fun a u n e=>(Ix.hide_all.mp n).1⟩
theorem OR.ext {ι ι':Ix} {H H':Hp} (g:Ext ι H ι' H') {o:AO} {u:HO} (h:OR T ι H o u):OR T ι' H' o u:=by
 cases o with
 | lst xs=>obtain ⟨us,e,r⟩:=h;exact ⟨us,e,r.ext g⟩
 | dct t kvs =>
  cases t with
  | false=>obtain ⟨us,e,r⟩:=h;exact ⟨us,e,Paired.mapP r fun _ _ ⟨a,b⟩=>⟨a,b.ext g⟩⟩
  | true=>obtain ⟨us,e,r⟩:=h;exact ⟨us,e,Paired.mapP r fun _ _ ⟨a,b⟩=>⟨a,b.ext g⟩⟩
 | ins c fs =>
  obtain ⟨C,dx,fus,a,b,n,w,l,r⟩:=h
  refine ⟨C,dx,fus,a,b,n,w,l,fun i v e=>?_⟩
  obtain ⟨f,u,e1,e2,q⟩:=r i v e
  exact ⟨f,u,e1,e2,q.ext g⟩
theorem Sim.hide {h:AH} {o:HO} (S:Sim T ι h H) (hn:H D=none):Sim T (ι.hide D) h (upd H D o) :=
 ⟨S.len,S.nd,fun a ha=>by
  rcases List.mem_cons.mp ha with rfl | ha
  ·rw [zar];simp
  ·rw [yaC (show a≠D from fun z=>S.plive a ha (z▸hn))];exact S.plive a ha,fun i o' a e1 e2=>by
  obtain ⟨u,e,r⟩:=S.obj i o' a e1 e2
  exact ⟨u,by rw [yaC (zaw e hn)];exact e,r.ext (Ext.hide hn)⟩⟩
theorem Sim.poke {h:AH} {o:HO} (S:Sim T (ι.hide D) h H) (hr:D∉ι.refs):Sim T (ι.hide D) h (upd H D o) :=
 ⟨S.len,S.nd,fun a ha=>by
  by_cases z:a=D
  ·subst z;rw [zar];simp
  ·rw [yaC z];exact S.plive a ha,fun i o' a e1 e2=>by
  obtain ⟨u,e,r⟩:=S.obj i o' a e1 e2
  have ne:a≠D:=fun z=>hr (z▸List.mem_of_getElem? e2)
  exact ⟨u,by rw [yaC ne];exact e,r.ext Ext.poke⟩⟩
theorem Sim.show {h:AH} (S:Sim T (ι.hide D) h H):Sim T ι h H :=
 ⟨S.len,S.nd,fun a ha=>S.plive a (List.mem_cons_of_mem _ ha),fun i o' a e1 e2=>by
  obtain ⟨u,e,r⟩:=S.obj i o' a e1 e2
  exact ⟨u,e,r.ext Ext.show⟩⟩
end
def ER (T:Tb) (ι:Ix) (H:Hp) (e:En) (σ:St):Prop:=e.length=σ.length/\∀ (i:Nat) (v:AV),e[i]? = some (some v)->∃ u,σ[i]? = some (some u)/\RV T ι H v u
theorem ER.mono {T:Tb} {ι ι':Ix} {H H':Hp} {e:En} {σ:St} (r:ER T ι H e σ) (g:Grow ι H ι' H'):ER T ι' H' e σ :=
 ⟨r.1,fun i v q=>let ⟨u,a,b⟩:=r.2 i v q;⟨u,a,b.mono g⟩⟩
theorem ER.ext {T:Tb} {ι ι':Ix} {H H':Hp} {e:En} {σ:St} (r:ER T ι H e σ) (g:Ext ι H ι' H'):ER T ι' H' e σ :=
 ⟨r.1,fun i v q=>let ⟨u,a,b⟩:=r.2 i v q;⟨u,a,b.ext g⟩⟩
theorem ER.set {T:Tb} {ι:Ix} {H:Hp} {e:En} {σ:St} (r:ER T ι H e σ) {v:AV} {u:V} (q:RV T ι H v u) (i:Nat):ER T ι H (e.set i (some v)) (σ.set i (some u)):=by
 refine ⟨by simp [r.1],fun j w z=>?_⟩
 by_cases hj:j=i
 ·subst hj
  by_cases hl:j<e.length
  ·rw [List.getElem?_set_self hl] at z;cases z
   exact ⟨u,by rw [List.getElem?_set_self (by rw [<- r.1];exact hl)],q⟩
  ·rw [List.getElem?_eq_none (by simpa using hl)] at z;cases z
 ·rw [List.getElem?_set_ne (Ne.symm hj)] at z ⊢
  exact r.2 j w z
def Post {α β:Type} (T:Tb) (ι:Ix) (H:Hp) (E:XK) (R:Ix->Hp->α->β->Prop) (o:Out α) (Q:β->Hp->Prop):Prop :=
 match o with
 | .ok v h' => ∀ ι' H' u,Grow ι H ι' H'->Sim T ι' h' H'->R ι' H' v u->Q u H'
 | .ex c h' => ∀ ι' H' C,Grow ι H ι' H'->Sim T ι' h' H'->T.exc c=some C->E (.ref C) none H'
 | .bad=>False
def PostS (T:Tb) (ι:Ix) (H:Hp) (E:St->XK) (o:OutS) (D:Ends):Prop :=
 match o with
 | .nx e h' => ∀ ι' H' σ',Grow ι H ι' H'->Sim T ι' h' H'->ER T ι' H' e σ'->D.nx σ' H'
 | .bk e h' => ∀ ι' H' σ',Grow ι H ι' H'->Sim T ι' h' H'->ER T ι' H' e σ'->D.bk σ' H'
 | .ct e h' => ∀ ι' H' σ',Grow ι H ι' H'->Sim T ι' h' H'->ER T ι' H' e σ'->D.ct σ' H'
 | .rt v h' => ∀ ι' H' u,Grow ι H ι' H'->Sim T ι' h' H'->RV T ι' H' v u->D.rt u H'
 | .ex c e h' => ∀ ι' H' σ' C,Grow ι H ι' H'->Sim T ι' h' H'->ER T ι' H' e σ'->T.exc c=some C->E σ' (.ref C) none H'
 | .bad=>False
abbrev REq {α:Type}:Ix->Hp->α->α->Prop:=fun _ _ a b=>a=b
section
variable {T:Tb} {ι ι':Ix} {h:AH} {H H':Hp} {α β γ δ:Type} {E:XK} {R:Ix->Hp->α->β->Prop} {R':Ix->Hp->γ->δ->Prop}
theorem Post.shift {o:Out α} {Q:β->Hp->Prop} (p:Post T ι H E R o Q) (g:Grow ι H ι' H'):Post T ι' H' E R o Q:=by
 cases o with
 | ok v h' => exact fun i2 H2 u g2=>p i2 H2 u (g.trans g2)
 | ex c h' => exact fun i2 H2 C g2=>p i2 H2 C (g.trans g2)
 | bad=>exact p
theorem Post.bind {o:Out α} {f:α->AH->Out γ} {Q:δ->Hp->Prop} {Q1:β->Hp->Prop} (p:Post T ι H E R' (o.bind f) Q)
  (k:∀ v h' ι' H' u,Grow ι H ι' H'->Sim T ι' h' H'->R ι' H' v u->Post T ι' H' E R' (f v h') Q->Q1 u H'):Post T ι H E R o Q1:=by
 cases o with
 | ok v h' => exact fun i2 H2 u g S r=>k v h' i2 H2 u g S r (Post.shift p g)
 | ex c h' => exact p
 | bad=>exact p
theorem Post.now {v:α} {u:β} {Q:β->Hp->Prop} (p:Post T ι H E R (.ok v h) Q) (S:Sim T ι h H) (r:R ι H v u):Q u H:=p ι H u S.refl S r
theorem PostS.shift {E:St->XK} {o:OutS} {D:Ends} (p:PostS T ι H E o D) (g:Grow ι H ι' H'):PostS T ι' H' E o D:=by
 cases o with
 | nx e h' => exact fun i2 H2 u g2=>p i2 H2 u (g.trans g2)
 | bk e h' => exact fun i2 H2 u g2=>p i2 H2 u (g.trans g2)
 | ct e h' => exact fun i2 H2 u g2=>p i2 H2 u (g.trans g2)
 | rt v h' => exact fun i2 H2 u g2=>p i2 H2 u (g.trans g2)
 | ex c e h' => exact fun i2 H2 u C g2=>p i2 H2 u C (g.trans g2)
 | bad=>exact p
theorem PostS.go {E:St->XK} {o:Out α} {en:En} {σ:St} {f:α->AH->OutS} {D:Ends} {Q1:β->Hp->Prop} (p:PostS T ι H E (o.go en f) D) (er:ER T ι H en σ)
  (k:∀ v h' ι' H' u,Grow ι H ι' H'->Sim T ι' h' H'->R ι' H' v u->PostS T ι' H' E (f v h') D->Q1 u H'):Post T ι H (E σ) R o Q1:=by
 cases o with
 | ok v h' => exact fun i2 H2 u g S r=>k v h' i2 H2 u g S r (PostS.shift p g)
 | ex c h' => exact fun i2 H2 C g S e=>p i2 H2 σ C g S (er.mono g) e
 | bad=>exact p
end
def tE (T:Tb) (E:St->XK) (a:SE):TE:=fun σ H Q=>∃ ι h en,Sim T ι h H/\ER T ι H en σ/\Post T ι H (E σ) (RV T) (a en h) Q
def tT (T:Tb) (E:St->XK) (a:SB):TT:=fun σ H Q=>∃ ι h en,Sim T ι h H/\ER T ι H en σ/\Post T ι H (E σ) REq (a en h) Q
def tA (T:Tb) (E:St->XK) (a:SL):TA:=fun σ H Q=>∃ ι h en,Sim T ι h H/\ER T ι H en σ/\Post T ι H (E σ) (RVs T) (a en h) Q
def tS (T:Tb) (E:St->XK) (b:SS):TS:=fun D σ H=>∃ ι h en,Sim T ι h H/\ER T ι H en σ/\PostS T ι H E (b en h) D
abbrev PEA (T:Tb) (E:St->XK) (X:Cx) (e:Expr) (a:SE):Prop:=PE X e (tE T E a)
abbrev PTA (T:Tb) (E:St->XK) (X:Cx) (e:Expr) (a:SB):Prop:=PT X e (tT T E a)
abbrev PWA (T:Tb) (E:St->XK) (X:Cx) (e:Expr) (a:SB):Prop:=PW X e (tT T E a)
abbrev PAA (T:Tb) (E:St->XK) (X:Cx) (es:List Expr) (a:SL):Prop:=PA X es (tA T E a)
abbrev PSA (T:Tb) (E:St->XK) (X:Cx) (st:Stmt) (b:SS):Prop:=PS X st (tS T E b)
abbrev PSsA (T:Tb) (E:St->XK) (X:Cx) (sts:List Stmt) (b:SS):Prop:=PSs X sts (tS T E b)
theorem yaZ {X:Cx} {e:Expr} {t t':TE} (h:PE X e t) (k:∀ σ H Q,t' σ H Q->t σ H Q):PE X e t' := fun pins s σ H Q I q=>h pins s σ H Q I (k σ H Q q)
theorem yea {X:Cx} {e:Expr} {t t':TT} (h:PT X e t) (k:∀ σ H Q,t' σ H Q->t σ H Q):PT X e t' := fun pins s σ H Q I q=>h pins s σ H Q I (k σ H Q q)
theorem ygN {X:Cx} {e:Expr} {t t':TT} (h:PW X e t) (k:∀ σ H Q,t' σ H Q->t σ H Q):PW X e t' := fun w pins s σ H Q I q=>h w pins s σ H Q I (k σ H Q q)
theorem yfs {X:Cx} {e:List Expr} {t t':TA} (h:PA X e t) (k:∀ σ H Q,t' σ H Q->t σ H Q):PA X e t' := fun p pins s σ H Q I q=>h p pins s σ H Q I (k σ H Q q)
theorem ych {X:Cx} {e:Stmt} {t t':TS} (h:PS X e t) (k:∀ D σ H,t' D σ H->t D σ H):PS X e t' := fun pins s σ H D I q=>h pins s σ H D I (k D σ H q)
theorem zfJ {X:Cx} {e:List Stmt} {t t':TS} (h:PSs X e t) (k:∀ D σ H,t' D σ H->t D σ H):PSs X e t' := fun pins s σ H D I q=>h pins s σ H D I (k D σ H q)
theorem yft {X:Cx} {st:Stmt} {t:TS} (h:PS X.nox st t):PS X st t:=fun pins s σ H D I hw=>by
 refine wpAny_mono (h pins s σ H D (I.wish _) hw) (fun f s' q=>SP.unwish q) fun _ _ z=>z.elim
end Sm
namespace Sm
open PySem L2
instance:DecidableEq AV:=fun _ _=>Classical.propDecidable _
@[simp] def sVar (i:Nat):SE:=fun en h=>match en[i]? with
 | some (some v)=>.ok v h
 | _=>.bad
@[simp] def sLit (v:AV):SE:=fun _ h=>.ok v h
abbrev F1:=AV->AH->Out AV
abbrev F2:=AV->AV->AH->Out AV
@[simp] def sOp1 (f:F1) (a:SE):SE:=fun en h=>(a en h).bind f
@[simp] def sOp2 (f:F2) (a b:SE):SE:=fun en h=>(a en h).bind fun x h1=>(b en h1).bind fun y h2=>f x y h2
@[simp] def sNil:SL:=fun _ h=>.ok [] h
@[simp] def yab (a:SE) (r:SL):SL:=fun en h=>(a en h).bind fun x h1=>(r en h1).bind fun xs h2=>.ok (x::xs) h2
@[simp] def yah (F:Fn) (as:SL):SE:=fun en h=>(as en h).bind F
@[simp] def sTup (as:SL):SE:=fun en h=>(as en h).bind fun xs h1=>if xs.length<=1000 then .ok (.tup xs) h1 else .bad
@[simp] def sLst (as:SL):SE:=fun en h=>(as en h).bind fun xs h1=>if xs.length<=1000 then .ok (.fl xs) h1 else .bad
@[simp] def ycQ (as:SL):SE:=fun en h=>(as en h).bind fun xs h1=>if xs.length<=1000 then .ok (.ref h1.length) (h1++[.lst xs]) else .bad
@[simp] def yfR (t:Bool):SE:=fun _ h=>.ok (.ref h.length) (h++[.dct t []])
@[simp] def yh6 (v:AV) (h:AH):Option (List AV):=match v with
 | .tup xs=>some xs
 | .fl xs=>some xs
 | .ref n=>match h[n]? with
  | some (.lst xs)=>some xs
  | _=>none
 | _=>none
@[simp] def ybD (v:AV) (h:AH):Option (List AV):=match v with
 | .fl xs=>some xs
 | .ref n=>match h[n]? with
  | some (.lst xs)=>some xs
  | _=>none
 | _=>none
@[simp] def fAdd:F2:=fun x y h=>match x,y with
 | .int i,.int j=>.ok (.int (i+j)) h
 | .str i,.str j=>if i.length+j.length<=sizeLine then .ok (.str (i++j)) h else .bad
 | .tup xs,.tup ys=>if xs≠[]/\xs.length+ys.length<=sizeLine then .ok (.tup (xs++ys)) h else .bad
 | x,y=>match ybD x h,ybD y h with
  | some xs,some ys=>if xs.length+ys.length<=sizeLine then .ok (.fl (xs++ys)) h else .bad
  | _,_=>.bad
@[simp] def fSub:F2:=fun x y h=>match x,y with
 | .int i,.int j=>.ok (.int (i-j)) h
 | _,_=>.bad
@[simp] def fMul:F2:=fun x y h=>match x,y with
 | .int i,.int j=>if (i.natAbs<2 ^ 64\/j.natAbs<2 ^ 64)\/(i.natAbs<2 ^ 4000/\j.natAbs<2 ^ 4000) then .ok (.int (i*j)) h else .bad
 | _,_=>.bad
@[simp] def fDiv:F2:=fun x y h=>match x,y with
 | .int i,.int j=>if 0<j/\j.natAbs<2 ^ 200 then .ok (.int (i / j)) h else .bad
 | _,_=>.bad
@[simp] def fMod:F2:=fun x y h=>match x,y with
 | .int i,.int j=>if 0<j then .ok (.int (i % j)) h else .bad
 | _,_=>.bad
@[simp] def fPow:F2:=fun x y h=>match x,y with
 | .int i,.int j=>if 0<=j/\j<=1000000/\i.natAbs<2 ^ 64 then .ok (.int (i ^ j.toNat)) h else .bad
 | _,_=>.bad
@[simp] def fNeg:F1:=fun x h=>match x with
 | .int i=>.ok (.int (-i)) h
 | _=>.bad
def toDs (f:AV->Option PyData):List AV->Option (List PyData)
 | []=>some []
 | x::xs=>match f x,toDs f xs with
  | some d,some ds=>some (d::ds)
  | _,_=>none
def toD:Nat->AH->AV->Option PyData
 | 0,_,v=>match v with
  | .non=>some .none
  | .bl b=>some (.bool b)
  | .int i=>some (.int i)
  | .str x=>some (.str x)
  | _=>none
 | n+1,h,v=>match v with
  | .non=>some .none
  | .bl b=>some (.bool b)
  | .int i=>some (.int i)
  | .str x=>some (.str x)
  | .tup xs=>(toDs (toD n h) xs).map .tuple
  | .fl xs=>(toDs (toD n h) xs).map .list
  | .ref k=>match h[k]? with
   | some (.lst xs)=>(toDs (toD n h) xs).map .list
   | _=>none
  | .exc _=>none
@[simp] def eqA (x y:AV) (h:AH):Option Bool:=match x,y with
 | .int i,.int j=>some (decide (i=j))
 | .str i,.str j=>some (decide (i=j))
 | .bl i,.bl j=>some (decide (i=j))
 | .non,.non=>some true
 | x,y=>match toD 8 h x,toD 8 h y with
  | some d,some e=>some (PyData.eqv d e)
  | _,_=>none
@[simp] def fEq:F2:=fun x y h=>match eqA x y h with
 | some b=>.ok (.bl b) h
 | none=>.bad
@[simp] def fNe:F2:=fun x y h=>match eqA x y h with
 | some b=>.ok (.bl (!b)) h
 | none=>.bad
@[simp] def fLt:F2:=fun x y h=>match x,y with
 | .int i,.int j=>.ok (.bl (decide (i<j))) h
 | .str i,.str j=>.ok (.bl (decide (i.cps.toList<j.cps.toList))) h
 | _,_=>.bad
@[simp] def fLe:F2:=fun x y h=>match x,y with
 | .int i,.int j=>.ok (.bl (decide (i<=j))) h
 | .str i,.str j=>.ok (.bl (!decide (j.cps.toList<i.cps.toList))) h
 | _,_=>.bad
@[simp] def fGt:F2:=fun x y h=>match x,y with
 | .int i,.int j=>.ok (.bl (decide (j<i))) h
 | _,_=>.bad
@[simp] def fGe:F2:=fun x y h=>match x,y with
 | .int i,.int j=>.ok (.bl (decide (j<=i))) h
 | _,_=>.bad
@[simp] def truA (v:AV) (h:AH):Option Bool:=match v with
 | .non=>some false
 | .bl b=>some b
 | .int i=>some (i != 0)
 | .str y=>some ((y.length:Int) != 0)
 | .tup xs=>some (!xs.isEmpty)
 | .fl xs=>some (!xs.isEmpty)
 | .ref n=>match h[n]? with
  | some (.lst xs)=>some (!xs.isEmpty)
  | some (.dct false kvs)=>some (!kvs.isEmpty)
  | _=>none
 | _=>none
@[simp] def ydT (a:SE):SB:=fun en h=>(a en h).bind fun v h1=>match truA v h1 with
 | some b=>.ok b h1
 | none=>.bad
@[simp] def yas (a:SE):SB:=fun en h=>(a en h).bind fun v h1=>match v with
 | .bl b=>.ok b h1
 | _=>.bad
@[simp] def sOr (a b:SB):SB:=fun en h=>(a en h).bind fun x h1=>if x=true then .ok true h1 else b en h1
@[simp] def sNot (a:SB):SB:=fun en h=>(a en h).bind fun x h1=>.ok (!x) h1
@[simp] def yep (a b:SE):SE:=fun en h=>(a en h).bind fun v h1=>match v with
 | .bl k=>if k=true then b en h1 else .ok (.bl false) h1
 | _=>.bad
@[simp] def sOrV (a b:SE):SE:=fun en h=>(a en h).bind fun v h1=>match v with
 | .bl k=>if k=true then .ok (.bl true) h1 else b en h1
 | _=>.bad
@[simp] def yfS (a:SE):SE:=fun en h=>(a en h).bind fun v h1=>match v with
 | .bl b=>.ok (.bl (!b)) h1
 | _=>.bad
@[simp] def ydD (f f':F2) (a b c:SE):SE:=fun en h=>(a en h).bind fun x h1=>(b en h1).bind fun y h2=>(f x y h2).bind fun z h3=>match z with
 | .bl k=>if k=true then (c en h3).bind fun w h4=>f' y w h4 else .ok (.bl false) h3
 | _=>.bad
@[simp] def yaB:SS:=fun en h=>.nx en h
@[simp] def sSeq (a b:SS):SS:=fun en h=>match a en h with
 | .nx e h' => b e h'
 | o=>o
@[simp] def yfT:SS:=fun en h=>.ct en h
@[simp] def yaT (a:SE):SS:=fun en h=>(a en h).go en fun _ h' => .nx en h'
@[simp] def sRet (a:SE):SS:=fun en h=>(a en h).go en fun v h' => .rt v h'
@[simp] def sIf (c:SB) (a b:SS):SS:=fun en h=>(c en h).go en fun x h' => if x=true then a en h' else b en h'
@[simp] def sSet (i:Nat) (a:SE):SS:=fun en h=>(a en h).go en fun v h' => .nx (en.set i (some v)) h'
def ybu (c:SB) (b:SS):Nat->SS
 | 0=>fun _ _=>.bad
 | n+1=>fun en h=>match c en h with
  | .ok true h1=>(match b en h1 with
   | .nx e2 h2=>ybu c b n e2 h2
   | .ct e2 h2=>ybu c b n e2 h2
   | .bk e2 h2=>.nx e2 h2
   | .rt v h2=>.rt v h2
   | _=>.bad)
  | .ok false h1=>.nx en h1
  | _=>.bad
abbrev SI:=En->AH->Out (List AV×Option Nat)
@[simp] def yb7 (w:Option Nat) (xs:List AV) (h:AH):Bool:=match w with
 | none=>true
 | some n=>match h[n]? with
  | some (.lst ys)=>decide (ys=xs)
  | _=>false
inductive Tg where
 | nm (i:Nat)
 | tup (is:List Nat)
@[simp] def yeO:List Nat->List AV->En->Option En
 | [],[],en=>some en
 | i::is,x::xs,en=>yeO is xs (en.set i (some x))
 | _,_,_=>none
@[simp] def setT (t:Tg) (v:AV) (en:En):Option En:=match t,v with
 | .nm i,v=>some (en.set i (some v))
 | .tup is,.tup xs=>yeO is xs en
 | _,_=>none
def ybM (w:Option Nat) (all:List AV) (t:Tg) (b:SS):List AV->SS
 | []=>fun en h=>if yb7 w all h=true then .nx en h else .bad
 | x::xs=>fun en h=>if yb7 w all h=true then
   (match setT t x en with
   | some e1=>(match b e1 h with
    | .nx e2 h2=>ybM w all t b xs e2 h2
    | .ct e2 h2=>ybM w all t b xs e2 h2
    | .bk e2 h2=>.nx e2 h2
    | .rt v h2=>.rt v h2
    | _=>.bad)
   | none=>.bad) else .bad
@[simp] def sFor (it:SI) (t:Tg) (b:SS):SS:=fun en h=>match it en h with
 | .ok (xs,w) h1=>ybM w xs t b xs en h1
 | _=>.bad
@[simp] def ye4 (t:Tg) (a:SE):SS:=fun en h=>(a en h).go en fun v h' => match setT t v en with
 | some e=>.nx e h'
 | none=>.bad
@[simp] def iVal (a:SE):SI:=fun en h=>(a en h).bind fun v h1=>match v with
 | .fl xs=>.ok (xs,none) h1
 | .tup xs=>.ok (xs,none) h1
 | .str z=>.ok (z.cps.toList.map (fun c=>.str ⟨#[c]⟩),none) h1
 | .ref n=>match h1[n]? with
  | some (.lst xs)=>.ok (xs,some n) h1
  | _=>.bad
 | _=>.bad
def yaL (lo:Int):Nat->List AV
 | 0=>[]
 | n+1=>.int lo::yaL (lo+1) n
@[simp] def yaI (a:SE):SI:=fun en h=>(a en h).bind fun v h1=>match v with
 | .int j=>if j.natAbs<2 ^ 62 then .ok (yaL 0 j.toNat,none) h1 else .bad
 | _=>.bad
def numbered (k:Nat):List AV->List AV
 | []=>[]
 | x::xs=>.tup [.int k,x]::numbered (k+1) xs
@[simp] def yh7 (a:SE):SI:=fun en h=>(a en h).bind fun v h1=>match v with
 | .fl xs=>.ok (numbered 0 xs,none) h1
 | _=>.bad
def yaF (js:List Nat) (en:En) (w:Option Nat) (all:List AV) (c:SB) (e:SE):List AV->List AV->AH->Out (List AV)
 | [],ys,h=>if yb7 w all h=true then .ok ys h else .bad
 | x::xs,ys,h=>if yb7 w all h=true/\ys.length<sizeLine then
   (match c (some x::js.map fun j=>(en[j]?).join) h with
   | .ok true h1=>(match e (some x::js.map fun j=>(en[j]?).join) h1 with
    | .ok v h2=>yaF js en w all c e xs (ys++[v]) h2
    | _=>.bad)
   | .ok false h1=>yaF js en w all c e xs ys h1
   | _=>.bad) else .bad
@[simp] def sYes:SB:=fun _ h=>.ok true h
@[simp] def ya3 (js:List Nat) (it:SI) (c:SB) (e:SE):SE:=fun en h=>match it en h with
 | .ok (xs,w) h1=>(match yaF js en w xs c e xs [] h1 with
  | .ok ys h2=>.ok (.fl ys) h2
  | _=>.bad)
 | _=>.bad
@[simp] def mkFn (n m:Nat) (b:SS):Fn:=fun args h =>
 if args.length=n then
  match b (args.map some++List.replicate (m-n) none) h with
  | .nx _ h' => .ok .non h'
  | .rt v h' => .ok v h'
  | .ex c _ h' => .ex c h'
  | _=>.bad
 else .bad
@[simp] def yal (c:Nat) (F:Fn) (o:SE) (as:SL):SE:=fun en h=>(o en h).bind fun x h1=>match x with
 | .ref n=>match h1[n]? with
  | some (.ins c' _)=>if c'=c then (as en h1).bind fun xs h2=>F (x::xs) h2 else .bad
  | _=>.bad
 | _=>.bad
@[simp] def yeH (c k:Nat) (F:Fn) (as:SL):SE:=fun en h=>(as en h).bind fun xs h1=>match F (.ref h1.length::xs) (h1++[.ins c (List.replicate k none)]) with
 | .ok .non h2=>.ok (.ref h1.length) h2
 | .ex c h2=>.ex c h2
 | _=>.bad
@[simp] def sFld (c i:Nat) (o:SE):SE:=fun en h=>(o en h).bind fun x h1=>match x with
 | .ref n=>match h1[n]? with
  | some (.ins c' fs)=>if c'=c then (match fs[i]? with | some (some v)=>.ok v h1 | _=>.bad) else .bad
  | _=>.bad
 | _=>.bad
@[simp] def ycR (c i:Nat) (o v:SE):SS:=fun en h=>(v en h).go en fun y h1=>(o en h1).go en fun x h2=>match x with
 | .ref n=>match h2[n]? with
  | some (.ins c' fs)=>if c'=c then .nx en (h2.set n (.ins c (fs.set i (some y)))) else .bad
  | _=>.bad
 | _=>.bad
@[simp] def yb8 (c:Nat) (as:SL):SS:=fun en h=>(as en h).go en fun xs h1=>if xs.length<=1000 then .ex c en h1 else .bad
@[simp] def keyOf? (v:AV):Option Key:=match v with
 | .int i=>some (.inl i)
 | .str x=>some (.inr x)
 | _=>none
@[simp] def keysOf? : List AV->Option (List Key)
 | []=>some []
 | v::r=>match keyOf? v,keysOf? r with
  | some k,some ks=>some (k::ks)
  | _,_=>none
@[simp] def ydI (t:Bool) (v:AV):Bool:=match t,v with
 | false,v=>(keyOf? v).isSome
 | true,.tup xs=>(keysOf? xs).isSome
 | true,_=>false
def valA (kvs:List (AV×AV)) (k:AV):Option AV:=(kvs.find? fun p=>decide (p.1=k)).map (·.2)
def putA (kvs:List (AV×AV)) (k v:AV):List (AV×AV) :=
 if kvs.any (fun p=>decide (p.1=k)) then kvs.map fun p=>if p.1=k then (p.1,v) else p else kvs++[(k,v)]
@[simp] def fIx:F2:=fun x y h=>match x,y with
 | .str z,.int i=>match atI z.cps.toList i with
  | some c=>.ok (.str ⟨#[c]⟩) h
  | none=>.bad
 | .tup xs,.int i=>match atI xs i with
  | some v=>.ok v h
  | none=>.bad
 | .fl xs,.int i=>match atI xs i with
  | some v=>.ok v h
  | none=>.bad
 | .ref n,y=>match h[n]? with
  | some (.lst xs)=>match y with
   | .int i=>match atI xs i with
    | some v=>.ok v h
    | none=>.bad
   | _=>.bad
  | some (.dct t kvs)=>if ydI t y then (match valA kvs y with | some v=>.ok v h | none=>.bad) else .bad
  | _=>.bad
 | _,_=>.bad
@[simp] def yeq (o i v:SE):SS:=fun en h=>(v en h).go en fun z h1=>(o en h1).go en fun x h2=>(i en h2).go en fun y h3=>match x with
 | .ref n=>match h3[n]? with
  | some (.lst xs)=>match y with
   | .int k=>match ixN xs.length k with
    | some j=>.nx en (h3.set n (.lst (xs.set j z)))
    | none=>.bad
   | _=>.bad
  | some (.dct t kvs)=>if ydI t y=true/\kvs.length<sizeLine then .nx en (h3.set n (.dct t (putA kvs y z))) else .bad
  | _=>.bad
 | _=>.bad
@[simp] def inA (x y:AV) (h:AH):Option Bool:=match x,y with
 | .str i,.str j=>some (!(Builtin.Str.occurrences j i 0 j.length 1).isEmpty)
 | x,.ref n=>match h[n]? with
  | some (.dct t kvs)=>if ydI t x then some (valA kvs x).isSome else none
  | some (.lst xs)=>match toD 8 h x,toDs (toD 8 h) xs with
   | some d,some ds=>some (ds.any fun e=>PyData.eqv e d)
   | _,_=>none
  | _=>none
 | x,.fl xs=>match toD 8 h x,toDs (toD 8 h) xs with
  | some d,some ds=>some (ds.any fun e=>PyData.eqv e d)
  | _,_=>none
 | x,.tup xs=>match toD 8 h x,toDs (toD 8 h) xs with
  | some d,some ds=>some (ds.any fun e=>PyData.eqv e d)
  | _,_=>none
 | _,_=>none
@[simp] def yeP:F2:=fun x y h=>match inA x y h with
 | some b=>.ok (.bl (!b)) h
 | none=>.bad
@[simp] def fLen:Fn:=fun args h=>match args with
 | [.str x]=>.ok (.int x.length) h
 | [.tup xs]=>.ok (.int xs.length) h
 | [.fl xs]=>.ok (.int xs.length) h
 | [.ref n]=>match h[n]? with
  | some (.lst xs)=>.ok (.int xs.length) h
  | some (.dct false kvs)=>.ok (.int kvs.length) h
  | _=>.bad
 | _=>.bad
@[simp] def fAbs:Fn:=fun args h=>match args with
 | [.int i]=>.ok (.int (if i<0 then -i else i)) h
 | _=>.bad
@[simp] def ydJ:Fn:=fun args h=>match args with
 | [.int i,.int j]=>.ok (.int (if j > i then j else i)) h
 | _=>.bad
@[simp] def ydZ:List AV->Option (List Bool)
 | []=>some []
 | .bl b::r=>(ydZ r).map (b :: ·)
 | _::_=>none
@[simp] def fAll:Fn:=fun args h=>match args with
 | [.fl xs]=>match ydZ xs with
  | some bs=>.ok (.bl (bs.all id)) h
  | none=>.bad
 | _=>.bad
@[simp] def fInt:Fn:=fun args h=>match args with
 | [.int i]=>.ok (.int i) h
 | [.bl k]=>.ok (.int (if k then 1 else 0)) h
 | _=>.bad
@[simp] def tyN (v:AV) (h:AH):Option String:=match v with
 | .non=>some "NoneType"
 | .bl _=>some "bool"
 | .int _=>some "int"
 | .str _=>some "str"
 | .tup _=>some "tuple"
 | .fl _=>some "list"
 | .ref n=>match h[n]? with
  | some (.lst _)=>some "list"
  | some (.dct _ _)=>some "dict"
  | _=>none
 | .exc _=>none
@[simp] def sIsB (t:String) (a:SE):SE:=fun en h=>(a en h).bind fun v h1=>match tyN v h1 with
 | some n=>.ok (.bl (n == t || (t == "int" && n == "bool"))) h1
 | none=>.bad
abbrev FM:=AV->List AV->AH->Out AV
@[simp] def yaV (v:AV) (h:AH):Bool:=(ybD v h).isSome
@[simp] def ycS (v:AV) (_:AH):Bool:=match v with
 | .str _=>true
 | _=>false
@[simp] def sBM (chk:AV->AH->Bool) (f:FM) (o:SE) (as:SL):SE:=fun en h=>(o en h).bind fun x h1=>if chk x h1=true then (as en h1).bind fun xs h2=>f x xs h2 else .bad
@[simp] def sBM0 (chk:AV->AH->Bool) (f:FM) (o:SE):SE:=fun en h=>(o en h).bind fun x h1=>if chk x h1=true then f x [] h1 else .bad
@[simp] def yaU:FM:=fun x vs h=>match x,vs with
 | .ref n,[y]=>match h[n]? with
  | some (.lst xs)=>if xs.length<sizeLine then .ok .non (h.set n (.lst (xs++[y]))) else .bad
  | _=>.bad
 | _,_=>.bad
@[simp] def mPop:FM:=fun x vs h=>match x,vs with
 | .ref n,[]=>match h[n]? with
  | some (.lst xs)=>match xs[xs.length-1]? with
   | some y=>.ok y (h.set n (.lst xs.dropLast))
   | none=>.bad
  | _=>.bad
 | _,_=>.bad
def yfU (d:PyData):List PyData->Nat->Option Nat
 | [],_=>none
 | e::r,k=>if PyData.eqv e d=true then some k else yfU d r (k+1)
@[simp] def yh4:FM:=fun x vs h=>match vs with
 | [y]=>match ybD x h with
  | some xs=>match toD 8 h y,toDs (toD 8 h) xs with
   | some d,some ds=>match yfU d ds 0 with
    | some k=>.ok (.int k) h
    | none=>.bad
   | _,_=>.bad
  | none=>.bad
 | _=>.bad
@[simp] def ybE:FM:=fun x vs h=>match x,vs with
 | .str z,[.str y]=>.ok (.int ((Builtin.Str.occurrences z y 0 z.length (z.length+1)).length:Nat)) h
 | _,_=>.bad
@[simp] def yd0:List AV->Option (List Str)
 | []=>some []
 | .str x::r=>(yd0 r).map (x :: ·)
 | _::_=>none
@[simp] def yde:FM:=fun x vs h=>match x,vs with
 | .str z,[y]=>if z=Str.empty then (match ybD y h with
  | some xs=>match yd0 xs with
   | some zs=>if ((zs.map fun x:Str=>x.cps.toList).flatten).length<=1000000 then .ok (.str ⟨((zs.map fun x:Str=>x.cps.toList).flatten).toArray⟩) h else .bad
   | none=>.bad
  | none=>.bad) else .bad
 | _,_=>.bad
def cutA {α:Type} (xs:List α) (lo hi:Option Int):List α:=(xs.drop (HT.sIx xs.length 0 lo)).take (HT.sIx xs.length xs.length hi-HT.sIx xs.length 0 lo)
end Sm
namespace Sm
open PySem L2
structure CA (T:Tb) (E:St->XK) (X:Cx):Prop where
 hK:X.K=T.K
 pass:ydY (CXE X.prog X.w) X E
abbrev EN:St->XK:=fun _=>E0
theorem CA.nox {T:Tb} {E:St->XK} {X:Cx} (c:CA T E X):CA T EN X.nox:=⟨c.hK,fun _ _ _ _ _ _ _ h=>by
 obtain ⟨_,_,_,_,_,_,_,_,_,_,_,_,_,_,q⟩:=h
 exact q.elim⟩
theorem CA.never {T:Tb} {X:Cx} (hK:X.K=T.K):CA T EN X:=⟨hK,fun _ _ _ _ _ _ _ h=>by
 obtain ⟨_,_,_,_,_,_,_,_,_,_,_,_,_,_,q⟩:=h
 exact q.elim⟩
section
variable {T:Tb} {ι:Ix} {h:AH} {H:Hp}
theorem yb9 {x:AV} {u:V} {xs:List AV} (S:Sim T ι h H) (r:RV T ι H x u) (e:ybD x h=some xs):∃ a us,u = .ref a/\SqL T.K H a us/\RVs T ι H xs us:=by
 unfold ybD at e
 cases r with
 | fl n q r=>cases e;exact ⟨_,_,rfl,.inl q,r⟩
 | kfl q r=>cases e;exact ⟨_,_,rfl,.inr q,r⟩
 | @ref k a q =>
  dsimp only at e
  split at e
  ·rename_i ys hk
   cases e
   obtain ⟨u,e1,us,rfl,r⟩:=S.obj k _ a hk q
   exact ⟨a,us,rfl,.inl (.inl e1),r⟩
  ·cases e
 | _=>cases e
theorem ydE {u:V} {xs:List AV} (r:RV T ι H (.tup xs) u):∃ a us,u = .ref a/\SqT T.K H a us/\RVs T ι H xs us:=by
 cases r with
 | tup n q r=>exact ⟨_,_,rfl,.of q,r⟩
theorem ya8 {u:V} {x:Str} (r:RV T ι H (.str x) u):u = .str x/\x.length<=sizeLine/\x.cps.all (· < 0x110000)=true:=by
 cases r with
 | str n o=>exact ⟨rfl,n,o⟩
theorem yaE {u:V} {i:Int} (r:RV T ι H (.int i) u):u = .int i:=by cases r;rfl
theorem ycF {u:V} {i:Bool} (r:RV T ι H (.bl i) u):u = .bl i:=by cases r;rfl
theorem yeQ {u:V} (r:RV T ι H .non u):u = .non:=by cases r;rfl
theorem yer {us:List V} {xs:List AV} {p:Addr} {E:XK} {Q:VK} (S:Sim T ι h H) (r:RVs T ι H xs us) (n:H p=none) (q:Post T ι H E (RV T) (.ok (.fl xs) h) Q):Q (.ref p) (upd H p (.lst us)) :=
 q ι _ _ (S.growNew n) (S.new n) (.fl (S.fresh n) (.inl zar) (r.mono (S.growNew n)))
theorem zdQ {us:List V} {xs:List AV} {p:Addr} {E:XK} {Q:VK} (S:Sim T ι h H) (r:RVs T ι H xs us) (n:H p=none) (q:Post T ι H E (RV T) (.ok (.tup xs) h) Q):Q (.ref p) (upd H p (.tup us)) :=
 q ι _ _ (S.growNew n) (S.new n) (.tup (S.fresh n) zar (r.mono (S.growNew n)))
theorem ziW {us:List V} {xs:List AV} {p:Addr} {E:XK} {Q:VK} (S:Sim T ι h H) (r:RVs T ι H xs us) (n:H p=none) (q:Post T ι H E (RV T) (.ok (.ref h.length) (h++[.lst xs])) Q):Q (.ref p) (upd H p (.lst us)) :=
 q _ _ _ (S.growAdd n) (S.add n ⟨us,rfl,r.mono (S.growAdd n)⟩) (.ref S.addAt)
end
section
variable {T:Tb} {E:St->XK} {X:Cx} {pos:Pos}
theorem yaa (i:Nat) {x:Str} {p:Pos} (hN:X.N[i]? = some x:=by rfl) (hv:Vis X.env.scope x:=by first | exact Or.inl rfl | exact Or.inr (Or.inl rfl) | exact Or.inr (Or.inr rfl)) (hd:(x == ("__debug__" : Str))=false:=by decide)
  (hcd:(x == ("__classdict__" : Str))=false:=by decide):PEA T E X (.Name x p) (sVar i) :=
 yaZ (pv i hN hv hd hcd) fun σ H Q ⟨ι,h,en,S,er,q⟩=>by
  unfold sVar at q
  split at q
  ·rename_i v hv
   obtain ⟨u,e,r⟩:=er.2 i v hv
   exact ⟨u,e,q.now S r⟩
  ·exact q.elim
theorem yae {i j p}:PEA T E X (.Constant (.int i) j p) (sLit (.int i)):=yaZ yge fun σ H Q ⟨ι,h,en,S,er,q⟩=>q.now S (.int i)
theorem r_bl {i j p}:PEA T E X (.Constant (.bool i) j p) (sLit (.bl i)):=yaZ yhe fun σ H Q ⟨ι,h,en,S,er,q⟩=>q.now S (.bl i)
theorem yaR {x j p} (n:x.length<=sizeLine:=by decide +kernel) (o:x.cps.all (· < 0x110000)=true:=by decide +kernel):PEA T E X (.Constant (.str x) j p) (sLit (.str x)):=yaZ ygf fun σ H Q ⟨ι,h,en,S,er,q⟩=>q.now S (.str n o)
theorem ziX {x:Str} {i:Int} {t:Tok} {p:Pos} (hg:Gl X x) (hm:X.mg x=some (.int i t)) (hd:(x == ("__debug__" : Str))=false:=by decide):PEA T E X (.Name x p) (sLit (.int i)) :=
 yaZ (ziu (v:=.int i) hg hm ⟨t,rfl⟩ hd) fun σ H Q ⟨ι,h,en,S,er,q⟩=>q.now S (.int i)
def OpS (T:Tb) (f:F2) (r:R2):Prop:=∀ (ι:Ix) (h:AH) (H:Hp) (x y:AV) (u w:V) (E:XK) (Q:VK),Sim T ι h H->RV T ι H x u->RV T ι H y w->Post T ι H E (RV T) (f x y h) Q->r u w H Q
def Op (T:Tb) (X:Cx) (g:Value->Value->Sem Value) (f:F2):Prop:=∃ r,OpR X g r/\OpS T f r
variable {a b c:Expr} {sa sb sc:SE}
theorem two {f:F2} {r:R2} (hs:OpS T f r) {σ:St} {H:Hp} {Q:VK} (q:tE T E (sOp2 f sa sb) σ H Q):tOp r (tE T E sa) (tE T E sb) σ H Q:=by
 obtain ⟨ι,h,en,S,er,q⟩:=q
 refine ⟨ι,h,en,S,er,q.bind fun x h1 ι1 H1 u g1 S1 r1 q1=>⟨ι1,h1,en,S1,er.mono g1,q1.bind fun y h2 ι2 H2 w g2 S2 r2 q2=>?_⟩⟩
 exact hs ι2 h2 H2 x y u w _ Q S2 (r1.mono g2) r2 q2
theorem yai {op:Operator} {f:F2} (ho:Op T X (binaryOp op) f) (ha:PEA T E X a sa) (hb:PEA T E X b sb):PEA T E X (.BinOp a op b pos) (sOp2 f sa sb):=by
 obtain ⟨r,h1,h2⟩:=ho
 exact yaZ (yho h1 ha hb) fun σ H Q q=>two h2 q
theorem ziY {i j:Str} (hi:i.cps.all (· < 0x110000)=true) (hj:j.cps.all (· < 0x110000)=true):(i++j).cps.all (· < 0x110000)=true:=by
 show (i.cps++j.cps).all _=true
 rw [Array.all_append,hi,hj];rfl
theorem zfg (i j:Str):(i++j).length=i.length+j.length:=by
 show (i.cps++j.cps).size=_
 rw [Array.size_append];rfl
theorem yaG (hK:X.K=T.K):Op T X (binaryOp .Add) fAdd:=by
 refine ⟨_,op_add.or (zgi.or (ziH.or ziU)),fun ι h H x y u w E Q S rx ry p=>?_⟩
 unfold fAdd at p
 split at p
 ·rw [yaE rx,yaE ry]
  exact .inl ⟨_,_,rfl,rfl,p.now S (.int _)⟩
 ·split at p
  ·rename_i hz
   obtain ⟨rfl,_,o1⟩:=ya8 rx
   obtain ⟨rfl,_,o2⟩:=ya8 ry
   exact .inr (.inl ⟨_,_,rfl,rfl,hz,p.now S (.str (by rw [zfg];exact hz) (ziY o1 o2))⟩)
  ·exact p.elim
 ·split at p
  ·rename_i hz
   obtain ⟨a,us,rfl,q1,r1⟩:=ydE rx
   obtain ⟨b,ws,rfl,q2,r2⟩:=ydE ry
   refine .inr (.inr (.inl ⟨a,b,us,ws,rfl,rfl,hK▸q1,hK▸q2,fun z=>hz.1 ?_,by rw [<- r1.length,<- r2.length];exact hz.2,fun z=>?_,fun _ l n=>zdQ S (r1.append r2) n p⟩))
   ·subst z;cases r1;rfl
   ·subst z;cases r2
    rw [List.append_nil] at p
    exact p.now S rx
  ·exact p.elim
 ·split at p
  ·split at p
   ·rename_i e1 e2 hz
    obtain ⟨a,us,rfl,q1,r1⟩:=yb9 S rx e1
    obtain ⟨b,ws,rfl,q2,r2⟩:=yb9 S ry e2
    exact .inr (.inr (.inr ⟨a,b,us,ws,rfl,rfl,hK▸q1,hK▸q2,by rw [<- r1.length,<- r2.length];exact hz,fun l n=>yer S (r1.append r2) n p⟩))
   ·exact p.elim
  ·exact p.elim
theorem ybd:Op T X (binaryOp .Sub) fSub:=by
 refine ⟨_,ygr,fun ι h H x y u w E Q S rx ry p=>?_⟩
 unfold fSub at p
 split at p
 ·rw [yaE rx,yaE ry]
  exact ⟨_,_,rfl,rfl,p.now S (.int _)⟩
 ·exact p.elim
theorem zfK {i:Int} (h:i.natAbs<2 ^ 4000):Builtin.Int.intBits i<=2 ^ 20:=by
 unfold Builtin.Int.intBits
 split
 ·exact Nat.zero_le _
 ·rename_i hz
  have h0:i.natAbs≠0:=fun z=>hz (by simpa using z)
  have:i.natAbs.log2<4000:=(Nat.log2_lt h0).mpr h
  exact Nat.le_trans (by omega:i.natAbs.log2+1<=4001) (by decide)
theorem ybA:Op T X (binaryOp .Mult) fMul:=by
 refine ⟨_,zhX,fun ι h H x y u w E Q S rx ry p=>?_⟩
 unfold fMul at p
 split at p
 ·split at p
  ·rename_i hz
   rw [yaE rx,yaE ry]
   exact ⟨_,_,rfl,rfl,hz.elim (fun z=>CMul.ok (z.elim (fun z=>.inl ⟨by omega,by omega⟩) (fun z=>.inr ⟨by omega,by omega⟩))) (fun z=>.of_bits (zfK z.1) (zfK z.2)),p.now S (.int _)⟩
  ·exact p.elim
 ·exact p.elim
theorem yeg:Op T X (binaryOp .FloorDiv) fDiv:=by
 refine ⟨_,zhW,fun ι h H x y u w E Q S rx ry p=>?_⟩
 unfold fDiv at p
 split at p
 ·split at p
  ·rename_i hz
   rw [yaE rx,yaE ry]
   exact ⟨_,_,rfl,rfl,⟨hz.1,by omega⟩,p.now S (.int _)⟩
  ·exact p.elim
 ·exact p.elim
theorem ydf:Op T X (binaryOp .Mod) fMod:=by
 refine ⟨_,ygs,fun ι h H x y u w E Q S rx ry p=>?_⟩
 unfold fMod at p
 split at p
 ·split at p
  ·rename_i hz
   rw [yaE rx,yaE ry]
   exact ⟨_,_,rfl,rfl,hz,p.now S (.int _)⟩
  ·exact p.elim
 ·exact p.elim
theorem yd6:Op T X (binaryOp .Pow) fPow:=by
 refine ⟨_,ygt,fun ι h H x y u w E Q S rx ry p=>?_⟩
 unfold fPow at p
 split at p
 ·split at p
  ·rename_i hz
   rw [yaE rx,yaE ry]
   exact ⟨_,_,rfl,rfl,hz,p.now S (.int _)⟩
  ·exact p.elim
 ·exact p.elim
theorem yfV (ha:PEA T E X a sa):PEA T E X (.UnaryOp .USub a pos) (sOp1 fNeg sa) :=
 yaZ (yhp ygu ha) fun σ H Q ⟨ι,h,en,S,er,q⟩=>⟨ι,h,en,S,er,q.bind fun x h1 ι1 H1 u g1 S1 r1 q1=>by
  unfold fNeg at q1
  split at q1
  ·rw [yaE r1]
   exact ⟨_,rfl,q1.now S1 (.int _)⟩
  ·exact q1.elim⟩
theorem zhb {ds:List PyData} (h:∀ d∈ds,d.canLay0=true):PyData.canLayAll0 ds=true:=by
 induction ds with
 | nil=>rfl
 | cons d r ih=>show (d.canLay0 && PyData.canLayAll0 r)=true;rw [h d (by simp),ih fun e he=>h e (by simp [he])];rfl
theorem zfh {n:Nat} {ds:List PyData} (h:∀ d∈ds,d.depth<=n):PyData.depthAll ds<=n:=by
 induction ds with
 | nil=>exact Nat.zero_le _
 | cons d r ih=>show max d.depth (PyData.depthAll r)<=n;have:=h d (by simp);have:=ih fun e he=>h e (by simp [he]);omega
section
variable {ι:Ix} {h:AH} {H:Hp}
theorem zbZ {f:AV->Option PyData} {n:Nat} (hf:∀ {x:AV} {u:V} {d:PyData},RV T ι H x u->f x=some d->DaV T.K H u d/\d.canLay0=true/\d.depth<=n) :
  ∀ {xs:List AV} {us:List V} {ds:List PyData},RVs T ι H xs us->toDs f xs=some ds->DaVs T.K H us ds/\∀ d∈ds,d.canLay0=true/\d.depth<=n
 | _,_,ds,.nil,e=>by cases e;exact ⟨.nil,by simp⟩
 | _,_,ds,.cons (x:=x) (xs:=xs) r rs,e=>by
  unfold toDs at e
  split at e
  ·rename_i d ds' e1 e2
   cases e
   obtain ⟨q1,q2⟩:=hf r e1
   obtain ⟨q3,q4⟩:=zbZ hf rs e2
   refine ⟨.cons q1 q3,fun d hd=>?_⟩
   rcases List.mem_cons.mp hd with rfl | hd
   ·exact q2
   ·exact q4 d hd
  ·cases e
theorem ydg (S:Sim T ι h H):∀ (n:Nat) {x:AV} {u:V} {d:PyData},RV T ι H x u->toD n h x=some d->DaV T.K H u d/\d.canLay0=true/\d.depth<=n
 | 0,x,u,d,r,e=>by
  unfold toD at e
  cases r with
  | non=>cases e;exact ⟨.non,rfl,Nat.le_refl _⟩
  | bl b=>cases e;exact ⟨.bl b,rfl,Nat.le_refl _⟩
  | int b=>cases e;exact ⟨.int b,rfl,Nat.le_refl _⟩
  | str a b=>cases e;exact ⟨.str _,b,Nat.le_refl _⟩
  | _=>cases e
 | n+1,x,u,d,r,e=>by
  unfold toD at e
  have many:∀ {xs:List AV} {us:List V} {ds:List PyData},RVs T ι H xs us->toDs (toD n h) xs=some ds->DaVs T.K H us ds/\∀ d∈ds,d.canLay0=true/\d.depth<=n:=fun r e=>zbZ (fun r e=>ydg S n r e) r e
  have fin:∀ {ds:List PyData},(∀ d∈ds,d.canLay0=true/\d.depth<=n)->PyData.canLayAll0 ds=true/\PyData.depthAll ds+1<=n+1:=fun q=>⟨zhb fun d hd=>(q d hd).1,Nat.succ_le_succ (zfh fun d hd=>(q d hd).2)⟩
  cases r with
  | non=>cases e;exact ⟨.non,rfl,Nat.zero_le _⟩
  | bl b=>cases e;exact ⟨.bl b,rfl,Nat.zero_le _⟩
  | int b=>cases e;exact ⟨.int b,rfl,Nat.zero_le _⟩
  | str a b=>cases e;exact ⟨.str _,b,Nat.zero_le _⟩
  | tup k q r =>
   obtain ⟨ds,e1,rfl⟩:=Option.map_eq_some_iff.mp e
   obtain ⟨q1,q2⟩:=many r e1
   exact ⟨.tup (.of q) q1,fin q2⟩
  | fl k q r =>
   obtain ⟨ds,e1,rfl⟩:=Option.map_eq_some_iff.mp e
   obtain ⟨q1,q2⟩:=many r e1
   exact ⟨.lst (.inl q) q1,fin q2⟩
  | kfl q r =>
   obtain ⟨ds,e1,rfl⟩:=Option.map_eq_some_iff.mp e
   obtain ⟨q1,q2⟩:=many r e1
   exact ⟨.lst (.inr q) q1,fin q2⟩
  | @ref k a q =>
   dsimp only at e
   split at e
   ·rename_i ys hk
    obtain ⟨ds,e1,rfl⟩:=Option.map_eq_some_iff.mp e
    obtain ⟨u,e2,us,rfl,r⟩:=S.obj k _ a hk q
    obtain ⟨q1,q2⟩:=many r e1
    exact ⟨.lst (.inl (.inl e2)) q1,fin q2⟩
   ·cases e
  | exc _ _ _=>cases e
end
theorem ygO {i j:Int}:decide (V.int i=V.int j)=decide (i=j):=by rw [Bool.eq_iff_iff];simp
theorem ygP {i j:Str}:decide (V.str i=V.str j)=decide (i=j):=by rw [Bool.eq_iff_iff];simp
theorem yhG {i j:Bool}:decide (V.bl i=V.bl j)=decide (i=j):=by rw [Bool.eq_iff_iff];simp
theorem zfL {r:R2} {neg:Bool} (ho:OpR X g r) (h1:∀ x y H Q,(scal x y=true/\Q (.bl (if neg then !decide (x=y) else decide (x=y))) H)->r x y H Q)
  (h2:∀ x y H Q,(∃ d e,DaV T.K H x d/\DaV T.K H y e/\d.canLay0=true/\e.canLay0=true/\d.depth<=60/\Q (.bl (if neg then !PyData.eqv d e else PyData.eqv d e)) H)->r x y H Q) :
  OpS T (fun x y h=>match eqA x y h with | some b=>.ok (.bl (if neg then !b else b)) h | none=>.bad) r:=by
 intro ι h H x y u w E Q S rx ry p
 dsimp only at p
 cases hb:eqA x y h with
 | none=>rw [hb] at p;exact p.elim
 | some b =>
  rw [hb] at p
  dsimp only at p
  unfold eqA at hb
  split at hb
  ·cases hb
   rw [yaE rx,yaE ry]
   exact h1 _ _ _ _ ⟨rfl,by rw [ygO];exact p.now S (.bl _)⟩
  ·cases hb
   obtain ⟨rfl,_⟩:=ya8 rx
   obtain ⟨rfl,_⟩:=ya8 ry
   exact h1 _ _ _ _ ⟨rfl,by rw [ygP];exact p.now S (.bl _)⟩
  ·cases hb
   rw [ycF rx,ycF ry]
   exact h1 _ _ _ _ ⟨rfl,by rw [yhG];exact p.now S (.bl _)⟩
  ·cases hb
   rw [yeQ rx,yeQ ry]
   exact h1 _ _ _ _ ⟨rfl,by rw [show decide (V.non=V.non)=true from rfl];exact p.now S (.bl _)⟩
  ·split at hb
   ·rename_i d e e1 e2
    cases hb
    obtain ⟨q1,q2,q3⟩:=ydg S 8 rx e1
    obtain ⟨q4,q5,q6⟩:=ydg S 8 ry e2
    exact h2 _ _ _ _ ⟨d,e,q1,q4,q2,q5,by omega,p.now S (.bl _)⟩
   ·cases hb
theorem o_eq (hK:X.K=T.K) (hu:X.A.units+64<cLine):Op T X (compareOp .Eq) fEq :=
 ⟨_,op_eq.or (yfp hu),zfL (neg:=false) (op_eq.or (yfp hu)) (fun _ _ _ _ q=>.inl q) fun _ _ _ _ q=>.inr (hK▸q)⟩
theorem o_ne (hK:X.K=T.K) (hu:X.A.units+64<cLine):Op T X (compareOp .NotEq) fNe :=
 ⟨_,op_ne.or (yfq hu),zfL (neg:=true) (op_ne.or (yfq hu)) (fun _ _ _ _ q=>.inl q) fun _ _ _ _ q=>.inr (hK▸q)⟩
theorem o_lt:Op T X (compareOp .Lt) fLt:=by
 refine ⟨_,op_lt.or zgQ,fun ι h H x y u w E Q S rx ry p=>?_⟩
 unfold fLt at p
 split at p
 ·rw [yaE rx,yaE ry]
  exact .inl ⟨_,_,rfl,rfl,p.now S (.bl _)⟩
 ·obtain ⟨rfl,_⟩:=ya8 rx
  obtain ⟨rfl,_⟩:=ya8 ry
  exact .inr ⟨_,_,rfl,rfl,p.now S (.bl _)⟩
 ·exact p.elim
theorem o_le:Op T X (compareOp .LtE) fLe:=by
 refine ⟨_,op_le.or zg4,fun ι h H x y u w E Q S rx ry p=>?_⟩
 unfold fLe at p
 split at p
 ·rw [yaE rx,yaE ry]
  exact .inl ⟨_,_,rfl,rfl,p.now S (.bl _)⟩
 ·obtain ⟨rfl,_⟩:=ya8 rx
  obtain ⟨rfl,_⟩:=ya8 ry
  exact .inr ⟨_,_,rfl,rfl,p.now S (.bl _)⟩
 ·exact p.elim
theorem o_gt:Op T X (compareOp .Gt) fGt:=by
 refine ⟨_,yhq,fun ι h H x y u w E Q S rx ry p=>?_⟩
 unfold fGt at p
 split at p
 ·rw [yaE rx,yaE ry]
  exact ⟨_,_,rfl,rfl,p.now S (.bl _)⟩
 ·exact p.elim
theorem o_ge:Op T X (compareOp .GtE) fGe:=by
 refine ⟨_,yhr,fun ι h H x y u w E Q S rx ry p=>?_⟩
 unfold fGe at p
 split at p
 ·rw [yaE rx,yaE ry]
  exact ⟨_,_,rfl,rfl,p.now S (.bl _)⟩
 ·exact p.elim
theorem yeh {op:CmpOp} {f:F2} (ho:Op T X (compareOp op) f) (ha:PEA T E X a sa) (hb:PEA T E X b sb) (hm:behindInMarks op b=false):PEA T E X (.Compare a [op] [b] pos) (sOp2 f sa sb):=by
 obtain ⟨r,h1,h2⟩:=ho
 exact yaZ (ziA h1 ha hb hm) fun σ H Q q=>two h2 q
theorem yaw {op:CmpOp} {f:F2} (ho:Op T X (compareOp op) f) (ha:PEA T E X a sa) (hb:PEA T E X b sb) (hm:behindInMarks op b=false):PTA T E X (.Compare a [op] [b] pos) (yas (sOp2 f sa sb)):=by
 obtain ⟨r,h1,h2⟩:=ho
 refine yea (ziB h1 ha hb hm) fun σ H Q q=>two (E:=E) (Q:=fun x H' => ∃ k,x=V.bl k/\Q k H') h2 ?_
 obtain ⟨ι,h,en,S,er,q⟩:=q
 refine ⟨ι,h,en,S,er,q.bind fun x h1 ι1 H1 u g1 S1 r1 q1=>?_⟩
 split at q1
 ·rw [ycF r1]
  exact ⟨_,rfl,q1.now S1 rfl⟩
 ·exact q1.elim
theorem yfW {f f':F2} {r r':R2} (hs:OpS T f r) (hs':OpS T f' r') {σ:St} {H:Hp} {Q:VK} (q:tE T E (ydD f f' sa sb sc) σ H Q):yeN r r' (tE T E sa) (tE T E sb) (tE T E sc) σ H Q:=by
 obtain ⟨ι,h,en,S,er,q⟩:=q
 refine ⟨ι,h,en,S,er,q.bind fun x h1 ι1 H1 u g1 S1 r1 q1=>⟨ι1,h1,en,S1,er.mono g1,q1.bind fun y h2 ι2 H2 w g2 S2 r2 q2=>?_⟩⟩
 refine hs ι2 h2 H2 x y u w (E σ) _ S2 (r1.mono g2) r2 (q2.bind fun z h3 ι3 H3 k g3 S3 r3 q3=>?_)
 split at q3
 ·rename_i kk
  rw [ycF r3]
  refine ⟨kk,rfl,?_⟩
  by_cases hkk:kk=true
  ·rw [if_pos hkk] at q3 ⊢
   refine ⟨ι3,h3,en,S3,er.mono (g1.trans (g2.trans g3)),q3.bind fun v h4 ι4 H4 j g4 S4 r4 q4=>?_⟩
   exact hs' ι4 h4 H4 y v w j _ Q S4 (r2.mono (g3.trans g4)) r4 q4
  ·rw [if_neg hkk] at q3 ⊢
   exact q3.now S3 (.bl _)
 ·exact q3.elim
theorem zdR {op op':CmpOp} {f f':F2} (ho:Op T X (compareOp op) f) (ho':Op T X (compareOp op') f') (ha:PEA T E X a sa) (hb:PEA T E X b sb) (hc:PEA T E X c sc) (hm:lastMarks [op,op'] [b,c]=false:=by with_unfolding_all rfl) :
  PEA T E X (.Compare a [op,op'] [b,c] pos) (ydD f f' sa sb sc):=by
 obtain ⟨r,h1,h2⟩:=ho
 obtain ⟨r',h1',h2'⟩:=ho'
 exact yaZ (zhH h1 h1' ha hb hc hm) fun σ H Q q=>yfW h2 h2' q
theorem zeN {op op':CmpOp} {f f':F2} (ho:Op T X (compareOp op) f) (ho':Op T X (compareOp op') f') (ha:PEA T E X a sa) (hb:PEA T E X b sb) (hc:PEA T E X c sc) (hm:lastMarks [op,op'] [b,c]=false:=by with_unfolding_all rfl) :
  PTA T E X (.Compare a [op,op'] [b,c] pos) (yas (ydD f f' sa sb sc)):=by
 obtain ⟨r,h1,h2⟩:=ho
 obtain ⟨r',h1',h2'⟩:=ho'
 refine yea (zhI h1 h1' ha hb hc hm) fun σ H Q q=>yfW (E:=E) (Q:=fun x H' => ∃ k,x=V.bl k/\Q k H') h2 h2' ?_
 obtain ⟨ι,h,en,S,er,q⟩:=q
 refine ⟨ι,h,en,S,er,q.bind fun x h1 ι1 H1 u g1 S1 r1 q1=>?_⟩
 split at q1
 ·rw [ycF r1]
  exact ⟨_,rfl,q1.now S1 rfl⟩
 ·exact q1.elim
theorem ygQ {ι:Ix} {h:AH} {H:Hp} {v:AV} {u:V} {k:Bool} (S:Sim T ι h H) (r:RV T ι H v u) (e:truA v h=some k):TruV T.K u H k:=by
 unfold truA at e
 cases r with
 | non=>cases e;rfl
 | bl b=>cases e;rfl
 | int b=>cases e;rfl
 | str n o=>cases e;exact ⟨n,rfl⟩
 | tup n q r=>cases e;exact .inr (.inl ⟨_,.of q,by cases r<;>rfl⟩)
 | fl n q r=>cases e;exact .inl ⟨_,.inl q,by cases r<;>rfl⟩
 | kfl q r=>cases e;exact .inl ⟨_,.inr q,by cases r<;>rfl⟩
 | @ref n a q =>
  dsimp only at e
  split at e
  ·rename_i xs hk
   cases e
   obtain ⟨u,e1,us,rfl,r⟩:=S.obj n _ a hk q
   exact .inl ⟨us,.inl (.inl e1),by cases r<;>rfl⟩
  ·rename_i xs hk
   cases e
   obtain ⟨u,e1,us,rfl,r⟩:=S.obj n _ a hk q
   exact .inr (.inr ⟨us,e1,by cases r<;>rfl⟩)
  ·cases e
 | exc _ _ _=>cases e
theorem za7 (hK:X.K=T.K) (ha:PEA T E X a sa) (he:∀ whole,isTrue a X.env whole=(do let v <- whole;standAt a.pos;holding [v] (truthy v)):=by intro _;rfl):PTA T E X a (ydT sa) :=
 yea (zhJ ha he) fun σ H Q ⟨ι,h,en,S,er,q⟩=>⟨ι,h,en,S,er,q.bind fun x h1 ι1 H1 u g1 S1 r1 q1=>by
  split at q1
  ·rename_i b hb
   exact ⟨b,hK▸ygQ S1 r1 hb,q1.now S1 rfl⟩
  ·exact q1.elim⟩
variable {ca cb:SB} {rest:List Expr}
theorem ydh (ha:PTA T E X a ca):PTA T E X (.UnaryOp .Not a pos) (sNot ca) :=
 yea (ygh ha) fun σ H Q ⟨ι,h,en,S,er,q⟩=>⟨ι,h,en,S,er,q.bind fun x h1 ι1 H1 u g1 S1 r1 q1=>by subst r1;exact q1.now S1 rfl⟩
theorem rt_w (h:PWA T E X a ca):PTA T E X a ca:=PW.pt h
theorem yes (ha:PTA T E X a ca):PWA T E X (.BoolOp .Or [a] pos) ca:=ygg ha
theorem yeI (ha:PTA T E X a ca) (hb:PWA T E X (.BoolOp .Or (b::rest) pos) cb):PWA T E X (.BoolOp .Or (a::b::rest) pos) (sOr ca cb) :=
 ygN (yhf ha hb) fun σ H Q ⟨ι,h,en,S,er,q⟩=>⟨ι,h,en,S,er,q.bind fun x h1 ι1 H1 u g1 S1 r1 q1=>by
  subst r1
  by_cases hx:x=true
  ·rw [if_pos hx] at q1 ⊢
   exact q1.now S1 rfl
  ·rw [if_neg hx] at q1 ⊢
   exact ⟨ι1,h1,en,S1,er.mono g1,q1⟩⟩
theorem yet {op} (h:PEA T E X a sa):PEA T E X (.BoolOp op [a] pos) sa:=ygi h
theorem yeJ (ha:PEA T E X a sa) (hb:PEA T E X (.BoolOp .And (b::rest) pos) sb):PEA T E X (.BoolOp .And (a::b::rest) pos) (yep sa sb) :=
 yaZ (ygj ha hb) fun σ H Q ⟨ι,h,en,S,er,q⟩=>⟨ι,h,en,S,er,q.bind fun x h1 ι1 H1 u g1 S1 r1 q1=>by
  split at q1
  ·rename_i kk
   rw [ycF r1]
   refine ⟨kk,rfl,?_⟩
   by_cases hkk:kk=true
   ·rw [if_pos hkk] at q1 ⊢
    exact ⟨ι1,h1,en,S1,er.mono g1,q1⟩
   ·rw [if_neg hkk] at q1 ⊢
    exact q1.now S1 (.bl _)
  ·exact q1.elim⟩
theorem r_or (ha:PEA T E X a sa) (hb:PEA T E X (.BoolOp .Or (b::rest) pos) sb):PEA T E X (.BoolOp .Or (a::b::rest) pos) (sOrV sa sb) :=
 yaZ (yhi ha hb) fun σ H Q ⟨ι,h,en,S,er,q⟩=>⟨ι,h,en,S,er,q.bind fun x h1 ι1 H1 u g1 S1 r1 q1=>by
  split at q1
  ·rename_i kk
   rw [ycF r1]
   refine ⟨kk,rfl,?_⟩
   by_cases hkk:kk=true
   ·rw [if_pos hkk] at q1 ⊢
    exact q1.now S1 (.bl _)
   ·rw [if_neg hkk] at q1 ⊢
    exact ⟨ι1,h1,en,S1,er.mono g1,q1⟩
  ·exact q1.elim⟩
theorem yhH (ha:PEA T E X a sa):PEA T E X (.UnaryOp .Not a pos) (yfS sa) :=
 yaZ (ygk ha) fun σ H Q ⟨ι,h,en,S,er,q⟩=>⟨ι,h,en,S,er,q.bind fun x h1 ι1 H1 u g1 S1 r1 q1=>by
  split at q1
  ·rw [ycF r1]
   exact ⟨_,rfl,q1.now S1 (.bl _)⟩
  ·exact q1.elim⟩
variable {es:List Expr} {as:SL}
theorem yac:PAA T E X [] sNil:=yfs yfk fun σ H Q ⟨ι,h,en,S,er,q⟩=>q.now S .nil
theorem zaa (ha:PEA T E X a sa) (hr:PAA T E X es as) (hs:starEach (a::es) X.env=(false,eval a X.env)::starEach es X.env:=by rfl):PAA T E X (a::es) (yab sa as) :=
 yfs (zdO ha hr hs) fun σ H Q ⟨ι,h,en,S,er,q⟩=>⟨ι,h,en,S,er,q.bind fun x h1 ι1 H1 u g1 S1 r1 q1=>⟨ι1,h1,en,S1,er.mono g1,q1.bind fun xs h2 ι2 H2 us g2 S2 r2 q2=>q2.now S2 (.cons (r1.mono g2) r2)⟩⟩
theorem ycd {k} (h:PAA T E X es as):PEA T E X (.Tuple es k pos) (sTup as) :=
 yaZ (ygy h) fun σ H Q ⟨ι,h,en,S,er,q⟩=>⟨ι,h,en,S,er,q.bind fun xs h1 ι1 H1 us g1 S1 r1 q1=>by
  split at q1
  ·rename_i hl
   exact ⟨by rw [<- r1.length];exact Nat.le_trans hl (by decide),fun p n=>zdQ S1 r1 n q1⟩
  ·exact q1.elim⟩
theorem yd7 (h:PAA T E X es as):PEA T E X (.List es pos) (sLst as) :=
 yaZ (yfl h) fun σ H Q ⟨ι,h,en,S,er,q⟩=>⟨ι,h,en,S,er,q.bind fun xs h1 ι1 H1 us g1 S1 r1 q1=>by
  split at q1
  ·rename_i hl
   exact ⟨by rw [<- r1.length];exact Nat.le_trans hl (by decide),fun p n=>yer S1 r1 n q1⟩
  ·exact q1.elim⟩
theorem ycu (h:PAA T E X es as):PEA T E X (.List es pos) (ycQ as) :=
 yaZ (yfl h) fun σ H Q ⟨ι,h,en,S,er,q⟩=>⟨ι,h,en,S,er,q.bind fun xs h1 ι1 H1 us g1 S1 r1 q1=>by
  split at q1
  ·rename_i hl
   exact ⟨by rw [<- r1.length];exact Nat.le_trans hl (by decide),fun p n=>ziW S1 r1 n q1⟩
  ·exact q1.elim⟩
theorem ziZ:PEA T E X (.Dict [] [] pos) (yfR true) :=
 yaZ zhR fun σ H Q ⟨ι,h,en,S,er,q⟩ p n=>q _ _ _ (S.growAdd n) (S.add n ⟨[],rfl,.nil⟩) (.ref S.addAt)
end
end Sm
namespace Sm
open PySem L2
section
variable {T:Tb} {E:St->XK} {X:Cx} {pos:Pos} {a b:Expr} {sa sb:SE} {ca:SB} {st:Stmt} {sts ss1 ss2:List Stmt} {s1 s2:SS}
theorem yax:PSsA T E X [] yaB:=zfJ ziw fun D σ H ⟨ι,h,en,S,er,q⟩=>q ι H σ S.refl S er
theorem zab (h1:PSA T E X st s1) (h2:PSsA T E X sts s2):PSsA T E X (st::sts) (sSeq s1 s2) :=
 zfJ (zhE h1 h2) fun D σ H ⟨ι,h,en,S,er,q⟩=>by
  refine ⟨ι,h,en,S,er,?_⟩
  unfold sSeq at q
  cases e:s1 en h with
  | nx e1 h1 =>
   rw [e] at q
   exact fun ι' H' σ' g S' er' => ⟨ι',h1,e1,S',er',q.shift g⟩
  | rt v h1=>rw [e] at q;exact q
  | bk e1 h1=>rw [e] at q;exact q
  | ct e1 h1=>rw [e] at q;exact q
  | ex c e1 h1=>rw [e] at q;exact q
  | bad=>rw [e] at q;exact q
theorem yag (h1:PSA T E X st s1):PSsA T E X [st] s1:=zix h1
theorem zgv:PSA T E X (.Continue pos) yfT:=ych zfd fun D σ H ⟨ι,h,en,S,er,q⟩=>q ι H σ S.refl S er
theorem yaJ (ha:PEA T E X a sa) (hs:swapsWith a none pos.line X.env=pure false:=by rfl):PSA T E X (.Expr a pos) (yaT sa) :=
 ych (ziy ha hs) fun D σ H ⟨ι,h,en,S,er,q⟩=>⟨ι,h,en,S,er,q.go er fun v h1 ι1 H1 u g1 S1 r1 q1=>q1 ι1 H1 σ S1.refl S1 (er.mono g1)⟩
theorem yar (ha:PEA T E X a sa):PSA T E X (.Return (some a) pos) (sRet sa) :=
 ych (ygl ha) fun D σ H ⟨ι,h,en,S,er,q⟩=>⟨ι,h,en,S,er,q.go er fun v h1 ι1 H1 u g1 S1 r1 q1=>q1 ι1 H1 u S1.refl S1 r1⟩
theorem r_if (hc:PTA T E X a ca) (h1:PSsA T E X ss1 s1) (h2:PSsA T E X ss2 s2):PSA T E X (.If a ss1 ss2 pos) (sIf ca s1 s2) :=
 ych (yhm hc h1 h2) fun D σ H ⟨ι,h,en,S,er,q⟩=>⟨ι,h,en,S,er,q.go er fun x h1 ι1 H1 u g1 S1 r1 q1=>by
  subst r1
  by_cases hx:x=true
  ·rw [if_pos hx] at q1 ⊢
   exact ⟨ι1,h1,en,S1,er.mono g1,q1⟩
  ·rw [if_neg hx] at q1 ⊢
   exact ⟨ι1,h1,en,S1,er.mono g1,q1⟩⟩
theorem yeR {σ:St} {H:Hp} {D:Ends} {i:Nat} (q:tS T E (sSet i sa) D σ H):tAsg (tE T E sa) (yd5 i) D σ H:=by
 obtain ⟨ι,h,en,S,er,q⟩:=q
 exact ⟨ι,h,en,S,er,q.go er fun v h1 ι1 H1 u g1 S1 r1 q1=>q1 ι1 H1 _ S1.refl S1 ((er.mono g1).set r1 i)⟩
theorem yao {i:Nat} {x:Str} {p':Pos} (hN:X.N.Nodup) (ha:PEA T E X a sa) (hi:X.N[i]? = some x:=by rfl) (hx:Loc X.env.scope x:=by first | exact Or.inl rfl | exact Or.inr rfl) (hs:swapsWith a (some (.Name x p')) pos.line X.env=pure false:=by rfl)
  (hf:X.fn x=true\/X.env.scope.names.lookup x=some .local:=by first | exact .inl rfl | exact .inr rfl | assumption):PSA T E X (.Assign [.Name x p'] a pos) (sSet i sa) :=
 ych (ygn hN hi hx ha hs hf) fun D σ H q=>yeR q
theorem zdS (n:Nat) (hc:PTA T EN X.nox a ca) (hb:PSsA T EN X.nox sts s1):PSA T E X (.While a sts [] pos) (ybu ca s1 n) :=
 ych (yft (zhF PassesOwn.never hc hb)) fun D σ H ⟨ι,h,en,S,er,q⟩=>by
  refine ⟨fun m σ H=>∃ ι h en,Sim T ι h H/\ER T ι H en σ/\PostS T ι H E (ybu ca s1 m en h) D,⟨n,ι,h,en,S,er,q⟩,?_⟩
  rintro m σ H ⟨ι,h,en,S,er,q⟩
  cases m with
  | zero=>exact (show False from q).elim
  | succ m =>
   unfold ybu at q
   refine ⟨ι,h,en,S,er,?_⟩
   cases e:ca en h with
   | bad=>rw [e] at q;exact q
   | ex c h1=>rw [e] at q;exact (show False from q).elim
   | ok x h1 =>
    rw [e] at q
    intro ι1 H1 u g1 S1 r1
    subst r1
    have q1:=PostS.shift q g1
    cases x with
    | true =>
     rw [if_pos rfl]
     refine ⟨fun σ H=>∃ ι h en,Sim T ι h H/\ER T ι H en σ/\PostS T ι H E (ybu ca s1 m en h) D,fun σ' H' w=>⟨m,Nat.lt_succ_self m,w⟩,ι1,h1,en,S1,er.mono g1,?_⟩
     dsimp only at q1
     cases e2:s1 en h1 with
     | nx e3 h3=>rw [e2] at q1;exact fun ι2 H2 σ2 g2 S2 er2=>⟨ι2,h3,e3,S2,er2,q1.shift g2⟩
     | ct e3 h3=>rw [e2] at q1;exact fun ι2 H2 σ2 g2 S2 er2=>⟨ι2,h3,e3,S2,er2,q1.shift g2⟩
     | bk e3 h3=>rw [e2] at q1;exact q1
     | rt v h3=>rw [e2] at q1;exact q1
     | ex c e3 h3=>rw [e2] at q1;exact (show False from q1).elim
     | bad=>rw [e2] at q1;exact q1
    | false =>
     rw [if_neg Bool.false_ne_true]
     exact q1 ι1 H1 σ S1.refl S1 (er.mono g1)
theorem zee {ι:Ix} {H:Hp}:∀ {is:List Nat} {xs:List AV} {us:List V} {en e:En} {σ:St},RVs T ι H xs us->ER T ι H en σ->yeO is xs en=some e->ER T ι H e ((is.zip us).foldl (fun σ p=>σ.set p.1 (some p.2)) σ)/\us.length=is.length
 | [],_,_,en,e,σ,.nil,er,q=>by cases q;exact ⟨er,rfl⟩
 | i::is,_,_,en,e,σ,.cons r rs,er,q=>by
  obtain ⟨h1,h2⟩:=zee (is:=is) rs (er.set r i) q
  exact ⟨h1,by simp [h2]⟩
 | [],_,_,en,e,σ,.cons r rs,er,q=>by cases q
 | i::is,_,_,en,e,σ,.nil,er,q=>by cases q
def PGA (T:Tb) (X:Cx) (tg:Expr) (t:Tg):Prop:=∃ g,PG X tg g/\∀ {ι:Ix} {h:AH} {H:Hp} {en e:En} {σ:St} {v:AV} {u:V} {Q:St->Hp->Prop},Sim T ι h H->ER T ι H en σ->RV T ι H v u->setT t v en=some e ->
 (∀ σ',ER T ι H e σ'->Q σ' H)->g u σ H Q
theorem zaY {i:Nat} {x:Str} (hN:X.N.Nodup) (hi:X.N[i]? = some x:=by rfl) (hx:Loc X.env.scope x:=by first | exact Or.inl rfl | exact Or.inr rfl) (hf:X.fn x=true\/X.env.scope.names.lookup x=some .local:=by first | exact .inl rfl | exact .inr rfl | assumption) :
  PGA T X (.Name x pos) (.nm i):=⟨_,zcJ hN hi hx hf,fun S er r e k=>by cases e;exact k _ (er.set r i)⟩
def PGsA (X:Cx) (es:List Expr) (is:List Nat):Prop:=PGs X es (fun vs σ H Q=>vs.length=is.length/\Q ((is.zip vs).foldl (fun σ p=>σ.set p.1 (some p.2)) σ) H)
theorem zfM {X:Cx} {es:List Expr} {t t':TGs} (h:PGs X es t) (k:∀ vs σ H Q,t' vs σ H Q->t vs σ H Q):PGs X es t' := fun pins s σ H vs us Q I r q=>h pins s σ H vs us Q I r (k vs σ H Q q)
theorem zfN:PGsA X [] []:=zfM zfx fun vs σ H Q ⟨l,q⟩=>by
 cases vs with
 | nil=>exact ⟨rfl,q⟩
 | cons=>cases l
theorem zbf {i:Nat} {is:List Nat} {x:Str} {p:Pos} {es:List Expr} (hN:X.N.Nodup) (hr:PGsA X es is) (hi:X.N[i]? = some x:=by rfl) (hx:Loc X.env.scope x:=by first | exact Or.inl rfl | exact Or.inr rfl)
  (hf:X.fn x=true\/X.env.scope.names.lookup x=some .local:=by first | exact .inl rfl | exact .inr rfl | assumption) (hs:(assignEach (.Name x p::es) X.env).map (·.2)=assign (.Name x p) X.env::(assignEach es X.env).map (·.2):=by rfl):PGsA X (.Name x p::es) (i::is) :=
 zfM (zdb (zcJ hN hi hx hf) hr hs) fun vs σ H Q ⟨l,q⟩=>by
  cases vs with
  | nil=>cases l
  | cons v r=>exact ⟨v,r,rfl,Nat.succ.inj l,q⟩
theorem yfu {es:List Expr} {is:List Nat} {k:Nat} (hK:X.K=T.K) (hc:X.calm=true) (h:PGsA X es is) (hn:(assignEach es X.env).length=is.length:=by rfl) (hst:(assignEach es X.env).findIdx? (·.1)=none:=by rfl):PGA T X (.Tuple es k pos) (.tup is) :=
 ⟨_,yfh hc h hn hst,fun {ι h H en e σ v u Q} S er r q k=>by
  unfold setT at q
  split at q
  ·rename_i hh;cases hh
  ·rename_i hh
   cases hh
   obtain ⟨a,us,rfl,q1,r1⟩:=ydE r
   obtain ⟨h1,h2⟩:=zee r1 er q
   exact ⟨a,us,rfl,hK▸q1,h2,h2,k _ h1⟩
  ·cases q⟩
theorem yfv {tg:Expr} {t:Tg} (ha:PEA T E X a sa) (hg:PGA T X tg t) (hs:swapsWithSole [tg] a pos.line X.env=pure false:=by rfl) (hw:swappedStores [tg] a X.env=pure none:=by rfl)
  (h1:(assignEach [tg] X.env).map (·.2)=[assign tg X.env]:=by rfl):PSA T E X (.Assign [tg] a pos) (ye4 t sa):=by
 obtain ⟨g,hg1,hg2⟩:=hg
 refine ych (yfi ha hg1 hs hw h1) fun D σ H ⟨ι,h,en,S,er,q⟩=>⟨ι,h,en,S,er,q.go er fun v h1 ι1 H1 u g1 S1 r1 q1=>?_⟩
 split at q1
 ·rename_i e he
  exact hg2 S1 (er.mono g1) r1 he fun σ' er' => q1 ι1 H1 σ' S1.refl S1 er'
 ·exact q1.elim
structure ItR (T:Tb) (J:It) (ι:Ix) (H:Hp) (xs:List AV) (w:Option Nat):Prop where
 go:∀ (i:Nat) (ι':Ix) (h':AH) (H':Hp) (x:AV),Ext ι H ι' H'->Sim T ι' h' H'->yb7 w xs h'=true->xs[i]? = some x->J.go i H'/\∀ u H2,J.yld i H' u H2->Grow ι' H' ι' H2/\Sim T ι' h' H2/\RV T ι' H2 x u
 stop:∀ (i:Nat) (ι':Ix) (h':AH) (H':Hp),Ext ι H ι' H'->Sim T ι' h' H'->yb7 w xs h'=true->xs.length<=i->J.stop i H'
def tI (T:Tb) (it:SI):TI:=fun σ H R=>∃ ι h en,Sim T ι h H/\ER T ι H en σ/\match it en h with
 | .ok (xs,w) h' => ∀ ι' H' J,Grow ι H ι' H'->Sim T ι' h' H'->ItR T J ι' H' xs w->R J H'
 | _=>False
abbrev PIA (T:Tb) (X:Cx) (tg iter:Expr) (it:SI):Prop:=PI X tg iter (tI T it)
theorem yeu {X:Cx} {tg iter:Expr} {t t':TI} (h:PI X tg iter t) (k:∀ σ H R,t' σ H R->t σ H R):PI X tg iter t' := fun pins s σ H R I q=>h pins s σ H R I (k σ H R q)
theorem PI.or {X:Cx} {tg iter:Expr} {t t':TI} (h:PI X tg iter t) (h':PI X tg iter t'):PI X tg iter (fun σ H R=>t σ H R\/t' σ H R):=fun pins s σ H R I q=>q.elim (h pins s σ H R I) (h' pins s σ H R I)
theorem yfw {ι:Ix} {H:Hp} {a:Addr} {us:List V} {xs:List AV} {K:PySem.W.Frag} (keep:∀ (ι':Ix) (H':Hp),Ext ι H ι' H'->SqL K H' a us) (r:RVs T ι H xs us):ItR T (Itl K a) ι H xs none:=by
 constructor
 ·intro i ι' h' H' x g S _ e
  obtain ⟨u,e1,r1⟩:=(r.ext g).get e
  refine ⟨⟨us,u,keep ι' H' g,e1⟩,?_⟩
  rintro u2 H2 ⟨rfl,y⟩
  have z:=y us (keep ι' _ g)
  rw [e1] at z;cases z
  exact ⟨S.refl,S,r1⟩
 ·intro i ι' h' H' g S _ hl
  exact ⟨us,keep ι' H' g,by rw [<- r.length];exact hl⟩
theorem ygR {ι:Ix} {H:Hp} {a:Addr} {us:List V} {xs:List AV} {K:PySem.W.Frag} (keep:∀ (ι':Ix) (H':Hp),Ext ι H ι' H'->SqT K H' a us) (r:RVs T ι H xs us):ItR T (Itt K a) ι H xs none:=by
 constructor
 ·intro i ι' h' H' x g S _ e
  obtain ⟨u,e1,r1⟩:=(r.ext g).get e
  refine ⟨⟨us,u,keep ι' H' g,e1⟩,?_⟩
  rintro u2 H2 ⟨rfl,y⟩
  have z:=y us (keep ι' _ g)
  rw [e1] at z;cases z
  exact ⟨S.refl,S,r1⟩
 ·intro i ι' h' H' g S _ hl
  exact ⟨us,keep ι' H' g,by rw [<- r.length];exact hl⟩
theorem zi0 {ι:Ix} {H:Hp} {a:Addr} {n:Nat} {xs:List AV} {K:PySem.W.Frag} (e:ι.refs[n]? = some a):ItR T (Itl K a) ι H xs (some n):=by
 have at_:∀ {ι':Ix} {h':AH} {H':Hp},Ext ι H ι' H'->Sim T ι' h' H'->yb7 (some n) xs h'=true->∃ us,H' a=some (.lst us)/\RVs T ι' H' xs us:=fun {ι' h' H'} g S l=>by
  unfold yb7 at l
  dsimp only at l
  split at l
  ·rename_i ys hy
   have z:=of_decide_eq_true l
   subst z
   obtain ⟨u,e1,us,rfl,r⟩:=S.obj n _ a hy (g.at_ e)
   exact ⟨us,e1,r⟩
  ·cases l
 constructor
 ·intro i ι' h' H' x g S l e
  obtain ⟨us,e0,r⟩:=at_ g S l
  obtain ⟨u,e1,r1⟩:=r.get e
  refine ⟨⟨us,u,.of e0,e1⟩,?_⟩
  rintro u2 H2 ⟨rfl,y⟩
  have z:=y us (.of e0)
  rw [e1] at z;cases z
  exact ⟨S.refl,S,r1⟩
 ·intro i ι' h' H' g S l hl
  obtain ⟨us,e0,r⟩:=at_ g S l
  exact ⟨us,.of e0,by rw [<- r.length];exact hl⟩
theorem zi1 {ι:Ix} {H:Hp} {x:Str} (o:x.cps.all (· < 0x110000)=true):ItR T (Its x) ι H (x.cps.toList.map fun c=>.str ⟨#[c]⟩) none:=by
 constructor
 ·intro i ι' h' H' y g S _ e
  rw [List.getElem?_map] at e
  obtain ⟨c,e1,rfl⟩:=Option.map_eq_some_iff.mp e
  have hi:i<x.cps.size:=by
   have:=(List.getElem?_eq_some_iff.mp e1).1
   simpa using this
  refine ⟨hi,?_⟩
  rintro u H2 ⟨rfl,c',e2,rfl⟩
  have z:x.cps[i]? = some c:=by simpa using e1
  rw [e2] at z;cases z
  refine ⟨S.refl,S,.str (show 1<=sizeLine by decide) ?_⟩
  have m:=Array.mem_of_getElem? e2
  have:=Array.all_eq_true_iff_forall_mem.mp o _ m
  simpa using this
 ·intro i ι' h' H' g S _ hl
  show x.cps.size<=i
  simpa using hl
theorem zgw (n:Nat):∀ (lo:Int) (i:Nat),(yaL lo n)[i]? = if i<n then some (.int (lo+i)) else none:=by
 induction n with
 | zero=>intro lo i;simp [yaL]
 | succ n ih =>
  intro lo i
  cases i with
  | zero=>simp [yaL]
  | succ i =>
   show (yaL (lo+1) n)[i]? = _
   rw [ih]
   by_cases h:i<n
   ·rw [if_pos h,if_pos (by omega)]
    congr 2
    show lo+1+(i:Int)=lo+((i+1:Nat):Int)
    omega
   ·rw [if_neg h,if_neg (by omega)]
theorem zex (n:Nat):∀ lo:Int,(yaL lo n).length=n:=by
 induction n with
 | zero=>intro lo;rfl
 | succ n ih=>intro lo;show (yaL (lo+1) n).length+1=n+1;rw [ih]
theorem zhc {ι:Ix} {H:Hp} {lo:Int} {n:Nat}:ItR T (Itr lo n) ι H (yaL lo n) none:=by
 constructor
 ·intro i ι' h' H' y g S _ e
  rw [zgw] at e
  split at e
  ·rename_i hi
   cases e
   refine ⟨hi,?_⟩
   rintro u H2 ⟨rfl,rfl⟩
   exact ⟨S.refl,S,.int _⟩
  ·cases e
 ·intro i ι' h' H' g S _ hl
  rw [zex] at hl
  exact hl
theorem zcu:∀ (xs:List AV) (k i:Nat),(numbered k xs)[i]? = (xs[i]?).map fun x=>.tup [.int ((k+i:Nat):Int),x]
 | [],k,i=>by simp [numbered]
 | x::xs,k,0=>by simp [numbered]
 | x::xs,k,i+1=>by
  show (numbered (k+1) xs)[i]? = _
  rw [zcu xs (k+1) i]
  show _=(xs[i]?).map _
  congr 1
  funext y
  rw [show k+1+i=k+(i+1) by omega]
theorem zbM:∀ (xs:List AV) (k:Nat),(numbered k xs).length=xs.length
 | [],_=>rfl
 | x::xs,k=>by show (numbered (k+1) xs).length+1=_;rw [zbM xs];rfl
theorem yhI {ι:Ix} {H:Hp} {a:Addr} {us:List V} (n:a∉ι.all) (h:Rd H a (.lst us)):∀ (ι':Ix) (H':Hp),Ext ι H ι' H'->SqL T.K H' a us:=fun _ _ g=>.inl (zfI g n h)
theorem yhJ {ι:Ix} {H:Hp} {a:Addr} {us:List V} (n:a∉ι.all) (h:H a=some (.tup us)):∀ (ι':Ix) (H':Hp),Ext ι H ι' H'->SqT T.K H' a us:=fun _ _ g=>.of (g.keep _ _ n h)
theorem yfx {K K':PySem.W.Frag} {H:Hp} {a:Addr} {us:List V} (e:K=K') (h:SqL K' H a us):SqL K H a us:=e▸h
theorem yfX {σ:St} {H:Hp} {R:It->Hp->Prop} {ι:Ix} {h h1:AH} {en:En} {v:AV} {xs:List AV} {w:Option Nat} (hK:X.K=T.K) (S:Sim T ι h H) (er:ER T ι H en σ) (e:sa en h = .ok v h1) (hv:(v = .fl xs/\w=none)\/∃ n,v = .ref n/\h1[n]? = some (.lst xs)/\w=some n)
  (q:∀ ι' H' J,Grow ι H ι' H'->Sim T ι' h1 H'->ItR T J ι' H' xs w->R J H'):yfN X.K (tE T E sa) σ H R:=by
 refine ⟨ι,h,en,S,er,?_⟩
 rw [e]
 intro ι1 H1 u g1 S1 r1
 rcases hv with ⟨rfl,rfl⟩ | ⟨n,rfl,hn,rfl⟩
 ·cases r1 with
  | fl n hr rs=>exact ⟨_,rfl,⟨_,yfx hK (.inl hr)⟩,q ι1 H1 _ g1 S1 (hK▸yfw (yhI n hr) rs)⟩
  | kfl hr rs=>exact ⟨_,rfl,⟨_,yfx hK (.inr hr)⟩,q ι1 H1 _ g1 S1 (hK▸yfw (fun _ _ _=>.inr hr) rs)⟩
 ·cases r1 with
  | ref hr =>
   obtain ⟨u,e1,us,rfl,rs⟩:=S1.obj n _ _ hn hr
   exact ⟨_,rfl,⟨_,.of e1⟩,q ι1 H1 _ g1 S1 (zi0 hr)⟩
theorem yhK {σ:St} {H:Hp} {R:It->Hp->Prop} {ι:Ix} {h h1:AH} {en:En} {xs:List AV} (hK:X.K=T.K) (S:Sim T ι h H) (er:ER T ι H en σ) (e:sa en h = .ok (.tup xs) h1)
  (q:∀ ι' H' J,Grow ι H ι' H'->Sim T ι' h1 H'->ItR T J ι' H' xs none->R J H'):iTup X.K (tE T E sa) σ H R:=by
 refine ⟨ι,h,en,S,er,?_⟩
 rw [e]
 intro ι1 H1 u g1 S1 r1
 cases r1 with
 | tup n hr rs=>exact ⟨_,rfl,⟨_,.of hr⟩,q ι1 H1 _ g1 S1 (hK▸ygR (yhJ n hr) rs)⟩
theorem yd1 {y:Str} {py:Pos} (hK:X.K=T.K) (ha:PEA T E X a sa):PIA T X (.Name y py) a (iVal sa) :=
 yeu (PI.or (ziz ha) (PI.or (ygp ha) (ygH ha))) fun σ H R ⟨ι,h,en,S,er,q⟩=>by
  unfold iVal at q
  cases e:sa en h with
  | bad=>rw [e] at q;exact q.elim
  | ex c h1=>rw [e] at q;exact q.elim
  | ok v h1 =>
   rw [e] at q
   cases v with
   | fl xs=>exact .inl (yfX hK S er e (.inl ⟨rfl,rfl⟩) q)
   | tup xs=>exact .inr (.inl (yhK hK S er e q))
   | str z =>
    refine .inr (.inr ⟨ι,h,en,S,er,?_⟩)
    rw [e]
    intro ι1 H1 u g1 S1 r1
    obtain ⟨rfl,_,o⟩:=ya8 r1
    exact ⟨_,rfl,q ι1 H1 _ g1 S1 (zi1 o)⟩
   | ref n =>
    dsimp only [Out.bind] at q
    cases e2:h1[n]? with
    | none=>rw [e2] at q;exact q.elim
    | some o =>
     rw [e2] at q
     cases o with
     | lst xs=>exact .inl (yfX hK S er e (.inr ⟨n,rfl,e2,rfl⟩) q)
     | _=>exact q.elim
   | _=>exact q.elim
theorem zaM {tg:Expr} {p:Pos} (hg:Gl X "range") (hm:X.mg "range" = none) (ha:PEA T E X a sa) (hs:starEach [a] X.env=[(false,eval a X.env)]:=by rfl):PIA T X tg (.Call (.Name "range" p) [a] [] pos) (yaI sa) :=
 yeu (zgO hg hm (zaa ha yac hs) hs) fun σ H R ⟨ι,h,en,S,er,q⟩=>by
  unfold yaI at q
  refine ⟨ι,h,en,S,er,?_⟩
  unfold yab
  cases e:sa en h with
  | bad=>rw [e] at q;exact q
  | ex c h1=>rw [e] at q;exact q.elim
  | ok v h1 =>
   rw [e] at q
   intro ι1 H1 u g1 S1 r1
   dsimp only [Out.bind] at q
   cases v with
   | int j =>
    dsimp only at q
    split at q
    ·rename_i hx
     split at hx
     ·rename_i hb
      cases hx
      cases r1 with
      | cons r r' =>
       cases r'
       rw [yaE r]
       exact ⟨j,rfl,by omega,by omega,q ι1 H1 _ g1 S1 zhc⟩
     ·cases hx
    ·exact q.elim
   | _=>exact q.elim
theorem zcv {α:Type} {xs:List α} {i:Nat} (h:i<xs.length):xs.drop i=xs[i]::xs.drop (i+1):=by simp
theorem ydz {tg iter:Expr} {it:SI} {t:Tg} (hc:X.calm=true) (hi:PIA T X.nox tg iter it) (hg:PGA T X.nox tg t) (hb:PSsA T EN X.nox sts s1) (hs:∀ x,foldedSetIterable iter X.nox.env x=pure x:=by intro _;rfl) :
  PSA T E X (.For tg iter sts [] pos) (sFor it t s1):=by
 obtain ⟨g,hg1,hg2⟩:=hg
 refine ych (yft (ygq PassesOwn.never hc hi hg1 hb hs)) fun D σ H ⟨ι,h,en,S,er,q⟩=>⟨ι,h,en,S,er,?_⟩
 unfold sFor at q
 cases e:it en h with
 | bad=>rw [e] at q;exact q
 | ex c h1=>rw [e] at q;exact q
 | ok p h1 =>
  obtain ⟨xs,w⟩:=p
  rw [e] at q
  intro ι1 H1 J g1 S1 IR
  refine ⟨fun i m σ H=>m=xs.length-i/\i<=xs.length/\∃ ι' h' en',Grow ι1 H1 ι' H/\Sim T ι' h' H/\ER T ι' H en' σ/\PostS T ι' H E (ybM w xs t s1 (xs.drop i) en' h') D,
   ⟨xs.length,by simp,Nat.zero_le _,ι1,h1,en,S1.refl,S1,er.mono g1,PostS.shift q g1⟩,?_⟩
  rintro i m σ H ⟨rfl,hi,ι',h',en',g',S',er',q'⟩
  by_cases hl:i<xs.length
  ·rw [zcv hl] at q'
   unfold ybM at q'
   split at q'
   ·rename_i hlive
    obtain ⟨go,yld⟩:=IR.go i ι' h' H xs[i] g'.ext S' hlive (by simp [hl])
    refine .inr ⟨go,fun σ H=>∃ ι' h' en',Grow ι1 H1 ι' H/\Sim T ι' h' H/\ER T ι' H en' σ/\PostS T ι' H E (ybM w xs t s1 (xs.drop (i+1)) en' h') D,
     fun σ' H' w' => ⟨xs.length-(i+1),by omega,rfl,hl,w'⟩,fun x H' y=>?_⟩
    obtain ⟨g2,S2,r2⟩:=yld x H' y
    split at q'
    ·rename_i e1 he1
     refine hg2 S2 (er'.mono g2) r2 he1 fun σ' er2=>⟨ι',h',e1,S2,er2,?_⟩
     have q2:=PostS.shift q' g2
     cases e2:s1 e1 h' with
     | nx e3 h3=>rw [e2] at q2;exact fun ι3 H3 σ3 g3 S3 er3=>⟨ι3,h3,e3,g'.trans (g2.trans g3),S3,er3,q2.shift g3⟩
     | ct e3 h3=>rw [e2] at q2;exact fun ι3 H3 σ3 g3 S3 er3=>⟨ι3,h3,e3,g'.trans (g2.trans g3),S3,er3,q2.shift g3⟩
     | bk e3 h3=>rw [e2] at q2;exact q2
     | rt v h3=>rw [e2] at q2;exact q2
     | ex c e3 h3=>rw [e2] at q2;exact (show False from q2).elim
     | bad=>rw [e2] at q2;exact q2
    ·exact (show False from q').elim
   ·exact (show False from q').elim
  ·have ei:i=xs.length:=by omega
   subst ei
   rw [List.drop_length] at q'
   unfold ybM at q'
   split at q'
   ·rename_i hlive
    exact .inl ⟨IR.stop _ ι' h' H g'.ext S' hlive (Nat.le_refl _),q' ι' H σ S'.refl S' er'⟩
   ·exact (show False from q').elim
theorem ER.comp {ι:Ix} {H:Hp} {en:En} {σ:St} {x:AV} {u:V} {jf:List (Nat×Str)} (er:ER T ι H en σ) (r:RV T ι H x u):ER T ι H (some x::(jf.map (·.1)).map fun j=>(en[j]?).join) (ybL (some u) jf σ):=by
 refine ⟨by simp [ybL],fun i v e=>?_⟩
 cases i with
 | zero=>simp at e;subst e;exact ⟨u,rfl,r⟩
 | succ i =>
  simp only [List.getElem?_cons_succ,List.getElem?_map] at e
  unfold ybL
  simp only [List.getElem?_cons_succ,List.getElem?_map]
  cases e1:jf[i]? with
  | none=>rw [e1] at e;cases e
  | some j =>
   rw [e1] at e
   simp only [Option.map_some,Option.some.injEq] at e
   have e2:en[j.1]? = some (some v):=by
    cases e3:en[j.1]? with
    | none=>rw [e3] at e;cases e
    | some o=>rw [e3] at e;exact congrArg some e
   obtain ⟨u',e4,r'⟩:=er.2 j.1 v e2
   exact ⟨u',by simp [e4],r'⟩
theorem zi2 {jf:List (Nat×Str)} {it:SI} {cc:SB} {ce:SE} {σ:St} {H:Hp} {Q:VK} {ι:Ix} {h:AH} {en:En} (S:Sim T ι h H) (er:ER T ι H en σ)
  (q:match it en h with | .ok (xs,w) h1=>(match yaF (jf.map (·.1)) en w xs cc ce xs [] h1 with | .ok ys h2=>∀ ι' H' D vs,Grow ι H ι' H'->Sim T (ι'.hide D) h2 H'->RVs T (ι'.hide D) H' ys vs->H' D=some (.lst vs)->D∉ι'.all->(∀ n,ι'.refs=ι.refs++n->∀ a∈n++[D],H a=none)->Q (.ref D) H' | _=>False) | _=>False) :
  yen jf (tI T it) (tT T EN cc) (tE T EN ce) σ H Q:=by
 refine ⟨ι,h,en,S,er,?_⟩
 cases e:it en h with
 | bad=>rw [e] at q;exact q
 | ex c h1=>rw [e] at q;exact q
 | ok p h1 =>
  obtain ⟨xs,w⟩:=p
  rw [e] at q
  dsimp only at q
  intro ι1 H1 J g1 S1 IR D hD
  refine ⟨fun i m ys H2=>m=xs.length-i/\i<=xs.length/\H2 D=some (.lst ys)/\∃ ι' h' vs,Grow ι1 H1 ι' H2/\Ext ι1 H1 (ι'.hide D) H2/\Sim T (ι'.hide D) h' H2/\ER T (ι'.hide D) H2 en σ/\RVs T (ι'.hide D) H2 vs ys/\D∉ι'.refs /\
   (match yaF (jf.map (·.1)) en w xs cc ce (xs.drop i) vs h' with | .ok ys h2=>∀ ι' H' D vs,Grow ι H ι' H'->Sim T (ι'.hide D) h2 H'->RVs T (ι'.hide D) H' ys vs->H' D=some (.lst vs)->D∉ι'.all->(∀ n,ι'.refs=ι.refs++n->∀ a∈n++[D],H a=none)->Q (.ref D) H' | _=>False),?_,?_⟩
  ·exact ⟨xs.length,by simp,Nat.zero_le _,zar,ι1,h1,[],S1.growNew hD,Ext.hide hD,S1.hide hD,(er.mono g1).ext (Ext.hide hD),.nil,fun z=>S1.fresh hD (List.mem_append_left _ z),q⟩
  ·rintro i m ys H2 ⟨rfl,hi,hH2,ι',h',vs,g',x',S',er',rv',nD',q'⟩
   refine ⟨hH2,?_⟩
   by_cases hl:i<xs.length
   ·rw [zcv hl] at q'
    unfold yaF at q'
    by_cases hs:yb7 w xs h'=true/\vs.length<sizeLine
    ·rw [if_pos hs] at q'
     obtain ⟨hs1,hs2⟩:=hs
     obtain ⟨go,yld⟩:=IR.go i _ h' H2 xs[i] x' S' hs1 (by simp [hl])
     refine .inr ⟨go,by rw [<- rv'.length];exact hs2,fun x H3 y=>?_⟩
     obtain ⟨g3,S3,r3⟩:=yld x H3 y
     have er3:=er'.mono g3
     refine ⟨ι'.hide D,h',_,S3,ER.comp er3 r3,?_⟩
     cases ec:cc (some xs[i]::(jf.map (·.1)).map fun j=>(en[j]?).join) h' with
     | bad=>rw [ec] at q';exact q'
     | ex c h5=>rw [ec] at q';exact q'.elim
     | ok bb h5 =>
      rw [ec] at q'
      intro ι5 H5 b5 g5 S5 r5
      subst r5
      have g35:=g3.trans g5
      have hD5:H5 D=some (.lst ys):=g35.keep D _ nD' hH2
      have eι:ι5=Ix.hide ⟨ι5.refs,ι'.priv⟩ D:=by
       have:=g5.priv
       cases ι5
       simp only at this
       subst this
       rfl
      have nD5:D∉ι5.refs:=g35.outR nD' hH2
      have gG5:Grow ι1 H1 ⟨ι5.refs,ι'.priv⟩ H5:=by
       obtain ⟨n,en1,hn⟩:=g'.pre
       obtain ⟨k,ek,hk⟩:=g35.pre
       refine ⟨⟨n++k,?_,fun a ha=>?_⟩,g'.priv,fun a o na ea=>?_,fun a ha=>?_⟩
       ·show ι5.refs=_;rw [ek];show ι'.refs++k=_;rw [en1];simp
       ·rcases List.mem_append.mp ha with z | z
        ·exact hn a z
        ·have z2:=hk a z
         by_cases hr:a∈ι1.refs
         ·exact absurd z2 (g'.live a (List.mem_append_left _ hr))
         ·cases e9:H1 a with
          | none=>rfl
          | some o=>rw [g'.keep a o hr e9] at z2;cases z2
       ·exact g35.keep a o (g'.outR na ea) (g'.keep a o na ea)
       ·have:a∈(ι'.hide D).all:=by
         rcases List.mem_append.mp ha with z | z
         ·exact List.mem_append_left _ (by show a∈ι'.refs;rw [en1];exact List.mem_append_left _ z)
         ·exact List.mem_append_right _ (List.mem_cons_of_mem _ (by rw [g'.priv];exact z))
        exact g35.live a this
      have x5:Ext ι1 H1 (Ix.hide ⟨ι5.refs,ι'.priv⟩ D) H5:=eι▸x'.trans g35.ext
      have er5:=er3.mono g5
      have rv5:=(rv'.mono g35)
      cases bb with
      | false =>
       rw [if_neg Bool.false_ne_true]
       refine ⟨xs.length-(i+1),by omega,rfl,hl,hD5,⟨ι5.refs,ι'.priv⟩,h5,vs,gG5,x5,eι▸S5,eι▸er5,eι▸rv5,nD5,q'⟩
      | true =>
       rw [if_pos rfl]
       refine ⟨ι5,h5,_,S5,(ER.comp er3 r3).mono g5,?_⟩
       dsimp only at q'
       cases ee:ce (some xs[i]::(jf.map (·.1)).map fun j=>(en[j]?).join) h5 with
       | bad=>rw [ee] at q';exact q'
       | ex c h6=>rw [ee] at q';exact q'.elim
       | ok v h6 =>
        rw [ee] at q'
        intro ι6 H6 u6 g6 S6 r6
        have g56:=g6
        have hD6:H6 D=some (.lst ys):=g56.keep D _ nD5 hD5
        have eι6:ι6=Ix.hide ⟨ι6.refs,ι'.priv⟩ D:=by
         have h1:=g6.priv
         have h2:=g5.priv
         rw [h2] at h1
         cases ι6
         simp only at h1
         subst h1
         rfl
        have nD6:D∉ι6.refs:=g56.outR nD5 hD5
        have gG6:Grow ι1 H1 ⟨ι6.refs,ι'.priv⟩ (upd H6 D (.lst (ys++[u6]))):=by
         obtain ⟨n,en1,hn⟩:=gG5.pre
         obtain ⟨k,ek,hk⟩:=g56.pre
         have hD1:∀ a o,H1 a=some o->a≠D:=fun a o ea=>zaw ea hD
         refine ⟨⟨n++k,?_,fun a ha=>?_⟩,g'.priv,fun a o na ea=>?_,fun a ha=>?_⟩
         ·show ι6.refs=_;rw [ek];have z:ι5.refs=ι1.refs++n:=en1;rw [z];simp
         ·rcases List.mem_append.mp ha with z | z
          ·exact hn a z
          ·have z2:=hk a z
           by_cases hr:a∈ι1.refs
           ·exact absurd z2 (gG5.live a (List.mem_append_left _ hr))
           ·cases e9:H1 a with
            | none=>rfl
            | some o=>rw [gG5.keep a o hr e9] at z2;cases z2
         ·rw [yaC (hD1 a o ea)]
          exact g56.keep a o (gG5.outR na ea) (gG5.keep a o na ea)
         ·by_cases zD:a=D
          ·subst zD;rw [zar];simp
          ·rw [yaC zD]
           have:a∈ι5.all:=by
            rcases List.mem_append.mp ha with z | z
            ·exact List.mem_append_left _ (by have z':ι5.refs=ι1.refs++n:=en1;rw [z'];exact List.mem_append_left _ z)
            ·rw [eι];exact List.mem_append_right _ (List.mem_cons_of_mem _ (by show a∈ι'.priv;rw [g'.priv];exact z))
           exact g56.live a this
        refine ⟨hD6,xs.length-(i+1),by omega,rfl,hl,zar,⟨ι6.refs,ι'.priv⟩,h6,vs++[v],gG6,?_,?_,?_,?_,nD6,q'⟩
        ·exact (eι6▸(x'.trans (g35.ext.trans g6.ext))).trans Ext.poke
        ·exact Sim.poke (eι6▸S6) nD6
        ·exact ER.ext (eι6▸er5.mono g6) Ext.poke
        ·have:RVs T ι6 H6 (vs++[v]) (ys++[u6]):=(rv5.mono g6).append (.cons r6 .nil)
         exact RVs.ext Ext.poke (eι6▸this)
    ·rw [if_neg hs] at q';exact q'.elim
   ·have ei:i=xs.length:=by omega
    subst ei
    rw [List.drop_length] at q'
    unfold yaF at q'
    by_cases hs:yb7 w xs h'=true
    ·rw [if_pos hs] at q'
     have hp:D∉ι'.priv:=fun z=>by rw [g'.priv] at z;exact S1.plive D z hD
     refine .inl ⟨IR.stop _ _ h' H2 x' S' hs (Nat.le_refl _),q' ι' H2 D ys (g1.trans g') S' rv' hH2 (fun z=>(List.mem_append.mp z).elim nD' hp) fun n en1 a ha=>?_⟩
     obtain ⟨k,ek,hk⟩:=(g1.trans g').pre
     have:n=k:=List.append_cancel_left (en1.symm.trans ek)
     subst this
     rcases List.mem_append.mp ha with z | z
     ·exact hk a z
     ·have z':a=D:=by simpa using z
      subst z'
      cases e9:H a with
      | none=>rfl
      | some o =>
       by_cases hr:a∈ι.refs
       ·have z1:a∈ι1.refs:=by
         obtain ⟨k1,ek1,_⟩:=g1.pre
         rw [ek1];exact List.mem_append_left _ hr
        exact absurd hD (S1.live a (List.mem_append_left _ z1))
       ·rw [g1.keep a o hr e9] at hD;cases hD
    ·rw [if_neg hs] at q';exact q'.elim
end
end Sm
namespace Sm
open PySem PySem.Spec L2
section
variable {T:Tb} {E:St->XK} {X:Cx} {pos px:Pos} {iter elt:Expr} {ifs:List Expr} {scope:Scope} {x₁:Str} {jf:List (Nat×Str)} {it:SI} {cc:SB} {ce:SE}
theorem zfO {σ:St} {H:Hp} {Q:VK} (q:tE T E (ya3 (jf.map (·.1)) it cc ce) σ H Q):yen jf (tI T it) (tT T EN cc) (tE T EN ce) σ H Q:=by
 obtain ⟨ι,h,en,S,er,q⟩:=q
 refine zi2 S er ?_
 unfold ya3 at q
 cases e:it en h with
 | bad=>rw [e] at q;exact q
 | ex c h1=>rw [e] at q;exact q.elim
 | ok p h1 =>
  obtain ⟨xs,w⟩:=p
  rw [e] at q
  dsimp only at q ⊢
  cases e2:yaF (jf.map (·.1)) en w xs cc ce xs [] h1 with
  | bad=>rw [e2] at q;exact q
  | ex c h1=>rw [e2] at q;exact q.elim
  | ok ys h2 =>
   rw [e2] at q
   exact fun ι' H' D vs g S' r hD nD _=>q ι' H' _ g S'.show (.fl nD (.inl hD) (r.ext Ext.show))
theorem zbg:PTs X [] (tT T E sYes):=fun pins s σ H Q I ⟨ι,h,en,S,er,q⟩=>ziO pins s σ H Q I (q.now S rfl)
theorem zi3 {c:Expr} (hc:PTA T E X c cc):PTs X [c] (tT T E cc):=ziP hc
structure CompOk (X:Cx) (x₁:Str) (jf:List (Nat×Str)) (scope:Scope):Prop where
 hN:(x₁::jf.map (·.2)).Nodup
 hx:scope.names.lookup x₁=some .local
 hjf:∀ p∈jf,X.N[p.1]? = some p.2
 hjl:∀ p∈jf,scope.names.lookup p.2=some .free
 hkind:scope.kind = .function
 hcell:∀ y∈scope.names,y.2 ≠ .cell
 hfr:∀ y∈scope.names,y.2 = .free->X.env.kindOf y.1=some .cell\/X.env.kindOf y.1=some .free
 hnames:∀ y∈scope.names,y.2 = .local->scope.names.lookup y.1=some .local
theorem yeb (C:CompOk X x₁ jf scope) (hcalm:X.calm=true) (hi:PIA T X (.Name x₁ px) iter it) (hc:∀ pins cl s H fp,PTs (ya7 X pins x₁ jf scope cl s H fp) ifs (tT T EN cc)) (he:∀ pins cl s H fp,PEA T EN (ya7 X pins x₁ jf scope cl s H fp) elt ce)
  (hs:∀ x,foldedSetIterable iter X.env x=pure x:=by intro _;rfl):PEA T E X (.ListComp elt [⟨.Name x₁ px,iter,ifs,0⟩] scope pos) (ya3 (jf.map (·.1)) it cc ce) :=
 yaZ (ziQ hcalm hi hc he C.hN C.hx C.hjf C.hjl C.hkind C.hcell C.hfr C.hnames hs) fun _ _ _ q=>zfO q
theorem zfP {y:Str} {py spos:Pos} {i:Nat} (C:CompOk X x₁ jf scope) (hcalm:X.calm=true) (hi:PIA T X (.Name x₁ px) iter it) (hc:∀ pins cl s H fp,PTs (ya7 X pins x₁ jf scope cl s H fp) ifs (tT T EN cc)) (he:∀ pins cl s H fp,PEA T EN (ya7 X pins x₁ jf scope cl s H fp) elt ce)
  (hNX:X.N.Nodup) (hi':X.N[i]? = some y:=by rfl) (hy:X.env.scope.names.lookup y=some .local:=by rfl) (hsw:swapsWith (.ListComp elt [⟨.Name x₁ px,iter,ifs,0⟩] scope pos) (some (.Name y py)) spos.line X.env=pure true:=by rfl) (hs:∀ x,foldedSetIterable iter X.env x=pure x:=by intro _;rfl) :
  PSA T E X (.Assign [.Name y py] (.ListComp elt [⟨.Name x₁ px,iter,ifs,0⟩] scope pos) spos) (sSet i (ya3 (jf.map (·.1)) it cc ce)) :=
 ych (ziR hcalm hi hc he C.hN C.hx C.hjf C.hjl C.hkind C.hcell C.hfr C.hnames hNX hi' hy hsw hs) fun D σ H q=>zfO (yeR q)
end
def spA (T:Tb) (F:Fn):Sp:=fun vs H Q E=>∃ ι h args,Sim T ι h H/\RVs T ι H args vs/\Post T ι H E (RV T) (F args h) Q
def yhL (F:Fn) (n:Nat):Prop:=∀ args h,args.length≠n->F args h = .bad
theorem zdA (n m:Nat) (b:SS):yhL (mkFn n m b) n:=fun args h hl=>by
 unfold mkFn
 rw [if_neg hl]
theorem okA {P:Program} {w:World} {K:PySem.W.Frag} {mg:Str->Option Value} {base:Heap} {T:Tb} {x qual:Str} {st:Stmt} {f:Addr} {fd:FuncData} {N ps:List Str} {k:Nat} {b:SS} (F:Fun K x qual st f fd) (hK:K=T.K) (S:FnScope N ps (yad st))
  (hbody:∀ (cdv:Value) (A:Around) (outer:List Env) (s:Shared) (H:Hp) (E:XK),Room k (A.deeper (PyProof.Rows.envOfC qual (yad st) s.heap.objs.size f cdv))->CA T (fun _=>E) (cxOf (CXE P w) P w K mg base N qual (yad st) f cdv A outer s H E) ->
   PSsA T (fun _=>E) (cxOf (CXE P w) P w K mg base N qual (yad st) f cdv A outer s H E) (yan st) b):FnOk P w K mg base (CXE P w) (k+1) f fd ps (spA T (mkFn ps.length N.length b)):=by
 refine F.okE S (fun vs H Q E h=>?_) (fun cdv A outer s H vs Q E hr h=>?_)
 ·obtain ⟨ι,h,args,_,r,q⟩:=h
  by_cases hl:args.length=ps.length
  ·rw [<- hl,r.length]
  ·rw [zdA _ _ _ args h hl] at q;exact q.elim
 ·obtain ⟨ι,h,args,Si,r,q⟩:=h
  refine ⟨_,hbody cdv A outer s H E hr ⟨hK,ziT⟩,ι,h,args.map some++List.replicate (N.length-ps.length) none,Si,?_,?_⟩
  ·by_cases hl:args.length=ps.length
   ·refine ⟨by simp [L2.start,r.length,<- hl],fun i v e=>?_⟩
    unfold L2.start
    by_cases hi:i<args.length
    ·rw [List.getElem?_append_left (by simpa using hi),List.getElem?_map] at e
     rw [List.getElem?_append_left (by simpa [<- r.length] using hi),List.getElem?_map]
     obtain ⟨x,e1,e2⟩:=Option.map_eq_some_iff.mp e
     cases e2
     obtain ⟨u,e3,r3⟩:=r.get e1
     exact ⟨u,by rw [e3];rfl,r3⟩
    ·rw [List.getElem?_append_right (by simpa using hi),List.getElem?_replicate] at e
     split at e
     ·cases e
     ·cases e
   ·rw [zdA _ _ _ args h hl] at q;exact q.elim
  ·unfold mkFn at q
   split at q
   ·split at q
    ·rename_i e1 h1 he
     rw [he]
     exact fun ι' H' σ' g S' er=>q ι' H' _ g S' .non
    ·rename_i v h1 he
     rw [he]
     exact q
    ·rename_i c e1 h1 he
     rw [he]
     exact fun ι' H' σ' C g S' er ec=>q ι' H' C g S' ec
    ·exact q.elim
   ·exact q.elim
structure GF (P:Program) (w:World) (T:Tb) (mg:Str->Option Value) (base:Heap) (k:Nat) (x:Str) (F:Fn):Prop where
 ex:∃ f fd ps,mg x=some (.ref f)/\PySem.W.keepIn T.K (.ref f)=true/\Binds T.K fd ps []/\FnOk P w T.K mg base (CXE P w) k f fd ps (spA T F)
structure GM (P:Program) (w:World) (T:Tb) (mg:Str->Option Value) (base:Heap) (k:Nat) (c:Nat) (m:Str) (F:Fn):Prop where
 ex:∃ C f fd ps,T.cls c=some C/\Cls T.K C/\Meth T.K C m f/\Binds T.K fd ps []/\FnOk P w T.K mg base (CXE P w) k f fd ps (spA T F)
 no:m∉T.fields c
section
variable {T:Tb} {E:St->XK} {X:Cx} {pos p apos:Pos} {e o a:Expr} {es:List Expr} {x m:Str} {F:Fn} {k c:Nat} {as:SL} {so sa:SE}
theorem yaj (hK:X.K=T.K) (C:CA T E X) (G:GF X.prog X.w T X.mg X.base k x F) (hr:Room k X.A) (hg:Gl X x) (ha:PAA T E X (e::es) as) (hdb:(x == ("__debug__" : Str))=false:=by decide)
  (he:starEach (e::es) X.env=(false,eval e X.env)::starEach es X.env:=by rfl) (hpl:(backTo pos (starEach es X.env)).any (·.1)=false:=by rfl):PEA T E X (.Call (.Name x p) (e::es) [] pos) (yah F as):=by
 obtain ⟨f,fd,ps,h1,h2,h3,h4⟩:=G.ex
 refine yaZ (zh1 (Ex:=E) (dvs:=[]) (hK▸h4) hr hg h1 (hK▸h2) (hK▸h3) .nil C.pass ha hdb he hpl) fun σ H Q ⟨ι,h,en,S,er,q⟩=>⟨ι,h,en,S,er,q.bind fun xs h1 ι1 H1 us g1 S1 r1 q1=>?_⟩
 rw [List.append_nil]
 exact ⟨ι1,h1,xs,S1,r1,q1⟩
theorem zi4 {C:Addr} {σ:St} {H:Hp} {Q:VK} (hc:T.cls c=some C) (no:m∉T.fields c) (q:tE T E (yal c F so as) σ H Q):yfo C m (spA T F) [] E (tE T E so) (tA T E as) σ H Q:=by
 obtain ⟨ι,h,en,S,er,q⟩:=q
 refine ⟨ι,h,en,S,er,q.bind fun x h1 ι1 H1 u g1 S1 r1 q1=>?_⟩
 split at q1
 ·rename_i n
  split at q1
  ·rename_i c' fs hn
   split at q1
   ·rename_i ec
    subst ec
    cases r1 with
    | @ref _ a hr =>
     obtain ⟨o,e1,C',dx,fus,hC,rfl,nd,hw,hl,_⟩:=S1.obj n _ a hn hr
     rw [hc] at hC;cases hC
     refine ⟨a,dx,fus,rfl,e1,?_,ι1,h1,en,S1,er.mono g1,q1.bind fun xs h2 ι2 H2 us g2 S2 r2 q2=>?_⟩
     ·cases e:fus.lookup m with
      | none=>rfl
      | some v =>
       have:=PySem.mem_of_lookup e
       exact absurd (hw _ this) no
     ·rw [List.append_nil]
      exact ⟨ι2,h2,.ref n::xs,S2,.cons (.ref (g2.at hr)) r2,q2⟩
   ·exact q1.elim
  ·exact q1.elim
 ·exact q1.elim
theorem yak {pl:Sem Bool} (hK:X.K=T.K) (CC:CA T E X) (G:GM X.prog X.w T X.mg X.base k c m F) (hr:Room k X.A) (ho:PEA T E X o so) (ha:PAA T E X (e::es) as)
  (hst:starEach (e::es) X.env=(false,eval e X.env)::starEach es X.env:=by rfl) (hpl:(backTo pos (starEach es X.env)).any (·.1)=false:=by rfl)
  (ht:eval (.Call (.Attribute o m apos) (e::es) [] pos) X.env=(do
   let ov <- eval o X.env
   standAt apos.atName
   let (f,first) <- holding [ov] (getMethod ov m pl)
   callWith pos f first (backTo pos (starEach (e::es) X.env)) (backToKw pos (keywordEach [] X.env))):=by rfl):PEA T E X (.Call (.Attribute o m apos) (e::es) [] pos) (yal c F so as):=by
 obtain ⟨C,f,fd,ps,h1,h2,h3,h4,h5⟩:=G.ex
 exact yaZ (zh2 (Ex:=E) (dvs:=[]) (pl:=pl) ho (hK▸h2) (hK▸h3) (hK▸h5) hr (hK▸h4) .nil CC.pass ha hst hpl ht) fun σ H Q q=>zi4 h1 G.no q
structure CF (T:Tb) (c:Nat):Prop where
 ex:∃ C,T.cls c=some C/\Cls T.K C/\∀ f∈T.fields c,NoAttr T.K C f
structure GK (P:Program) (w:World) (T:Tb) (mg:Str->Option Value) (base:Heap) (k:Nat) (c:Nat) (x:Str) (F:Fn):Prop where
 ex:∃ C f fd ps,T.cls c=some C/\mg x=some (.ref C)/\Mk T.K C f/\Binds T.K fd ps []/\FnOk P w T.K mg base (CXE P w) k f fd ps (spA T F)
theorem zhd {CX:CXT} {C f:Addr} {fd:FuncData} {ps:List Str} {sp:Sp} {dvs:List V} {ds:List Value} {pins:List (Addr×Obj)} {σ:St} {H:Hp} {s:Shared} {Q:VK} {us:List Value} {vs:List V} (M:Mk X.K C f) (F:FnOk X.prog X.w X.K X.mg X.base CX k f fd ps sp) (hr:Room (k+1) X.A) (hb:Binds X.K fd ps ds) (hd:Vals dvs ds)
  (hx:ydY CX X E) (I:L2.Inv X pins σ H s) (r:Vals vs us)
  (h:∀ x dx,H x=none->H dx=none->dx≠x->sp (.ref x::(vs++dvs)) (upd (upd H dx (.own x)) x (.ins C dx [])) (fun v H2=>v = .non/\Q (.ref x) H2) (E σ)) :
  wpAny (model X.prog X.w) X.A (call (.ref C) us) (EP X pins σ Q) X.xe s:=by
 have hq:=h (s.heap.objs.size+1) s.heap.objs.size (I.hok.fresh (Nat.le_succ _)) (I.hok.fresh (Nat.le_refl _)) (Nat.ne_of_lt (Nat.lt_succ_self _))
 have I2:=Inv.made (C:=C) I
 have r2:Vals (V.ref (s.heap.objs.size+1)::(vs++dvs)) (Value.ref (s.heap.objs.size+1)::(us++ds)):=.cons rfl (r.append hd)
 have hl:(Value.ref (s.heap.objs.size+1)::us++ds).length=ps.length:=by
  have e:=r2.length
  rw [F.len _ _ _ _ hq] at e
  exact e.symm
 refine wpAny_call (zhM (f:=f) I.kIn M.makes M.init (beq_iff_eq.mp M.fn) (codeAny_mono (F.run _ X.stack _ _ ⟨Value.ref (s.heap.objs.size+1)::us,[]⟩ (Value.ref (s.heap.objs.size+1)::(us++ds)) _ _ (E σ) (hr.make C us [])
  (I2.env0.make C us []) (hb _ (Value.ref (s.heap.objs.size+1)::us) I2.kIn hl) r2 hq) fun r s' hq' => ?_))
 cases r with
 | error e=>exact hx pins σ _ _ e s' I2 hq'
 | ok fl =>
  cases fl with
  | ret u =>
   obtain ⟨v,H',I3,rv,ev,q3⟩:=I2.after hq'
   subst ev
   exact ⟨rv,⟨V.ref (s.heap.objs.size+1),H',I3,rfl,q3⟩⟩
  | next=>exact False.elim hq'
  | brk=>exact False.elim hq'
  | cont=>exact False.elim hq'
theorem zi5 {C:Addr} {xs:List AV} {us:List V} {H:Hp} {Q:VK} {ι:Ix} {h:AH} {E:XK} {n:Nat} (hc:T.cls c=some C) (hn:(T.fields c).length=n) (S:Sim T ι h H) (r:RVs T ι H xs us)
  (q:Post T ι H E (RV T) (match F (.ref h.length::xs) (h++[.ins c (List.replicate n none)]) with | .ok .non h2=>Out.ok (AV.ref h.length) h2 | .ex c h2=>.ex c h2 | _=>.bad) Q) :
  ∀ x dx,H x=none->H dx=none->dx≠x->spA T F (.ref x::us) (upd (upd H dx (.own x)) x (.ins C dx [])) (fun v H2=>v = .non/\Q (.ref x) H2) E:=by
 intro x dx nx ndx ne
 have nx':(upd H dx (.own x)) x=none:=by rw [yaC (Ne.symm ne)];exact nx
 have S1:=S.new (o:=.own x) ndx
 have g1:=S.growNew (o:=.own x) ndx
 have g2:=S1.growAdd (u:=.ins C dx []) nx'
 have S2:Sim T (ι.add x) (h++[.ins c (List.replicate n none)]) (upd (upd H dx (.own x)) x (.ins C dx [])):=S1.add nx' ⟨C,dx,[],hc,rfl,by simp,by simp,by simp [hn],fun i v e=>by
  rw [List.getElem?_replicate] at e
  split at e
  ·cases e
  ·cases e⟩
 refine ⟨ι.add x,_,.ref h.length::xs,S2,.cons (.ref S.addAt) (r.mono (g1.trans g2)),?_⟩
 have q2:=q.shift (g1.trans g2)
 cases e:F (.ref h.length::xs) (h++[.ins c (List.replicate n none)]) with
 | bad=>rw [e] at q2;exact q2
 | ex c' h2=>rw [e] at q2;exact q2
 | ok v h2 =>
  rw [e] at q2
  cases v with
  | non=>exact fun ι' H' u g S' r' => ⟨yeQ r',q2 ι' H' _ g S' (.ref (g.at S.addAt))⟩
  | _=>exact (show False from q2).elim
theorem zi6 {n:Nat} (hK:X.K=T.K) (CC:CA T E X) (G:GK X.prog X.w T X.mg X.base k c x F) (hr:Room (k+1) X.A) (hg:Gl X x) (hn:(T.fields c).length=n:=by rfl) (hdb:(x == ("__debug__" : Str))=false:=by decide):PEA T E X (.Call (.Name x p) [] [] pos) (yeH c n F sNil):=by
 obtain ⟨C,f,fd,ps,h1,h2,h3,h4,h5⟩:=G.ex
 intro pins s σ H Q I ⟨ι,h,en,S,er,q⟩
 refine wpAny_Call_Name_kw (zcI I hg h2 ?_ hdb)
 have M:Mk X.K C f:=hK▸h3
 exact PySem.W.callWith_K0 I.kIn M.kp (zhd (us:=[]) (vs:=[]) (dvs:=[]) M (hK▸h5) hr (hK▸h4) .nil CC.pass I .nil (zi5 h1 hn S .nil q))
theorem yaH {i:Nat} {f:Str} (hK:X.K=T.K) (CFc:CF T c) (ho:PEA T E X o so) (hf:(T.fields c)[i]? = some f:=by rfl) (hb:attributeBase o f X.env (eval o X.env)=eval o X.env:=by rfl):PEA T E X (.Attribute o f pos) (Sm.sFld c i so):=by
 obtain ⟨C,hC,hcl,hna⟩:=CFc.ex
 refine yaZ (ygw ho hb) fun σ H Q ⟨ι,h,en,S,er,q⟩=>⟨ι,h,en,S,er,q.bind fun x h1 ι1 H1 u g1 S1 r1 q1=>?_⟩
 split at q1
 ·rename_i n
  split at q1
  ·rename_i c' fs hn
   split at q1
   ·rename_i ec
    subst ec
    split at q1
    ·rename_i v hv
     cases r1 with
     | @ref _ a hr =>
      obtain ⟨o,e1,C',dx,fus,hC',rfl,nd,hw,hl,hr2⟩:=S1.obj n _ a hn hr
      rw [hC] at hC';cases hC'
      obtain ⟨f',u,e2,e3,r3⟩:=hr2 i v hv
      rw [hf] at e2;cases e2
      exact ⟨a,_,dx,fus,u,rfl,e1,hK▸hcl,hK▸hna f (List.mem_of_getElem? hf),e3,q1.now S1 r3⟩
    ·exact q1.elim
   ·exact q1.elim
  ·exact q1.elim
 ·exact q1.elim
theorem zef (f:Str) (v:V):∀ {fs:List (Str×V)},(fs.map (·.1)).Nodup->((putF f v fs).map (·.1)).Nodup/\∀ g,g∈(putF f v fs).map (·.1)->g=f\/g∈fs.map (·.1)
 | [],_=>by simp [putF]
 | (g,x)::r,n=>by
  obtain ⟨n1,n2⟩:=List.nodup_cons.mp (show (g::r.map (·.1)).Nodup from n)
  unfold putF
  split
  ·rename_i e
   subst e
   exact ⟨n,fun k hk=>.inr hk⟩
  ·rename_i e
   obtain ⟨h1,h2⟩:=zef f v (fs:=r) n2
   refine ⟨List.nodup_cons.mpr ⟨fun z=>?_,h1⟩,fun k hk=>?_⟩
   ·rcases h2 g z with z | z
    ·exact e z
    ·exact n1 z
   ·rcases List.mem_cons.mp hk with z | z
    ·exact .inr (by rw [z];simp)
    ·rcases h2 k z with z | z
     ·exact .inl z
     ·exact .inr (List.mem_cons_of_mem _ z)
theorem zeO:∀ {l m:List Str},l.Nodup->(∀ x∈l,x∈m)->l.length<=m.length
 | [],m,_,_=>Nat.zero_le _
 | x::l,m,n,h=>by
  obtain ⟨n1,n2⟩:=List.nodup_cons.mp n
  have hx:=h x (by simp)
  have:=zeO (l:=l) (m:=m.erase x) n2 fun y hy=>by
   have ne:y≠x:=fun z=>n1 (z▸hy)
   exact (List.mem_erase_of_ne ne).mpr (h y (by simp [hy]))
  rw [List.length_erase_of_mem hx] at this
  have:0<m.length:=List.length_pos_of_mem hx
  simp only [List.length_cons]
  omega
theorem zaZ {i:Nat} {f:Str} {p':Pos} (hK:X.K=T.K) (CFc:CF T c) (ho:PEA T E X o so) (ha:PEA T E X a sa) (hf:(T.fields c)[i]? = some f:=by rfl) (hs:swapsWith a (some (.Attribute o f p')) pos.line X.env=pure false:=by rfl) :
  PSA T E X (.Assign [.Attribute o f p'] a pos) (ycR c i so sa):=by
 obtain ⟨C,hC,hcl,hna⟩:=CFc.ex
 refine ych (ygx ho ha hs) fun D σ H ⟨ι,h,en,S,er,q⟩=>⟨ι,h,en,S,er,q.go er fun y h1 ι1 H1 v g1 S1 r1 q1=>⟨ι1,h1,en,S1,er.mono g1,q1.go (er.mono g1) fun x h2 ι2 H2 u g2 S2 r2 q2=>?_⟩⟩
 split at q2
 ·rename_i n
  split at q2
  ·rename_i c' fs hn
   split at q2
   ·rename_i ec
    subst ec
    cases r2 with
    | @ref _ a hr =>
     obtain ⟨o,e1,C',dx,fus,hC',rfl,nd,hw,hl,hr2⟩:=S2.obj n _ a hn hr
     rw [hC] at hC';cases hC'
     have hmem:f∈T.fields c' := List.mem_of_getElem? hf
     have hlen:fus.length<1000:=by
      have:=zeO nd (m:=T.fields c') (fun x hx=>by
       obtain ⟨p,hp,rfl⟩:=List.mem_map.mp hx
       exact hw p hp)
      have:=T.few c'
      rw [List.length_map] at *
      omega
     obtain ⟨k1,k2⟩:=zef f v nd
     have g3:=S2.growSet (u:=.ins C dx (putF f v fus)) hr
     refine ⟨a,C,dx,fus,rfl,e1,hK▸hcl,hK▸hna f hmem,hlen,q2 ι2 _ σ g3 (S2.set hr ⟨C,dx,putF f v fus,hC,rfl,k1,fun p hp=>?_,by simp [hl],fun j w hj=>?_⟩) (er.mono (g1.trans (g2.trans g3)))⟩
     ·rcases k2 p.1 (List.mem_map.mpr ⟨p,hp,rfl⟩) with z | z
      ·rw [z];exact hmem
      ·obtain ⟨p',hp',e⟩:=List.mem_map.mp z
       rw [<- e];exact hw p' hp'
     ·by_cases hji:j=i
      ·subst hji
       have hjl:j<fs.length:=by
        have:=(List.getElem?_eq_some_iff.mp hj).1
        simpa using this
       rw [List.getElem?_set_self hjl] at hj
       cases hj
       exact ⟨f,v,hf,by rw [zbm,if_pos rfl],r1.mono (g2.trans g3)⟩
      ·rw [List.getElem?_set_ne (Ne.symm hji)] at hj
       obtain ⟨f',u,e2,e3,r3⟩:=hr2 j w hj
       have ne:f'≠f:=fun z=>hji (zc9 (T.nd c') e2 (z▸hf))
       exact ⟨f',u,e2,by rw [zbm,if_neg ne];exact e3,r3.mono g3⟩
   ·exact (show False from q2).elim
  ·exact (show False from q2).elim
 ·exact (show False from q2).elim
end
end Sm
namespace Sm
open PySem PySem.Spec L2
theorem ye5 {T:Tb} {ι:Ix} {H:Hp} {k:Key} {u:V} (r:RV T ι H (kA k) u):u=kV k:=by
 cases k with
 | inl i=>exact yaE r
 | inr x=>exact (ya8 r).1
theorem yeS {k j:Key} (e:kA k=kA j):k=j:=by
 cases k<;>cases j<;>simp [kA] at e<;>simp [e]
theorem zdT:∀ {ks js:List Key},ks.map kA=js.map kA->ks=js
 | [],[],_=>rfl
 | [],_::_,e=>by simp at e
 | _::_,[],e=>by simp at e
 | k::ks,j::js,e=>by
  simp only [List.map_cons,List.cons.injEq] at e
  rw [yeS e.1,zdT e.2]
theorem yfy {T:Tb} {ι:Ix} {H:Hp}:∀ {ks:List Key} {us:List V},RVs T ι H (ks.map kA) us->us=ks.map kV
 | [],_,.nil=>rfl
 | k::ks,_,.cons r rs=>by rw [ye5 r,yfy rs];rfl
theorem zb5 {v:AV} {k:Key} (e:keyOf? v=some k):v=kA k:=by
 unfold keyOf? at e
 split at e<;>cases e<;>rfl
theorem zbn:∀ {vs:List AV} {ks:List Key},keysOf? vs=some ks->vs=ks.map kA
 | [],_,e=>by cases e;rfl
 | v::vs,ks,e=>by
  unfold keysOf? at e
  split at e
  ·rename_i k ks' e1 e2
   cases e
   rw [zb5 e1,zbn e2];rfl
  ·cases e
theorem yev {κ:Type} [DecidableEq κ] {T:Tb} {ι:Ix} {H:Hp} {f:κ->AV} (hf:∀ {a b},f a=f b->a=b) {k:κ}:∀ {kvs:List (AV×AV)} {kus:List (κ×V)},Paired (fun (p:AV×AV) (q:κ×V)=>p.1=f q.1/\RV T ι H p.2 q.2) kvs kus ->
  (valA kvs (f k)=none/\valV kus k=none)\/∃ v u,valA kvs (f k)=some v/\valV kus k=some u/\RV T ι H v u
 | _,_,.nil=>.inl ⟨rfl,rfl⟩
 | (a,v)::kvs,(j,u)::kus,.cons ⟨e,r⟩ rs=>by
  by_cases h:j=k
  ·subst h
   replace e:a=f j:=e
   subst e
   exact .inr ⟨v,u,by simp [valA],zb3 rfl,r⟩
  ·have h' : ¬ a=f k:=fun z=>h (hf (e.symm.trans z))
   rcases yev hf rs (k:=k) with ⟨h1,h2⟩ | ⟨v',u',h1,h2,h3⟩
   ·refine .inl ⟨?_,by rw [zbA h];exact h2⟩
    unfold valA at h1 ⊢
    rw [List.find?_cons,decide_eq_false h']
    exact h1
   ·refine .inr ⟨v',u',?_,by rw [zbA h];exact h2,h3⟩
    unfold valA at h1 ⊢
    rw [List.find?_cons,decide_eq_false h']
    exact h1
theorem zfQ {kvs:List (AV×AV)} {k:AV}:(kvs.any fun p=>decide (p.1=k))=(valA kvs k).isSome:=by
 induction kvs with
 | nil=>rfl
 | cons p r ih =>
  unfold valA at ih ⊢
  rw [List.any_cons,List.find?_cons,ih]
  cases h:decide (p.1=k)<;>simp
theorem yfz {κ:Type} [DecidableEq κ] {T:Tb} {ι:Ix} {H:Hp} {f:κ->AV} (hf:∀ {a b},f a=f b->a=b) {k:κ} {v:AV} {u:V} (rv:RV T ι H v u) {kvs:List (AV×AV)} {kus:List (κ×V)} (r:Paired (fun (p:AV×AV) (q:κ×V)=>p.1=f q.1/\RV T ι H p.2 q.2) kvs kus) :
  Paired (fun (p:AV×AV) (q:κ×V)=>p.1=f q.1/\RV T ι H p.2 q.2) (putA kvs (f k) v) (putK kus k u):=by
 have e:(kvs.any fun p=>decide (p.1=f k))=kus.any fun kv=>decide (kv.1=k):=by
  rw [zfQ,zdd]
  rcases yev hf r (k:=k) with ⟨h1,h2⟩ | ⟨v',u',h1,h2,h3⟩
  ·rw [h1,h2];rfl
  ·rw [h1,h2];rfl
 unfold putA putK
 rw [e]
 by_cases h:(kus.any fun kv=>decide (kv.1=k))=true
 ·rw [if_pos h,if_pos h]
  clear e h
  induction r with
  | nil=>exact .nil
  | cons p rs ih =>
   rename_i a b l1 l2
   refine .cons ?_ ih
   obtain ⟨e1,r1⟩:=p
   dsimp only
   by_cases hk:b.1=k
   ·rw [if_pos hk,if_pos (by rw [e1,hk])]
    exact ⟨e1,rv⟩
   ·rw [if_neg hk,if_neg (fun z=>hk (hf (e1.symm.trans z)))]
    exact ⟨e1,r1⟩
 ·rw [if_neg h,if_neg h]
  have app:∀ {l1:List (AV×AV)} {l2:List (κ×V)},Paired (fun (p:AV×AV) (q:κ×V)=>p.1=f q.1/\RV T ι H p.2 q.2) l1 l2->Paired (fun (p:AV×AV) (q:κ×V)=>p.1=f q.1/\RV T ι H p.2 q.2) (l1++[(f k,v)]) (l2++[(k,u)]):=fun z=>by
   induction z with
   | nil=>exact .cons ⟨rfl,rv⟩ .nil
   | cons p _ ih=>exact .cons p ih
  exact app r
section
variable {T:Tb} {ι:Ix} {h:AH} {H:Hp}
theorem keyT {xs:List AV} {u:V} {ks:List Key} (r:RV T ι H (.tup xs) u) (e:keysOf? xs=some ks):∃ b,u = .ref b/\KTup H b ks:=by
 have:=zbn e
 subst this
 cases r with
 | tup n q r=>exact ⟨_,rfl,.of (by rw [<- yfy r];exact q)⟩
theorem zfR {n:Nat} {t:Bool} {kvs:List (AV×AV)} {y:AV} {a:Addr} {w:V} (S:Sim T ι h H) (hn:h[n]? = some (.dct t kvs)) (hr:ι.refs[n]? = some a) (ry:RV T ι H y w) (hk:ydI t y=true) :
  ∃ o,DGet H a w o/\((valA kvs y=none/\o=none)\/∃ v u,valA kvs y=some v/\o=some u/\RV T ι H v u):=by
 obtain ⟨ob,e1,r⟩:=S.obj n _ a hn hr
 cases t with
 | false =>
  obtain ⟨kus,rfl,r⟩:=r
  have hk':(keyOf? y).isSome=true:=hk
  obtain ⟨k,ek⟩:=Option.isSome_iff_exists.mp hk'
  have:=zb5 ek
  subst this
  rw [ye5 ry]
  refine ⟨valV kus k,.k e1,?_⟩
  rcases yev yeS r (k:=k) with ⟨h1,h2⟩ | ⟨v',u',h1,h2,h3⟩
  ·exact .inl ⟨h1,h2⟩
  ·exact .inr ⟨v',u',h1,h2,h3⟩
 | true =>
  obtain ⟨kus,rfl,r⟩:=r
  unfold ydI at hk
  split at hk
  ·rename_i hh;cases hh
  ·rename_i xs hh
   obtain ⟨ks,ek⟩:=Option.isSome_iff_exists.mp hk
   obtain ⟨b,rfl,hb⟩:=keyT ry ek
   have:=zbn ek
   subst this
   refine ⟨valV kus ks,.t e1 hb,?_⟩
   rcases yev (f:=fun ks:List Key=>AV.tup (ks.map kA)) (fun e=>zdT (by injection e)) r (k:=ks) with ⟨h1,h2⟩ | ⟨v',u',h1,h2,h3⟩
   ·exact .inl ⟨h1,h2⟩
   ·exact .inr ⟨v',u',h1,h2,h3⟩
  ·cases hk
theorem zi7 {n:Nat} {t:Bool} {kvs:List (AV×AV)} {y z:AV} {a:Addr} {w u:V} (S:Sim T ι h H) (hn:h[n]? = some (.dct t kvs)) (hr:ι.refs[n]? = some a) (ry:RV T ι H y w) (rz:RV T ι H z u) (hk:ydI t y=true) (hl:kvs.length<sizeLine) :
  ∃ H',DPut H a w u H'/\Grow ι H ι H'/\Sim T ι (h.set n (.dct t (putA kvs y z))) H' := by
 obtain ⟨ob,e1,r⟩:=S.obj n _ a hn hr
 cases t with
 | false =>
  obtain ⟨kus,rfl,r⟩:=r
  have hk':(keyOf? y).isSome=true:=hk
  obtain ⟨k,ek⟩:=Option.isSome_iff_exists.mp hk'
  have:=zb5 ek
  subst this
  rw [ye5 ry]
  have g:=S.growSet (u:=.dK (putK kus k u)) hr
  exact ⟨_,.k e1 (by rw [<- Paired.length r];exact hl),g,S.set hr ⟨_,rfl,yfz yeS (rz.mono g) (Paired.mapP r fun _ _ ⟨p,q⟩=>⟨p,q.mono g⟩)⟩⟩
 | true =>
  obtain ⟨kus,rfl,r⟩:=r
  unfold ydI at hk
  split at hk
  ·rename_i hh;cases hh
  ·rename_i xs hh
   obtain ⟨ks,ek⟩:=Option.isSome_iff_exists.mp hk
   obtain ⟨b,rfl,hb⟩:=keyT ry ek
   have:=zbn ek
   subst this
   have g:=S.growSet (u:=.dT (putK kus ks u)) hr
   exact ⟨_,.t e1 hb (by rw [<- Paired.length r];exact hl),g,S.set hr ⟨_,rfl,yfz (f:=fun ks:List Key=>AV.tup (ks.map kA)) (fun e=>zdT (by injection e)) (rz.mono g) (Paired.mapP r fun _ _ ⟨p,q⟩=>⟨p,q.mono g⟩)⟩⟩
  ·cases hk
theorem RVs.atI {xs:List AV} {us:List V} {i:Int} {v:AV} (r:RVs T ι H xs us) (e:atI xs i=some v):∃ u,L2.atI us i=some u/\RV T ι H v u:=by
 unfold L2.atI at e ⊢
 rw [<- r.length]
 obtain ⟨j,e1,e2⟩:=Option.bind_eq_some_iff.mp e
 obtain ⟨u,e3,r3⟩:=r.get e2
 exact ⟨u,by rw [e1];exact e3,r3⟩
end
section
variable {T:Tb} {E:St->XK} {X:Cx} {pos:Pos} {a b c:Expr} {sa sb sc:SE}
theorem yhM {e:Expr} {t t':TE} (h:PE X e t) (h':PE X e t'):PE X e (fun σ H Q=>t σ H Q\/t' σ H Q):=fun pins s σ H Q I q=>q.elim (h pins s σ H Q I) (h' pins s σ H Q I)
theorem yhN {e:Stmt} {t t':TS} (h:PS X e t) (h':PS X e t'):PS X e (fun D σ H=>t D σ H\/t' D σ H):=fun pins s σ H Q I q=>q.elim (h pins s σ H Q I) (h' pins s σ H Q I)
theorem r_ix (hK:X.K=T.K) (hu:X.A.units+64<cLine) (ha:PEA T E X a sa) (hb:PEA T E X b sb) (hs:yeZ b:=by exact fun _ _=>rfl):PEA T E X (.Subscript a b pos) (sOp2 fIx sa sb):=by
 refine yaZ (yhM (yhv ygB ha hb hs) (ziM (Nat.lt_of_le_of_lt (Nat.add_le_add_left (by decide:1<=64) _) hu) ha hb hs)) fun σ H Q q=>?_
 obtain ⟨ι,h,en,S,er,q⟩:=q
 have left:(∀ x h1 y h2,sa en h = .ok x h1->sb en h1 = .ok y h2->∀ n t kvs,x = .ref n->h2[n]? = some (.dct t kvs)->False)->tOp (rIx X.K) (tE T E sa) (tE T E sb) σ H Q:=fun no=>by
  refine ⟨ι,h,en,S,er,?_⟩
  unfold sOp2 at q
  cases e1:sa en h with
  | bad=>rw [e1] at q;exact q
  | ex c h1=>rw [e1] at q;exact q
  | ok x h1 =>
   rw [e1] at q
   intro ι1 H1 u g1 S1 r1
   refine ⟨ι1,h1,en,S1,er.mono g1,?_⟩
   dsimp only [Out.bind] at q
   cases e2:sb en h1 with
   | bad=>rw [e2] at q;exact q
   | ex c h2=>rw [e2] at q;exact Post.shift (R:=RV T) (o:=.ex c h2) q g1
   | ok y h2 =>
    rw [e2] at q
    intro ι2 H2 w g2 S2 r2
    have q2:=Post.shift q (g1.trans g2)
    have r1' := r1.mono g2
    dsimp only at q2
    unfold fIx at q2
    split at q2
    ·rename_i z i
     split at q2
     ·rename_i cc hc
      obtain ⟨rfl,zl,zo⟩:=ya8 r1'
      rw [yaE r2]
      refine .inr (.inr ⟨z,i,cc,rfl,rfl,zl,hc,q2.now S2 (.str (show 1<=sizeLine by decide) ?_)⟩)
      obtain ⟨j,_,e3,_⟩:=zcL hc
      have m:cc∈z.cps:=by
       have:=List.mem_of_getElem? e3
       simpa using this
      have:=Array.all_eq_true_iff_forall_mem.mp zo _ m
      simpa using this
     ·exact q2.elim
    ·rename_i xs i
     split at q2
     ·rename_i v hv
      obtain ⟨b,us,rfl,sq,rs⟩:=ydE r1'
      obtain ⟨u2,e3,r3⟩:=rs.atI hv
      rw [yaE r2]
      exact .inr (.inl ⟨b,us,i,u2,rfl,rfl,hK▸sq,e3,q2.now S2 r3⟩)
     ·exact q2.elim
    ·rename_i xs i
     split at q2
     ·rename_i v hv
      obtain ⟨b,us,rfl,sq,rs⟩:=yb9 S2 r1' rfl
      obtain ⟨u2,e3,r3⟩:=rs.atI hv
      rw [yaE r2]
      exact .inl ⟨b,us,i,u2,rfl,rfl,hK▸sq,e3,q2.now S2 r3⟩
     ·exact q2.elim
    ·rename_i n
     split at q2
     ·rename_i xs hn
      split at q2
      ·rename_i i
       split at q2
       ·rename_i v hv
        obtain ⟨b,us,rfl,sq,rs⟩:=yb9 (xs:=xs) S2 r1' (by simp [ybD,hn])
        obtain ⟨u2,e3,r3⟩:=rs.atI hv
        rw [yaE r2]
        exact .inl ⟨b,us,i,u2,rfl,rfl,hK▸sq,e3,q2.now S2 r3⟩
       ·exact q2.elim
      ·exact q2.elim
     ·rename_i t kvs hn
      exact (no _ h1 _ h2 e1 e2 n t kvs rfl hn).elim
     ·exact q2.elim
    ·exact q2.elim
 by_cases dd:∃ x h1 y h2,sa en h = .ok x h1/\sb en h1 = .ok y h2/\∃ n t kvs,x = .ref n/\h2[n]? = some (.dct t kvs)
 ·obtain ⟨x,h1,y,h2,e1,e2,n,t,kvs,rfl,hn⟩:=dd
  refine .inr ⟨ι,h,en,S,er,?_⟩
  unfold sOp2 at q
  rw [e1] at q ⊢
  intro ι1 H1 u g1 S1 r1
  refine ⟨ι1,h1,en,S1,er.mono g1,?_⟩
  dsimp only [Out.bind] at q
  rw [e2] at q ⊢
  intro ι2 H2 w g2 S2 r2
  have q2:=Post.shift q (g1.trans g2)
  have r1' := r1.mono g2
  dsimp only at q2
  unfold fIx at q2
  simp only [hn] at q2
  split at q2
  ·rename_i hk
   cases r1' with
   | @ref _ ad hr =>
    obtain ⟨o,dg,alt⟩:=zfR S2 hn hr r2 hk
    rcases alt with ⟨v1,rfl⟩ | ⟨v,u,v1,rfl,r3⟩
    ·rw [v1] at q2;exact q2.elim
    ·rw [v1] at q2
     exact ⟨ad,u,rfl,dg,q2.now S2 r3⟩
  ·exact q2.elim
 ·exact .inl (left fun x h1 y h2 e1 e2 n t kvs e3 e4=>dd ⟨x,h1,y,h2,e1,e2,n,t,kvs,e3,e4⟩)
theorem zfS {p':Pos} (hu:X.A.units+64<cLine) (ho:PEA T E X a sa) (hi:PEA T E X b sb) (hv:PEA T E X c sc) (hs:swapsWith c (some (.Subscript a b p')) pos.line X.env=pure false:=by rfl) (hs':swapsWithSole [.Subscript a b p'] c pos.line X.env=pure false:=by rfl) (hw:swappedStores [.Subscript a b p'] c X.env=pure none:=by rfl)
  (h1:(assignEach [.Subscript a b p'] X.env).map (·.2)=[assign (.Subscript a b p') X.env]:=by rfl)
  (has:∀ v,assign (.Subscript a b p') X.env v=(do
   let ov <- holding [v] (eval a X.env)
   let iv <- holding [v,ov] (eval b X.env)
   standAt p'
   holding [v,ov,iv] (setItem ov iv v)
   release [v,ov,iv] []):=by intro _;rfl):PSA T E X (.Assign [.Subscript a b p'] c pos) (yeq sa sb sc):=by
 refine ych (yhN (yfi hv (ygm ho hi zhP has) hs' hw h1) (ziN (Nat.lt_of_le_of_lt (Nat.add_le_add_left (by decide:1<=64) _) hu) ho hi hv hs)) fun D σ H q=>?_
 obtain ⟨ι,h,en,S,er,q⟩:=q
 unfold yeq at q
 by_cases dd:∃ z h1 x h2 y h3,sc en h = .ok z h1/\sa en h1 = .ok x h2/\sb en h2 = .ok y h3/\∃ n t kvs,x = .ref n/\h3[n]? = some (.dct t kvs)
 ·obtain ⟨z,h1,x,h2,y,h3,e1,e2,e3,n,t,kvs,rfl,hn⟩:=dd
  refine .inr ⟨ι,h,en,S,er,?_⟩
  rw [e1] at q ⊢
  intro ι1 H1 u g1 S1 r1
  refine ⟨ι1,h1,en,S1,er.mono g1,?_⟩
  dsimp only [Out.go] at q
  rw [e2] at q ⊢
  intro ι2 H2 w g2 S2 r2
  refine ⟨ι2,h2,en,S2,er.mono (g1.trans g2),?_⟩
  dsimp only at q
  rw [e3] at q ⊢
  intro ι3 H3 j g3 S3 r3
  have q2:=PostS.shift q (g1.trans (g2.trans g3))
  simp only [hn] at q2
  split at q2
  ·rename_i hk
   cases (r2.mono g3) with
   | @ref _ ad hr =>
    obtain ⟨H4,dp,g4,S4⟩:=zi7 S3 hn hr r3 (r1.mono (g2.trans g3)) hk.1 hk.2
    exact ⟨ad,H4,rfl,dp,q2 ι3 H4 σ g4 S4 (er.mono (g1.trans (g2.trans (g3.trans g4))))⟩
  ·exact q2.elim
 ·refine .inl ⟨ι,h,en,S,er,?_⟩
  cases e1:sc en h with
  | bad=>rw [e1] at q;exact q
  | ex cc h1=>rw [e1] at q;exact fun i2 H2 C g S e=>q i2 H2 σ C g S (er.mono g) e
  | ok z h1 =>
   rw [e1] at q
   intro ι1 H1 u g1 S1 r1
   refine ⟨ι1,h1,en,S1,er.mono g1,?_⟩
   dsimp only [Out.go] at q
   cases e2:sa en h1 with
   | bad=>rw [e2] at q;exact q
   | ex cc h2=>rw [e2] at q;exact fun i2 H2 C g S e=>q i2 H2 σ C (g1.trans g) S (er.mono (g1.trans g)) e
   | ok x h2 =>
    rw [e2] at q
    intro ι2 H2 w g2 S2 r2
    refine ⟨ι2,h2,en,S2,er.mono (g1.trans g2),?_⟩
    dsimp only at q
    cases e3:sb en h2 with
    | bad=>rw [e3] at q;exact q
    | ex cc h3=>rw [e3] at q;exact fun i2 H2 C g S e=>q i2 H2 σ C (g1.trans (g2.trans g)) S (er.mono (g1.trans (g2.trans g))) e
    | ok y h3 =>
     rw [e3] at q
     intro ι3 H3 j g3 S3 r3
     have q2:=PostS.shift q (g1.trans (g2.trans g3))
     dsimp only at q2
     split at q2
     ·rename_i n
      split at q2
      ·rename_i xs hn
       split at q2
       ·rename_i k
        split at q2
        ·rename_i jj hj
         cases (r2.mono g3) with
         | @ref _ ad hr =>
          obtain ⟨o,e4,us,rfl,rs⟩:=S3.obj n _ ad hn hr
          have g4:=S3.growSet (u:=.lst (us.set jj u)) hr
          rw [yaE r3]
          exact ⟨ad,us,k,jj,rfl,rfl,e4,by rw [<- rs.length];exact hj,q2 ι3 _ σ g4 (S3.set hr ⟨_,rfl,RVs.set (r1.mono (g2.trans (g3.trans g4))) jj (rs.mono g4)⟩) (er.mono (g1.trans (g2.trans (g3.trans g4))))⟩
        ·exact q2.elim
       ·exact q2.elim
      ·rename_i t kvs hn
       exact (dd ⟨_,h1,_,h2,_,h3,e1,e2,e3,n,t,kvs,rfl,hn⟩).elim
      ·exact q2.elim
     ·exact q2.elim
theorem zi8 {g:Value->Value->Sem Value} {r:R2} {neg:Bool} (hK:X.K=T.K)
  (h1:∀ (i j:Str) H Q,Q (V.bl (if neg then !(!(Builtin.Str.occurrences j i 0 j.length 1).isEmpty) else !(Builtin.Str.occurrences j i 0 j.length 1).isEmpty)) H->r (.str i) (.str j) H Q)
  (h2:∀ x y H Q p xs d ds,y=V.ref p->SqL T.K H p xs->DaV T.K H x d->DaVs T.K H xs ds->d.canLay0=true->(∀ e∈ds,e.canLay0=true/\e.depth<=30)->Q (V.bl (if neg then !(ds.any fun e=>PyData.eqv e d) else ds.any fun e=>PyData.eqv e d)) H->r x y H Q)
  (h2t:∀ x y H Q p xs d ds,y=V.ref p->SqT T.K H p xs->DaV T.K H x d->DaVs T.K H xs ds->d.canLay0=true->(∀ e∈ds,e.canLay0=true/\e.depth<=30)->Q (V.bl (if neg then !(ds.any fun e=>PyData.eqv e d) else ds.any fun e=>PyData.eqv e d)) H->r x y H Q)
  (h3:∀ (y:V) (a:Addr) o H Q,DGet H a y o->Q (V.bl (if neg then !o.isSome else o.isSome)) H->r y (.ref a) H Q) :
  OpS T (fun x y h=>match inA x y h with | some b=>.ok (.bl (if neg then !b else b)) h | none=>.bad) r:=by
 intro ι h H x y u w E Q S rx ry p
 dsimp only at p
 cases hb:inA x y h with
 | none=>rw [hb] at p;exact p.elim
 | some b =>
  rw [hb] at p
  dsimp only at p
  unfold inA at hb
  split at hb
  ·cases hb
   obtain ⟨rfl,_⟩:=ya8 rx
   obtain ⟨rfl,_⟩:=ya8 ry
   exact h1 _ _ _ _ (p.now S (.bl _))
  ·rename_i n
   split at hb
   ·rename_i t kvs hn
    split at hb
    ·rename_i hk
     cases hb
     cases ry with
     | @ref _ ad hr =>
      obtain ⟨o,dg,alt⟩:=zfR S hn hr rx hk
      refine h3 u ad o H Q dg ?_
      rcases alt with ⟨v1,rfl⟩ | ⟨v,u',v1,rfl,r3⟩
      ·rw [v1] at p;exact p.now S (.bl _)
      ·rw [v1] at p;exact p.now S (.bl _)
    ·cases hb
   ·rename_i xs hn
    split at hb
    ·rename_i d ds e1 e2
     cases hb
     obtain ⟨a,us,rfl,sq,rs⟩:=yb9 (xs:=xs) S ry (by simp [ybD,hn])
     obtain ⟨q1,q2,q3⟩:=ydg S 8 rx e1
     obtain ⟨q4,q5⟩:=zbZ (n:=8) (fun r e=>ydg S 8 r e) rs e2
     exact h2 _ _ _ _ a us d ds rfl sq q1 q4 q2 (fun e he=>⟨(q5 e he).1,by have:=(q5 e he).2;omega⟩) (p.now S (.bl _))
    ·cases hb
   ·cases hb
  ·rename_i xs
   split at hb
   ·rename_i d ds e1 e2
    cases hb
    obtain ⟨a,us,rfl,sq,rs⟩:=yb9 S ry rfl
    obtain ⟨q1,q2,q3⟩:=ydg S 8 rx e1
    obtain ⟨q4,q5⟩:=zbZ (n:=8) (fun r e=>ydg S 8 r e) rs e2
    exact h2 _ _ _ _ a us d ds rfl sq q1 q4 q2 (fun e he=>⟨(q5 e he).1,by have:=(q5 e he).2;omega⟩) (p.now S (.bl _))
   ·cases hb
  ·rename_i xs
   split at hb
   ·rename_i d ds e1 e2
    cases hb
    obtain ⟨a,us,rfl,sq,rs⟩:=ydE ry
    obtain ⟨q1,q2,q3⟩:=ydg S 8 rx e1
    obtain ⟨q4,q5⟩:=zbZ (n:=8) (fun r e=>ydg S 8 r e) rs e2
    exact h2t _ _ _ _ a us d ds rfl sq q1 q4 q2 (fun e he=>⟨(q5 e he).1,by have:=(q5 e he).2;omega⟩) (p.now S (.bl _))
   ·cases hb
  ·cases hb
end
end Sm
namespace L2
open PySem PySem.Spec PyProof.Rows
section
variable {X:Cx} {pins:List (Addr×Obj)} {σ:St} {H:Hp} {s:Shared}
theorem zeg (I:Inv X pins σ H s) (hu:X.A.units+64<cLine) {xs:List V} {ds:List PyData} {its:List Value} {d:PyData} {v:Value} {as:List Addr} (ra:Reads s.heap v d as) (hds:DaVs X.K H xs ds) (r:Vals xs its) (cd:d.canLay0=true) (cds:∀ e∈ds,e.canLay0=true/\e.depth<=30) :
  (∀ y,y∈its.toArray->SeqAt.EqAt X.A.in1 s y v (isD s.heap d y))/\its.toArray.any (isD s.heap d)=ds.any fun e=>PyData.eqv e d:=by
 obtain ⟨hl,hat⟩:=zfF I hds r
 constructor
 ·intro y hy
  have hy':y∈its:=by simpa using hy
  obtain ⟨j,hj⟩:=List.getElem?_of_mem hy'
  have hlt:=(List.getElem?_eq_some_iff.mp hj).1
  have hdj:ds[j]? = some (ds[j]'(by omega)):=List.getElem?_eq_getElem (by omega)
  obtain ⟨bs,rb⟩:=hat j _ _ hj hdj
  have cj:=cds _ (List.mem_of_getElem? hdj)
  rw [yfr cj.1 rb]
  exact SeqAt.eqAt_reads _ _ _ _ _ _ _ _ rb ra cj.1 cd (by
   have:=Nat.min_le_left (ds[j]'(by omega)).depth d.depth
   show X.A.units+1+_<cLine
   omega)
 ·rw [<- Array.any_toList]
  refine zfG hl fun j u e h1 h2=>?_
  obtain ⟨bs,rb⟩:=hat j _ _ h1 h2
  exact yfr (cds _ (List.mem_of_getElem? h2)).1 rb
def yf9 (K:PySem.W.Frag):R2:=fun x y H Q=>∃ p xs d ds,y = .ref p/\SqL K H p xs/\DaV K H x d/\DaVs K H xs ds/\d.canLay0=true/\(∀ e∈ds,e.canLay0=true/\e.depth<=30)/\Q (.bl (!(ds.any fun e=>PyData.eqv e d))) H
def yfL (K:PySem.W.Frag):R2:=fun x y H Q=>∃ p xs d ds,y = .ref p/\SqT K H p xs/\DaV K H x d/\DaVs K H xs ds/\d.canLay0=true/\(∀ e∈ds,e.canLay0=true/\e.depth<=30)/\Q (.bl (!(ds.any fun e=>PyData.eqv e d))) H
theorem zhe (hu:X.A.units+64<cLine):OpR X (compareOp .NotIn) (yf9 X.K):=by
 intro pins s σ H x y v u Q I rx ry h
 obtain ⟨p,xs,d,ds,rfl,hq,hd,hds,cd,cds,q⟩:=h
 cases ry
 obtain ⟨its,r,pl,hz⟩:=I.list hq
 obtain ⟨as,ra⟩:=hd.reads I rx
 obtain ⟨h1,h2⟩:=zeg I hu ra hds r cd cds
 exact SeqAt.notIn_listAt (isD s.heap d) pl.isList h1 ⟨.bl _,H,I,rfl,by rw [h2];exact q⟩
theorem zgx (hu:X.A.units+64<cLine):OpR X (compareOp .NotIn) (yfL X.K):=by
 intro pins s σ H x y v u Q I rx ry h
 obtain ⟨p,xs,d,ds,rfl,hq,hd,hds,cd,cds,q⟩:=h
 cases ry
 obtain ⟨its,r,pl,hz⟩:=I.tuple hq
 obtain ⟨as,ra⟩:=hd.reads I rx
 obtain ⟨h1,h2⟩:=zeg I hu ra hds r cd cds
 exact SeqAt.notIn_tupleAt (isD s.heap d) pl h1 ⟨.bl _,H,I,rfl,by rw [h2];exact q⟩
theorem zeP (hu:X.A.units+64<cLine):OpR X (compareOp .NotIn) (fun x y H Q=>∃ a o,y = .ref a/\DGet H a x o/\Q (.bl (!o.isSome)) H):=by
 intro pins s σ H x y v u Q I rx ry h
 obtain ⟨a,o,rfl,g,q⟩:=h
 cases ry
 exact ziK (Nat.lt_of_le_of_lt (Nat.add_le_add_left (by decide:1<=64) _) hu) I g rx fun s' I' => ⟨.bl _,H,I',rfl,q⟩
end
end L2
namespace Sm
open PySem PySem.Spec L2
section
variable {T:Tb} {E:St->XK} {X:Cx}
theorem zfT (hK:X.K=T.K) (hu:X.A.units+64<cLine):Op T X (compareOp .NotIn) yeP:=by
 refine ⟨_,zeG.or ((zhe hu).or ((zgx hu).or (zeP hu))),zi8 (neg:=true) (g:=compareOp .NotIn) hK ?_ ?_ ?_ ?_⟩
 ·exact fun i j H Q q=>.inl ⟨i,j,rfl,rfl,q⟩
 ·exact fun x y H Q p xs d ds e1 e2 e3 e4 e5 e6 q=>.inr (.inl ⟨p,xs,d,ds,e1,hK▸e2,hK▸e3,hK▸e4,e5,e6,q⟩)
 ·exact fun x y H Q p xs d ds e1 e2 e3 e4 e5 e6 q=>.inr (.inr (.inl ⟨p,xs,d,ds,e1,hK▸e2,hK▸e3,hK▸e4,e5,e6,q⟩))
 ·exact fun y a o H Q g q=>.inr (.inr (.inr ⟨a,o,rfl,g,q⟩))
end
end Sm
namespace Sm
open PySem PySem.Spec L2
abbrev ErrC (x:Str) (C:Addr) (mg:Str->Option Value) (base:Heap):Prop:=PyProof.Rows.OwnCls x C [.type "ValueError",.type "Exception",.type "BaseException",.type "object"] "ValueError.__new__" mg base
structure GX (T:Tb) (mg:Str->Option Value) (base:Heap) (c:Nat) (x:Str):Prop where
 ex:∃ C,T.exc c=some C/\ErrC x C mg base
section
variable {T:Tb} {E:St->XK} {X:Cx} {pos np cpos:Pos} {e:Expr} {es:List Expr} {x:Str} {c:Nat} {as:SL}
theorem zaK (G:GX T X.mg X.base c x) (hr:yeC X E) (hg:Gl X x) (ha:PAA T E X (e::es) as) (hc:X.calm=true:=by rfl) (hex:X.ex=[]:=by rfl)
  (hdb:(x == ("__debug__" : Str))=false:=by decide) (he:starEach (e::es) X.env=(false,eval e X.env)::starEach es X.env:=by rfl) (hpl:(backTo cpos (starEach es X.env)).any (·.1)=false:=by rfl) :
  PSA T E X (.Raise (some (.Call (.Name x np) (e::es) [] cpos)) none pos) (yb8 c as):=by
 obtain ⟨C,h1,O⟩:=G.ex
 refine ych (zh0 O PySem.F.excBase_ValueError hc hex hr hg ha hdb he hpl) fun D σ H ⟨ι,h,en,S,er,q⟩=>⟨ι,h,en,S,er,q.go er fun xs h1' ι1 H1 us g1 S1 r1 q1=>?_⟩
 split at q1
 ·rename_i hl
  exact ⟨by rw [<- r1.length];exact hl,q1 ι1 H1 σ C S1.refl S1 (er.mono g1) h1⟩
 ·exact q1.elim
end
def ydK (T:Tb) (f:Fn) (r:List V->Hp->VK->Prop):Prop:=∀ (ι:Ix) (h:AH) (H:Hp) (xs:List AV) (us:List V) (E:XK) (Q:VK),Sim T ι h H->RVs T ι H xs us->Post T ι H E (RV T) (f xs h) Q->r us H Q
section
variable {T:Tb} {E:St->XK} {X:Cx} {pos p:Pos} {e a:Expr} {es:List Expr} {x:Str} {as:SL} {sa:SE}
theorem yfY {f:Fn} {r:List V->Hp->VK->Prop} (hs:ydK T f r) {σ:St} {H:Hp} {Q:VK} (q:tE T E (yah f as) σ H Q):tCB r (tA T E as) σ H Q:=by
 obtain ⟨ι,h,en,S,er,q⟩:=q
 exact ⟨ι,h,en,S,er,q.bind fun xs h1 ι1 H1 us g1 S1 r1 q1=>hs ι1 h1 H1 xs us _ Q S1 r1 q1⟩
theorem r_bi {id:String} {f:Fn} (hc:∃ r,CallR X (.builtin id) r/\ydK T f r) (hg:Gl X x) (hm:X.mg x=none) (hv:bootBuiltins x=some (.builtin id)) (ha:PAA T E X (e::es) as) (hn:x ≠ "__name__" := by decide) (hdb:(x == ("__debug__" : Str))=false:=by decide)
  (he:starEach (e::es) X.env=(false,eval e X.env)::starEach es X.env:=by rfl) (hpl:(backTo pos (starEach es X.env)).any (·.1)=false:=by rfl):PEA T E X (.Call (.Name x p) (e::es) [] pos) (yah f as):=by
 obtain ⟨r,h1,h2⟩:=hc
 exact yaZ (zeE h1 hg hm hv ha hn hdb he hpl) fun σ H Q q=>yfY h2 q
theorem r_ty {id:String} {f:Fn} (hc:∃ r,CallR X (.type id) r/\ydK T f r) (hg:Gl X x) (hm:X.mg x=none) (hv:bootBuiltins x=some (.type id)) (ha:PAA T E X (e::es) as) (hn:x ≠ "__name__" := by decide) (hdb:(x == ("__debug__" : Str))=false:=by decide)
  (he:starEach (e::es) X.env=(false,eval e X.env)::starEach es X.env:=by rfl) (hpl:(backTo pos (starEach es X.env)).any (·.1)=false:=by rfl):PEA T E X (.Call (.Name x p) (e::es) [] pos) (yah f as):=by
 obtain ⟨r,h1,h2⟩:=hc
 exact yaZ (zgX h1 hg hm hv ha hn hdb he hpl) fun σ H Q q=>yfY h2 q
theorem b_len (hK:X.K=T.K):∃ r,CallR X (.builtin "len") r/\ydK T fLen r:=by
 refine ⟨_,zeI.or (zeH.or zg2),fun ι h H xs us E Q S r q=>?_⟩
 unfold fLen at q
 split at q
 ·cases r with
  | cons r r' =>
   cases r'
   obtain ⟨rfl,n,_⟩:=ya8 r
   exact .inl ⟨_,rfl,n,q.now S (.int _)⟩
 ·cases r with
  | cons r r' =>
   cases r'
   obtain ⟨a,us,rfl,sq,rs⟩:=ydE r
   exact .inr (.inl ⟨a,us,rfl,.inr (hK▸sq),by rw [<- rs.length];exact q.now S (.int _)⟩)
 ·cases r with
  | cons r r' =>
   cases r'
   obtain ⟨a,us,rfl,sq,rs⟩:=yb9 S r rfl
   exact .inr (.inl ⟨a,us,rfl,.inl (hK▸sq),by rw [<- rs.length];exact q.now S (.int _)⟩)
 ·rename_i n
  cases r with
  | cons r r' =>
   cases r'
   split at q
   ·rename_i xs hn
    obtain ⟨a,us,rfl,sq,rs⟩:=yb9 (xs:=xs) S r (by simp [ybD,hn])
    exact .inr (.inl ⟨a,us,rfl,.inl (hK▸sq),by rw [<- rs.length];exact q.now S (.int _)⟩)
   ·rename_i kvs hn
    cases r with
    | @ref _ ad hr =>
     obtain ⟨o,e1,kus,rfl,rs⟩:=S.obj n _ ad hn hr
     exact .inr (.inr ⟨ad,kus,rfl,e1,by rw [<- Paired.length rs];exact q.now S (.int _)⟩)
   ·exact q.elim
 ·exact q.elim
theorem b_abs:∃ r,CallR X (.builtin "abs") r/\ydK T fAbs r:=by
 refine ⟨_,zhK,fun ι h H xs us E Q S r q=>?_⟩
 unfold fAbs at q
 split at q
 ·cases r with
  | cons r r' => cases r';rw [yaE r];exact ⟨_,rfl,q.now S (.int _)⟩
 ·exact q.elim
theorem yeT (hc:X.calm=true:=by rfl):∃ r,CallR X (.builtin "max") r/\ydK T ydJ r:=by
 refine ⟨_,zgR hc,fun ι h H xs us E Q S r q=>?_⟩
 unfold ydJ at q
 split at q
 ·cases r with
  | cons r r' => cases r' with
   | cons r1 r2=>cases r2;rw [yaE r,yaE r1];exact ⟨_,_,rfl,q.now S (.int _)⟩
 ·exact q.elim
theorem zeQ {ι:Ix} {H:Hp}:∀ {xs:List AV} {us:List V} {bs:List Bool},RVs T ι H xs us->ydZ xs=some bs->us=bs.map V.bl
 | _,_,_,.nil,e=>by cases e;rfl
 | _,_,bs,.cons (x:=x) r rs,e=>by
  unfold ydZ at e
  split at e
  ·rename_i hh;cases hh
  ·rename_i b r' hh
   cases hh
   obtain ⟨bs',e1,rfl⟩:=Option.map_eq_some_iff.mp e
   rw [ycF r,zeQ rs e1];rfl
  ·cases e
theorem b_all (hK:X.K=T.K) (hc:X.calm=true:=by rfl):∃ r,CallR X (.builtin "all") r/\ydK T fAll r:=by
 refine ⟨_,zhV hc,fun ι h H xs us E Q S r q=>?_⟩
 unfold fAll at q
 split at q
 ·split at q
  ·rename_i bs hb
   cases r with
   | cons r r' =>
    cases r'
    obtain ⟨a,us,rfl,sq,rs⟩:=yb9 S r rfl
    rw [zeQ rs hb] at sq
    exact ⟨a,bs,rfl,hK▸sq,q.now S (.bl _)⟩
  ·exact q.elim
 ·exact q.elim
theorem b_int:∃ r,CallR X (.type "int") r/\ydK T fInt r:=by
 refine ⟨_,zgS,fun ι h H xs us E Q S r q=>?_⟩
 unfold fInt at q
 split at q
 ·cases r with
  | cons r r' => cases r';rw [yaE r];exact .inl ⟨_,rfl,q.now S (.int _)⟩
 ·cases r with
  | cons r r' => cases r';rw [ycF r];exact .inr ⟨_,rfl,q.now S (.int _)⟩
 ·exact q.elim
abbrev tys:List String:=["NoneType", "bool", "int", "str", "list", "tuple", "dict"]
theorem yfA (K:PySem.W.Frag):∀ n∈tys,∀ t∈tys,PySem.W.kitOne K (.type n) (.type t)=some (n == t || (t == "int" && n == "bool")):=by
 intro n hn t ht
 simp only [tys,List.mem_cons,List.not_mem_nil,or_false] at hn ht
 rcases hn with rfl | rfl | rfl | rfl | rfl | rfl | rfl<;>rcases ht with rfl | rfl | rfl | rfl | rfl | rfl | rfl<;>rfl
theorem zhf {c:V} {cv:Value} (rc:∀ u,RelV c u->u=cv) :
  CallR X (.builtin "isinstance") (fun xs H Q=>∃ a us r,xs=[.ref a,c]/\SqL X.K H a us/\PySem.W.kitOne X.K (.type "list") cv=some r/\Q (.bl r) H):=by
 intro pins s σ H xs us Q I r h
 obtain ⟨a,ws,k,rfl,sq,hk,q⟩:=h
 obtain ⟨u,w',rfl,rx,ry⟩:=ye2 r
 obtain rfl:=rc _ ry
 obtain rfl:u=Value.ref a:=rx
 obtain ⟨its,_,⟨o,n,e1,e2,_⟩,_⟩:=I.list sq
 exact PySem.W.kia_one PySem.W.kitx_list I.kIn ⟨_,e1,e2⟩ hk (fun z=>nomatch z) fun tk=>⟨.bl k,H,I.tok _,rfl,q⟩
theorem yhO {ι:Ix} {h:AH} {H:Hp} {v:AV} {u:V} {n:String} (S:Sim T ι h H) (r:RV T ι H v u) (e:tyN v h=some n):(TyOf T.K H u (.type n)\/(n = "list" /\ ∃ a us,u = .ref a/\SqL T.K H a us))/\n∈tys:=by
 unfold tyN at e
 cases r with
 | non=>cases e;exact ⟨.inl .non,by decide⟩
 | bl b=>cases e;exact ⟨.inl (.bl b),by decide⟩
 | int b=>cases e;exact ⟨.inl (.int b),by decide⟩
 | str n o=>cases e;exact ⟨.inl (.str _),by decide⟩
 | tup n q r=>cases e;exact ⟨.inl (.tup q),by decide⟩
 | fl n q r=>cases e;exact ⟨.inr ⟨rfl,_,_,rfl,.inl q⟩,by decide⟩
 | kfl q r=>cases e;exact ⟨.inr ⟨rfl,_,_,rfl,.inr q⟩,by decide⟩
 | @ref k a q =>
  dsimp only at e
  split at e
  ·rename_i xs hn
   cases e
   obtain ⟨o,e1,us,rfl,rs⟩:=S.obj k _ a hn q
   exact ⟨.inl (.lst e1),by decide⟩
  ·rename_i t kvs hn
   cases e
   obtain ⟨o,e1,r⟩:=S.obj k _ a hn q
   cases t with
   | false=>obtain ⟨kus,rfl,rs⟩:=r;exact ⟨.inl (.dK e1),by decide⟩
   | true=>obtain ⟨kus,rfl,rs⟩:=r;exact ⟨.inl (.dT e1),by decide⟩
  ·cases e
 | exc _ _ _=>cases e
theorem ye6 {t:Str} {id:String} {p2:Pos} (hK:X.K=T.K) (hg:Gl X "isinstance") (hm:X.mg "isinstance" = none) (ha:PEA T E X a sa) (hgt:Gl X t) (hmt:X.mg t=none) (hvt:bootBuiltins t=some (.type id)) (hid:id∈tys) (hnt:t ≠ "__name__" := by decide) (hdt:(t == ("__debug__" : Str))=false:=by decide)
  (he:starEach [a,.Name t p2] X.env=(false,eval a X.env)::starEach [.Name t p2] X.env:=by rfl):PEA T E X (.Call (.Name "isinstance" p) [a,.Name t p2] [] pos) (sIsB id sa):=by
 refine yaZ (zeE ((zhU (X:=X) (yfQ id)).or (zhf (X:=X) (yfQ id))) hg hm PyProof.Rows.boot_isinstance (zdO ha (zdO (ziv (v:=.ty id) hgt hmt hvt rfl hnt hdt) yfk) he) (he:=he)) fun σ H Q ⟨ι,h,en,S,er,q⟩=>⟨ι,h,en,S,er,q.bind fun v h1 ι1 H1 u g1 S1 r1 q1=>?_⟩
 split at q1
 ·rename_i n hn
  obtain ⟨ty,hmem⟩:=yhO S1 r1 hn
  rcases ty with ty | ⟨rfl,ad,us,rfl,sq⟩
  ·exact .inl ⟨u,.type n,_,rfl,hK▸ty,yfA _ n hmem id hid,q1.now S1 (.bl _)⟩
  ·exact .inr ⟨ad,us,_,rfl,hK▸sq,yfA _ _ hmem id hid,q1.now S1 (.bl _)⟩
 ·exact q1.elim
def MtS (T:Tb) (f:FM) (r:V->List V->Hp->VK->Prop):Prop:=∀ (ι:Ix) (h:AH) (H:Hp) (x:AV) (xs:List AV) (u:V) (us:List V) (E:XK) (Q:VK),Sim T ι h H->RV T ι H x u->RVs T ι H xs us->Post T ι H E (RV T) (f x xs h) Q->r u us H Q
def ChkS (T:Tb) (chk:AV->AH->Bool) (n:String):Prop:=∀ (ι:Ix) (h:AH) (H:Hp) (x:AV) (u:V),Sim T ι h H->RV T ι H x u->chk x h=true->tyV T.K n u H
theorem zax:ChkS T yaV "list" := fun ι h H x u S r e=>by
 obtain ⟨xs,e1⟩:=Option.isSome_iff_exists.mp e
 obtain ⟨a,us,rfl,sq,rs⟩:=yb9 S r e1
 exact .inl ⟨rfl,us,sq⟩
theorem za8:ChkS T ycS "str" := fun ι h H x u S r e=>by
 unfold ycS at e
 split at e
 ·obtain ⟨rfl,_⟩:=ya8 r;rfl
 ·cases e
variable {o:Expr} {so:SE} {name:Str} {apos:Pos} {chk:AV->AH->Bool} {f:FM} {tn id:String}
theorem r_bm (hK:X.K=T.K) (pa:PlainAttrs tn) (slot:Slot tn name id) (hty:typeOf (.builtin id)=pure (.type "method_descriptor")) (hm:∃ r,MtR X id r/\MtS T f r) (hc:ChkS T chk tn) (ho:PEA T E X o so) (ha:PAA T E X (e::es) as)
  (hbase:attributeBase o name X.env (eval o X.env)=eval o X.env:=by rfl)
  (hfew:((backTo pos (starEach (e::es) X.env)).all (fun x=>!x.1) && (backToKw pos (keywordEach [] X.env)).all (fun x=>x.1.isSome)
   && decide ((e::es).length+([]:List Keyword).length+(if ([]:List Keyword).isEmpty then 0 else 1)<30))=true:=by rfl)
  (hline:(apos.endLine == pos.line)=true:=by rfl) (hs:starEach (e::es) X.env=(false,eval e X.env)::starEach es X.env:=by rfl) (hplain:(backTo pos (starEach es X.env)).any (·.1)=false:=by rfl) :
  PEA T E X (.Call (.Attribute o name apos) (e::es) [] pos) (sBM chk f so as):=by
 obtain ⟨r,h1,h2⟩:=hm
 refine yaZ (yhx pa slot hty h1 ho ha hbase hfew hline hs hplain) fun σ H Q ⟨ι,h,en,S,er,q⟩=>⟨ι,h,en,S,er,q.bind fun x h1 ι1 H1 u g1 S1 r1 q1=>?_⟩
 by_cases hx:chk x h1=true
 ·rw [if_pos hx] at q1
  exact ⟨hK▸hc ι1 h1 H1 x u S1 r1 hx,ι1,h1,en,S1,er.mono g1,q1.bind fun xs h2' ι2 H2 us g2 S2 r2 q2=>h2 ι2 h2' H2 x xs u us _ Q S2 (r1.mono g2) r2 q2⟩
 ·rw [if_neg hx] at q1;exact q1.elim
theorem yhP (hK:X.K=T.K) (pa:PlainAttrs tn) (slot:Slot tn name id) (hty:typeOf (.builtin id)=pure (.type "method_descriptor")) (hm:∃ r,MtR X id r/\MtS T f r) (hc:ChkS T chk tn) (ho:PEA T E X o so)
  (hbase:attributeBase o name X.env (eval o X.env)=eval o X.env:=by rfl) (hline:(apos.endLine == pos.line)=true:=by rfl):PEA T E X (.Call (.Attribute o name apos) [] [] pos) (sBM0 chk f so):=by
 obtain ⟨r,h1,h2⟩:=hm
 refine yaZ (ygC pa slot hty h1 ho hbase hline) fun σ H Q ⟨ι,h,en,S,er,q⟩=>⟨ι,h,en,S,er,q.bind fun x h1 ι1 H1 u g1 S1 r1 q1=>?_⟩
 by_cases hx:chk x h1=true
 ·rw [if_pos hx] at q1
  exact ⟨hK▸hc ι1 h1 H1 x u S1 r1 hx,h2 ι1 h1 H1 x [] u [] _ Q S1 r1 .nil q1⟩
 ·rw [if_neg hx] at q1;exact q1.elim
theorem zat:∃ r,MtR X "list.append" r/\MtS T yaU r:=by
 refine ⟨_,zcs,fun ι h H x xs u us E Q S rx rs q=>?_⟩
 unfold yaU at q
 split at q
 ·rename_i n y
  split at q
  ·rename_i ys hn
   split at q
   ·rename_i hl
    cases rx with
    | @ref _ ad hr =>
     cases rs with
     | @cons _ uu _ _ r r' =>
      cases r'
      obtain ⟨o,e1,ws,rfl,rw_⟩:=S.obj n _ ad hn hr
      have g:=S.growSet (u:=.lst (ws++[uu])) hr
      exact ⟨ad,ws,_,rfl,rfl,e1,by rw [<- rw_.length];exact hl,q ι _ _ g (S.set hr ⟨_,rfl,(rw_.mono g).append (.cons (r.mono g) .nil)⟩) .non⟩
   ·exact q.elim
  ·exact q.elim
 ·exact q.elim
theorem yhQ:∃ r,MtR X "list.pop" r/\MtS T mPop r:=by
 refine ⟨_,ygD,fun ι h H x xs u us E Q S rx rs q=>?_⟩
 unfold mPop at q
 split at q
 ·rename_i n
  split at q
  ·rename_i ys hn
   split at q
   ·rename_i y hy
    cases rx with
    | @ref _ ad hr =>
     cases rs
     obtain ⟨o,e1,ws,rfl,rw_⟩:=S.obj n _ ad hn hr
     have g:=S.growSet (u:=.lst ws.dropLast) hr
     obtain ⟨v,e2,r2⟩:=rw_.get hy
     refine ⟨ad,ws,v,rfl,rfl,e1,by rw [<- rw_.length];exact e2,q ι _ _ g (S.set hr ⟨_,rfl,?_⟩) (r2.mono g)⟩
     have z:=(rw_.mono g).take (ys.length-1)
     have e3:ys.take (ys.length-1)=ys.dropLast:=List.dropLast_eq_take.symm
     have e4:ws.take (ys.length-1)=ws.dropLast:=by rw [rw_.length];exact List.dropLast_eq_take.symm
     rw [e3,e4] at z
     exact z
   ·exact q.elim
  ·exact q.elim
 ·exact q.elim
theorem zbD:∃ r,MtR X "str.count" r/\MtS T ybE r:=by
 refine ⟨_,zeK,fun ι h H x xs u us E Q S rx rs q=>?_⟩
 unfold ybE at q
 split at q
 ·cases rs with
  | cons r r' =>
   cases r'
   obtain ⟨rfl,_⟩:=ya8 rx
   obtain ⟨rfl,_⟩:=ya8 r
   exact ⟨_,_,rfl,rfl,q.now S (.int _)⟩
 ·exact q.elim
theorem zfU {ι:Ix} {H:Hp}:∀ {xs:List AV} {us:List V} {zs:List Str},RVs T ι H xs us->yd0 xs=some zs->us=zs.map V.str/\∀ z∈zs,z.cps.all (· < 0x110000)=true
 | _,_,_,.nil,e=>by cases e;exact ⟨rfl,by simp⟩
 | _,_,zs,.cons (x:=x) r rs,e=>by
  unfold yd0 at e
  split at e
  ·rename_i hh;cases hh
  ·rename_i b r' hh
   cases hh
   obtain ⟨zs',e1,rfl⟩:=Option.map_eq_some_iff.mp e
   obtain ⟨rfl,_,o⟩:=ya8 r
   obtain ⟨h1,h2⟩:=zfU rs e1
   refine ⟨by rw [h1];rfl,fun z hz=>?_⟩
   rcases List.mem_cons.mp hz with rfl | hz
   ·exact o
   ·exact h2 z hz
  ·cases e
theorem yfB (hK:X.K=T.K):∃ r,MtR X "str.join" r/\MtS T yde r:=by
 refine ⟨_,ziV,fun ι h H x xs u us E Q S rx rs q=>?_⟩
 unfold yde at q
 split at q
 ·rename_i z y
  split at q
  ·rename_i hz
   subst hz
   split at q
   ·rename_i ys hy
    split at q
    ·rename_i zs hzs
     split at q
     ·rename_i hl
      cases rs with
      | cons r r' =>
       cases r'
       obtain ⟨rfl,_⟩:=ya8 rx
       obtain ⟨a,ws,rfl,sq,rw_⟩:=yb9 S r hy
       obtain ⟨h1,h2⟩:=zfU rw_ hzs
       subst h1
       refine ⟨a,zs,rfl,rfl,hK▸sq,hl,fun rr hrr=>?_⟩
       have e:rr=⟨((zs.map fun x:Str=>x.cps.toList).flatten).toArray⟩:=by
        cases rr
        simp only [Str.mk.injEq]
        rw [<- hrr]
       rw [e]
       refine q.now S (.str ?_ ?_)
       ·show ((zs.map fun x:Str=>x.cps.toList).flatten).toArray.size<=sizeLine
        rw [List.size_toArray]
        exact Nat.le_trans hl (by decide)
       ·rw [Array.all_eq_true_iff_forall_mem]
        intro c hc
        simp only [List.mem_toArray,List.mem_flatten,List.mem_map] at hc
        obtain ⟨l,⟨zz,hz1,rfl⟩,hc2⟩:=hc
        exact Array.all_eq_true_iff_forall_mem.mp (h2 zz hz1) c (by simpa using hc2)
     ·exact q.elim
    ·exact q.elim
   ·exact q.elim
  ·exact q.elim
 ·exact q.elim
end
end Sm
namespace Sm
open PySem PySem.Spec L2
theorem Out.bind_assoc {α β γ:Type} (o:Out α) (f:α->AH->Out β) (g:β->AH->Out γ):(o.bind f).bind g=o.bind fun a h=>(f a h).bind g:=by cases o<;>rfl
section
variable {T:Tb} {E:St->XK} {X:Cx} {pos p2:Pos} {a b:Expr} {sa sb:SE}
def tO (T:Tb) (E:St->XK):Option SE->TO
 | none=>yeY
 | some s=>yfO (tE T E s)
abbrev POA (T:Tb) (E:St->XK) (X:Cx) (e:Option Expr) (s:Option SE):Prop:=PO X e (tO T E s)
theorem zb0:POA T E X none none:=ziF
theorem zaR (h:PEA T E X a sa):POA T E X (some a) (some sa):=ziG h
@[simp] def yeK (s:Option SE):En->AH->Out (Option Int):=fun en h=>match s with
 | none=>.ok none h
 | some l=>(l en h).bind fun v h2=>match v with | .int i=>.ok (some i) h2 | _=>.bad
theorem zfV {s:Option SE} {σ:St} {H:Hp} {ι:Ix} {h:AH} {en:En} {γ δ:Type} {R':Ix->Hp->γ->δ->Prop} {Q0:δ->Hp->Prop} {f:Option Int->AH->Out γ} {Q:Option Int->Hp->Prop} (S:Sim T ι h H) (er:ER T ι H en σ) (q:Post T ι H (E σ) R' ((yeK s en h).bind f) Q0)
  (k:∀ l h' ι' H',Grow ι H ι' H'->Sim T ι' h' H'->Post T ι' H' (E σ) R' (f l h') Q0->Q l H'):tO T E s σ H Q:=by
 cases s with
 | none=>exact k none h ι H S.refl S q
 | some l =>
  refine ⟨ι,h,en,S,er,?_⟩
  unfold yeK at q
  dsimp only at q
  rw [Out.bind_assoc] at q
  refine q.bind fun v h1 ι1 H1 u g1 S1 r1 q1=>?_
  split at q1
  ·rw [yaE r1]
   exact ⟨_,rfl,k _ _ ι1 H1 g1 S1 q1⟩
  ·exact q1.elim
@[simp] def yb1 (x:AV) (l u:Option Int) (h:AH):Out AV:=match x with
 | .fl xs=>.ok (.fl (cutA xs l u)) h
 | .str z=>.ok (.str (cutS z l u)) h
 | .tup xs=>if ¬ (HT.sIx xs.length 0 l=0/\HT.sIx xs.length xs.length u=xs.length) then .ok (.tup (cutA xs l u)) h else .bad
 | .ref n=>match h[n]? with
  | some (.lst xs)=>.ok (.fl (cutA xs l u)) h
  | _=>.bad
 | _=>.bad
@[simp] def sCut (a:SE) (lo hi:Option SE):SE:=fun en h=>(a en h).bind fun x h1=>(yeK lo en h1).bind fun l h2=>(yeK hi en h2).bind fun u h3=>yb1 x l u h3
theorem RVs.cut {ι:Ix} {H:Hp} {xs:List AV} {us:List V} {lo hi:Option Int} (r:RVs T ι H xs us):RVs T ι H (cutA xs lo hi) (cutV us lo hi):=by
 unfold cutA cutV
 rw [<- r.length]
 exact (r.drop _).take _
theorem ygS {ι:Ix} {H:Hp} {z:Str} {l u:Option Int} (hz:z.length<=sizeLine) (hc:z.cps.all (· < 0x110000)=true):RV T ι H (.str (cutS z l u)) (.str (cutS z l u)):=by
 refine .str ?_ ?_
 ·refine Nat.le_trans ?_ hz
  simp [cutS,Str.length];omega
 ·simp only [cutS,List.all_toArray,List.all_eq_true]
  intro c h
  have hm:c∈z.cps.toList:=List.mem_of_mem_drop (List.mem_of_mem_take h)
  exact (Array.all_eq_true_iff_forall_mem.mp hc) c (by simpa using hm)
theorem za9 {lo hi:Option Expr} {sl sh:Option SE} (hK:X.K=T.K) (ha:PEA T E X a sa) (hl:POA T E X lo sl) (hh:POA T E X hi sh):PEA T E X (.Subscript a (.Slice lo hi none p2) pos) (sCut sa sl sh):=by
 refine yaZ (zhO (ziJ.or (sl_tup.or ygL)) ha hl hh) fun σ H Q ⟨ι,h,en,S,er,q⟩=>⟨ι,h,en,S,er,q.bind fun x h1 ι1 H1 u g1 S1 r1 q1=>?_⟩
 refine zfV (E:=E) S1 (er.mono g1) q1 fun l h2 ι2 H2 g2 S2 q2=>zfV (E:=E) S2 (er.mono (g1.trans g2)) q2 fun w h3 ι3 H3 g3 S3 q3=>?_
 have r3:=r1.mono (g2.trans g3)
 unfold yb1 at q3
 split at q3
 ·obtain ⟨ad,us,rfl,sq,rs⟩:=yb9 S3 r3 rfl
  exact .inl ⟨ad,us,rfl,hK▸sq,fun p n=>yer S3 rs.cut n q3⟩
 ·obtain ⟨rfl,hz,hc⟩:=ya8 r3
  exact .inr (.inr ⟨_,rfl,hz,q3.now S3 (ygS hz hc)⟩)
 ·rename_i xs
  split at q3
  ·rename_i hz
   obtain ⟨ad,us,rfl,sq,rs⟩:=ydE r3
   exact .inr (.inl ⟨ad,us,rfl,hK▸sq,by rw [<- rs.length];exact hz,fun p n=>zdQ S3 rs.cut n q3⟩)
  ·exact q3.elim
 ·split at q3
  ·rename_i xs hn
   obtain ⟨ad,us,rfl,sq,rs⟩:=yb9 (xs:=xs) S3 r3 (by simp [ybD,hn])
   exact .inl ⟨ad,us,rfl,hK▸sq,fun p n=>yer S3 rs.cut n q3⟩
  ·exact q3.elim
 ·exact q3.elim
theorem r_gI {x:Str} {i:Int} {p:Pos} (hg:Gl X x) (hm:∃ t,X.mg x=some (.int i t)) (hd:(x == ("__debug__" : Str))=false:=by decide):PEA T E X (.Name x p) (sLit (.int i)):=by
 obtain ⟨t,hm⟩:=hm
 exact ziX hg hm hd
end
def DG (K:PySem.W.Frag) (mg:Str->Option Value) (x:Str) (st:Stmt) (ps:List Str):Prop:=∃ f fd,mg x=some (.ref f)/\PySem.W.keepIn K (.ref f)=true/\Binds K fd ps []/\Fun K x x st f fd
end Sm
namespace Sm
open PySem PySem.Spec L2
def yeD (N:List Str) (sc:Scope) (x₁:Str) (jf:List (Nat×Str)) (scope:Scope):Bool :=
 decide (x₁::jf.map (·.2)).Nodup && (scope.names.lookup x₁ == some .local) && jf.all (fun p=>N[p.1]? == some p.2) && jf.all (fun p=>scope.names.lookup p.2 == some .free) && (scope.kind == .function) &&
 scope.names.all (fun y=>y.2 != .cell) && scope.names.all (fun y=>y.2 != .free || sc.names.lookup y.1 == some .cell || sc.names.lookup y.1 == some .free) && scope.names.all (fun y=>y.2 != .local || scope.names.lookup y.1 == some .local)
theorem zaU {X:Cx} {N:List Str} {sc scope:Scope} {x₁:Str} {jf:List (Nat×Str)} (hN:X.N=N) (hk:∀ x,X.env.kindOf x=sc.names.lookup x) (h:yeD N sc x₁ jf scope=true):CompOk X x₁ jf scope:=by
 unfold yeD at h
 simp only [Bool.and_eq_true,decide_eq_true_eq,List.all_eq_true,beq_iff_eq,bne_iff_ne,Bool.or_eq_true] at h
 obtain ⟨⟨⟨⟨⟨⟨⟨h1,h2⟩,h3⟩,h4⟩,h5⟩,h6⟩,h7⟩,h8⟩:=h
 refine ⟨h1,h2,fun p hp=>by rw [hN];exact h3 p hp,h4,h5,fun y hy=>h6 y hy,fun y hy e=>?_,fun y hy e=>?_⟩
 ·rw [hk]
  rcases h7 y hy with (z | z) | z
  ·exact absurd e z
  ·exact .inl z
  ·exact .inr z
 ·rcases h8 y hy with z | z
  ·exact absurd e z
  ·exact z
end Sm
namespace Sm
open PySem PySem.Spec L2
theorem zdU {T:Tb} {ι:Ix} {H:Hp}:∀ ns:List Int,RVs T ι H (ns.map AV.int) (ns.map V.int)
 | []=>.nil
 | n::ns=>.cons (.int n) (zdU ns)
theorem sim0 {T:Tb} {H:Hp}:Sim T ⟨[],[]⟩ [] H:=⟨rfl,List.nodup_nil,(fun _ z=>nomatch z),(fun i o a e=>by simp at e)⟩
def spL (K:PySem.W.Frag):Sp:=fun vs H Q _=>∃ (a:Addr) (ns:List Int),vs=[.ref a]/\SqL K H a (ns.map V.int)/\ns.length<=63/\∀ H',Q (.bl true) H'
theorem zi9 {T:Tb} {F:Fn} (ht:∀ ns:List Int,ns.length<=63->∃ h',F [.fl (ns.map AV.int)] [] = .ok (.bl true) h'):∀ vs H Q E,spL T.K vs H Q E->spA T F vs H Q E:=by
 rintro vs H Q E ⟨a,ns,rfl,hs,hl,q⟩
 obtain ⟨h',e⟩:=ht ns hl
 refine ⟨⟨[],[]⟩,[],[.fl (ns.map AV.int)],sim0,.cons ?_ .nil,?_⟩
 ·rcases hs with hs | hs
  ·exact .fl (by simp [Ix.all]) hs (zdU ns)
  ·exact .kfl hs (zdU ns)
 ·rw [e]
  intro ι' H' u g S r
  rw [ycF r]
  exact q H'
theorem zhg {P:Program} {w:World} {outer:List Env} {H:Hp} {s s':Shared} {e:Value} (h:CXE P w outer H s (fun _ _ _=>False) e s'):False:=by
 obtain ⟨_,_,_,_,_,_,_,_,_,_,_,_,_,_,q⟩:=h
 exact q
end Sm
namespace Sm
open PySem PySem.Spec L2
@[simp] def ydR:List AV->Option (List Int)
 | []=>some []
 | .int i::r=>(ydR r).map (i :: ·)
 | _=>none
@[simp] def fSum:Fn:=fun args h=>match args with
 | [.fl xs]=>match ydR xs with
  | some ns=>.ok (.int ns.sum) h
  | none=>.bad
 | _=>.bad
@[simp] def ycT (a b c:SE):SI:=fun en h=>(a en h).bind fun v h1=>(b en h1).bind fun w h2=>(c en h2).bind fun z h3=>match v,w,z with
 | .int i,.int j,.int k=>if i.natAbs<2 ^ 40/\j.natAbs<2 ^ 40/\0<k/\k<2 ^ 20 then .ok ((List.range (if i<j then (j-i-1) / k+1 else 0:Int).toNat).map (fun m:Nat=>.int (i+m*k)),none) h3 else .bad
 | _,_,_=>.bad
@[simp] def ydP:FM:=fun x vs h=>match x,vs with
 | .str z,[.str y,.int i]=>.ok (.int (match Builtin.Str.occurrences z y (fromIndex z.length i) z.length 1 with | k::_=>(k:Int) | []=>-1)) h
 | _,_=>.bad
@[simp] def fIsB:F2:=fun x y h=>match x,y with
 | .bl a,.bl b=>.ok (.bl (a == b)) h
 | _,_=>.bad
@[simp] def yeE (f f' f'':F2) (a b c d:SE):SE:=fun en h=>(a en h).bind fun x h1=>(b en h1).bind fun y h2=>(f x y h2).bind fun z h3=>match z with
 | .bl k=>if k=true then (c en h3).bind fun w h4=>(f' y w h4).bind fun z2 h5=>(match z2 with
  | .bl k2=>if k2=true then (d en h5).bind fun v h6=>f'' w v h6 else .ok (.bl false) h5
  | _=>.bad) else .ok (.bl false) h3
 | _=>.bad
section
variable {T:Tb} {E:St->XK} {X:Cx} {pos p:Pos} {e a b c:Expr} {sa sb sc:SE}
theorem zfW {ι:Ix} {H:Hp}:∀ {xs:List AV} {us:List V} {bs:List Int},RVs T ι H xs us->ydR xs=some bs->us=bs.map V.int
 | _,_,_,.nil,e=>by cases e;rfl
 | _,_,bs,.cons (x:=x) r rs,e=>by
  unfold ydR at e
  split at e
  ·rename_i hh;cases hh
  ·rename_i b r' hh
   cases hh
   obtain ⟨bs',e1,rfl⟩:=Option.map_eq_some_iff.mp e
   rw [yaE r,zfW rs e1];rfl
  ·cases e
theorem b_sum (hK:X.K=T.K) (hc:X.calm=true:=by rfl):∃ r,CallR X (.builtin "sum") r/\ydK T fSum r:=by
 refine ⟨_,zh3 hc,fun ι h H xs us E Q S r q=>?_⟩
 unfold fSum at q
 split at q
 ·split at q
  ·rename_i bs hb
   cases r with
   | cons r r' =>
    cases r'
    obtain ⟨a,us,rfl,sq,rs⟩:=yb9 S r rfl
    rw [zfW rs hb] at sq
    exact ⟨a,bs,rfl,hK▸sq,q.now S (.int _)⟩
  ·exact q.elim
 ·exact q.elim
theorem zgy {ι:Ix} {H:Hp} {lo c:Int} {n:Nat}:ItR T (Itr3 lo c n) ι H ((List.range n).map (fun m:Nat=>AV.int (lo+m*c))) none:=by
 constructor
 ·intro i ι' h' H' y g S _ e
  rw [List.getElem?_map] at e
  obtain ⟨m,e1,rfl⟩:=Option.map_eq_some_iff.mp e
  have hi:i<n:=by
   have:=(List.getElem?_eq_some_iff.mp e1).1
   simpa using this
  rw [List.getElem?_range hi] at e1
  cases e1
  refine ⟨hi,?_⟩
  rintro u H2 ⟨rfl,rfl⟩
  exact ⟨S.refl,S,.int _⟩
 ·intro i ι' h' H' g S _ hl
  have hl':n<=i:=by simpa using hl
  exact hl'
theorem zeh {tg:Expr} {p:Pos} (hg:Gl X "range") (hm:X.mg "range" = none) (ha:PEA T E X a sa) (hb:PEA T E X b sb) (hc:PEA T E X c sc) (hs:starEach [a,b,c] X.env=[(false,eval a X.env),(false,eval b X.env),(false,eval c X.env)]:=by rfl) (hs2:starEach [b,c] X.env=[(false,eval b X.env),(false,eval c X.env)]:=by rfl) (hs3:starEach [c] X.env=[(false,eval c X.env)]:=by rfl) :
  PIA T X tg (.Call (.Name "range" p) [a,b,c] [] pos) (ycT sa sb sc) :=
 yeu (zg8 hg hm (zaa ha (zaa hb (zaa hc yac hs3) (by rw [hs2,hs3])) (by rw [hs,hs2])) hs hs2) fun σ H R ⟨ι,h,en,S,er,q⟩=>by
  unfold ycT at q
  refine ⟨ι,h,en,S,er,?_⟩
  unfold yab
  cases e:sa en h with
  | bad=>rw [e] at q;exact q
  | ex c h1=>rw [e] at q;exact q.elim
  | ok v h1 =>
   rw [e] at q
   dsimp only [Out.bind] at q ⊢
   cases e':sb en h1 with
   | bad=>rw [e'] at q;exact q
   | ex c h1=>rw [e'] at q;exact q.elim
   | ok v' h2 =>
    rw [e'] at q
    dsimp only at q ⊢
    cases e'':sc en h2 with
    | bad=>rw [e''] at q;exact q
    | ex c h1=>rw [e''] at q;exact q.elim
    | ok v'' h3 =>
     rw [e''] at q
     dsimp only at q
     intro ι1 H1 u g1 S1 r1
     split at q
     ·rename_i hx
      split at hx
      ·split at hx
       ·rename_i hb
        cases hx
        cases r1 with
        | cons r r' =>
         cases r' with
         | cons r2 r3 =>
          cases r3 with
          | cons r4 r5 =>
           cases r5
           rw [yaE r,yaE r2,yaE r4]
           exact ⟨_,_,_,rfl,hb,q ι1 H1 _ g1 S1 zgy⟩
       ·cases hx
      ·cases hx
     ·exact q.elim
theorem yd2 {sts:List Stmt} {E:St->XK}:PSsA T E X sts (fun _ _=>.bad):=fun pins s σ H D I ⟨ι,h,en,S,er,q⟩=>q.elim
theorem zh6:∃ r,MtR X "str.find" r/\MtS T ydP r:=by
 refine ⟨_,zeL,fun ι h H x xs u us E Q S rx rs q=>?_⟩
 unfold ydP at q
 split at q
 ·cases rs with
  | cons r r' =>
   cases r' with
   | cons r2 r3 =>
    cases r3
    obtain ⟨rfl,_⟩:=ya8 rx
    obtain ⟨rfl,_⟩:=ya8 r
    rw [yaE r2]
    exact ⟨_,_,_,rfl,rfl,q.now S (.int _)⟩
 ·exact q.elim
theorem zhh {d:Expr} {sd:SE} {op op' op'':CmpOp} {f f' f'':F2} (ho:Op T X (compareOp op) f) (ho':Op T X (compareOp op') f') (ho'':Op T X (compareOp op'') f'') (ha:PEA T E X a sa) (hb:PEA T E X b sb) (hc:PEA T E X c sc) (hd:PEA T E X d sd) (hm:lastMarks [op,op',op''] [b,c,d]=false:=by with_unfolding_all rfl) :
  PTA T E X (.Compare a [op,op',op''] [b,c,d] pos) (yas (yeE f f' f'' sa sb sc sd)):=by
 obtain ⟨r,h1,hs⟩:=ho
 obtain ⟨r',h1',hs'⟩:=ho'
 obtain ⟨r'',h1'',hs''⟩:=ho''
 refine yea (zg9 h1 h1' h1'' ha hb hc hd hm) fun σ H Q q=>?_
 obtain ⟨ι,h,en,S,er,q⟩:=q
 unfold yas yeE at q
 rw [Out.bind_assoc] at q
 refine ⟨ι,h,en,S,er,q.bind fun x h1 ι1 H1 u g1 S1 r1 q1=>?_⟩
 rw [Out.bind_assoc] at q1
 refine ⟨ι1,h1,en,S1,er.mono g1,q1.bind fun y h2 ι2 H2 w g2 S2 r2 q2=>?_⟩
 rw [Out.bind_assoc] at q2
 refine hs ι2 h2 H2 x y u w (E σ) _ S2 (r1.mono g2) r2 (q2.bind fun z h3 ι3 H3 k g3 S3 r3 q3=>?_)
 split at q3
 ·rename_i kk
  rw [ycF r3]
  refine ⟨kk,rfl,?_⟩
  by_cases hkk:kk=true
  ·rw [if_pos hkk] at q3 ⊢
   rw [Out.bind_assoc] at q3
   refine ⟨ι3,h3,en,S3,er.mono (g1.trans (g2.trans g3)),q3.bind fun v h4 ι4 H4 j g4 S4 r4 q4=>?_⟩
   rw [Out.bind_assoc] at q4
   refine hs' ι4 h4 H4 y v w j (E σ) _ S4 (r2.mono (g3.trans g4)) r4 (q4.bind fun z2 h5 ι5 H5 k5 g5 S5 r5 q5=>?_)
   split at q5
   ·rename_i k2
    rw [ycF r5]
    refine ⟨k2,rfl,?_⟩
    by_cases hk2:k2=true
    ·rw [if_pos hk2] at q5 ⊢
     rw [Out.bind_assoc] at q5
     refine ⟨ι5,h5,en,S5,er.mono (g1.trans (g2.trans (g3.trans (g4.trans g5)))),q5.bind fun v6 h6 ι6 H6 j6 g6 S6 r6 q6=>?_⟩
     refine hs'' ι6 h6 H6 v v6 j j6 (E σ) _ S6 (r4.mono (g5.trans g6)) r6 (q6.bind fun z7 h7 ι7 H7 k7 g7 S7 r7 q7=>?_)
     split at q7
     ·rw [ycF r7];exact ⟨_,rfl,q7.now S7 rfl⟩
     ·exact q7.elim
    ·rw [if_neg hk2] at q5 ⊢
     exact ⟨false,rfl,q5.now S5 rfl⟩
   ·exact q5.elim
  ·rw [if_neg hkk] at q3 ⊢
   exact ⟨false,rfl,q3.now S3 rfl⟩
 ·exact q3.elim
end
theorem el1:∀ {us:List Value},us.length=1->∃ a:Value,us=[a]
 | [a],_=>⟨a,rfl⟩
theorem el2:∀ {us:List Value},us.length=2->∃ a b:Value,us=[a,b]
 | [a,b],_=>⟨a,b,rfl⟩
theorem el3:∀ {us:List Value},us.length=3->∃ a b c:Value,us=[a,b,c]
 | [a,b,c],_=>⟨a,b,c,rfl⟩
theorem el4:∀ {us:List Value},us.length=4->∃ a b c d:Value,us=[a,b,c,d]
 | [a,b,c,d],_=>⟨a,b,c,d,rfl⟩
theorem el5:∀ {us:List Value},us.length=5->∃ a b c d e:Value,us=[a,b,c,d,e]
 | [a,b,c,d,e],_=>⟨a,b,c,d,e,rfl⟩
def ycG:Nat:=100000000
end Sm
namespace Sm
open PySem PySem.Spec L2
def un2 {α:Type} (c:En->AH->Out α):En->AH->Out α:=fun en h=>match en with
 | some (.tup [y,z])::r=>c (some y::some z::r) h
 | _=>.bad
theorem ygT {α:Type} (c:En->AH->Out α) (x:AV):(∃ y z,x = .tup [y,z])\/∀ r h,un2 c (some x::r) h = .bad:=by
 match x with
 | .tup [y,z]=>exact .inl ⟨y,z,rfl⟩
 | .tup []=>exact .inr fun _ _=>rfl
 | .tup [_]=>exact .inr fun _ _=>rfl
 | .tup (_::_::_::_)=>exact .inr fun _ _=>rfl
 | .non=>exact .inr fun _ _=>rfl
 | .exc _=>exact .inr fun _ _=>rfl
 | .bl _=>exact .inr fun _ _=>rfl
 | .int _=>exact .inr fun _ _=>rfl
 | .str _=>exact .inr fun _ _=>rfl
 | .fl _=>exact .inr fun _ _=>rfl
 | .ref _=>exact .inr fun _ _=>rfl
@[simp] theorem yh5 {α:Type} (c:En->AH->Out α) (y z:AV) (r:En) (h:AH):un2 c (some (.tup [y,z])::r) h=c (some y::some z::r) h:=rfl
@[simp] def yec (js:List Nat) (it:SI) (c:SB) (e:SE):SE:=ya3 js it (un2 c) (un2 e)
section
variable {T:Tb} {E:St->XK} {X:Cx} {pos px p1 p2:Pos} {kk:Nat} {iter elt:Expr} {ifs:List Expr} {scope:Scope} {x₁ x₂:Str} {jf:List (Nat×Str)} {it:SI} {cc:SB} {ce:SE}
theorem ER.comp2 {ι:Ix} {H:Hp} {en:En} {σ:St} {x y:AV} {u v:V} {jf:List (Nat×Str)} (er:ER T ι H en σ) (r:RV T ι H x u) (r2:RV T ι H y v):ER T ι H (some x::some y::(jf.map (·.1)).map fun j=>(en[j]?).join) (ybj (some u) (some v) jf σ):=by
 obtain ⟨h1,h2⟩:=ER.comp (jf:=jf) er r2
 refine ⟨by simp [ybj],fun i v e=>?_⟩
 cases i with
 | zero=>simp at e;subst e;exact ⟨u,rfl,r⟩
 | succ i=>exact h2 i v (by simpa using e)
theorem zh7 {jf:List (Nat×Str)} {it:SI} {cc:SB} {ce:SE} {σ:St} {H:Hp} {Q:VK} {ι:Ix} {h:AH} {en:En} (S:Sim T ι h H) (er:ER T ι H en σ)
  (q:match it en h with | .ok (xs,w) h1=>(match yaF (jf.map (·.1)) en w xs (un2 cc) (un2 ce) xs [] h1 with | .ok ys h2=>∀ ι' H' D vs,Grow ι H ι' H'->Sim T (ι'.hide D) h2 H'->RVs T (ι'.hide D) H' ys vs->H' D=some (.lst vs)->D∉ι'.all->(∀ n,ι'.refs=ι.refs++n->∀ a∈n++[D],H a=none)->Q (.ref D) H' | _=>False) | _=>False) :
  yeo T.K jf (tI T it) (tT T EN cc) (tE T EN ce) σ H Q:=by
 refine ⟨ι,h,en,S,er,?_⟩
 cases e:it en h with
 | bad=>rw [e] at q;exact q
 | ex c h1=>rw [e] at q;exact q
 | ok p h1 =>
  obtain ⟨xs,w⟩:=p
  rw [e] at q
  dsimp only at q
  intro ι1 H1 J g1 S1 IR D hD
  refine ⟨fun i m ys H2=>m=xs.length-i/\i<=xs.length/\H2 D=some (.lst ys)/\∃ ι' h' vs,Grow ι1 H1 ι' H2/\Ext ι1 H1 (ι'.hide D) H2/\Sim T (ι'.hide D) h' H2/\ER T (ι'.hide D) H2 en σ/\RVs T (ι'.hide D) H2 vs ys/\D∉ι'.refs /\
   (match yaF (jf.map (·.1)) en w xs (un2 cc) (un2 ce) (xs.drop i) vs h' with | .ok ys h2=>∀ ι' H' D vs,Grow ι H ι' H'->Sim T (ι'.hide D) h2 H'->RVs T (ι'.hide D) H' ys vs->H' D=some (.lst vs)->D∉ι'.all->(∀ n,ι'.refs=ι.refs++n->∀ a∈n++[D],H a=none)->Q (.ref D) H' | _=>False),?_,?_⟩
  ·exact ⟨xs.length,by simp,Nat.zero_le _,zar,ι1,h1,[],S1.growNew hD,Ext.hide hD,S1.hide hD,(er.mono g1).ext (Ext.hide hD),.nil,fun z=>S1.fresh hD (List.mem_append_left _ z),q⟩
  ·rintro i m ys H2 ⟨rfl,hi,hH2,ι',h',vs,g',x',S',er',rv',nD',q'⟩
   refine ⟨hH2,?_⟩
   by_cases hl:i<xs.length
   ·rw [zcv hl] at q'
    unfold yaF at q'
    by_cases hs:yb7 w xs h'=true/\vs.length<sizeLine
    ·rw [if_pos hs] at q'
     obtain ⟨hs1,hs2⟩:=hs
     obtain ⟨go,yld⟩:=IR.go i _ h' H2 xs[i] x' S' hs1 (by simp [hl])
     refine .inr ⟨go,by rw [<- rv'.length];exact hs2,fun x H3 y=>?_⟩
     obtain ⟨g3,S3,r3⟩:=yld x H3 y
     have er3:=er'.mono g3
     obtain ⟨y1,y2,exi⟩:∃ y1 y2,xs[i] = .tup [y1,y2]:=by
      rcases ygT cc xs[i] with z | z
      ·exact z
      ·rw [z] at q';exact q'.elim
     rw [exi] at r3
     simp only [exi,un2] at q'
     obtain ⟨aa,us,rfl,sq,rss⟩:=ydE r3
     cases rss with
     | cons rA rB' => cases rB' with
       | cons rB rN =>
     cases rN
     refine ⟨aa,_,_,rfl,sq,ι'.hide D,h',_,S3,ER.comp2 er3 rA rB,?_⟩
     cases ec:cc (some y1::some y2::(jf.map (·.1)).map fun j=>(en[j]?).join) h' with
     | bad=>rw [ec] at q';exact q'
     | ex c h5=>rw [ec] at q';exact q'.elim
     | ok bb h5 =>
      rw [ec] at q'
      intro ι5 H5 b5 g5 S5 r5
      subst r5
      have g35:=g3.trans g5
      have hD5:H5 D=some (.lst ys):=g35.keep D _ nD' hH2
      have eι:ι5=Ix.hide ⟨ι5.refs,ι'.priv⟩ D:=by
       have:=g5.priv
       cases ι5
       simp only at this
       subst this
       rfl
      have nD5:D∉ι5.refs:=g35.outR nD' hH2
      have gG5:Grow ι1 H1 ⟨ι5.refs,ι'.priv⟩ H5:=by
       obtain ⟨n,en1,hn⟩:=g'.pre
       obtain ⟨k,ek,hk⟩:=g35.pre
       refine ⟨⟨n++k,?_,fun a ha=>?_⟩,g'.priv,fun a o na ea=>?_,fun a ha=>?_⟩
       ·show ι5.refs=_;rw [ek];show ι'.refs++k=_;rw [en1];simp
       ·rcases List.mem_append.mp ha with z | z
        ·exact hn a z
        ·have z2:=hk a z
         by_cases hr:a∈ι1.refs
         ·exact absurd z2 (g'.live a (List.mem_append_left _ hr))
         ·cases e9:H1 a with
          | none=>rfl
          | some o=>rw [g'.keep a o hr e9] at z2;cases z2
       ·exact g35.keep a o (g'.outR na ea) (g'.keep a o na ea)
       ·have:a∈(ι'.hide D).all:=by
         rcases List.mem_append.mp ha with z | z
         ·exact List.mem_append_left _ (by show a∈ι'.refs;rw [en1];exact List.mem_append_left _ z)
         ·exact List.mem_append_right _ (List.mem_cons_of_mem _ (by rw [g'.priv];exact z))
        exact g35.live a this
      have x5:Ext ι1 H1 (Ix.hide ⟨ι5.refs,ι'.priv⟩ D) H5:=eι▸x'.trans g35.ext
      have er5:=er3.mono g5
      have rv5:=(rv'.mono g35)
      cases bb with
      | false =>
       rw [if_neg Bool.false_ne_true]
       refine ⟨xs.length-(i+1),by omega,rfl,hl,hD5,⟨ι5.refs,ι'.priv⟩,h5,vs,gG5,x5,eι▸S5,eι▸er5,eι▸rv5,nD5,q'⟩
      | true =>
       rw [if_pos rfl]
       refine ⟨ι5,h5,_,S5,(ER.comp2 er3 rA rB).mono g5,?_⟩
       dsimp only at q'
       cases ee:ce (some y1::some y2::(jf.map (·.1)).map fun j=>(en[j]?).join) h5 with
       | bad=>rw [ee] at q';exact q'
       | ex c h6=>rw [ee] at q';exact q'.elim
       | ok v h6 =>
        rw [ee] at q'
        intro ι6 H6 u6 g6 S6 r6
        have g56:=g6
        have hD6:H6 D=some (.lst ys):=g56.keep D _ nD5 hD5
        have eι6:ι6=Ix.hide ⟨ι6.refs,ι'.priv⟩ D:=by
         have h1:=g6.priv
         have h2:=g5.priv
         rw [h2] at h1
         cases ι6
         simp only at h1
         subst h1
         rfl
        have nD6:D∉ι6.refs:=g56.outR nD5 hD5
        have gG6:Grow ι1 H1 ⟨ι6.refs,ι'.priv⟩ (upd H6 D (.lst (ys++[u6]))):=by
         obtain ⟨n,en1,hn⟩:=gG5.pre
         obtain ⟨k,ek,hk⟩:=g56.pre
         have hD1:∀ a o,H1 a=some o->a≠D:=fun a o ea=>zaw ea hD
         refine ⟨⟨n++k,?_,fun a ha=>?_⟩,g'.priv,fun a o na ea=>?_,fun a ha=>?_⟩
         ·show ι6.refs=_;rw [ek];have z:ι5.refs=ι1.refs++n:=en1;rw [z];simp
         ·rcases List.mem_append.mp ha with z | z
          ·exact hn a z
          ·have z2:=hk a z
           by_cases hr:a∈ι1.refs
           ·exact absurd z2 (gG5.live a (List.mem_append_left _ hr))
           ·cases e9:H1 a with
            | none=>rfl
            | some o=>rw [gG5.keep a o hr e9] at z2;cases z2
         ·rw [yaC (hD1 a o ea)]
          exact g56.keep a o (gG5.outR na ea) (gG5.keep a o na ea)
         ·by_cases zD:a=D
          ·subst zD;rw [zar];simp
          ·rw [yaC zD]
           have:a∈ι5.all:=by
            rcases List.mem_append.mp ha with z | z
            ·exact List.mem_append_left _ (by have z':ι5.refs=ι1.refs++n:=en1;rw [z'];exact List.mem_append_left _ z)
            ·rw [eι];exact List.mem_append_right _ (List.mem_cons_of_mem _ (by show a∈ι'.priv;rw [g'.priv];exact z))
           exact g56.live a this
        refine ⟨hD6,xs.length-(i+1),by omega,rfl,hl,zar,⟨ι6.refs,ι'.priv⟩,h6,vs++[v],gG6,?_,?_,?_,?_,nD6,q'⟩
        ·exact (eι6▸(x'.trans (g35.ext.trans g6.ext))).trans Ext.poke
        ·exact Sim.poke (eι6▸S6) nD6
        ·exact ER.ext (eι6▸er5.mono g6) Ext.poke
        ·have:RVs T ι6 H6 (vs++[v]) (ys++[u6]):=(rv5.mono g6).append (.cons r6 .nil)
         exact RVs.ext Ext.poke (eι6▸this)
    ·rw [if_neg hs] at q';exact q'.elim
   ·have ei:i=xs.length:=by omega
    subst ei
    rw [List.drop_length] at q'
    unfold yaF at q'
    by_cases hs:yb7 w xs h'=true
    ·rw [if_pos hs] at q'
     have hp:D∉ι'.priv:=fun z=>by rw [g'.priv] at z;exact S1.plive D z hD
     refine .inl ⟨IR.stop _ _ h' H2 x' S' hs (Nat.le_refl _),q' ι' H2 D ys (g1.trans g') S' rv' hH2 (fun z=>(List.mem_append.mp z).elim nD' hp) fun n en1 a ha=>?_⟩
     obtain ⟨k,ek,hk⟩:=(g1.trans g').pre
     have:n=k:=List.append_cancel_left (en1.symm.trans ek)
     subst this
     rcases List.mem_append.mp ha with z | z
     ·exact hk a z
     ·have z':a=D:=by simpa using z
      subst z'
      cases e9:H a with
      | none=>rfl
      | some o =>
       by_cases hr:a∈ι.refs
       ·have z1:a∈ι1.refs:=by
         obtain ⟨k1,ek1,_⟩:=g1.pre
         rw [ek1];exact List.mem_append_left _ hr
        exact absurd hD (S1.live a (List.mem_append_left _ z1))
       ·rw [g1.keep a o hr e9] at hD;cases hD
    ·rw [if_neg hs] at q';exact q'.elim
theorem zh8 {σ:St} {H:Hp} {Q:VK} (q:tE T E (ya3 (jf.map (·.1)) it (un2 cc) (un2 ce)) σ H Q):yeo T.K jf (tI T it) (tT T EN cc) (tE T EN ce) σ H Q:=by
 obtain ⟨ι,h,en,S,er,q⟩:=q
 refine zh7 S er ?_
 unfold ya3 at q
 cases e:it en h with
 | bad=>rw [e] at q;exact q
 | ex c h1=>rw [e] at q;exact q.elim
 | ok p h1 =>
  obtain ⟨xs,w⟩:=p
  rw [e] at q
  dsimp only at q ⊢
  cases e2:yaF (jf.map (·.1)) en w xs (un2 cc) (un2 ce) xs [] h1 with
  | bad=>rw [e2] at q;exact q
  | ex c h1=>rw [e2] at q;exact q.elim
  | ok ys h2 =>
   rw [e2] at q
   exact fun ι' H' D vs g S' r hD nD _=>q ι' H' _ g S'.show (.fl nD (.inl hD) (r.ext Ext.show))
structure CompOk2 (X:Cx) (x₁ x₂:Str) (jf:List (Nat×Str)) (scope:Scope):Prop where
 hN:(x₁::x₂::jf.map (·.2)).Nodup
 hx:scope.names.lookup x₁=some .local
 hx2:scope.names.lookup x₂=some .local
 hjf:∀ p∈jf,X.N[p.1]? = some p.2
 hjl:∀ p∈jf,scope.names.lookup p.2=some .free
 hkind:scope.kind = .function
 hcell:∀ y∈scope.names,y.2 ≠ .cell
 hfr:∀ y∈scope.names,y.2 = .free->X.env.kindOf y.1=some .cell\/X.env.kindOf y.1=some .free
 hnames:∀ y∈scope.names,y.2 = .local->scope.names.lookup y.1=some .local
end
def yeU (N:List Str) (sc:Scope) (x₁ x₂:Str) (jf:List (Nat×Str)) (scope:Scope):Bool :=
 yeD N sc x₁ jf scope && decide (x₁::x₂::jf.map (·.2)).Nodup && (scope.names.lookup x₂ == some .local)
theorem zgz {X:Cx} {N:List Str} {sc scope:Scope} {x₁ x₂:Str} {jf:List (Nat×Str)} (hN:X.N=N) (hk:∀ x,X.env.kindOf x=sc.names.lookup x) (h:yeU N sc x₁ x₂ jf scope=true):CompOk2 X x₁ x₂ jf scope:=by
 unfold yeU at h
 simp only [Bool.and_eq_true,decide_eq_true_eq,beq_iff_eq] at h
 obtain ⟨⟨h1,h2⟩,h3⟩:=h
 have C:=zaU hN hk h1
 exact ⟨h2,C.hx,h3,C.hjf,C.hjl,C.hkind,C.hcell,C.hfr,C.hnames⟩
section
variable {T:Tb} {E:St->XK} {X:Cx} {pos p pos' p':Pos} {a:Expr} {sa:SE}
end
end Sm
namespace L2
open PySem PySem.Spec PyProof.Rows
def ItzT (x:Str):It :=
 ⟨fun i _=>i<x.cps.size,fun i H v H' => ∃ (T:Addr) (c:Nat),v = .ref T/\H T=none/\H'=upd H T (.tup [.int i,.str ⟨#[c]⟩])/\x.cps[i]? = some c,fun i _=>x.cps.size<=i⟩
theorem zei {P:Program} {w:World} {A:Around} (hh:A.handled=none) (it:Addr) (x:Str) (t:Tok) :
  Draws P w A it [it] x.cps.size (SignAt x) (fun i h=>h.IsStrIter it (strIterType x) x t i):=by
 cases ha:x.cps.all (· < 128) with
 | false =>
  have e:strIterType x = "str_iterator" := by simp [strIterType,ha]
  rw [e]
  exact Draws.strWide hh it x t
 | true =>
  have e:strIterType x = "str_ascii_iterator" := by simp [strIterType,ha]
  rw [e]
  exact Draws.strAscii hh it x t
theorem zgA {P:Program} {w:World} {K:PySem.W.Frag} {es:List Expr} {k:Nat} {tp:Pos} (it e:Addr) (x:Str) (t:Tok) (hei:e≠it) :
  Turn P w K (.Tuple es k tp) (ItzT x) [e,it] e (fun i h=>i<=x.cps.size/\(∃ old,IsEnum h e it i old)/\h.IsStrIter it (strIterType x) x t i) where
 mem:=by simp
 obj:=fun i h st b hb=>by
  obtain ⟨_,⟨old,he⟩,o,ho,hc,hd⟩:=st
  have hb':b=e\/b=it:=by simpa using hb
  rcases hb' with rfl | rfl
  ·exact ⟨_,he,fun v z=>by
    have z':Data.fields _=Data.cell v:=z
    cases z'⟩
  ·exact ⟨o,ho,fun v z=>by rw [hd] at z;cases z⟩
 keep:=fun i h h' st k=>by
  obtain ⟨hle,⟨old,he⟩,o,ho,r⟩:=st
  exact ⟨hle,⟨old,k e (by simp) _ he⟩,o,k it (by simp) o ho,r⟩
 item:=by
  intro X hP hw hK hc i pins s σ H E I hf st hg
  subst hP hw hK
  obtain ⟨hle,⟨old,he⟩,hit⟩:=st
  have D:Draws X.prog X.w X.A.in1 it [it] x.cps.size (SignAt x) (fun i h=>h.IsStrIter it (strIterType x) x t i):=zei (A:=X.A.in1) (show X.A.in1.handled=none from I.ok.hd hc) it x t
  refine wpAny_pyNext_enum_itemD D he hit hg hei (by simpa using hei) fun v h1 tk hv ho hit1 hT hsz hk=>?_
  obtain ⟨c,u,hcp,rfl⟩:=hv
  refine ⟨.ref s.heap.objs.size,rfl,wpAny_letOwnedTupleGo_enum ho fun h2 he2 hs2=>?_⟩
  replace hs2:Heap.SameBut e h1 h2:=hs2
  have helt:e<s.heap.objs.size:=Heap.lt_size he
  have I1:Inv X pins σ H { s with heap:=h2,toks:=tk+1 }:=I.turnedL (fp:=[e,it]) (fun b o hb q=>by
   have n1:b≠e:=fun z=>hb (by simp [z])
   have n2:b≠it:=fun z=>hb (by simp [z])
   exact (hs2.2 b n1).trans (hk b o n1 n2 q)) hf
  have hT2:h2.get? s.heap.objs.size=some { cls:=.type "tuple",data:=.seq #[.int i tk,.str ⟨#[c]⟩ u] }:=(hs2.2 _ (Nat.ne_of_gt helt)).trans hT
  have fp:=I.fpOk (H' := H) (Nat.le_refl s.heap.objs.size) (I.hok.fresh (Nat.le_refl _))
  obtain ⟨f0,f1,f2,f3,f4,f5⟩:=fp
  have I2:Inv X pins σ (upd H s.heap.objs.size (.tup [.int i,.str ⟨#[c]⟩])) { s with heap:=h2,toks:=tk+1 } :=
   I1.adopt (T:=s.heap.objs.size) f0 (I.sz) f1 f4 f5 ⟨by show 2<=sizeLine;decide,[.int i tk,.str ⟨#[c]⟩ u],.cons ⟨_,rfl⟩ (.cons ⟨u,rfl⟩ .nil),⟨_,hT2,rfl,_,rfl⟩⟩
  refine ⟨.ref s.heap.objs.size,_,I2,rfl,⟨s.heap.objs.size,c,rfl,f0,rfl,hcp⟩,⟨hg,⟨_,by simpa using he2⟩,?_⟩,fun b hb=>?_⟩
  ·obtain ⟨o,q,r⟩:=hit1
   exact ⟨o,(hs2.2 it (Ne.symm hei)).trans q,r⟩
  ·obtain ⟨g0,_⟩:=hf b hb
   obtain ⟨o,hob,_⟩:∃ o,s.heap.get? b=some o/\True:=by
    have hb':b=e\/b=it:=by simpa using hb
    rcases hb' with rfl | rfl
    ·exact ⟨_,he,trivial⟩
    ·obtain ⟨o,q,_⟩:=hit
     exact ⟨o,q,trivial⟩
   rw [yaC (Nat.ne_of_lt (Heap.lt_size hob))]
   exact g0
 done:=by
  intro X hP hw hK hc i pins s σ H E I hf st hg
  subst hP hw hK
  obtain ⟨hle,⟨old,he⟩,hit⟩:=st
  have D:Draws X.prog X.w X.A.in1 it [it] x.cps.size (SignAt x) (fun i h=>h.IsStrIter it (strIterType x) x t i):=zei (A:=X.A.in1) (show X.A.in1.handled=none from I.ok.hd hc) it x t
  have ei:i=x.cps.size:=Nat.le_antisymm hle hg
  subst ei
  exact wpAny_pyNext_enum_endD D he hit fun h' eb=>⟨rfl,I.turnedL (fp:=[e,it]) (t' := s.toks) (fun b o hb q=>eb b o (fun z=>hb (by simp [z])) q) hf⟩
 self:=fun _ _ _ _ _ st h=>by
  obtain ⟨_,⟨old,he⟩,_⟩:=st
  exact wpAny_pyIter_enum he h
section
variable {X:Cx}
def ygU (ta:TA):TI:=fun σ H R=>ta σ H fun vs H1=>∃ x,vs=[.str x]/\R (ItzT x) H1
theorem zh9 {l:Expr} {ta:TA} {p pos tp:Pos} {es:List Expr} {k:Nat} (hg:Gl X "enumerate") (hm:X.mg "enumerate" = none) (ha:PA X [l] ta) (hs:starEach [l] X.env=[(false,eval l X.env)]:=by rfl) :
  PI X (.Tuple es k tp) (.Call (.Name "enumerate" p) [l] [] pos) (ygU ta):=by
 intro pins s σ H R I h
 refine Call_ (ydX I hg hm boot_enumerate (PyProof.Rows.callWith_type1 (thn (ha pos pins s σ H _ I h) fun us s1 ⟨vs,H1,I1,r1,q1⟩=>?_) hs rfl))
 obtain ⟨x,e,q⟩:=q1
 subst e
 cases r1 with
 | cons r rr =>
  cases rr
  obtain ⟨tk,rfl⟩:=r
  refine call_enumerate_str fun h' he hit hsz hk=>wpAny_pyIter_enum he ?_
  refine ⟨s1.heap.objs.size+1,[s1.heap.objs.size+1,s1.heap.objs.size],_,_,H1,rfl,I1.kept (t' := s1.toks) fun b o e=>hk b o e,zgA _ _ x tk (Nat.succ_ne_self _),⟨Nat.zero_le _,⟨_,he⟩,hit⟩,fun b hb=>?_,q⟩
  have hb':b=s1.heap.objs.size+1\/b=s1.heap.objs.size:=by simpa using hb
  rcases hb' with rfl | rfl
  ·exact I1.fpOk (Nat.le_succ _) (I1.hok.fresh (Nat.le_succ _))
  ·exact I1.fpOk (Nat.le_refl _) (I1.hok.fresh (Nat.le_refl _))
end
end L2
namespace Sm
open PySem PySem.Spec L2
def ydS (z:Str):List AV:=z.cps.toList.map fun c=>.str ⟨#[c]⟩
@[simp] def ydF (a:SE):SI:=fun en h=>(a en h).bind fun v h1=>match v with
 | .str z=>.ok (numbered 0 (ydS z),none) h1
 | _=>.bad
section
variable {T:Tb} {E:L2.St->XK} {X:Cx} {pos:Pos} {a:Expr} {sa:SE}
theorem zhi {ι:Ix} {H:Hp} {z:Str} (hc:z.cps.all (· < 0x110000)=true):ItR T (ItzT z) ι H (numbered 0 (ydS z)) none:=by
 constructor
 ·intro i ι' h' H' x g S _ e
  rw [zcu] at e
  obtain ⟨y,e0,rfl⟩:=Option.map_eq_some_iff.mp e
  unfold ydS at e0
  rw [List.getElem?_map] at e0
  obtain ⟨c,ec,rfl⟩:=Option.map_eq_some_iff.mp e0
  have hi:i<z.cps.size:=by simpa using (List.getElem?_eq_some_iff.mp ec).1
  refine ⟨hi,?_⟩
  rintro u2 H2 ⟨t,c2,rfl,hn,rfl,hy⟩
  have hy':z.cps.toList[i]? = some c2:=by simpa using hy
  rw [ec] at hy'
  cases hy'
  have g2:=S.growNew (o:=.tup [.int i,.str ⟨#[c]⟩]) hn
  refine ⟨g2,S.new hn,.tup (S.fresh hn) zar (.cons ?_ (.cons ?_ .nil))⟩
  ·rw [Nat.zero_add]
   exact .int _
  ·have hm:c∈z.cps:=by simpa using List.mem_of_getElem? ec
   exact .str (by show 1<=sizeLine;decide) (by simpa using (Array.all_eq_true_iff_forall_mem.mp hc) c hm)
 ·intro i ι' h' H' g S _ hl
  rw [zbM] at hl
  unfold ydS at hl
  show z.cps.size<=i
  simpa using hl
theorem zia {p tp:Pos} {es:List Expr} {k:Nat} (hK:X.K=T.K) (hg:Gl X "enumerate") (hm:X.mg "enumerate" = none) (ha:PEA T E X a sa) (hs:starEach [a] X.env=[(false,eval a X.env)]:=by rfl):PIA T X (.Tuple es k tp) (.Call (.Name "enumerate" p) [a] [] pos) (ydF sa) :=
 yeu (zh9 hg hm (zaa ha yac hs) hs) fun σ H R ⟨ι,h,en,S,er,q⟩=>by
  unfold ydF at q
  refine ⟨ι,h,en,S,er,?_⟩
  unfold yab
  cases e:sa en h with
  | bad=>rw [e] at q;exact q
  | ex c h1=>rw [e] at q;exact q.elim
  | ok v h1 =>
   rw [e] at q
   intro ι1 H1 u g1 S1 r1
   dsimp only [Out.bind] at q
   cases v with
   | str z =>
    cases r1 with
    | cons r r' =>
     cases r'
     obtain ⟨rfl,hz,hc⟩:=ya8 r
     exact ⟨_,rfl,q ι1 H1 _ g1 S1 (zhi hc)⟩
   | _=>exact q.elim
end
end Sm
namespace L2
open PySem PySem.Spec PyProof.Rows
section
variable {X:Cx} {x₁ x₂:Str} {px p1 p2:Pos} {kk:Nat} {jf:List (Nat×Str)} {scope:Scope} {iter elt:Expr} {ifs:List Expr} {pos:Pos} {wi:TI} {tc:TT} {te:TE}
theorem zib {y:Str} {py spos:Pos} {i:Nat} (hcalm:X.calm=true) (hi:PI X (.Tuple [.Name x₁ p1,.Name x₂ p2] kk px) iter wi) (hc:∀ pins cl s H fp,PTs (ya4 X pins x₁ x₂ jf scope cl s H fp) ifs tc) (he:∀ pins cl s H fp,PE (ya4 X pins x₁ x₂ jf scope cl s H fp) elt te)
  (hN:(x₁::x₂::jf.map (·.2)).Nodup) (hx:scope.names.lookup x₁=some .local) (hx2:scope.names.lookup x₂=some .local) (hjf:∀ p∈jf,X.N[p.1]? = some p.2) (hjl:∀ p∈jf,scope.names.lookup p.2=some .free) (hkind:scope.kind = .function)
  (hcell:∀ y∈scope.names,y.2 ≠ .cell) (hfr:∀ y∈scope.names,y.2 = .free->X.env.kindOf y.1=some .cell\/X.env.kindOf y.1=some .free)
  (hnames:∀ y∈scope.names,y.2 = .local->scope.names.lookup y.1=some .local) (hNX:X.N.Nodup) (hi':X.N[i]? = some y) (hy:X.env.scope.names.lookup y=some .local)
  (hsw:swapsWith (.ListComp elt [⟨.Tuple [.Name x₁ p1,.Name x₂ p2] kk px,iter,ifs,0⟩] scope pos) (some (.Name y py)) spos.line X.env=pure true) (hs:∀ x,foldedSetIterable iter X.env x=pure x:=by intro _;rfl) :
  PS X (.Assign [.Name y py] (.ListComp elt [⟨.Tuple [.Name x₁ p1,.Name x₂ p2] kk px,iter,ifs,0⟩] scope pos) spos) (tAsg (yeo X.K jf wi tc te) (yd5 i)):=by
 intro pins s σ H D I h
 rw [exec_Assign_Name_used _ _ _ _ hsw]
 refine wpAny_bind (wpAny_standAt (wpAny_bind ?_))
 show wpAny _ X.A (do let _ <- comprehension (.ListComp elt [⟨.Tuple [.Name x₁ p1,.Name x₂ p2] kk px,iter,ifs,0⟩] scope pos) scope X.env _ (newList []) false (eval iter X.env) (some (assign (.Name y py) X.env))) _ _ s
 refine wpAny_bind (wpAny_mono (zha (Qf:=fun _ s' => SP X pins D .next s') hcalm hi hc he hN hx hx2 hjf hjl hkind hcell hfr hnames (use:=some (assign (.Name y py) X.env)) I h (fun D' C s6 H6 m6 I6 q6 f6 n6=>?_) hs) (fun _ s' hq=>wpAny_pure (wpAny_pure hq)) fun _ _ z=>z)
 refine wpAny_assign_Name (zcq I6 hNX hi' (.inl hy) (v:=.ref D') rfl (fun s7 I7 ⟨a,hsa,ha⟩=>?_) (.inr hy))
 have ne:C≠a:=by
  rcases ha with z | z
  ·rw [z];exact f6.2.1
  ·exact fun q=>f6.2.2.2.2.1 y a z q.symm
 refine ⟨m6,n6.sameBut hsa ne,fun h' hs' => ⟨_,H6,?_,q6⟩⟩
 exact I7.turnedL (fp:=[C]) (t' := s7.toks) (fun b o hb q=>(hs'.2 b (fun z=>hb (by simp [z]))).trans q) (fun b hb=>by
  have e:b=C:=by simpa using hb
  subst e
  exact f6)
end
end L2
namespace Sm
open PySem PySem.Spec L2
section
variable {T:Tb} {E:L2.St->XK} {X:Cx} {pos px p1 p2:Pos} {kk:Nat} {iter elt:Expr} {ifs:List Expr} {scope:Scope} {x₁ x₂:Str} {jf:List (Nat×Str)} {it:SI} {itg:SIG} {cc:SB} {ce:SE}
theorem zic {y:Str} {py spos:Pos} {i:Nat} (hK:X.K=T.K) (C:CompOk2 X x₁ x₂ jf scope) (hcalm:X.calm=true) (hi:PIA T X (.Tuple [.Name x₁ p1,.Name x₂ p2] kk px) iter it) (hc:∀ pins cl s H fp,PTs (ya4 X pins x₁ x₂ jf scope cl s H fp) ifs (tT T EN cc)) (he:∀ pins cl s H fp,PEA T EN (ya4 X pins x₁ x₂ jf scope cl s H fp) elt ce)
  (hNX:X.N.Nodup) (hi':X.N[i]? = some y:=by rfl) (hy:X.env.scope.names.lookup y=some .local:=by rfl) (hsw:swapsWith (.ListComp elt [⟨.Tuple [.Name x₁ p1,.Name x₂ p2] kk px,iter,ifs,0⟩] scope pos) (some (.Name y py)) spos.line X.env=pure true:=by rfl) (hs:∀ x,foldedSetIterable iter X.env x=pure x:=by intro _;rfl) :
  PSA T E X (.Assign [.Name y py] (.ListComp elt [⟨.Tuple [.Name x₁ p1,.Name x₂ p2] kk px,iter,ifs,0⟩] scope pos) spos) (sSet i (yec (jf.map (·.1)) it cc ce)) :=
 ych (zib hcalm hi hc he C.hN C.hx C.hx2 C.hjf C.hjl C.hkind C.hcell C.hfr C.hnames hNX hi' hy hsw hs) fun D σ H q=>hK▸zh8 (yeR q)
end
end Sm
namespace Sk
open PySem PySem.Spec L2 Sm
abbrev yga:Nat:=0
abbrev yh2:Nat:=1
abbrev yhR:Nat:=2
abbrev yfM:Nat:=3
abbrev ye7:Nat:=4
abbrev ye8:Nat:=5
abbrev yhS:Nat:=6
def ycN:Fn:=mkFn 1 1
  (sSeq (ycR 0 0 (sVar 0) (ycQ sNil))
  (sSeq (ycR 0 1 (sVar 0) (yfR true))
  (sSeq (ycR 0 2 (sVar 0) (ycQ (yab (sLit (.int 0)) sNil)))
  (sSeq (ycR 0 3 (sVar 0) (ycQ (yab (sLit (.int 0)) sNil)))
  (sSeq (ycR 0 4 (sVar 0) (ycQ (yab (sLit (.int 0)) sNil)))
  (sSeq (ycR 0 5 (sVar 0) (ycQ (yab (sOp1 fNeg (sLit (.int 1))) sNil)))
  (sSeq (ycR 0 6 (sVar 0) (ycQ (yab (sLit (.int 0)) sNil)))
  (ycR 0 7 (sVar 0) (ycQ (yab (sLit (.int 0)) sNil))))))))))
def ydL:Fn:=mkFn 1 1
  (sRet (yep (sIsB "int" (sVar 0)) (yfS (sIsB "bool" (sVar 0)))))
def yce:Fn:=mkFn 2 2
  (sRet (yep (yah ydL (yab (sVar 1) sNil)) (ydD fLe fLe (sLit (.int 1)) (sVar 1) (yah fLen (yab (Sm.sFld 0 0 (sVar 0)) sNil)))))
def ya6:Fn:=mkFn 2 2
  (sIf (sNot (ydT (yal 0 yce (sVar 0) (yab (sVar 1) sNil)))) (yb8 2 (yab (sLit (.str "no piece of the shelf has this number")) sNil)) yaB)
def yaW:Fn:=mkFn 2 2
  (sIf (yas (sOp2 fNe (sVar 1) (sLit (.int 0)))) (yaT (yal 0 ya6 (sVar 0) (yab (sVar 1) sNil))) yaB)
def yaz:Fn:=mkFn 2 2
  (sSeq (yaT (yal 0 yaW (sVar 0) (yab (sVar 1) sNil)))
  (sRet (sOp2 fIx (Sm.sFld 0 2 (sVar 0)) (sVar 1))))
def yci:Fn:=mkFn 1 1
  (sIf (yas (sOp2 fGt (sVar 0) (sLit (.int 1000000000000000000)))) (yb8 5 (yab (sLit (.str "the text would have more than 10 ** 18 signs")) sNil)) yaB)
def ybN:Fn:=mkFn 2 2
  (sSeq (yaT (yal 0 yaW (sVar 0) (yab (sVar 1) sNil)))
  (sRet (sOp2 fIx (Sm.sFld 0 7 (sVar 0)) (sVar 1))))
def ybB:Fn:=mkFn 2 2
  (sSeq (yaT (yal 0 yaW (sVar 0) (yab (sVar 1) sNil)))
  (sRet (sOp2 fIx (Sm.sFld 0 6 (sVar 0)) (sVar 1))))
def ydA:Fn:=mkFn 3 3
  (sRet (sOp2 fGt (sOp2 fAdd (yal 0 yaz (sVar 0) (yab (yal 0 ybN (sVar 0) (yab (sVar 1) sNil)) sNil)) (yal 0 yaz (sVar 0) (yab (yal 0 ybB (sVar 0) (yab (sVar 2) sNil)) sNil))) (sLit (.int 8))))
def yaA:Fn:=mkFn 2 2
  (sSeq (yaT (yal 0 ya6 (sVar 0) (yab (sVar 1) sNil)))
  (sRet (sOp2 fIx (Sm.sFld 0 0 (sVar 0)) (sOp2 fSub (sVar 1) (sLit (.int 1))))))
def ya1:Fn:=mkFn 3 4
  (sSeq (yaT (yal 0 ya6 (sVar 0) (yab (sVar 1) sNil)))
  (sSeq (yaT (yal 0 ya6 (sVar 0) (yab (sVar 2) sNil)))
  (sSeq (sSet 3 (sOp2 fAdd (sOp2 fIx (Sm.sFld 0 2 (sVar 0)) (sOp2 fIx (Sm.sFld 0 7 (sVar 0)) (sVar 1))) (sOp2 fIx (Sm.sFld 0 2 (sVar 0)) (sOp2 fIx (Sm.sFld 0 6 (sVar 0)) (sVar 2)))))
  (sSeq (sIf (yas (sOp2 fLe (sVar 3) (sLit (.int 8)))) (yb8 3 (yab (sLit (.str "the leaves where the parts meet have no more than eight signs together")) sNil)) yaB)
  (sSeq (sIf (yas (sOp2 fGt (yah fAbs (yab (sOp2 fSub (sOp2 fIx (Sm.sFld 0 5 (sVar 0)) (sVar 1)) (sOp2 fIx (Sm.sFld 0 5 (sVar 0)) (sVar 2))) sNil)) (sLit (.int 1)))) (yb8 4 (yab (sLit (.str "the heights of the parts differ by more than one")) sNil)) yaB)
  (sIf (yas (sOp2 fGt (sOp2 fAdd (sOp2 fIx (Sm.sFld 0 2 (sVar 0)) (sVar 1)) (sOp2 fIx (Sm.sFld 0 2 (sVar 0)) (sVar 2))) (sLit (.int 1000000000000000000)))) (yb8 5 (yab (sLit (.str "the fork would have more than 10 ** 18 signs")) sNil)) yaB))))))
def yc2:Fn:=mkFn 2 3
  (sSeq (yaT (sBM yaV yaU (Sm.sFld 0 0 (sVar 0)) (yab (sVar 1) sNil)))
  (sSeq (sSet 2 (yah fLen (yab (Sm.sFld 0 0 (sVar 0)) sNil)))
  (sSeq (yeq (Sm.sFld 0 1 (sVar 0)) (sVar 1) (sVar 2))
  (sRet (sVar 2)))))
def ybU:Fn:=mkFn 2 4
  (sSeq (yaT (yal 0 yc2 (sVar 0) (yab (sVar 1) sNil)))
  (sSeq (sSet 2 (sOp2 fIx (sVar 1) (sLit (.int 1))))
  (sSeq (sSet 3 (sOp2 fIx (sVar 1) (sLit (.int 2))))
  (sSeq (yaT (sBM yaV yaU (Sm.sFld 0 2 (sVar 0)) (yab (sOp2 fAdd (sOp2 fIx (Sm.sFld 0 2 (sVar 0)) (sVar 2)) (sOp2 fIx (Sm.sFld 0 2 (sVar 0)) (sVar 3))) sNil)))
  (sSeq (yaT (sBM yaV yaU (Sm.sFld 0 3 (sVar 0)) (yab (sOp2 fAdd (sOp2 fIx (Sm.sFld 0 3 (sVar 0)) (sVar 2)) (sOp2 fIx (Sm.sFld 0 3 (sVar 0)) (sVar 3))) sNil)))
  (sSeq (yaT (sBM yaV yaU (Sm.sFld 0 4 (sVar 0)) (yab (sOp2 fAdd (sOp2 fIx (Sm.sFld 0 4 (sVar 0)) (sVar 2)) (sOp2 fIx (Sm.sFld 0 4 (sVar 0)) (sVar 3))) sNil)))
  (sSeq (yaT (sBM yaV yaU (Sm.sFld 0 5 (sVar 0)) (yab (sOp2 fAdd (yah ydJ (yab (sOp2 fIx (Sm.sFld 0 5 (sVar 0)) (sVar 2)) (yab (sOp2 fIx (Sm.sFld 0 5 (sVar 0)) (sVar 3)) sNil))) (sLit (.int 1))) sNil)))
  (sSeq (yaT (sBM yaV yaU (Sm.sFld 0 6 (sVar 0)) (yab (sOp2 fIx (Sm.sFld 0 6 (sVar 0)) (sVar 2)) sNil)))
  (yaT (sBM yaV yaU (Sm.sFld 0 7 (sVar 0)) (yab (sOp2 fIx (Sm.sFld 0 7 (sVar 0)) (sVar 3)) sNil)))))))))))
def yaf:Fn:=mkFn 3 4
  (sSeq (yaT (yal 0 ya1 (sVar 0) (yab (sVar 1) (yab (sVar 2) sNil))))
  (sSeq (sSet 3 (sTup (yab (sLit (.str "fork")) (yab (sVar 1) (yab (sVar 2) sNil)))))
  (sSeq (sIf (yas (sOp2 yeP (sVar 3) (Sm.sFld 0 1 (sVar 0)))) (yaT (yal 0 ybU (sVar 0) (yab (sVar 3) sNil))) yaB)
  (sRet (sOp2 fIx (Sm.sFld 0 1 (sVar 0)) (sVar 3))))))
def ydW (G:Fn):Fn:=mkFn 3 4
  (sSeq (sSet 3 (yal 0 yaA (sVar 0) (yab (sVar 1) sNil)))
  (sSeq (sIf (yas (sOp2 fEq (sOp2 fIx (sVar 3) (sLit (.int 0))) (sLit (.str "leaf")))) (sRet (sVar 2)) yaB)
  (sRet (yal 0 yaf (sVar 0) (yab (sOp2 fIx (sVar 3) (sLit (.int 1))) (yab (yah G (yab (sVar 0) (yab (sOp2 fIx (sVar 3) (sLit (.int 2))) (yab (sVar 2) sNil)))) sNil))))))
def yba:Nat->Fn
 | 0=>mkFn 3 4 (fun _ _=>.bad)
 | d+1=>ydW (yba d)
def yav:Fn:=mkFn 2 2
  (sSeq (yaT (yal 0 yaW (sVar 0) (yab (sVar 1) sNil)))
  (sRet (sOp2 fIx (Sm.sFld 0 5 (sVar 0)) (sVar 1))))
def yaS:Fn:=mkFn 3 7
  (sSeq (sIf (yas (sOp2 fLt (sOp2 fSub (yal 0 yav (sVar 0) (yab (sVar 2) sNil)) (yal 0 yav (sVar 0) (yab (sVar 1) sNil))) (sLit (.int 2)))) (sRet (yal 0 yaf (sVar 0) (yab (sVar 1) (yab (sVar 2) sNil)))) yaB)
  (sSeq (sSet 3 (yal 0 yaA (sVar 0) (yab (sVar 2) sNil)))
  (sSeq (sSet 4 (sOp2 fIx (sVar 3) (sLit (.int 1))))
  (sSeq (sSet 5 (sOp2 fIx (sVar 3) (sLit (.int 2))))
  (sSeq (sIf (yas (sOp2 fLe (yal 0 yav (sVar 0) (yab (sVar 4) sNil)) (yal 0 yav (sVar 0) (yab (sVar 5) sNil)))) (sRet (yal 0 yaf (sVar 0) (yab (yal 0 yaf (sVar 0) (yab (sVar 1) (yab (sVar 4) sNil))) (yab (sVar 5) sNil)))) yaB)
  (sSeq (sSet 6 (yal 0 yaA (sVar 0) (yab (sVar 4) sNil)))
  (sRet (yal 0 yaf (sVar 0) (yab (yal 0 yaf (sVar 0) (yab (sVar 1) (yab (sOp2 fIx (sVar 6) (sLit (.int 1))) sNil))) (yab (yal 0 yaf (sVar 0) (yab (sOp2 fIx (sVar 6) (sLit (.int 2))) (yab (sVar 5) sNil))) sNil))))))))))
def ycH (G:Fn):Fn:=mkFn 2 4
  (sSeq (sSet 2 (yal 0 yaA (sVar 0) (yab (sVar 1) sNil)))
  (sSeq (sIf (yas (sOp2 fEq (sOp2 fIx (sVar 2) (sLit (.int 0))) (sLit (.str "leaf")))) (sRet (sLit (.int 0))) yaB)
  (sSeq (sSet 3 (yah G (yab (sVar 0) (yab (sOp2 fIx (sVar 2) (sLit (.int 1))) sNil))))
  (sSeq (sIf (yas (sOp2 fEq (sVar 3) (sLit (.int 0)))) (sRet (sOp2 fIx (sVar 2) (sLit (.int 2)))) yaB)
  (sRet (yah yaS (yab (sVar 0) (yab (sVar 3) (yab (sOp2 fIx (sVar 2) (sLit (.int 2))) sNil)))))))))
def yaD:Nat->Fn
 | 0=>mkFn 2 4 (fun _ _=>.bad)
 | d+1=>ycH (yaD d)
def ya0:Fn:=mkFn 3 7
  (sSeq (sIf (yas (sOp2 fLt (sOp2 fSub (yal 0 yav (sVar 0) (yab (sVar 1) sNil)) (yal 0 yav (sVar 0) (yab (sVar 2) sNil))) (sLit (.int 2)))) (sRet (yal 0 yaf (sVar 0) (yab (sVar 1) (yab (sVar 2) sNil)))) yaB)
  (sSeq (sSet 3 (yal 0 yaA (sVar 0) (yab (sVar 1) sNil)))
  (sSeq (sSet 4 (sOp2 fIx (sVar 3) (sLit (.int 1))))
  (sSeq (sSet 5 (sOp2 fIx (sVar 3) (sLit (.int 2))))
  (sSeq (sIf (yas (sOp2 fLe (yal 0 yav (sVar 0) (yab (sVar 5) sNil)) (yal 0 yav (sVar 0) (yab (sVar 4) sNil)))) (sRet (yal 0 yaf (sVar 0) (yab (sVar 4) (yab (yal 0 yaf (sVar 0) (yab (sVar 5) (yab (sVar 2) sNil))) sNil)))) yaB)
  (sSeq (sSet 6 (yal 0 yaA (sVar 0) (yab (sVar 5) sNil)))
  (sRet (yal 0 yaf (sVar 0) (yab (yal 0 yaf (sVar 0) (yab (sVar 4) (yab (sOp2 fIx (sVar 6) (sLit (.int 1))) sNil))) (yab (yal 0 yaf (sVar 0) (yab (sOp2 fIx (sVar 6) (sLit (.int 2))) (yab (sVar 2) sNil))) sNil))))))))))
def yd8 (G:Fn):Fn:=mkFn 3 5
  (sSeq (sSet 3 (sOp2 fSub (yal 0 yav (sVar 0) (yab (sVar 1) sNil)) (yal 0 yav (sVar 0) (yab (sVar 2) sNil))))
  (sSeq (sIf (yas (sOp2 fGt (sVar 3) (sLit (.int 1)))) (sSeq (sSet 4 (yal 0 yaA (sVar 0) (yab (sVar 1) sNil)))
  (sRet (yah yaS (yab (sVar 0) (yab (sOp2 fIx (sVar 4) (sLit (.int 1))) (yab (yah G (yab (sVar 0) (yab (sOp2 fIx (sVar 4) (sLit (.int 2))) (yab (sVar 2) sNil)))) sNil)))))) yaB)
  (sSeq (sIf (yas (sOp2 fLt (sVar 3) (sOp1 fNeg (sLit (.int 1))))) (sSeq (sSet 4 (yal 0 yaA (sVar 0) (yab (sVar 2) sNil)))
  (sRet (yah ya0 (yab (sVar 0) (yab (yah G (yab (sVar 0) (yab (sVar 1) (yab (sOp2 fIx (sVar 4) (sLit (.int 1))) sNil)))) (yab (sOp2 fIx (sVar 4) (sLit (.int 2))) sNil)))))) yaB)
  (sRet (yal 0 yaf (sVar 0) (yab (sVar 1) (yab (sVar 2) sNil)))))))
def ya9:Nat->Fn
 | 0=>mkFn 3 5 (fun _ _=>.bad)
 | d+1=>yd8 (ya9 d)
def yca:Fn:=mkFn 1 1
  (sRet (sOrV (sOp2 fEq (sVar 0) (sLit (.str "\n"))) (ydD fLe fLe (sLit (.str " ")) (sVar 0) (sLit (.str "~")))))
def ydi:Fn:=mkFn 1 1
  (sSeq (sIf (sNot (ydT (sIsB "str" (sVar 0)))) (sRet (sLit (.bl false))) yaB)
  (sRet (yah fAll (yab (ya3 [] (iVal (sVar 0)) sYes (yah yca (yab (sVar 0) sNil))) sNil))))
def ydM:Fn:=mkFn 1 1
  (sRet (yep (yah ydi (yab (sVar 0) sNil)) (ydD fLe fLe (sLit (.int 1)) (yah fLen (yab (sVar 0) sNil)) (sLit (.int 8)))))
def ydG:Fn:=mkFn 1 1
  (sRet (sBM ycS ybE (sVar 0) (yab (sLit (.str "\n")) sNil)))
def ybV:Fn:=mkFn 2 4
  (sSeq (sSet 2 (yal 0 yc2 (sVar 0) (yab (sVar 1) sNil)))
  (sSeq (sSet 3 (sOp2 fIx (sVar 1) (sLit (.int 1))))
  (sSeq (yaT (sBM yaV yaU (Sm.sFld 0 2 (sVar 0)) (yab (yah fLen (yab (sVar 3) sNil)) sNil)))
  (sSeq (yaT (sBM yaV yaU (Sm.sFld 0 3 (sVar 0)) (yab (yah ydG (yab (sVar 3) sNil)) sNil)))
  (sSeq (yaT (sBM yaV yaU (Sm.sFld 0 4 (sVar 0)) (yab (sLit (.int 1)) sNil)))
  (sSeq (yaT (sBM yaV yaU (Sm.sFld 0 5 (sVar 0)) (yab (sLit (.int 0)) sNil)))
  (sSeq (yaT (sBM yaV yaU (Sm.sFld 0 6 (sVar 0)) (yab (sVar 2) sNil)))
  (yaT (sBM yaV yaU (Sm.sFld 0 7 (sVar 0)) (yab (sVar 2) sNil))))))))))
def yaM:Fn:=mkFn 2 3
  (sSeq (sIf (sNot (ydT (yah ydM (yab (sVar 1) sNil)))) (yb8 1 (yab (sLit (.str "a leaf is a plain text of one to eight signs")) sNil)) yaB)
  (sSeq (sSet 2 (sTup (yab (sLit (.str "leaf")) (yab (sVar 1) sNil))))
  (sSeq (sIf (yas (sOp2 yeP (sVar 2) (Sm.sFld 0 1 (sVar 0)))) (yaT (yal 0 ybV (sVar 0) (yab (sVar 2) sNil))) yaB)
  (sRet (sOp2 fIx (Sm.sFld 0 1 (sVar 0)) (sVar 2))))))
def yc7:Fn:=mkFn 3 6
  (sSeq (sSet 3 (sOp2 fAdd (sOp2 fIx (yal 0 yaA (sVar 0) (yab (yal 0 ybN (sVar 0) (yab (sVar 1) sNil)) sNil)) (sLit (.int 1))) (sOp2 fIx (yal 0 yaA (sVar 0) (yab (yal 0 ybB (sVar 0) (yab (sVar 2) sNil)) sNil)) (sLit (.int 1)))))
  (sSeq (sSet 4 (yah (yba 90) (yab (sVar 0) (yab (sVar 1) (yab (yal 0 yaM (sVar 0) (yab (sVar 3) sNil)) sNil)))))
  (sSeq (sSet 5 (yah (yaD 90) (yab (sVar 0) (yab (sVar 2) sNil))))
  (sSeq (sIf (yas (sOp2 fEq (sVar 5) (sLit (.int 0)))) (sRet (sVar 4)) yaB)
  (sRet (yah (ya9 90) (yab (sVar 0) (yab (sVar 4) (yab (sVar 5) sNil)))))))))
def yaP:Fn:=mkFn 3 3
  (sSeq (yaT (yah yci (yab (sOp2 fAdd (yal 0 yaz (sVar 0) (yab (sVar 1) sNil)) (yal 0 yaz (sVar 0) (yab (sVar 2) sNil))) sNil)))
  (sSeq (sIf (yas (sOp2 fEq (sVar 1) (sLit (.int 0)))) (sRet (sVar 2)) yaB)
  (sSeq (sIf (yas (sOp2 fEq (sVar 2) (sLit (.int 0)))) (sRet (sVar 1)) yaB)
  (sSeq (sIf (ydT (yah ydA (yab (sVar 0) (yab (sVar 1) (yab (sVar 2) sNil))))) (sRet (yah (ya9 90) (yab (sVar 0) (yab (sVar 1) (yab (sVar 2) sNil))))) yaB)
  (sRet (yah yc7 (yab (sVar 0) (yab (sVar 1) (yab (sVar 2) sNil)))))))))
def ydU (G:Fn):Fn:=mkFn 3 5
  (sSeq (sIf (yas (sOp2 fEq (sVar 2) (sLit (.int 0)))) (sRet (sLit (.int 0))) yaB)
  (sSeq (sSet 3 (yah G (yab (sVar 0) (yab (sVar 1) (yab (sOp2 fDiv (sVar 2) (sLit (.int 2))) sNil)))))
  (sSeq (sSet 4 (yah yaP (yab (sVar 0) (yab (sVar 3) (yab (sVar 3) sNil)))))
  (sSeq (sIf (yas (sOp2 fEq (sOp2 fMod (sVar 2) (sLit (.int 2))) (sLit (.int 0)))) (sRet (sVar 4)) yaB)
  (sRet (yah yaP (yab (sVar 0) (yab (sVar 4) (yab (sVar 1) sNil)))))))))
def ya2:Nat->Fn
 | 0=>mkFn 3 5 (fun _ _=>.bad)
 | d+1=>ydU (ya2 d)
def ycp:Fn:=mkFn 3 4
  (sSeq (sSet 3 (yal 0 yaz (sVar 0) (yab (sVar 1) sNil)))
  (sSeq (sIf (yas (sOp2 fLt (sVar 2) (sLit (.int 0)))) (yb8 6 (yab (sLit (.str "a text is repeated 0 times at least")) sNil)) yaB)
  (sSeq (yaT (yah yci (yab (sOp2 fMul (sVar 3) (sVar 2)) sNil)))
  (sSeq (sIf (yas (sOp2 fEq (sVar 1) (sLit (.int 0)))) (sRet (sLit (.int 0))) yaB)
  (sRet (yah (ya2 64) (yab (sVar 0) (yab (sVar 1) (yab (sVar 2) sNil)))))))))
def yek (G:Fn):Fn:=mkFn 2 3
  (sSeq (sIf (yas (sOp2 fEq (yah fLen (yab (sVar 1) sNil)) (sLit (.int 1)))) (sRet (sOp2 fIx (sVar 1) (sLit (.int 0)))) yaB)
  (sSeq (sSet 2 (sOp2 fDiv (yah fLen (yab (sVar 1) sNil)) (sLit (.int 2))))
  (sRet (yal 0 yaf (sVar 0) (yab (yah G (yab (sVar 0) (yab (sCut (sVar 1) none (some (sVar 2))) sNil))) (yab (yah G (yab (sVar 0) (yab (sCut (sVar 1) (some (sVar 2)) none) sNil))) sNil))))))
def ybW:Nat->Fn
 | 0=>mkFn 2 3 (fun _ _=>.bad)
 | d+1=>yek (ybW d)
def ydr:Fn:=mkFn 2 3
  (sSeq (sIf (sNot (ydT (yah ydi (yab (sVar 1) sNil)))) (yb8 1 (yab (sLit (.str "a text is built of a plain text")) sNil)) yaB)
  (sSeq (sIf (yas (sOp2 fGt (yah fLen (yab (sVar 1) sNil)) (sLit (.int 10000)))) (yb8 5 (yab (sLit (.str "a text is built of ten thousand signs at most")) sNil)) yaB)
  (sSeq (sIf (yas (sOp2 fEq (sVar 1) (sLit (.str "")))) (sRet (sLit (.int 0))) yaB)
  (sSeq (sSet 2 (ya3 [0,1] (ycT (sLit (.int 0)) (yah fLen (yab (sVar 1) sNil)) (sLit (.int 8))) sYes (yal 0 yaM (sVar 1) (yab (sCut (sVar 2) (some (sVar 0)) (some (sOp2 fAdd (sVar 0) (sLit (.int 8))))) sNil))))
  (sRet (yah (ybW 20) (yab (sVar 0) (yab (sVar 2) sNil))))))))
def yam:Fn:=mkFn 2 3
  (sSeq (sSet 2 (sOp2 fMod (sOp2 fIx (sVar 0) (sLit (.int 0))) (sVar 1)))
  (sSeq (yeq (sVar 0) (sLit (.int 0)) (sOp2 fDiv (sOp2 fIx (sVar 0) (sLit (.int 0))) (sVar 1)))
  (sRet (sVar 2))))
def ybX:Fn:=mkFn 2 2
  (sSeq (yaT (yal 0 yaW (sVar 0) (yab (sVar 1) sNil)))
  (sRet (sOp2 fIx (Sm.sFld 0 3 (sVar 0)) (sVar 1))))
def ycO:Fn:=mkFn 2 2
  (sRet (sOp2 fAdd (yal 0 ybX (sVar 0) (yab (sVar 1) sNil)) (sLit (.int 1))))
def ycc:Fn:=mkFn 3 4
  (sSeq (sSet 3 (yah ycO (yab (sVar 0) (yab (sVar 1) sNil))))
  (sIf (sNot (yas (ydD fLe fLt (sLit (.int 0)) (sVar 2) (sVar 3)))) (yb8 6 (yab (sLit (.str "the text has no such row")) sNil)) yaB))
def ybk:SS :=
  (sSet 2 (sOp2 fAdd (sBM ycS ydP (sVar 0) (yab (sLit (.str "\n")) (yab (sVar 2) sNil))) (sLit (.int 1))))
def ycq:Fn:=mkFn 2 4
  (sSeq (sSet 2 (sLit (.int 0)))
  (sSeq (sFor (yaI (sVar 1)) (.nm 3) ybk)
  (sRet (sVar 2))))
def ybe:SS :=
  (sSeq (sSet 6 (yal 0 yaA (sVar 0) (yab (sVar 3) sNil)))
  (sSeq (sSet 7 (yal 0 ybX (sVar 0) (yab (sOp2 fIx (sVar 6) (sLit (.int 1))) sNil)))
  (sIf (yas (sOp2 fLe (sVar 5) (sVar 7))) (sSet 3 (sOp2 fIx (sVar 6) (sLit (.int 1)))) (sSeq (sSet 3 (sOp2 fIx (sVar 6) (sLit (.int 2))))
  (sSeq (sSet 4 (sOp2 fAdd (sVar 4) (yal 0 yaz (sVar 0) (yab (sOp2 fIx (sVar 6) (sLit (.int 1))) sNil))))
  (sSet 5 (sOp2 fSub (sVar 5) (sVar 7))))))))
def ybi:Fn:=mkFn 3 8
  (sSeq (sIf (yas (sOp2 fEq (sVar 2) (sLit (.int 0)))) (sRet (sLit (.int 0))) yaB)
  (sSeq (sSet 3 (sVar 1))
  (sSeq (sSet 4 (sLit (.int 0)))
  (sSeq (sSet 5 (sVar 2))
  (sSeq (ybu (yas (sOp2 fGt (yal 0 yav (sVar 0) (yab (sVar 3) sNil)) (sLit (.int 0)))) ybe ycG)
  (sRet (sOp2 fAdd (sVar 4) (yah ycq (yab (sOp2 fIx (yal 0 yaA (sVar 0) (yab (sVar 3) sNil)) (sLit (.int 1))) (yab (sVar 5) sNil))))))))))
def yc3:Fn:=mkFn 3 3
  (sSeq (yaT (yah ycc (yab (sVar 0) (yab (sVar 1) (yab (sVar 2) sNil)))))
  (sRet (yah ybi (yab (sVar 0) (yab (sVar 1) (yab (sVar 2) sNil))))))
def ydB:Fn:=mkFn 3 4
  (sSeq (sSet 3 (yal 0 yaz (sVar 0) (yab (sVar 1) sNil)))
  (sIf (sNot (yas (ydD fLe fLe (sLit (.int 0)) (sVar 2) (sVar 3)))) (yb8 6 (yab (sLit (.str "the text has no such place, and does not end there")) sNil)) yaB))
def ybt:Fn:=mkFn 2 3
  (sSeq (sSet 2 (yal 0 yaA (sVar 0) (yab (sOp2 fIx (sVar 1) (sLit (.int 0))) sNil)))
  (sSeq (sIf (yas (sOp2 fEq (sOp2 fIx (sVar 2) (sLit (.int 0))) (sLit (.str "leaf")))) (sRet (yah ydG (yab (sCut (sOp2 fIx (sVar 2) (sLit (.int 1))) none (some (sOp2 fIx (sVar 1) (sLit (.int 1))))) sNil))) yaB)
  (sSeq (sIf (yas (sOp2 fLt (sOp2 fIx (sVar 1) (sLit (.int 1))) (yal 0 yaz (sVar 0) (yab (sOp2 fIx (sVar 2) (sLit (.int 1))) sNil)))) (sRet (sLit (.int 0))) yaB)
  (sRet (yal 0 ybX (sVar 0) (yab (sOp2 fIx (sVar 2) (sLit (.int 1))) sNil))))))
def yc4:Fn:=mkFn 3 5
  (sSeq (sSet 3 (yal 0 yaA (sVar 0) (yab (sVar 1) sNil)))
  (sSeq (sSet 4 (yal 0 yaz (sVar 0) (yab (sOp2 fIx (sVar 3) (sLit (.int 1))) sNil)))
  (sSeq (sIf (yas (sOp2 fLt (sVar 2) (sVar 4))) (sRet (sTup (yab (sOp2 fIx (sVar 3) (sLit (.int 1))) (yab (sVar 2) sNil)))) yaB)
  (sRet (sTup (yab (sOp2 fIx (sVar 3) (sLit (.int 2))) (yab (sOp2 fSub (sVar 2) (sVar 4)) sNil)))))))
def ybY:SS :=
  (sSeq (sSet 3 (yah yc4 (yab (sVar 0) (yab (sOp2 fIx (sVar 3) (sLit (.int 0))) (yab (sOp2 fIx (sVar 3) (sLit (.int 1))) sNil)))))
  (yaT (sBM yaV yaU (sVar 4) (yab (sVar 3) sNil))))
def ydN:Fn:=mkFn 3 5
  (sSeq (sSet 3 (sTup (yab (sVar 1) (yab (sVar 2) sNil))))
  (sSeq (sSet 4 (ycQ (yab (sVar 3) sNil)))
  (sSeq (ybu (yas (sOp2 fGt (yal 0 yav (sVar 0) (yab (sOp2 fIx (sVar 3) (sLit (.int 0))) sNil)) (sLit (.int 0)))) ybY ycG)
  (sRet (sVar 4)))))
def ycP:Fn:=mkFn 3 3
  (sSeq (sIf (yas (sOp2 fEq (sVar 1) (sLit (.int 0)))) (sRet (sLit (.int 0))) yaB)
  (sRet (yah fSum (yab (ya3 [0] (iVal (yah ydN (yab (sVar 0) (yab (sVar 1) (yab (sVar 2) sNil))))) sYes (yah ybt (yab (sVar 1) (yab (sVar 0) sNil)))) sNil))))
def yc8:Fn:=mkFn 3 4
  (sSeq (yaT (yah ydB (yab (sVar 0) (yab (sVar 1) (yab (sVar 2) sNil)))))
  (sSeq (sSet 3 (yah ycP (yab (sVar 0) (yab (sVar 1) (yab (sVar 2) sNil)))))
  (sRet (sTup (yab (sVar 3) (yab (sOp2 fSub (sVar 2) (yah ybi (yab (sVar 0) (yab (sVar 1) (yab (sVar 3) sNil))))) sNil))))))
def ybf:SS :=
  (sSeq (sSet 5 (yah ycp (yab (sVar 0) (yab (yah ydr (yab (sVar 0) (yab (sLit (.str "y")) sNil))) (yab (sVar 4) sNil)))))
  (sSet 3 (yah yaP (yab (sVar 0) (yab (yah yaP (yab (sVar 0) (yab (sVar 3) (yab (yah ydr (yab (sVar 0) (yab (sLit (.str "\n")) sNil))) sNil)))) (yab (sVar 5) sNil))))))
def yaX:SS :=
  (sIf (yas (sOp2 fNe (yah yc8 (yab (sVar 0) (yab (sVar 3) (yab (sOp2 fAdd (sOp2 fIx (sVar 6) (sVar 7)) (sVar 9)) sNil)))) (sTup (yab (sVar 7) (yab (sVar 9) sNil))))) (sRet (sLit (.bl false))) yaB)
def yaY:SS :=
  (sSeq (sSet 8 (yah yam (yab (sVar 1) (yab (sOp2 fAdd (sOp2 fIx (sVar 2) (sVar 7)) (sLit (.int 1))) sNil))))
  (sSeq (sIf (yas (sOp2 fNe (yah yc3 (yab (sVar 0) (yab (sVar 3) (yab (sVar 7) sNil)))) (sOp2 fIx (sVar 6) (sVar 7)))) (sRet (sLit (.bl false))) yaB)
  (sFor (iVal (sLst (yab (sLit (.int 0)) (yab (sVar 8) (yab (sOp2 fIx (sVar 2) (sVar 7)) sNil))))) (.nm 9) yaX)))
def ycf:Fn:=mkFn 2 10
  (sSeq (sSet 2 (ya3 [1] (yaI (sLit (.int 3))) sYes (sOp2 fAdd (sLit (.int 1)) (yah yam (yab (sVar 1) (yab (sOp2 fIx (sLst (yab (sLit (.int 9)) (yab (sOp2 fPow (sLit (.int 10)) (sLit (.int 9))) (yab (sOp2 fPow (sLit (.int 10)) (sLit (.int 17))) sNil)))) (yah yam (yab (sVar 1) (yab (sLit (.int 3)) sNil)))) sNil))))))
  (sSeq (sSet 3 (yah ycp (yab (sVar 0) (yab (yah ydr (yab (sVar 0) (yab (sLit (.str "x")) sNil))) (yab (sOp2 fIx (sVar 2) (sLit (.int 0))) sNil)))))
  (sSeq (sFor (iVal (sCut (sVar 2) (some (sLit (.int 1))) none)) (.nm 4) ybf)
  (sSeq (sSet 6 (sLst (yab (sLit (.int 0)) (yab (sOp2 fAdd (sOp2 fIx (sVar 2) (sLit (.int 0))) (sLit (.int 1))) (yab (sOp2 fAdd (sOp2 fAdd (sOp2 fIx (sVar 2) (sLit (.int 0))) (sOp2 fIx (sVar 2) (sLit (.int 1)))) (sLit (.int 2))) sNil)))))
  (sSeq (sIf (sOr (yas (sOp2 fNe (yah ycO (yab (sVar 0) (yab (sVar 3) sNil))) (sLit (.int 3)))) (yas (sOp2 fNe (yal 0 yaz (sVar 0) (yab (sVar 3) sNil)) (sOp2 fAdd (yah fSum (yab (sVar 2) sNil)) (sLit (.int 2)))))) (sRet (sLit (.bl false))) yaB)
  (sSeq (sFor (yaI (sLit (.int 3))) (.nm 7) yaY)
  (sRet (sLit (.bl true)))))))))
def ydC:Fn:=mkFn 2 3
  (sSeq (sSet 2 (sOp2 fMod (sOp2 fMul (sOp2 fAdd (sOp2 fAdd (sOp2 fMod (sVar 0) (sLit (.int 1000000007))) (sOp2 fMul (sLit (.int 7919)) (sVar 1))) (sLit (.int 1))) (sLit (.int 48271))) (sLit (.int 2147483647))))
  (sRet (sOp2 fMod (sOp2 fMul (sOp2 fMod (sOp2 fMul (sVar 2) (sVar 2)) (sLit (.int 2147483629))) (sLit (.int 69621))) (sLit (.int 2147483647)))))
def ybO:SS :=
  (sSet 2 (sOp2 fAdd (sOp2 fMul (sVar 2) (sOp2 fPow (sLit (.int 10)) (sLit (.int 60)))) (sOp2 fMod (sOp2 fIx (sVar 0) (sVar 3)) (sOp2 fPow (sLit (.int 10)) (sLit (.int 60))))))
def ybP:SS :=
  (sSet 4 (sOp2 fAdd (sOp2 fMul (sVar 4) (sLit (.int 2147483647))) (yah ydC (yab (sOp2 fAdd (sOp2 fAdd (sVar 2) (sOp2 fMul (sLit (.int 1009)) (sVar 1))) (yah fLen (yab (sVar 0) sNil))) (yab (sVar 3) sNil)))))
def ybo:Fn:=mkFn 2 5
  (sSeq (sSet 2 (sLit (.int 0)))
  (sSeq (sFor (ycT (sVar 1) (yah fLen (yab (sVar 0) sNil)) (sLit (.int 5))) (.nm 3) ybO)
  (sSeq (sIf (yas (sOp2 fGe (sVar 2) (sOp2 fPow (sLit (.int 10)) (sLit (.int 18))))) (sRet (ycQ (yab (sVar 2) sNil))) yaB)
  (sSeq (sSet 2 (sOp2 fAdd (sVar 2) (yah fSum (yab (ya3 [] (iVal (sVar 0)) sYes (sOp2 fMod (sVar 0) (sOp2 fPow (sLit (.int 10)) (sLit (.int 18))))) sNil))))
  (sSeq (sSet 4 (sLit (.int 0)))
  (sSeq (sFor (yaI (sLit (.int 30))) (.nm 3) ybP)
  (sRet (ycQ (yab (sOp2 fDiv (sVar 4) (sLit (.int 64))) sNil)))))))))
def ydj (G:Fn):Fn:=mkFn 5 12
  (sSeq (sIf (yas (sOp2 fEq (sVar 3) (sLit (.int 0)))) (sSeq (sSet 5 (yah ydJ (yab (sLit (.int 1)) (yab (sOp2 fSub (sLit (.int 9)) (sVar 4)) sNil))))
  (sSeq (sSet 6 (sOp2 fAdd (sVar 5) (yah yam (yab (sVar 1) (yab (sOp2 fSub (sLit (.int 9)) (sVar 5)) sNil)))))
  (sSeq (sSet 7 (sBM ycS yde (sLit (.str "")) (yab (ya3 [2,1] (yaI (sVar 6)) sYes (sOp2 fIx (sVar 1) (yah yam (yab (sVar 2) (yab (yah fLen (yab (sVar 1) sNil)) sNil))))) sNil)))
  (sRet (sTup (yab (yal 0 yaM (sVar 0) (yab (sVar 7) sNil)) (yab (sVar 7) (yab (sVar 6) sNil)))))))) yaB)
  (sSeq (sSet 8 (sOp2 fMul (sOp2 fIx (sLst (yab (sLit (.int 0)) (yab (sLit (.int 0)) (yab (sLit (.int 1)) sNil)))) (yah yam (yab (sVar 1) (yab (sLit (.int 3)) sNil)))) (yah fInt (yab (sOp2 fGt (sVar 3) (sLit (.int 1))) sNil))))
  (sSeq (sSet 9 (yah yam (yab (sVar 1) (yab (sLit (.int 2)) sNil))))
  (sSeq (sSet 10 (yah G (yab (sVar 0) (yab (sVar 1) (yab (sVar 2) (yab (sOp2 fSub (sOp2 fSub (sVar 3) (sLit (.int 1))) (sOp2 fMul (sVar 8) (sVar 9))) (yab (sVar 4) sNil)))))))
  (sSeq (sSet 11 (yah G (yab (sVar 0) (yab (sVar 1) (yab (sVar 2) (yab (sOp2 fSub (sOp2 fSub (sVar 3) (sLit (.int 1))) (sOp2 fMul (sVar 8) (sOp2 fSub (sLit (.int 1)) (sVar 9)))) (yab (sOp2 fIx (sVar 10) (sLit (.int 2))) sNil)))))))
  (sRet (sTup (yab (yal 0 yaf (sVar 0) (yab (sOp2 fIx (sVar 10) (sLit (.int 0))) (yab (sOp2 fIx (sVar 11) (sLit (.int 0))) sNil))) (yab (sOp2 fAdd (sOp2 fIx (sVar 10) (sLit (.int 1))) (sOp2 fIx (sVar 11) (sLit (.int 1)))) (yab (sOp2 fIx (sVar 11) (sLit (.int 2))) sNil))))))))))
def ycr:Nat->Fn
 | 0=>mkFn 5 12 (fun _ _=>.bad)
 | d+1=>ydj (ycr d)
def yaN:SS :=
  (sIf (yas (sOp2 fLe (sOp2 fMul (sOp2 fMul (yah fLen (yab (sVar 3) sNil)) (sVar 5)) (sLit (.int 2))) (sOp2 fPow (sLit (.int 10)) (sLit (.int 18))))) (sSeq (sSet 2 (yal 0 yaf (sVar 0) (yab (sVar 2) (yab (sVar 2) sNil))))
  (sSet 5 (sOp2 fMul (sVar 5) (sLit (.int 2))))) yaB)
def ycI:Fn:=mkFn 2 7
  (sSeq (ye4 (.tup [2,3,4]) (yah (ycr 10) (yab (sVar 0) (yab (sVar 1) (yab (sOp2 fIx (sLst (yab (sLit (.str "a\n")) (yab (sLit (.str "aab\n")) (yab (sLit (.str "abcd\n")) sNil)))) (yah yam (yab (sVar 1) (yab (sLit (.int 3)) sNil)))) (yab (yah yam (yab (sVar 1) (yab (sLit (.int 4)) sNil))) (yab (sLit (.int 1)) sNil)))))))
  (sSeq (sSet 5 (sLit (.int 1)))
  (sSeq (sFor (yaI (yah yam (yab (sVar 1) (yab (sLit (.int 60)) sNil)))) (.nm 6) yaN)
  (sRet (sTup (yab (sVar 2) (yab (sVar 3) (yab (sVar 5) sNil))))))))
def ya5:Fn:=mkFn 3 4
  (sSeq (sSet 3 (yec [] (ydF (sVar 0)) (yas (sOp2 fEq (sVar 1) (sLit (.str "\n")))) (sVar 0)))
  (sSeq (sIf (yas (sOp2 fEq (sVar 2) (sLit (.int 0)))) (sRet (sLit (.int 0))) yaB)
  (sRet (sOp2 fAdd (sOp2 fAdd (sOp2 fMul (sOp2 fDiv (sOp2 fSub (sVar 2) (sLit (.int 1))) (yah fLen (yab (sVar 3) sNil))) (yah fLen (yab (sVar 0) sNil))) (sOp2 fIx (sVar 3) (sOp2 fMod (sOp2 fSub (sVar 2) (sLit (.int 1))) (yah fLen (yab (sVar 3) sNil))))) (sLit (.int 1))))))
def ycJ:Fn:=mkFn 4 5
  (sSeq (sSet 4 (yal 0 yaz (sVar 0) (yab (sVar 1) sNil)))
  (sIf (sNot (yas (yeE fLe fLe fLe (sLit (.int 0)) (sVar 2) (sVar 3) (sVar 4)))) (yb8 6 (yab (sLit (.str "the text has no such stretch")) sNil)) yaB))
def yaK:SS :=
  (sSeq (sSet 6 (sBM0 yaV mPop (sVar 5)))
  (sSeq (sSet 7 (sOp2 fIx (sVar 6) (sLit (.int 0))))
  (sSeq (sSet 8 (sOp2 fIx (sVar 6) (sLit (.int 1))))
  (sSeq (sIf (sOr (yas (sOp2 fGe (sVar 8) (sVar 3))) (yas (sOp2 fLe (sOp2 fAdd (sVar 8) (yal 0 yaz (sVar 0) (yab (sVar 7) sNil))) (sVar 2)))) yfT yaB)
  (sSeq (sSet 9 (yal 0 yaA (sVar 0) (yab (sVar 7) sNil)))
  (sIf (yas (sOp2 fEq (sOp2 fIx (sVar 9) (sLit (.int 0))) (sLit (.str "leaf")))) (yaT (sBM yaV yaU (sVar 4) (yab (sCut (sOp2 fIx (sVar 9) (sLit (.int 1))) (some (yah ydJ (yab (sOp2 fSub (sVar 2) (sVar 8)) (yab (sLit (.int 0)) sNil)))) (some (sOp2 fSub (sVar 3) (sVar 8)))) sNil))) (sSeq (yaT (sBM yaV yaU (sVar 5) (yab (sTup (yab (sOp2 fIx (sVar 9) (sLit (.int 2))) (yab (sOp2 fAdd (sVar 8) (yal 0 yaz (sVar 0) (yab (sOp2 fIx (sVar 9) (sLit (.int 1))) sNil))) sNil))) sNil)))
  (yaT (sBM yaV yaU (sVar 5) (yab (sTup (yab (sOp2 fIx (sVar 9) (sLit (.int 1))) (yab (sVar 8) sNil))) sNil))))))))))
def ycK:Fn:=mkFn 4 10
  (sSeq (sSet 4 (ycQ sNil))
  (sSeq (sSet 5 (ycQ (yab (sTup (yab (sVar 1) (yab (sLit (.int 0)) sNil))) sNil)))
  (sSeq (ybu (yas (sOp2 fNe (sVar 5) (sLst sNil))) yaK ycG)
  (sRet (sBM ycS yde (sLit (.str "")) (yab (sVar 4) sNil))))))
def ycj:Fn:=mkFn 4 4
  (sSeq (yaT (yah ycJ (yab (sVar 0) (yab (sVar 1) (yab (sVar 2) (yab (sVar 3) sNil))))))
  (sSeq (sIf (yas (sOp2 fGt (sOp2 fSub (sVar 3) (sVar 2)) (sLit (.int 10000)))) (yb8 5 (yab (sLit (.str "a stretch of more than ten thousand signs is not told")) sNil)) yaB)
  (sRet (yah ycK (yab (sVar 0) (yab (sVar 1) (yab (sVar 2) (yab (sVar 3) sNil))))))))
def ydH:Fn:=mkFn 3 3
  (sSeq (sIf (yas (sOp2 fEq (sVar 2) (yal 0 ybX (sVar 0) (yab (sVar 1) sNil)))) (sRet (yal 0 yaz (sVar 0) (yab (sVar 1) sNil))) yaB)
  (sRet (sOp2 fSub (yah ybi (yab (sVar 0) (yab (sVar 1) (yab (sOp2 fAdd (sVar 2) (sLit (.int 1))) sNil)))) (sLit (.int 1)))))
def ydk:Fn:=mkFn 3 3
  (sSeq (yaT (yah ycc (yab (sVar 0) (yab (sVar 1) (yab (sVar 2) sNil)))))
  (sRet (yah ycj (yab (sVar 0) (yab (sVar 1) (yab (yah ybi (yab (sVar 0) (yab (sVar 1) (yab (sVar 2) sNil)))) (yab (yah ydH (yab (sVar 0) (yab (sVar 1) (yab (sVar 2) sNil)))) sNil)))))))
def ycb:Fn:=mkFn 5 10
  (sSeq (sSet 5 (sOp2 fMul (sBM ycS ybE (sVar 2) (yab (sLit (.str "\n")) sNil)) (sVar 3)))
  (sSeq (sSet 6 (yah ya5 (yab (sVar 2) (yab (sVar 3) (yab (sVar 4) sNil)))))
  (sSeq (sSet 7 (sOp2 fMul (yah fLen (yab (sVar 2) sNil)) (sVar 3)))
  (sSeq (sIf (yas (sOp2 fLt (sVar 4) (sVar 5))) (sSet 7 (sOp2 fSub (yah ya5 (yab (sVar 2) (yab (sVar 3) (yab (sOp2 fAdd (sVar 4) (sLit (.int 1))) sNil)))) (sLit (.int 1)))) yaB)
  (sSeq (sSet 8 (sOp2 fAdd (sOp2 fAdd (sVar 2) (sVar 2)) (sVar 2)))
  (sSeq (sSet 9 (sOp2 fMod (sVar 6) (yah fLen (yab (sVar 2) sNil))))
  (sSeq (sIf (sOr (yas (sOp2 fNe (yah yc3 (yab (sVar 0) (yab (sVar 1) (yab (sVar 4) sNil)))) (sVar 6))) (yas (sOp2 fNe (yah ydk (yab (sVar 0) (yab (sVar 1) (yab (sVar 4) sNil)))) (sCut (sVar 8) (some (sVar 9)) (some (sOp2 fSub (sOp2 fAdd (sVar 9) (sVar 7)) (sVar 6))))))) (sRet (sLit (.bl false))) yaB)
  (sRet (yep (sOp2 fEq (yah yc8 (yab (sVar 0) (yab (sVar 1) (yab (sVar 6) sNil)))) (sTup (yab (sVar 4) (yab (sLit (.int 0)) sNil)))) (sOp2 fEq (yah yc8 (yab (sVar 0) (yab (sVar 1) (yab (sVar 7) sNil)))) (sTup (yab (sVar 4) (yab (sOp2 fSub (sVar 7) (sVar 6)) sNil)))))))))))))
def ycg:Fn:=mkFn 4 8
  (sSeq (sSet 4 (sOp2 fDiv (sVar 3) (yah fLen (yab (sVar 2) sNil))))
  (sSeq (sSet 5 (sCut (sVar 2) none (some (sOp2 fMod (sVar 3) (yah fLen (yab (sVar 2) sNil))))))
  (sSeq (sSet 6 (sOp2 fAdd (sOp2 fMul (sVar 4) (sBM ycS ybE (sVar 2) (yab (sLit (.str "\n")) sNil))) (sBM ycS ybE (sVar 5) (yab (sLit (.str "\n")) sNil))))
  (sSeq (sSet 7 (yah ya5 (yab (sVar 2) (yab (sLit (.int 1)) (yab (sVar 6) sNil)))))
  (sRet (sOp2 fEq (yah yc8 (yab (sVar 0) (yab (sVar 1) (yab (sVar 3) sNil)))) (sTup (yab (sVar 6) (yab (sOp2 fSub (sVar 3) (sVar 7)) sNil)))))))))
def ycU:SS :=
  (sIf (sNot (ydT (yah ycb (yab (sVar 1) (yab (sVar 4) (yab (sVar 5) (yab (sVar 6) (yab (sVar 9) sNil)))))))) (sRet (sLit (.bl false))) yaB)
def ycV:SS :=
  (sIf (sNot (ydT (yah ycg (yab (sVar 1) (yab (sVar 4) (yab (sVar 5) (yab (yah yam (yab (sVar 8) (yab (sOp2 fAdd (sOp2 fMul (yah fLen (yab (sVar 5) sNil)) (sVar 6)) (sLit (.int 1))) sNil))) sNil))))))) (sRet (sLit (.bl false))) yaB)
def yc9:SS :=
  (sSeq (sSet 3 (yah ybo (yab (sVar 0) (yab (sVar 2) sNil))))
  (sSeq (ye4 (.tup [4,5,6]) (yah ycI (yab (sVar 1) (yab (sVar 3) sNil))))
  (sSeq (sSet 7 (sOp2 fMul (sBM ycS ybE (sVar 5) (yab (sLit (.str "\n")) sNil)) (sVar 6)))
  (sSeq (sIf (sOr (yas (sOp2 fNe (yah ycO (yab (sVar 1) (yab (sVar 4) sNil))) (sOp2 fAdd (sVar 7) (sLit (.int 1))))) (yas (sOp2 fNe (yal 0 yaz (sVar 1) (yab (sVar 4) sNil)) (sOp2 fMul (yah fLen (yab (sVar 5) sNil)) (sVar 6))))) (sRet (sLit (.bl false))) yaB)
  (sIf (yas (sOp2 fGt (sVar 7) (sLit (.int 0)))) (sSeq (sSet 8 (yah ybo (yab (sVar 0) (yab (sOp2 fAdd (sVar 2) (sLit (.int 2))) sNil))))
  (sSeq (sFor (iVal (sOp2 fAdd (sLst (yab (sLit (.int 0)) (yab (sLit (.int 1)) (yab (sVar 7) (yab (sOp2 fSub (sVar 7) (sLit (.int 1))) sNil))))) (ya3 [8,7] (yaI (sLit (.int 5))) sYes (yah yam (yab (sVar 1) (yab (sOp2 fAdd (sVar 2) (sLit (.int 1))) sNil)))))) (.nm 9) ycU)
  (sFor (yaI (sLit (.int 6))) (.nm 10) ycV))) yaB)))))
def ye9:Fn:=mkFn 1 11
  (sSeq (sSet 1 (yeH 0 8 ycN sNil))
  (sSeq (sFor (yaI (sLit (.int 2))) (.nm 2) yc9)
  (sRet (yah ycf (yab (sVar 1) (yab (yah ybo (yab (sVar 0) (yab (sLit (.int 4)) sNil))) sNil))))))
end Sk
set_option exponentiation.threshold 2000
namespace Sk
open PySem PySem.Spec L2 Sm
theorem zfX {w:Option Nat} {all:List AV} {t:Tg} {b:SS} (P:Nat->En->AH->Prop):∀ (xs:List AV) (i:Nat) (en:En) (h:AH),P i en h ->
  (∀ i en h,P i en h->yb7 w all h=true) ->
  (∀ (j:Nat) (x:AV) (en:En) (h:AH),xs[j]? = some x->P (i+j) en h->∃ e1 e2 h2,setT t x en=some e1/\(b e1 h = .nx e2 h2\/b e1 h = .ct e2 h2)/\P (i+j+1) e2 h2) ->
  ∃ e' h',ybM w all t b xs en h = .nx e' h'/\P (i+xs.length) e' h'
 | [],i,en,h,p,lv,_=>⟨en,h,by unfold ybM;rw [if_pos (lv _ _ _ p)],p⟩
 | x::xs,i,en,h,p,lv,s=>by
  obtain ⟨e1,e2,h2,q1,q2,q3⟩:=s 0 x en h rfl p
  obtain ⟨e',h',r1,r2⟩:=zfX P xs (i+1) e2 h2 q3 lv fun j y en h e q=>by
   have:=s (j+1) y en h (by simpa using e) (by rw [show i+(j+1)=i+1+j by lia];exact q)
   rw [show i+(j+1)+1=i+1+j+1 by lia] at this
   exact this
  refine ⟨e',h',?_,by rw [List.length_cons,show i+(xs.length+1)=i+1+xs.length by lia];exact r2⟩
  unfold ybM
  rw [if_pos (lv _ _ _ p)]
  simp only [q1]
  rcases q2 with q2 | q2
  ·rw [q2];exact r1
  ·rw [q2];exact r1
theorem zbN {α:Type} {js:List Nat} {en:En} {w:Option Nat} {all:List AV} {c:SB} {e:SE} {g f:α->AV} {p:α->Bool} {h:AH} (lv:yb7 w all h=true):∀ (cs:List α) (ys:List AV),(∀ x∈cs,c (some (g x)::js.map fun j=>(en[j]?).join) h = .ok (p x) h)->(∀ x∈cs,p x=true->e (some (g x)::js.map fun j=>(en[j]?).join) h = .ok (f x) h)->ys.length+cs.length<=sizeLine ->
  yaF js en w all c e (cs.map g) ys h = .ok (ys++(cs.filter p).map f) h
 | [],ys,_,_,_=>by rw [List.map_nil];unfold yaF;rw [if_pos lv];simp
 | x::xs,ys,hc,he,hl=>by
  have hl':ys.length<sizeLine:=by simp at hl;lia
  rw [List.map_cons]
  unfold yaF
  rw [if_pos ⟨lv,hl'⟩,hc x (by simp)]
  cases hp:p x with
  | false =>
   dsimp only
   rw [zbN lv xs ys (fun y hy=>hc y (by simp [hy])) (fun y hy=>he y (by simp [hy])) (by simp at hl ⊢;lia)]
   simp [List.filter_cons,hp]
  | true =>
   dsimp only
   rw [he x (by simp) hp]
   dsimp only
   rw [zbN lv xs (ys++[f x]) (fun y hy=>hc y (by simp [hy])) (fun y hy=>he y (by simp [hy])) (by simp at hl ⊢;lia)]
   simp [List.filter_cons,hp]
theorem zid {α:Type} {js:List Nat} {en:En} {w:Option Nat} {all:List AV} {e:SE} {g f:α->AV} {h:AH} (lv:yb7 w all h=true) (cs:List α) (ys:List AV) (he:∀ x∈cs,e (some (g x)::js.map fun j=>(en[j]?).join) h = .ok (f x) h) (hl:ys.length+cs.length<=sizeLine) :
  yaF js en w all sYes e (cs.map g) ys h = .ok (ys++cs.map f) h:=by
 rw [zbN (p:=fun _=>true) lv cs ys (fun _ _=>rfl) (fun x hx _=>he x hx) hl,List.filter_eq_self.mpr (fun _ _=>rfl)]
theorem zej {c:SB} {b:SS} (P:Nat->En->AH->Prop) (Q:En->AH->Prop):∀ (fuel n:Nat) (en:En) (h:AH),P n en h->n<fuel ->
  (∀ n en h,P n en h->(∃ h1,c en h = .ok false h1/\Q en h1)\/(∃ n' h1 e2 h2,n'<n/\c en h = .ok true h1/\(b en h1 = .nx e2 h2\/b en h1 = .ct e2 h2)/\P n' e2 h2)) ->
  ∃ e' h',ybu c b fuel en h = .nx e' h'/\Q e' h'
 | 0,n,en,h,_,l,_=>absurd l (Nat.not_lt_zero _)
 | fuel+1,n,en,h,p,l,s=>by
  rcases s n en h p with ⟨h1,q1,q2⟩ | ⟨n',h1,e2,h2,q0,q1,q2,q3⟩
  ·refine ⟨en,h1,?_,q2⟩
   unfold ybu;rw [q1]
  ·obtain ⟨e',h',r1,r2⟩:=zej P Q fuel n' e2 h2 q3 (by lia) s
   refine ⟨e',h',?_,r2⟩
   unfold ybu;rw [q1]
   rcases q2 with q2 | q2
   ·simp only [q2];exact r1
   ·simp only [q2];exact r1
@[simp] def thn (o:OutS) (Q:En->AH->Prop):Prop:=match o with
 | .nx e h=>Q e h
 | .ct e h=>Q e h
 | _=>False
theorem yfC {o:OutS} {Q:En->AH->Prop} (t:thn o Q):∃ e h,(o = .nx e h\/o = .ct e h)/\Q e h:=by
 cases o with
 | nx e h=>exact ⟨e,h,.inl rfl,t⟩
 | ct e h=>exact ⟨e,h,.inr rfl,t⟩
 | _=>exact t.elim
@[simp] def yfD (o:Option En) (Q:En->Prop):Prop:=match o with
 | some e=>Q e
 | none=>False
theorem ydO {w:Option Nat} {all:List AV} {t:Tg} {b:SS} {xs:List AV} {en:En} {h:AH} (P:Nat->En->AH->Prop) (p0:P 0 en h) (lv:∀ i en h,P i en h->yb7 w all h=true)
  (st:∀ (j:Nat) (x:AV) (en:En) (h:AH),xs[j]? = some x->P j en h->yfD (setT t x en) fun e1=>thn (b e1 h) (P (j+1))) :
  ∃ e' h',ybM w all t b xs en h = .nx e' h'/\P xs.length e' h' := by
 have:=zfX (w:=w) (all:=all) (t:=t) (b:=b) P xs 0 en h p0 lv fun j x en h hx hp=>by
  have q:=st j x en h hx (by simpa using hp)
  cases z:setT t x en with
  | none=>rw [z] at q;exact q.elim
  | some e1 =>
   rw [z] at q
   obtain ⟨e,h2,a,c⟩:=yfC q
   exact ⟨e1,e,h2,rfl,a,by simpa using c⟩
 simpa using this
theorem zdV {c:SB} {b:SS} {fuel n:Nat} {en:En} {h:AH} (P:Nat->En->AH->Prop) (Q:En->AH->Prop) (p0:P n en h) (hn:n<fuel)
  (st:∀ n en h,P n en h->match c en h with
   | .ok true h1=>thn (b en h1) fun e2 h2=>∃ n',n'<n/\P n' e2 h2
   | .ok false h1=>Q en h1
   | _=>False) :
  ∃ e' h',ybu c b fuel en h = .nx e' h'/\Q e' h' := by
 refine zej P Q fuel n en h p0 hn fun n en h p=>?_
 have q:=st n en h p
 cases z:c en h with
 | ok x h1 =>
  rw [z] at q
  cases x with
  | true =>
   obtain ⟨e,h2,a,n',l,c⟩:=yfC q
   exact .inr ⟨n',h1,e,h2,l,rfl,a,c⟩
  | false=>exact .inl ⟨h1,rfl,q⟩
 | ex _ _=>rw [z] at q;exact q.elim
 | bad=>rw [z] at q;exact q.elim
theorem zeR {js:List Nat} {en:En} {all:List AV} {e:SE} (P:List AV->AH->Prop):∀ (xs ys:List AV) (h:AH),P ys h ->
  (∀ x∈xs,∀ ys h,P ys h->∃ v h2,e (some x::js.map fun j=>(en[j]?).join) h = .ok v h2/\P (ys++[v]) h2)->ys.length+xs.length<=sizeLine ->
  ∃ zs h',yaF js en none all sYes e xs ys h = .ok zs h'/\P zs h'/\zs.length=ys.length+xs.length
 | [],ys,h,p,_,_=>⟨ys,h,by simp [yaF],p,rfl⟩
 | x::xs,ys,h,p,s,hl=>by
  obtain ⟨v,h2,q1,q2⟩:=s x (by simp) ys h p
  obtain ⟨zs,h',r1,r2,r3⟩:=zeR P xs (ys++[v]) h2 q2 (fun y hy=>s y (by simp [hy])) (by simp at hl ⊢;lia)
  refine ⟨zs,h',?_,r2,by rw [r3];simp;lia⟩
  unfold yaF
  rw [if_pos ⟨rfl,by simp at hl;lia⟩]
  simp only [sYes]
  rw [q1]
  exact r1
@[simp] def yfZ (o:Out AV) (Q:AV->AH->Prop):Prop:=match o with
 | .ok v h=>Q v h
 | _=>False
theorem yeV {js:List Nat} {en:En} {all:List AV} {e:SE} {xs:List AV} {h:AH} (P:List AV->AH->Prop) (p0:P [] h)
  (st:∀ x∈xs,∀ ys h,P ys h->yfZ (e (some x::js.map fun j=>(en[j]?).join) h) fun v h2=>P (ys++[v]) h2) (hl:xs.length<=sizeLine) :
  ∃ zs h',yaF js en none all sYes e xs [] h = .ok zs h'/\P zs h'/\zs.length=xs.length:=by
 have:=zeR (js:=js) (en:=en) (all:=all) (e:=e) P xs [] h p0 (fun x hx ys h p=>by
  have q:=st x hx ys h p
  cases z:e (some x::js.map fun j=>(en[j]?).join) h with
  | ok v h2=>rw [z] at q;exact ⟨v,h2,rfl,q⟩
  | ex _ _=>rw [z] at q;exact q.elim
  | bad=>rw [z] at q;exact q.elim) (by simpa using hl)
 simpa using this
theorem zfY {js:List Nat} {en:En} {all:List AV} {e:SE} (P:Nat->List AV->AH->Prop):∀ (xs ys:List AV) (i:Nat) (h:AH),P i ys h ->
  (∀ j x ys h,xs[j]? = some x->P (i+j) ys h->∃ v h2,e (some x::js.map fun j=>(en[j]?).join) h = .ok v h2/\P (i+j+1) (ys++[v]) h2)->ys.length+xs.length<=sizeLine ->
  ∃ zs h',yaF js en none all sYes e xs ys h = .ok zs h'/\P (i+xs.length) zs h'
 | [],ys,i,h,p,_,_=>⟨ys,h,by simp [yaF],p⟩
 | x::xs,ys,i,h,p,s,hl=>by
  obtain ⟨v,h2,q1,q2⟩:=s 0 x ys h rfl p
  obtain ⟨zs,h',r1,r2⟩:=zfY P xs (ys++[v]) (i+1) h2 q2 (fun j y ys h hy hp=>by
   have:=s (j+1) y ys h (by simpa using hy) (by rw [show i+(j+1)=i+1+j by lia];exact hp)
   rw [show i+(j+1)+1=i+1+j+1 by lia] at this
   exact this) (by simp at hl ⊢;lia)
  refine ⟨zs,h',?_,by rw [List.length_cons,show i+(xs.length+1)=i+1+xs.length by lia];exact r2⟩
  unfold yaF
  rw [if_pos ⟨rfl,by simp at hl;lia⟩]
  simp only [sYes]
  rw [q1]
  exact r1
theorem ygV {js:List Nat} {en:En} {all:List AV} {e:SE} {xs:List AV} {h:AH} (P:Nat->List AV->AH->Prop) (p0:P 0 [] h)
  (st:∀ j x ys h,xs[j]? = some x->P j ys h->yfZ (e (some x::js.map fun j=>(en[j]?).join) h) fun v h2=>P (j+1) (ys++[v]) h2) (hl:xs.length<=sizeLine) :
  ∃ zs h',yaF js en none all sYes e xs [] h = .ok zs h'/\P xs.length zs h' := by
 have:=zfY (js:=js) (en:=en) (all:=all) (e:=e) P xs [] 0 h p0 (fun j x ys h hx p=>by
  have q:=st j x ys h hx (by simpa using p)
  cases z:e (some x::js.map fun j=>(en[j]?).join) h with
  | ok v h2=>rw [z] at q;exact ⟨v,h2,rfl,by simpa using q⟩
  | ex _ _=>rw [z] at q;exact q.elim
  | bad=>rw [z] at q;exact q.elim) (by simpa using hl)
 simpa using this
theorem zbp:∀ (n:Nat) (lo:Int) (i:Nat),(yaL lo n)[i]? = if i<n then some (.int (lo+i)) else none
 | 0,lo,i=>by simp [yaL]
 | n+1,lo,0=>by simp [yaL]
 | n+1,lo,i+1=>by
  unfold yaL
  rw [List.getElem?_cons_succ,zbp n (lo+1) i]
  by_cases q:i<n
  ·rw [if_pos q,if_pos (by lia)];congr 2;lia
  ·rw [if_neg q,if_neg (by lia)]
theorem zaC:∀ (n:Nat) (lo:Int),(yaL lo n).length=n
 | 0,_=>rfl
 | n+1,lo=>by unfold yaL;rw [List.length_cons,zaC n]
theorem zaN {a:SE} {en:En} {h h1:AH} {n:Nat} (e:a en h = .ok (.int n) h1) (hn:n<=10000000):yaI a en h = .ok (yaL 0 n,none) h1:=by
 have h1':(n:Int).natAbs<2 ^ 62:=by lia
 simp only [yaI,e,Out.bind]
 rw [if_pos h1'];rfl
theorem yc5 {it:SI} {t:Tg} {b:SS} {en:En} {h h1:AH} {xs:List AV} {w:Option Nat} (e:it en h = .ok (xs,w) h1):sFor it t b en h=ybM w xs t b xs en h1:=by simp only [sFor,e]
theorem yed {i j:Int} {h:AH} (hi:i.natAbs<2 ^ 64):fMul (.int i) (.int j) h = .ok (.int (i*j)) h:=if_pos (.inl (.inl hi))
theorem yee {i j:Int} {h:AH} (hj:j.natAbs<2 ^ 64):fMul (.int i) (.int j) h = .ok (.int (i*j)) h:=if_pos (.inl (.inr hj))
theorem zeS {α:Type} {f:α->AV} {l:List α} {j:Nat} {q:α} (e:l[j]? = some q):atI (l.map f) (j:Int)=some (f q):=zdP (by simp [e])
end Sk
set_option exponentiation.threshold 5000
namespace Sk
open PySem PySem.Spec L2 Sm
def yd3 (c:Nat):Bool:=decide (c=10) || (decide (32<=c) && decide (c<=126))
theorem lt1 (a b:Nat):([a]<[b]) ↔ a<b:=by
 simp [List.cons_lt_cons_iff]
theorem yew:(Str.ofString "\n")=⟨#[10]⟩:=by decide +kernel
theorem ygW:(Str.ofString " ")=⟨#[32]⟩:=by decide +kernel
theorem ygX:(Str.ofString "~")=⟨#[126]⟩:=by decide +kernel
theorem ygY (c:Nat) (h:AH):yca [.str ⟨#[c]⟩] h = .ok (.bl (yd3 c)) h:=by
 simp [yca,yew,ygW,ygX,lt1,yd3]
 by_cases h1:c=10
 ·simp [h1]
 ·by_cases h2:c<32
  ·have : ¬ 32<=c:=by lia
   simp [h1,h2,this]
  ·have h3:32<=c:=by lia
   by_cases h4:c<=126
   ·have : ¬ 126<c:=by lia
    simp [h1,h2,h3,h4,this]
   ·have:126<c:=by lia
    simp [h1,h2,h3,h4,this]
theorem zeT {α:Type} {js:List Nat} {en:En} {all:List AV} {e:SE} {g f:α->AV} {h:AH}:∀ (cs:List α) (ys:List AV),(∀ c∈cs,e (some (g c)::js.map fun j=>(en[j]?).join) h = .ok (f c) h)->ys.length+cs.length<=sizeLine->yaF js en none all sYes e (cs.map g) ys h = .ok (ys++cs.map f) h
 | [],ys,_,_=>by simp [yaF]
 | x::xs,ys,he,hl=>by
  have hl':ys.length<sizeLine:=by simp at hl;lia
  rw [List.map_cons]
  unfold yaF
  rw [if_pos ⟨rfl,hl'⟩]
  simp only [sYes]
  rw [he x (by simp)]
  dsimp only
  rw [zeT xs (ys++[f x]) (fun y hy=>he y (by simp [hy])) (by simp at hl ⊢;lia)]
  simp
theorem zek (f:Nat->Bool):∀ cs:List Nat,ydZ (cs.map fun c=>.bl (f c))=some (cs.map f)
 | []=>rfl
 | c::cs=>by simp [zek f cs]
def yaO (x:Str):Bool:=x.cps.toList.all yd3
theorem zfZ (x:Str) (h:AH) (hl:x.length<=sizeLine):ydi [.str x] h = .ok (.bl (yaO x)) h:=by
 have e:=zeT (js:=[]) (en:=[some (.str x)]) (all:=x.cps.toList.map fun c=>AV.str ⟨#[c]⟩) (e:=yah yca (yab (sVar 0) sNil)) (g:=fun c=>AV.str ⟨#[c]⟩) (f:=fun c=>AV.bl (yd3 c)) (h:=h) x.cps.toList [] (by
  intro c hc
  simp [ygY]) (by simp;exact hl)
 simp only [List.nil_append] at e
 simp [ydi]
 rw [e]
 simp [zek,yaO]
def ybC (x:Str):Bool:=yaO x && (decide (1<=x.length) && decide (x.length<=8))
theorem zf0 (x:Str) (h:AH) (hl:x.length<=sizeLine):ydM [.str x] h = .ok (.bl (ybC x)) h:=by
 simp [ydM,zfZ x h hl,ybC]
 by_cases h1:yaO x=true
 ·by_cases h2:1<=x.length
  ·have:(1:Int)<=x.length:=by lia
   by_cases h3:x.length<=8
   ·have:(x.length:Int)<=8:=by lia
    simp [*]
   ·have : ¬ (x.length:Int)<=8:=by lia
    simp [*]
  ·have : ¬ (1:Int)<=x.length:=by lia
   simp [*]
 ·simp [h1]
def ydl (x:Str):Nat:=(Builtin.Str.occurrences x ⟨#[10]⟩ 0 x.length (x.length+1)).length
theorem yfE (x:Str) (h:AH):ydG [.str x] h = .ok (.int (ydl x)) h:=by
 simp [ydG,yew,ydl]
theorem zja (i:Int) (h:AH):ydL [.int i] h = .ok (.bl true) h:=by
 simp [ydL]
inductive Pc where
 | leaf (x:Str)
 | fork (a b:Nat)
 deriving DecidableEq
def Pc.av:Pc->AV
 | .leaf x=>.tup [.str "leaf",.str x]
 | .fork a b=>.tup [.str "fork",.int a,.int b]
theorem Pc.av_inj:∀ {p q:Pc},p.av=q.av->p=q
 | .leaf x,.leaf y,e=>by simp [Pc.av] at e;rw [e]
 | .leaf x,.fork a b,e=>by simp [Pc.av] at e
 | .fork a b,.leaf x,e=>by simp [Pc.av] at e
 | .fork a b,.fork c d,e=>by simp [Pc.av] at e;rw [Int.ofNat.inj e.1,Int.ofNat.inj e.2]
structure Ms where
 sg:Nat
 en:Nat
 lv:Nat
 ht:Int
 fl:Nat
 ll:Nat
def ms0:Ms:=⟨0,0,0,-1,0,0⟩
def ydm (ms:List Ms):Pc->Ms
 | .leaf x=>⟨x.length,ydl x,1,0,ms.length,ms.length⟩
 | .fork a b=>⟨(ms.getD a ms0).sg+(ms.getD b ms0).sg,(ms.getD a ms0).en+(ms.getD b ms0).en,(ms.getD a ms0).lv+(ms.getD b ms0).lv,max (ms.getD a ms0).ht (ms.getD b ms0).ht+1,(ms.getD a ms0).fl,(ms.getD b ms0).ll⟩
def meas (ps:List Pc):List Ms:=ps.foldl (fun ms q=>ms++[ydm ms q]) [ms0]
theorem zcw (ps:List Pc) (q:Pc):meas (ps++[q])=meas ps++[ydm (meas ps) q]:=by simp [meas]
theorem zao:∀ ps:List Pc,(meas ps).length=ps.length+1:=by
 have all:∀ (ps:List Pc) (ms:List Ms),(ps.foldl (fun ms q=>ms++[ydm ms q]) ms).length=ms.length+ps.length:=by
  intro ps
  induction ps with
  | nil=>intro ms;rfl
  | cons q r ih=>intro ms;rw [List.foldl_cons,ih];simp;lia
 intro ps
 rw [meas,all];simp;lia
def ybw (k:Nat):List Pc->List (AV×AV)
 | []=>[]
 | q::r=>(q.av,.int k)::ybw (k+1) r
def tab (ps:List Pc):List (AV×AV):=ybw 1 ps
theorem zbb (q:Pc):∀ (ps:List Pc) (k:Nat),ybw k (ps++[q])=ybw k ps++[(q.av,.int ((k+ps.length:Nat):Int))]
 | [],k=>by simp [ybw]
 | p::r,k=>by
  simp only [List.cons_append,ybw,zbb q r (k+1)]
  rw [show k+1+r.length=k+(p::r).length by simp;lia]
theorem zf1:∀ (ps:List Pc) (k:Nat),(ybw k ps).length=ps.length
 | [],_=>rfl
 | p::r,k=>by simp [ybw,zf1 r]
theorem zb6 {q:Pc}:∀ {ps:List Pc} {k:Nat},q∉ps->valA (ybw k ps) q.av=none
 | [],k,_=>rfl
 | p::r,k,h=>by
  have h1 : ¬ p.av=q.av:=fun e=>h (by rw [Pc.av_inj e];simp)
  have h2:=zb6 (q:=q) (ps:=r) (k:=k+1) fun z=>h (by simp [z])
  unfold valA at h2 ⊢
  simp only [ybw,List.find?_cons,decide_eq_false h1]
  exact h2
theorem zdf {q:Pc}:∀ {ps:List Pc} {k i:Nat},ps.Nodup->ps[i]? = some q->valA (ybw k ps) q.av=some (.int ((k+i:Nat):Int))
 | [],k,i,_,e=>by simp at e
 | p::r,k,0,n,e=>by simp at e;subst e;simp [valA,ybw]
 | p::r,k,i+1,n,e=>by
  simp at e
  have h1 : ¬ p.av=q.av:=fun z=>(List.nodup_cons.mp n).1 (by rw [Pc.av_inj z];exact List.mem_of_getElem? e)
  have h2:=zdf (q:=q) (k:=k+1) (List.nodup_cons.mp n).2 e
  unfold valA at h2 ⊢
  simp only [ybw,List.find?_cons,decide_eq_false h1]
  rw [h2]
  congr 3
  lia
theorem zjb {q:Pc} {ps:List Pc} (h:q∉ps):putA (tab ps) q.av (.int ((ps.length+1:Nat):Int))=tab (ps++[q]):=by
 unfold putA
 rw [zfQ,tab,zb6 h,tab,zbb]
 simp [Nat.add_comm]
structure ShelfAt (h:AH) (p:Nat) (ps:List Pc):Prop where
 ob:h[p]? = some (.ins 0 [some (.ref (p+1)),some (.ref (p+2)),some (.ref (p+3)),some (.ref (p+4)),some (.ref (p+5)),some (.ref (p+6)),some (.ref (p+7)),some (.ref (p+8))])
 h1:h[p+1]? = some (.lst (ps.map Pc.av))
 h2:h[p+2]? = some (.dct true (tab ps))
 h3:h[p+3]? = some (.lst ((meas ps).map fun m=>.int m.sg))
 h4:h[p+4]? = some (.lst ((meas ps).map fun m=>.int m.en))
 h5:h[p+5]? = some (.lst ((meas ps).map fun m=>.int m.lv))
 h6:h[p+6]? = some (.lst ((meas ps).map fun m=>.int m.ht))
 h7:h[p+7]? = some (.lst ((meas ps).map fun m=>.int m.fl))
 h8:h[p+8]? = some (.lst ((meas ps).map fun m=>.int m.ll))
def ycL (h:AH) (p:Nat) (ps:List Pc):AH :=
 (((((((h.set (p+1) (.lst (ps.map Pc.av))).set (p+2) (.dct true (tab ps))).set (p+3) (.lst ((meas ps).map fun m=>.int m.sg))).set (p+4) (.lst ((meas ps).map fun m=>.int m.en))).set (p+5) (.lst ((meas ps).map fun m=>.int m.lv))).set
  (p+6) (.lst ((meas ps).map fun m=>.int m.ht))).set (p+7) (.lst ((meas ps).map fun m=>.int m.fl))).set (p+8) (.lst ((meas ps).map fun m=>.int m.ll))
theorem yc6 {h:AH} {i:Nat} {o:AO} (e:h[i]? = some o):i<h.length:=(List.getElem?_eq_some_iff.mp e).1
theorem zbO (h:AH) (p:Nat) (ps:List Pc):(ycL h p ps).length=h.length:=by simp [ycL]
theorem zb7 {h:AH} {p q:Nat} {ps:List Pc} (hq:q<=p\/p+8<q):(ycL h p ps)[q]? = h[q]? := by
 unfold ycL
 repeat rw [List.getElem?_set_ne (by lia)]
theorem zbh {h:AH} {p:Nat} {ps ps':List Pc} (S:ShelfAt h p ps):ShelfAt (ycL h p ps') p ps' := by
 have b:=yc6 S.h8
 have l1:p+1<h.length:=Nat.lt_of_le_of_lt (Nat.add_le_add_left (by decide) p) b
 have l2:p+2<h.length:=Nat.lt_of_le_of_lt (Nat.add_le_add_left (by decide) p) b
 have l3:p+3<h.length:=Nat.lt_of_le_of_lt (Nat.add_le_add_left (by decide) p) b
 have l4:p+4<h.length:=Nat.lt_of_le_of_lt (Nat.add_le_add_left (by decide) p) b
 have l5:p+5<h.length:=Nat.lt_of_le_of_lt (Nat.add_le_add_left (by decide) p) b
 have l6:p+6<h.length:=Nat.lt_of_le_of_lt (Nat.add_le_add_left (by decide) p) b
 have l7:p+7<h.length:=Nat.lt_of_le_of_lt (Nat.add_le_add_left (by decide) p) b
 have ob:=S.ob
 constructor<;>simp [ycL,List.getElem?_set,l1,l2,l3,l4,l5,l6,l7,b,ob,-List.getElem?_eq_getElem]
theorem lenA {α:Type} (l:List α) (f:α->AV):(l.map f).length=l.length:=by simp
theorem yhT {h:AH} {p:Nat} {ps:List Pc} {i:Int} (S:ShelfAt h p ps):yce [.ref p,.int i] h = .ok (.bl (decide (1<=i/\i<=ps.length))) h:=by
 simp [yce,zja,S.ob,S.h1]
 by_cases h1:1<=i<;>simp [h1]
theorem zb8 {h:AH} {p:Nat} {ps:List Pc} {i:Int} (S:ShelfAt h p ps) (hi:1<=i/\i<=ps.length):ya6 [.ref p,.int i] h = .ok .non h:=by
 simp [ya6,yhT S,S.ob,hi.1,hi.2]
theorem zak {α:Type} {f:α->AV} {l:List α} {j:Nat} {q:α} (e:l[j]? = some q):atI (l.map f) (j:Int)=some (f q):=zdP (by simp [e])
theorem zjc {h:AH} {p:Nat} {ps:List Pc} {j:Nat} {q:Pc} (S:ShelfAt h p ps) (e:ps[j]? = some q):yaA [.ref p,.int ((j:Int)+1)] h = .ok q.av h:=by
 have hj:=(List.getElem?_eq_some_iff.mp e).1
 have h1:=zb8 S (i:=(j:Int)+1) ⟨by lia,by lia⟩
 simp [yaA,h1,S.ob,S.h1,zak e]
theorem yf0 {h:AH} {p:Nat} {ps:List Pc} {q:Pc} (S:ShelfAt h p ps) (hq:q∉ps) (hl:ps.length<16000000) :
  yc2 [.ref p,q.av] h = .ok (.int ((ps.length+1:Nat):Int)) ((h.set (p+1) (.lst ((ps++[q]).map Pc.av))).set (p+2) (.dct true (tab (ps++[q])))):=by
 have b:=yc6 S.h8
 have hs:ps.length<sizeLine:=Nat.lt_trans hl (by decide)
 have ht:(tab ps).length<sizeLine:=by rw [tab,zf1];exact hs
 have hk:ydI true q.av=true:=by cases q<;>simp [Pc.av]
 have e1:(h.set (p+1) (.lst (ps.map Pc.av++[q.av])))[p]? = h[p]? := List.getElem?_set_ne (by lia)
 have e2:(h.set (p+1) (.lst (ps.map Pc.av++[q.av])))[p+1]? = some (.lst (ps.map Pc.av++[q.av])):=List.getElem?_set_self (by lia)
 have e3:(h.set (p+1) (.lst (ps.map Pc.av++[q.av])))[p+2]? = h[p+2]? := List.getElem?_set_ne (by lia)
 have tp:=zjb hq
 simp [yc2,S.ob,S.h1,hs,e1,e2,e3,S.h2,hk,ht,-ydI]
 rw [show ((ps.length:Int)+1)=((ps.length+1:Nat):Int) by simp,tp]
theorem zhj {h:AH} {p:Nat} {ps:List Pc} {x:Str} (S:ShelfAt h p ps) (hq:Pc.leaf x∉ps) (hl:ps.length<16000000) :
  ybV [.ref p,(Pc.leaf x).av] h = .ok .non (ycL h p (ps++[.leaf x])):=by
 have b:=yc6 S.h8
 have hs:ps.length+1<sizeLine:=Nat.lt_of_lt_of_le (Nat.succ_lt_succ hl) (by decide)
 have hm:(meas ps).length<sizeLine:=by rw [zao];exact hs
 have e:=yf0 S hq hl
 have b2:((meas ps).length:Int)=(ps.length:Int)+1:=by rw [zao];simp
 have e2:fIx (Pc.leaf x).av (.int 1)=fun h=>Out.ok (.str x) h:=by funext h;rfl
 have l1:p+1<h.length:=by lia
 have l2:p+2<h.length:=by lia
 have l3:p+3<h.length:=by lia
 have l4:p+4<h.length:=by lia
 have l5:p+5<h.length:=by lia
 have l6:p+6<h.length:=by lia
 have l7:p+7<h.length:=by lia
 simp [ybV,e,S.ob,S.h3,S.h4,S.h5,S.h6,S.h7,S.h8,hm,yfE,List.getElem?_set,zcw,ydm,ycL,e2,zao,hs,-fIx,-List.getElem?_eq_getElem]
theorem zf2 {α:Type} {l:List α} {i:Nat} {d x:α} (e:l[i]? = some x):l.getD i d=x:=by simp [List.getD,e]
theorem zhk {h:AH} {p:Nat} {ps:List Pc} {a b:Nat} {ma mb:Ms} (S:ShelfAt h p ps) (hq:Pc.fork a b∉ps) (hl:ps.length<16000000) (ha:(meas ps)[a]? = some ma) (hb:(meas ps)[b]? = some mb) :
  ybU [.ref p,(Pc.fork a b).av] h = .ok .non (ycL h p (ps++[.fork a b])):=by
 have bb:=yc6 S.h8
 have hs:ps.length+1<sizeLine:=Nat.lt_of_lt_of_le (Nat.succ_lt_succ hl) (by decide)
 have hm:(meas ps).length<sizeLine:=by rw [zao];exact hs
 have e:=yf0 S hq hl
 have e2:fIx (Pc.fork a b).av (.int 1)=fun h=>Out.ok (.int a) h:=by funext h;rfl
 have e3:fIx (Pc.fork a b).av (.int 2)=fun h=>Out.ok (.int b) h:=by funext h;rfl
 have l1:p+1<h.length:=by lia
 have l2:p+2<h.length:=by lia
 have l3:p+3<h.length:=by lia
 have l4:p+4<h.length:=by lia
 have l5:p+5<h.length:=by lia
 have l6:p+6<h.length:=by lia
 have l7:p+7<h.length:=by lia
 have fx:∀ (n:Nat) (g:Ms->AV) (h':AH),h'[n]? = some (.lst ((meas ps).map g))->fIx (.ref n) (.int a) h' = .ok (g ma) h'/\fIx (.ref n) (.int b) h' = .ok (g mb) h' := fun n g h' e=>by
  simp [fIx,e,zak ha,zak hb]
 have f3:=fun (h':AH) (e:h'[p+3]? = some (.lst ((meas ps).map fun m=>.int m.sg)))=>fx _ _ h' e
 have f4:=fun (h':AH) (e:h'[p+4]? = some (.lst ((meas ps).map fun m=>.int m.en)))=>fx _ _ h' e
 have f5:=fun (h':AH) (e:h'[p+5]? = some (.lst ((meas ps).map fun m=>.int m.lv)))=>fx _ _ h' e
 have f6:=fun (h':AH) (e:h'[p+6]? = some (.lst ((meas ps).map fun m=>.int m.ht)))=>fx _ _ h' e
 have f7:=fun (h':AH) (e:h'[p+7]? = some (.lst ((meas ps).map fun m=>.int m.fl)))=>fx _ _ h' e
 have f8:=fun (h':AH) (e:h'[p+8]? = some (.lst ((meas ps).map fun m=>.int m.ll)))=>fx _ _ h' e
 have hmax:∀ i j:Int,(if j > i then j else i)=max i j:=fun i j=>by split<;>lia
 simp [ybU,e,S.ob,S.h3,S.h4,S.h5,S.h6,S.h7,S.h8,hm,List.getElem?_set,zcw,ydm,ycL,e2,e3,zao,hs,zak ha,zak hb,zf2 ha,zf2 hb,-fIx,-List.getElem?_eq_getElem,-List.getD_eq_getElem?_getD,f3,f4,f5,f6,f7,f8,hmax]
theorem zbu {h:AH} {p:Nat} {ps:List Pc} {x:Str} {i:Nat} (S:ShelfAt h p ps) (nd:ps.Nodup) (hx:ybC x=true) (hl:x.length<=sizeLine) (e:ps[i]? = some (.leaf x)):yaM [.ref p,.str x] h = .ok (.int ((i+1:Nat):Int)) h:=by
 have t:=zdf (k:=1) nd e
 have t':valA (tab ps) (.tup [.str "leaf",.str x])=some (.int ((i+1:Nat):Int)):=by rw [Nat.add_comm];exact t
 simp [yaM,zf0 x h hl,hx,S.ob,S.h2,t']
theorem zdB {h:AH} {p:Nat} {ps:List Pc} {x:Str} (S:ShelfAt h p ps) (hx:ybC x=true) (hl:x.length<=sizeLine) (hq:Pc.leaf x∉ps) (hz:ps.length<16000000):yaM [.ref p,.str x] h = .ok (.int ((ps.length+1:Nat):Int)) (ycL h p (ps++[.leaf x])):=by
 have t:valA (tab ps) (.tup [.str "leaf",.str x])=none:=zb6 (q:=.leaf x) (k:=1) hq
 have S2:=zbh (ps' := ps++[.leaf x]) S
 have e:=zhj S hq hz
 have t2:valA (tab (ps++[.leaf x])) (.tup [.str "leaf",.str x])=some (.int ((ps.length+1:Nat):Int)):=by
  unfold tab
  rw [zbb]
  unfold valA at t ⊢
  rw [List.find?_append]
  have t3:(ybw 1 ps).find? (fun p=>decide (p.1 = .tup [.str "leaf",.str x]))=none:=by simpa [tab] using t
  rw [t3]
  simp [Pc.av,Nat.add_comm]
 have e':ybV [.ref p,.tup [.str "leaf",.str x]] h = .ok .non (ycL h p (ps++[.leaf x])):=e
 simp [yaM,zf0 x h hl,hx,S.ob,S.h2,t,e',S2.ob,S2.h2,t2]
theorem zie {h:AH} {p:Nat} {ps:List Pc} {a b:Nat} {ma mb la fb:Ms} (S:ShelfAt h p ps) (ha:(meas ps)[a]? = some ma) (hb:(meas ps)[b]? = some mb) (pa:1<=a) (pb:1<=b) (hla:(meas ps)[ma.ll]? = some la) (hfb:(meas ps)[mb.fl]? = some fb) :
  ya1 [.ref p,.int a,.int b] h=if la.sg+fb.sg<=8 then .ex yfM h else if 1<(ma.ht-mb.ht).natAbs then .ex ye7 h else if 1000000000000000000<ma.sg+mb.sg then .ex ye8 h else .ok .non h:=by
 have la_:=(List.getElem?_eq_some_iff.mp ha).1
 have lb_:=(List.getElem?_eq_some_iff.mp hb).1
 rw [zao] at la_ lb_
 have c1:=zb8 S (i:=(a:Int)) ⟨by lia,by lia⟩
 have c2:=zb8 S (i:=(b:Int)) ⟨by lia,by lia⟩
 by_cases d1:la.sg+fb.sg<=8
 ·have d1':((la.sg:Int)+fb.sg)<=8:=by lia
  simp [ya1,c1,c2,S.ob,S.h3,S.h5,S.h6,S.h7,S.h8,zak ha,zak hb,zak hla,zak hfb,d1,d1']
 ·have d1' : ¬ ((la.sg:Int)+fb.sg)<=8:=by lia
  by_cases d2:1<(ma.ht-mb.ht).natAbs
  ·have d2':(1:Int)<(if ma.ht-mb.ht<0 then -(ma.ht-mb.ht) else ma.ht-mb.ht):=by split<;>lia
   simp [ya1,c1,c2,S.ob,S.h3,S.h5,S.h6,S.h7,S.h8,zak ha,zak hb,zak hla,zak hfb,d1,d1',d2,d2',-Int.neg_sub]
  ·have d2' : ¬ (1:Int)<(if ma.ht-mb.ht<0 then -(ma.ht-mb.ht) else ma.ht-mb.ht):=by split<;>lia
   by_cases d3:1000000000000000000<ma.sg+mb.sg
   ·have d3':(1000000000000000000:Int)<(ma.sg:Int)+mb.sg:=by lia
    simp [ya1,c1,c2,S.ob,S.h3,S.h5,S.h6,S.h7,S.h8,zak ha,zak hb,zak hla,zak hfb,d1,d1',d2,d2',d3,d3',-Int.neg_sub]
   ·have d3' : ¬ (1000000000000000000:Int)<(ma.sg:Int)+mb.sg:=by lia
    simp [ya1,c1,c2,S.ob,S.h3,S.h5,S.h6,S.h7,S.h8,zak ha,zak hb,zak hla,zak hfb,d1,d1',d2,d2',d3,d3',-Int.neg_sub]
structure ForkOk (ps:List Pc) (a b:Nat):Prop where
 pa:1<=a
 pb:1<=b
 ex:∃ ma mb la fb,(meas ps)[a]? = some ma/\(meas ps)[b]? = some mb/\(meas ps)[ma.ll]? = some la/\(meas ps)[mb.fl]? = some fb/\8<la.sg+fb.sg/\(ma.ht-mb.ht).natAbs<=1/\ma.sg+mb.sg<=1000000000000000000
theorem zc1 {h:AH} {p:Nat} {ps:List Pc} {a b:Nat} (S:ShelfAt h p ps) (F:ForkOk ps a b):ya1 [.ref p,.int a,.int b] h = .ok .non h:=by
 obtain ⟨ma,mb,la,fb,h1,h2,h3,h4,h5,h6,h7⟩:=F.ex
 rw [zie S h1 h2 F.pa F.pb h3 h4,if_neg (by lia),if_neg (by lia),if_neg (by lia)]
theorem zbv {h:AH} {p:Nat} {ps:List Pc} {a b i:Nat} (S:ShelfAt h p ps) (nd:ps.Nodup) (F:ForkOk ps a b) (e:ps[i]? = some (.fork a b)):yaf [.ref p,.int a,.int b] h = .ok (.int ((i+1:Nat):Int)) h:=by
 have t:=zdf (k:=1) nd e
 have t':valA (tab ps) (.tup [.str "fork",.int a,.int b])=some (.int ((i+1:Nat):Int)):=by rw [Nat.add_comm];exact t
 simp [yaf,zc1 S F,S.ob,S.h2,t']
theorem zdC {h:AH} {p:Nat} {ps:List Pc} {a b:Nat} (S:ShelfAt h p ps) (F:ForkOk ps a b) (hq:Pc.fork a b∉ps) (hz:ps.length<16000000):yaf [.ref p,.int a,.int b] h = .ok (.int ((ps.length+1:Nat):Int)) (ycL h p (ps++[.fork a b])):=by
 have t:valA (tab ps) (.tup [.str "fork",.int a,.int b])=none:=zb6 (q:=.fork a b) (k:=1) hq
 have S2:=zbh (ps' := ps++[.fork a b]) S
 obtain ⟨ma,mb,la,fb,h1,h2,_⟩:=F.ex
 have e:=zhk S hq hz h1 h2
 have t2:valA (tab (ps++[.fork a b])) (.tup [.str "fork",.int a,.int b])=some (.int ((ps.length+1:Nat):Int)):=by
  unfold tab
  rw [zbb]
  unfold valA at t ⊢
  rw [List.find?_append]
  have t3:(ybw 1 ps).find? (fun p=>decide (p.1 = .tup [.str "fork",.int a,.int b]))=none:=by simpa [tab] using t
  rw [t3]
  simp [Pc.av,Nat.add_comm]
 have e':ybU [.ref p,.tup [.str "fork",.int a,.int b]] h = .ok .non (ycL h p (ps++[.fork a b])):=e
 simp [yaf,zc1 S F,S.ob,S.h2,t,e',S2.ob,S2.h2,t2]
def yei (n:Nat):List AO:=[.ins 0 [some (.ref (n+1)),some (.ref (n+2)),some (.ref (n+3)),some (.ref (n+4)),some (.ref (n+5)),some (.ref (n+6)),some (.ref (n+7)),some (.ref (n+8))],.lst [],.dct true [],.lst [.int 0],.lst [.int 0],.lst [.int 0],.lst [.int (-1)],.lst [.int 0],.lst [.int 0]]
theorem zjd {h:AH} {o o':AO} {r:AH}:(h++o::r).set h.length o'=h++o'::r:=by
 induction h with
 | nil=>rfl
 | cons x t ih=>simp [ih]
theorem ygZ (en:En) (h:AH):yeH 0 8 ycN sNil en h = .ok (.ref h.length) (h++yei h.length):=by
 simp [ycN,yei,List.getElem?_append,zjd]
theorem yfF {h r:AH} {k:Nat}:(h++r)[h.length+k]? = r[k]? := by
 rw [List.getElem?_append_right (by lia)];simp
theorem yg0 (h r:AH):ShelfAt (h++(yei h.length++r)) h.length []:=by
 refine ⟨?_,?_,?_,?_,?_,?_,?_,?_,?_⟩
 ·rw [show h.length=h.length+0 from rfl,yfF];rfl
 all_goals (rw [yfF];rfl)
theorem zcM (x:Str) (c i:Nat) (hi:i<x.length):Builtin.Str.subAt x ⟨#[c]⟩ i=decide (x.cps.toList[i]? = some c):=by
 have hi':i<x.cps.size:=hi
 unfold Builtin.Str.subAt
 have e:x.cps.extract i (i+1) = #[x.cps[i]]:=by
  apply Array.ext
  ·simp;lia
  ·intro j h1 h2
   have:j=0:=by simp at h2;lia
   subst this
   simp
 show (x.cps.extract i (i+1) == #[c])=_
 rw [e]
 have:x.cps.toList[i]? = some x.cps[i]:=by simp [hi']
 rw [this]
 by_cases q:x.cps[i]=c
 ·simp [q]
 ·simp [q]
theorem yex (x:Str) (c:Nat):∀ (n i:Nat) (st:Array Nat×Nat),i+n=x.length+1->st.2<=i->st.1.size<=i->(forIn (List.range' i n) st (StrLaws.occBody x ⟨#[c]⟩ x.length (x.length+1))).run.fst.size=st.1.size+(x.cps.toList.drop i).count c
 | 0,i,st,hn,_,_=>by
  rw [List.drop_of_length_le (by simp;simp only [Str.length] at hn;lia)]
  simp
 | n+1,i,st,hn,h2,h3=>by
  rw [List.range'_succ,List.forIn_cons]
  unfold StrLaws.occBody
  by_cases hi:i<x.length
  ·have hi':i<x.cps.size:=hi
   have hd:x.cps.toList.drop i=x.cps[i]'hi'::x.cps.toList.drop (i+1):=by
    rw [List.drop_eq_getElem_cons (show i<x.cps.toList.length by simpa using hi')];simp
   have hg:x.cps.toList[i]? = some (x.cps[i]'hi'):=by
    simp [hi']
   by_cases q:x.cps[i]'hi'=c
   ·have hs:Builtin.Str.subAt x ⟨#[c]⟩ i=true:=by rw [zcM x c i hi,hg,q];simp
    rw [if_pos ⟨⟨⟨by lia,h2⟩,hi⟩,hs⟩]
    show (forIn (List.range' (i+1) n) (st.1.push i,i+1) (StrLaws.occBody x ⟨#[c]⟩ x.length (x.length+1))).run.fst.size=_
    rw [yex x c n (i+1) _ (by lia) (Nat.le_refl _) (by simp;lia),hd,q]
    simp;lia
   ·have hs:Builtin.Str.subAt x ⟨#[c]⟩ i=false:=by rw [zcM x c i hi,hg];simp [q]
    rw [if_neg (by simp [hs])]
    show (forIn (List.range' (i+1) n) (st.1,st.2) (StrLaws.occBody x ⟨#[c]⟩ x.length (x.length+1))).run.fst.size=_
    rw [yex x c n (i+1) _ (by lia) (by show st.2<=i+1;lia) (by show st.1.size<=i+1;lia),hd]
    simp [q]
  ·rw [if_neg (by rintro ⟨⟨_,z⟩,_⟩;exact hi z)]
   show (forIn (List.range' (i+1) n) (st.1,st.2) (StrLaws.occBody x ⟨#[c]⟩ x.length (x.length+1))).run.fst.size=_
   rw [yex x c n (i+1) _ (by lia) (by show st.2<=i+1;lia) (by show st.1.size<=i+1;lia)]
   rw [List.drop_of_length_le (by simp;simp only [Str.length] at hi;lia),List.drop_of_length_le (by simp;simp only [Str.length] at hi;lia)]
theorem zhl (x:Str) (c:Nat):(Builtin.Str.occurrences x ⟨#[c]⟩ 0 x.length (x.length+1)).length=x.cps.toList.count c:=by
 rw [StrLaws.occ_eq,Array.length_toList]
 rw [show x.length+1-0=x.length+1 from rfl,yex x c (x.length+1) 0 _ (by lia) (Nat.le_refl _) (by simp)]
 simp
theorem zaO (x:Str):ydl x=x.cps.toList.count 10:=zhl x 10
theorem zaf (x y:Str):(x++y).cps.toList=x.cps.toList++y.cps.toList:=by
 show (x.cps++y.cps).toList=_
 simp
theorem zif (x y:Str):ydl (x++y)=ydl x+ydl y:=by
 rw [zaO,zaO,zaO,zaf,List.count_append]
theorem zad (x:Str):x.length=x.cps.toList.length:=by simp [Str.length]
theorem zaB (x y:Str):(x++y).length=x.length+y.length:=by
 rw [zad,zad,zad,zaf,List.length_append]
def yd9 (rs:List Str):Pc->Str
 | .leaf x=>x
 | .fork a b=>rs.getD a "" ++ rs.getD b ""
def reads (ps:List Pc):List Str:=ps.foldl (fun rs q=>rs++[yd9 rs q]) [""]
theorem zgB (ps:List Pc) (q:Pc):reads (ps++[q])=reads ps++[yd9 (reads ps) q]:=by simp [reads]
theorem zbE {α β:Type} (g:List β->α->β):∀ (qs:List α) (ms:List β),∃ r,qs.foldl (fun ms q=>ms++[g ms q]) ms=ms++r/\r.length=qs.length
 | [],ms=>⟨[],by simp,rfl⟩
 | q::qs,ms=>by
  obtain ⟨r,e,l⟩:=zbE g qs (ms++[g ms q])
  exact ⟨g ms q::r,by rw [List.foldl_cons,e];simp,by simp [l]⟩
theorem zbP (ps:List Pc):(reads ps).length=ps.length+1:=by
 obtain ⟨r,e,l⟩:=zbE yd9 ps [""]
 rw [reads,e];simp [l,Nat.add_comm]
theorem zig (ps qs:List Pc):∃ r,meas (ps++qs)=meas ps++r:=by
 unfold meas
 rw [List.foldl_append]
 obtain ⟨r,e,_⟩:=zbE ydm qs (ps.foldl (fun ms q=>ms++[ydm ms q]) [ms0])
 exact ⟨r,e⟩
theorem zhm (ps qs:List Pc):∃ r,reads (ps++qs)=reads ps++r:=by
 unfold reads
 rw [List.foldl_append]
 obtain ⟨r,e,_⟩:=zbE yd9 qs (ps.foldl (fun ms q=>ms++[yd9 ms q]) [""])
 exact ⟨r,e⟩
theorem zac {ps ps':List Pc} (h:ps <+: ps') {n:Nat} {m:Ms} (e:(meas ps)[n]? = some m):(meas ps')[n]? = some m:=by
 obtain ⟨qs,rfl⟩:=h
 obtain ⟨r,q⟩:=zig ps qs
 rw [q,List.getElem?_append_left (List.getElem?_eq_some_iff.mp e).1];exact e
theorem zbQ {ps ps':List Pc} (h:ps <+: ps') {n:Nat} {m:Str} (e:(reads ps)[n]? = some m):(reads ps')[n]? = some m:=by
 obtain ⟨qs,rfl⟩:=h
 obtain ⟨r,q⟩:=zhm ps qs
 rw [q,List.getElem?_append_left (List.getElem?_eq_some_iff.mp e).1];exact e
theorem zb9 (ps:List Pc) (i:Nat):ps.take i <+: ps:=List.take_prefix i ps
theorem zdg {ps:List Pc} {i:Nat} {q:Pc} (e:ps[i]? = some q):(ps.take i++[q]) <+: ps/\(ps.take i).length=i:=by
 have hi:=(List.getElem?_eq_some_iff.mp e).1
 have:ps.take (i+1)=ps.take i++[q]:=by
  rw [List.take_succ,e];rfl
 exact ⟨this▸List.take_prefix _ _,by simp;lia⟩
theorem zf3 {ps:List Pc} {i:Nat} {q:Pc} (e:ps[i]? = some q):(meas ps)[i+1]? = some (ydm (meas (ps.take i)) q):=by
 obtain ⟨h,l⟩:=zdg e
 refine zac h ?_
 rw [zcw,List.getElem?_append_right (by rw [zao,l];lia),zao,l]
 simp
theorem zeU {ps:List Pc} {i:Nat} {q:Pc} (e:ps[i]? = some q):(reads ps)[i+1]? = some (yd9 (reads (ps.take i)) q):=by
 obtain ⟨h,l⟩:=zdg e
 refine zbQ h ?_
 rw [zgB,List.getElem?_append_right (by rw [zbP,l];lia),zbP,l]
 simp
def PcOk (ps:List Pc):Pc->Prop
 | .leaf x=>ybC x=true
 | .fork a b=>ForkOk ps a b
inductive Good:List Pc->Prop
 | nil:Good []
 | snoc {ps:List Pc} {q:Pc}:Good ps->q∉ps->PcOk ps q->Good (ps++[q])
theorem Good.nodup {ps:List Pc} (g:Good ps):ps.Nodup:=by
 induction g with
 | nil=>exact List.nodup_nil
 | snoc g n ok ih=>exact List.nodup_append.mpr ⟨ih,by simp,fun a ha b hb=>by simp at hb;subst hb;exact fun e=>n (e▸ha)⟩
theorem Good.get {ps:List Pc} (g:Good ps):∀ {i:Nat} {q:Pc},ps[i]? = some q->PcOk (ps.take i) q:=by
 induction g with
 | nil=>intro i q e;simp at e
 | @snoc ps q' g n ok ih =>
  intro i q e
  by_cases hi:i<ps.length
  ·rw [List.getElem?_append_left hi] at e
   rw [List.take_append_of_le_length (by lia)]
   exact ih e
  ·have hi2:i=ps.length:=by
    have:=(List.getElem?_eq_some_iff.mp e).1
    simp at this;lia
   subst hi2
   simp at e
   subst e
   simpa using ok
theorem ForkOk.pre {ps ps':List Pc} {a b:Nat} (F:ForkOk ps a b) (h:ps <+: ps'):ForkOk ps' a b:=by
 obtain ⟨ma,mb,la,fb,h1,h2,h3,h4,h5⟩:=F.ex
 exact ⟨F.pa,F.pb,ma,mb,la,fb,zac h h1,zac h h2,zac h h3,zac h h4,h5⟩
structure Ky (ps:List Pc) (m:Ms) (x:Str) (f l:Ms):Prop where
 fl:(meas ps)[m.fl]? = some f
 ll:(meas ps)[m.ll]? = some l
 sg:m.sg=x.length
 en:m.en=ydl x
 f1:1<=f.sg
 f8:f.sg<=8
 l1:1<=l.sg
 l8:l.sg<=8
 lv:1<=m.lv
 ht:0<=m.ht
 most:m.sg<=1000000000000000000
 cnt:∃ k,(m.lv=2*k+1/\9*k+f.sg<=m.sg/\9*k+l.sg<=m.sg)\/(m.lv=2*k+2/\9*k+9<=m.sg/\9*k+f.sg+l.sg<=m.sg)
 pl:yaO x=true
structure Tx (ps:List Pc) (n:Nat) (m:Ms) (x:Str) (f l:Ms):Prop where
 n1:1<=n
 ms:(meas ps)[n]? = some m
 rd:(reads ps)[n]? = some x
 ky:Ky ps m x f l
theorem Ky.pre {ps ps':List Pc} {m:Ms} {x:Str} {f l:Ms} (k:Ky ps m x f l) (h:ps <+: ps'):Ky ps' m x f l :=
 { k with fl:=zac h k.fl,ll:=zac h k.ll }
theorem Tx.pre {ps ps':List Pc} {n:Nat} {m:Ms} {x:Str} {f l:Ms} (k:Tx ps n m x f l) (h:ps <+: ps'):Tx ps' n m x f l :=
 ⟨k.n1,zac h k.ms,zbQ h k.rd,k.ky.pre h⟩
theorem Tx.le {ps:List Pc} {n:Nat} {m:Ms} {x:Str} {f l:Ms} (k:Tx ps n m x f l):n<=ps.length:=by
 have:=(List.getElem?_eq_some_iff.mp k.ms).1
 rw [zao] at this;lia
def ydn (ma mb:Ms):Ms:=⟨ma.sg+mb.sg,ma.en+mb.en,ma.lv+mb.lv,max ma.ht mb.ht+1,ma.fl,mb.ll⟩
theorem zbR (x y:Str):yaO (x++y)=(yaO x && yaO y):=by unfold yaO;rw [zaf,List.all_append]
theorem kf1 {n n' s s' f l f' l':Nat} (a:∃ k,(n=2*k+1/\9*k+f<=s/\9*k+l<=s)\/(n=2*k+2/\9*k+9<=s/\9*k+f+l<=s)) (b:∃ k,(n'=2*k+1/\9*k+f'<=s'/\9*k+l'<=s')\/(n'=2*k+2/\9*k+9<=s'/\9*k+f'+l'<=s')) (hs:8<l+f') :
  ∃ k,(n+n'=2*k+1/\9*k+f<=s+s'/\9*k+l'<=s+s')\/(n+n'=2*k+2/\9*k+9<=s+s'/\9*k+f+l'<=s+s'):=by
 obtain ⟨k,⟨rfl,a1,a2⟩ | ⟨rfl,a1,a2⟩⟩:=a<;>obtain ⟨k',⟨rfl,b1,b2⟩ | ⟨rfl,b1,b2⟩⟩:=b
 ·exact ⟨k+k',.inr ⟨by lia,by lia,by lia⟩⟩
 ·exact ⟨k+k'+1,.inl ⟨by lia,by lia,by lia⟩⟩
 ·exact ⟨k+k'+1,.inl ⟨by lia,by lia,by lia⟩⟩
 ·exact ⟨k+k'+1,.inr ⟨by lia,by lia,by lia⟩⟩
theorem Ky.sg1 {ps:List Pc} {m:Ms} {x:Str} {f l:Ms} (k:Ky ps m x f l):1<=m.sg:=by
 have f1:=k.f1
 obtain ⟨k,⟨_,a,_⟩ | ⟨_,a,_⟩⟩:=k.cnt
 ·exact Nat.le_trans f1 (Nat.le_trans (Nat.le_add_left _ _) a)
 ·exact Nat.le_trans (Nat.le_add_left 1 (9*k+8)) a
theorem Ky.fork {ps:List Pc} {ma mb fa la fb lb:Ms} {x y:Str} (A:Ky ps ma x fa la) (B:Ky ps mb y fb lb) (hs:8<la.sg+fb.sg) (hm:ma.sg+mb.sg<=1000000000000000000):Ky ps (ydn ma mb) (x++y) fa lb:=by
 have k:=kf1 A.cnt B.cnt hs
 refine ⟨A.fl,B.ll,?_,?_,A.f1,A.f8,B.l1,B.l8,Nat.le_trans A.lv (Nat.le_add_right _ _),?_,hm,k,?_⟩
 ·show ma.sg+mb.sg=_;rw [zaB,A.sg,B.sg]
 ·show ma.en+mb.en=_;rw [zif,A.en,B.en]
 ·have a4:=A.ht
  show 0<=max ma.ht mb.ht+1
  clear k hs hm;lia
 ·rw [zbR,A.pl,B.pl];rfl
theorem zbS {x:Str} (h:ybC x=true):1<=x.length/\x.length<=8/\yaO x=true:=by
 simp [ybC] at h;exact ⟨h.2.1,h.2.2,h.1⟩
theorem zaV {α:Type} {l:List α} {i:Nat} {d x:α} (e:l[i]? = some x):l.getD i d=x:=by simp [List.getD,e]
def lfMs (x:Str) (n:Nat):Ms:=⟨x.length,ydl x,1,0,n,n⟩
theorem zbi {ps:List Pc} (g:Good ps) {i:Nat} {x:Str} (e:ps[i]? = some (.leaf x)):Tx ps (i+1) (lfMs x (i+1)) x (lfMs x (i+1)) (lfMs x (i+1)):=by
 have hi:=(List.getElem?_eq_some_iff.mp e).1
 have ok:ybC x=true:=g.get e
 obtain ⟨s1,s2,s3⟩:=zbS ok
 have li:(ps.take i).length=i:=by simp;lia
 have ml:(meas (ps.take i)).length=i+1:=by rw [zao,li]
 have e1':(meas ps)[i+1]? = some (lfMs x (i+1)):=by rw [zf3 e];simp only [ydm,lfMs];rw [ml]
 exact ⟨by lia,e1',zeU e,⟨e1',e1',rfl,rfl,s1,s2,s1,s2,Nat.le_refl 1,Int.le_refl 0,by show x.length<=_;lia,⟨0,.inl ⟨rfl,Nat.le_of_eq (Nat.zero_add _),Nat.le_of_eq (Nat.zero_add _)⟩⟩,s3⟩⟩
theorem zbj {ps:List Pc} (g:Good ps) {i a b:Nat} {ma mb fa la fb lb:Ms} {x y:Str} (e:ps[i]? = some (.fork a b)) (A:Tx ps a ma x fa la) (B:Tx ps b mb y fb lb):Tx ps (i+1) (ydn ma mb) (x++y) fa lb:=by
 have hi:=(List.getElem?_eq_some_iff.mp e).1
 have ok':ForkOk (ps.take i) a b:=g.get e
 have li:(ps.take i).length=i:=by simp;lia
 have tp:=zb9 ps i
 obtain ⟨ma',mb',la',fb',q1,q2,q3,q4,q5,q6,q7⟩:=ok'.ex
 have ba:=(List.getElem?_eq_some_iff.mp q1).1
 have bb:=(List.getElem?_eq_some_iff.mp q2).1
 rw [zao,li] at ba bb
 have z1:=A.ms.symm.trans (zac tp q1);cases z1
 have z2:=B.ms.symm.trans (zac tp q2);cases z2
 have z3:=A.ky.ll.symm.trans (zac tp q3);cases z3
 have z4:=B.ky.fl.symm.trans (zac tp q4);cases z4
 have r1:(reads (ps.take i))[a]? = some x:=by
  obtain ⟨w,ew⟩:∃ w,(reads (ps.take i))[a]? = some w:=⟨(reads (ps.take i))[a]'(by rw [zbP,li];lia),by simp⟩
  have:=(zbQ tp ew).symm.trans A.rd;cases this;exact ew
 have r2:(reads (ps.take i))[b]? = some y:=by
  obtain ⟨w,ew⟩:∃ w,(reads (ps.take i))[b]? = some w:=⟨(reads (ps.take i))[b]'(by rw [zbP,li];lia),by simp⟩
  have:=(zbQ tp ew).symm.trans B.rd;cases this;exact ew
 refine ⟨by lia,?_,?_,A.ky.fork B.ky q5 q7⟩
 ·rw [zf3 e];simp only [ydm,zaV q1,zaV q2];rfl
 ·rw [zeU e];simp only [yd9,zaV r1,zaV r2]
theorem Good.tx {ps:List Pc} (g:Good ps):∀ n,1<=n->n<=ps.length->∃ m x f l,Tx ps n m x f l:=by
 intro n
 induction n using Nat.strongRecOn with
 | ind n ih =>
  intro h1 h2
  obtain ⟨i,rfl⟩:∃ i,n=i+1:=⟨n-1,(Nat.sub_add_cancel h1).symm⟩
  obtain ⟨q,eq⟩:∃ q,ps[i]? = some q:=⟨ps[i],by simp⟩
  have ok:=g.get eq
  have li:(ps.take i).length=i:=(zdg eq).2
  cases q with
  | leaf x=>exact ⟨_,_,_,_,zbi g eq⟩
  | fork a b =>
   have ok':ForkOk (ps.take i) a b:=ok
   obtain ⟨ma,mb,la,fb,q1,q2,_⟩:=ok'.ex
   have ba:=(List.getElem?_eq_some_iff.mp q1).1
   have bb:=(List.getElem?_eq_some_iff.mp q2).1
   rw [zao,li] at ba bb
   obtain ⟨_,_,_,_,A⟩:=ih a ba ok'.pa (Nat.le_trans (Nat.le_of_lt ba) h2)
   obtain ⟨_,_,_,_,B⟩:=ih b bb ok'.pb (Nat.le_trans (Nat.le_of_lt bb) h2)
   exact ⟨_,_,_,_,zbj g eq A B⟩
structure Dd (p:Nat) (h h':AH) (ps ps':List Pc) (k:Nat):Prop where
 sh:ShelfAt h' p ps'
 gd:Good ps'
 pre:ps <+: ps'
 len:ps'.length<=ps.length+k
 fr:∀ i,i<=p\/p+8<i->h'[i]? = h[i]?
 hl:h'.length=h.length
theorem zhn {h:AH} {p:Nat} {ps:List Pc} {x:Str} (S:ShelfAt h p ps) (g:Good ps) (hx:ybC x=true) (hz:ps.length<16000000) :
  ∃ (n:Nat) (ps':List Pc) (h':AH),yaM [.ref p,.str x] h = .ok (.int n) h'/\Dd p h h' ps ps' 1/\Tx ps' n (lfMs x n) x (lfMs x n) (lfMs x n):=by
 obtain ⟨s1,s2,s3⟩:=zbS hx
 have hs:x.length<=sizeLine:=Nat.le_trans s2 (by decide)
 by_cases hq:Pc.leaf x∈ps
 ·obtain ⟨i,hi,e⟩:=List.getElem_of_mem hq
  have e':ps[i]? = some (.leaf x):=by rw [List.getElem?_eq_getElem hi,e]
  exact ⟨i+1,ps,h,zbu S g.nodup hx hs e',⟨S,g,List.prefix_refl _,by lia,fun _ _=>rfl,rfl⟩,zbi g e'⟩
 ·have g':Good (ps++[.leaf x]):=.snoc g hq hx
  have e':(ps++[Pc.leaf x])[ps.length]? = some (.leaf x):=by simp
  exact ⟨ps.length+1,_,_,zdB S hx hs hq hz,⟨zbh S,g',List.prefix_append _ _,by simp,fun i hi=>zb7 hi,zbO _ _ _⟩,zbi g' e'⟩
theorem zel {h:AH} {p:Nat} {ps:List Pc} {a b:Nat} {ma mb fa la fb lb:Ms} {x y:Str} (S:ShelfAt h p ps) (g:Good ps) (A:Tx ps a ma x fa la) (B:Tx ps b mb y fb lb) (hc:8<la.sg+fb.sg) (hv:(ma.ht-mb.ht).natAbs<=1) (hm:ma.sg+mb.sg<=1000000000000000000) (hz:ps.length<16000000) :
  ∃ (n:Nat) (ps':List Pc) (h':AH),yaf [.ref p,.int a,.int b] h = .ok (.int n) h'/\Dd p h h' ps ps' 1/\Tx ps' n (ydn ma mb) (x++y) fa lb:=by
 have F:ForkOk ps a b:=⟨A.n1,B.n1,ma,mb,la,fb,A.ms,B.ms,A.ky.ll,B.ky.fl,hc,hv,hm⟩
 by_cases hq:Pc.fork a b∈ps
 ·obtain ⟨i,hi,e⟩:=List.getElem_of_mem hq
  have e':ps[i]? = some (.fork a b):=by rw [List.getElem?_eq_getElem hi,e]
  exact ⟨i+1,ps,h,zbv S g.nodup F e',⟨S,g,List.prefix_refl _,by lia,fun _ _=>rfl,rfl⟩,zbj g e' A B⟩
 ·have g':Good (ps++[.fork a b]):=.snoc g hq F
  have e':(ps++[Pc.fork a b])[ps.length]? = some (.fork a b):=by simp
  have pr:ps <+: ps++[Pc.fork a b]:=List.prefix_append _ _
  exact ⟨ps.length+1,_,_,zdC S F hq hz,⟨zbh S,g',pr,by simp,fun i hi=>zb7 hi,zbO _ _ _⟩,zbj g' e' (A.pre pr) (B.pre pr)⟩
theorem ShelfAt.keep {h h':AH} {p:Nat} {ps:List Pc} (S:ShelfAt h p ps) (e:∀ i,p<=i->i<=p+8->h'[i]? = h[i]?):ShelfAt h' p ps:=by
 have k:∀ j,j<=8->h'[p+j]? = h[p+j]? := fun j hj=>e _ (Nat.le_add_right p j) (Nat.add_le_add_left hj p)
 exact ⟨(k 0 (by decide)).trans S.ob,(k 1 (by decide)).trans S.h1,(k 2 (by decide)).trans S.h2,(k 3 (by decide)).trans S.h3,(k 4 (by decide)).trans S.h4,(k 5 (by decide)).trans S.h5,(k 6 (by decide)).trans S.h6,(k 7 (by decide)).trans S.h7,(k 8 (by decide)).trans S.h8⟩
theorem ShelfAt.app {h:AH} {p:Nat} {ps:List Pc} (S:ShelfAt h p ps) (r:AH):ShelfAt (h++r) p ps:=by
 have:=yc6 S.h8
 exact S.keep fun i _ b=>List.getElem?_append_left (Nat.lt_of_le_of_lt b this)
theorem zje {h:AH} {st:Nat} {n m:Int} (e:h[st]? = some (.lst [.int n])) (hm:0<m) (hm2:m.natAbs<2 ^ 200):yam [.ref st,.int m] h = .ok (.int (n % m)) (h.set st (.lst [.int (n / m)])):=by
 have a0:atI [AV.int n] 0=some (.int n):=rfl
 have i0:ixN 1 0=some 0:=rfl
 have hm3:m.natAbs<1606938044258990275541962092341162602522202993782792835301376:=by simpa using hm2
 simp [yam,e,a0,hm,hm3,i0]
structure Wk (p r:Nat) (h h':AH) (ps ps':List Pc) (k:Nat):Prop where
 sh:ShelfAt h' p ps'
 gd:Good ps'
 pre:ps <+: ps'
 len:ps'.length<=ps.length+k
 row:∃ N:Int,h'[r]? = some (.lst [.int N])
 fr:∀ i,i<=p\/p+8<i->i≠r->h'[i]? = h[i]?
 hl:h'.length=h.length
theorem Wk.refl {p r:Nat} {h:AH} {ps:List Pc} (S:ShelfAt h p ps) (g:Good ps) (e:∃ N:Int,h[r]? = some (.lst [.int N])):Wk p r h h ps ps 0 :=
 ⟨S,g,List.prefix_refl _,by lia,e,fun _ _ _=>rfl,rfl⟩
theorem Wk.trans {p r:Nat} {h h' h'':AH} {ps ps' ps'':List Pc} {k k' k2:Nat} (a:Wk p r h h' ps ps' k) (b:Wk p r h' h'' ps' ps'' k') (hk:k+k'<=k2):Wk p r h h'' ps ps'' k2 :=
 ⟨b.sh,b.gd,a.pre.trans b.pre,by have:=a.len;have:=b.len;lia,b.row,fun i hi hr=>(b.fr i hi hr).trans (a.fr i hi hr),b.hl.trans a.hl⟩
theorem Wk.deed {p r:Nat} {h h' h'':AH} {ps ps' ps'':List Pc} {k k' k2:Nat} (a:Wk p r h h' ps ps' k) (b:Dd p h' h'' ps' ps'' k') (hr:r<p\/p+8<r) (hk:k+k'<=k2):Wk p r h h'' ps ps'' k2 :=
 a.trans ⟨b.sh,b.gd,b.pre,b.len,by rw [b.fr r (by lia)];exact a.row,fun i hi _=>b.fr i hi,b.hl⟩ hk
theorem Wk.set {p r:Nat} {h:AH} {ps:List Pc} (S:ShelfAt h p ps) (g:Good ps) {n:Int} (hl:r<h.length) (hr:r<p\/p+8<r):Wk p r h (h.set r (.lst [.int n])) ps ps 0 :=
 ⟨S.keep fun i h1 h2=>List.getElem?_set_ne (by lia),g,List.prefix_refl _,by lia,⟨n,List.getElem?_set_self hl⟩,fun i _ hi=>List.getElem?_set_ne (by lia),by simp⟩
theorem za0 {p r:Nat} {h:AH} {ps:List Pc} (S:ShelfAt h p ps) (g:Good ps) (e:∃ N:Int,h[r]? = some (.lst [.int N])) (hr:r<p\/p+8<r) (m:Nat) (hm:0<m) (hm2:m<=10 ^ 50) :
  ∃ (v:Nat) (h':AH),v<m/\yam [.ref r,.int m] h = .ok (.int v) h'/\Wk p r h h' ps ps 0:=by
 obtain ⟨N,e⟩:=e
 refine ⟨(N % m).toNat,_,?_,?_,Wk.set (n:=N / m) S g (yc6 e) hr⟩
 ·have:=Int.emod_lt_of_pos N (show (0:Int)<m by lia);have:=Int.emod_nonneg N (show (m:Int)≠0 by lia);lia
 ·rw [zje e (by lia) (by lia)]
  have:=Int.emod_nonneg N (show (m:Int)≠0 by lia)
  rw [Int.toNat_of_nonneg this]
theorem zeV:∀ cs:List Nat,yd0 (cs.map fun c=>AV.str ⟨#[c]⟩)=some (cs.map fun c=>(⟨#[c]⟩:Str))
 | []=>rfl
 | c::cs=>by simp [zeV cs]
theorem yf1:∀ cs:List Nat,((cs.map fun c=>(⟨#[c]⟩:Str)).map fun x:Str=>x.cps.toList).flatten=cs
 | []=>rfl
 | c::cs=>by simpa using yf1 cs
theorem zjf {h:AH} {cs:List Nat} (hl:cs.length<=1000000):yde (.str "") [.fl (cs.map fun c=>AV.str ⟨#[c]⟩)] h = .ok (.str ⟨cs.toArray⟩) h:=by
 have e:(Str.ofString "")=Str.empty:=by decide +kernel
 unfold yde
 simp only [e,if_true,ybD,zeV,yf1]
 rw [if_pos hl]
theorem zjg (c k:Int) (h:AH):∃ m,ydC [.int c,.int k] h = .ok (.int m) h:=by
 have b1:0<=(c % 1000000007+7919*k+1)*48271 % 2147483647:=Int.emod_nonneg _ (by decide)
 have b2:(c % 1000000007+7919*k+1)*48271 % 2147483647<2147483647:=Int.emod_lt_of_pos _ (by decide)
 refine ⟨(c % 1000000007+7919*k+1)*48271 % 2147483647*((c % 1000000007+7919*k+1)*48271 % 2147483647) % 2147483629*69621 % 2147483647,?_⟩
 generalize he:(c % 1000000007+7919*k+1)*48271 % 2147483647=v at *
 have c1:v.natAbs<18446744073709551616:=by lia
 simp [ydC,he,c1]
theorem yg1 {i j:Int} {h:AH} (hi:i.natAbs<2 ^ 4000) (hj:j.natAbs<2 ^ 4000):fMul (.int i) (.int j) h = .ok (.int (i*j)) h:=if_pos (.inr ⟨hi,hj⟩)
theorem zgC (ns:List Int):ydR (ns.map AV.int)=some ns:=by
 induction ns with
 | nil=>rfl
 | cons n r ih=>simp [ih]
abbrev T60:Int:=1000000000000000000000000000000000000000000000000000000000000
theorem yg2:(10:Nat) ^ 780<2 ^ 4000:=by decide +kernel
theorem yhU:T60.natAbs<2 ^ 4000:=by decide +kernel
theorem zfi (ns:List Int) (k:Nat) (i:Nat) (c:Nat) (o:Option AV) (h:AH) (hi:i<13) (hc:c<10 ^ (60*i)) (hj:k+i*5<ns.length) :
  ∃ c':Nat,c'<10 ^ (60*(i+1))/\ybO [some (.fl (ns.map AV.int)),some (.int k),some (.int c),some (.int ((k:Int)+i*5)),o] h = .nx [some (.fl (ns.map AV.int)),some (.int k),some (.int c'),some (.int ((k:Int)+i*5)),o] h:=by
 obtain ⟨s,es⟩:∃ s,ns[k+i*5]? = some s:=⟨ns[k+i*5],by simp [hj]⟩
 have ix:fIx (.fl (ns.map AV.int)) (.int ((k:Int)+i*5)) h = .ok (.int s) h:=by
  rw [show ((k:Int)+i*5)=((k+i*5:Nat):Int) by simp]
  simp only [fIx,zeS es]
 have p1:(10:Nat) ^ (60*i)<=10 ^ 780:=Nat.pow_le_pow_right (by decide) (by lia)
 have m1:((c:Int)).natAbs<2 ^ 4000:=by
  have:=yg2
  exact Nat.lt_trans (show c<10 ^ 780 by lia) this
 have mu:fMul (.int c) (.int T60) h = .ok (.int (c*T60)) h:=yg1 m1 yhU
 have r0:0<=s % T60:=Int.emod_nonneg _ (by decide)
 have r1:s % T60<T60:=Int.emod_lt_of_pos _ (by decide)
 obtain ⟨r,er⟩:∃ r:Nat,s % T60=(r:Int):=⟨(s % T60).toNat,(Int.toNat_of_nonneg r0).symm⟩
 have rl:r<10 ^ 60:=by
  have:(r:Int)<T60:=er▸r1
  have e:T60=((10 ^ 60:Nat):Int):=by decide +kernel
  rw [e] at this;exact Int.ofNat_lt.mp this
 obtain ⟨c',ec,lc⟩:∃ c':Nat,(c:Int)*T60+r=(c':Int)/\c'<10 ^ (60*(i+1)):=by
  refine ⟨c*10 ^ 60+r,?_,?_⟩
  ·have e:T60=((10 ^ 60:Nat):Int):=by decide +kernel
   rw [e,Int.natCast_add,Int.natCast_mul]
  ·rw [show 60*(i+1)=60*i+60 by lia,Nat.pow_add]
   have:(c+1)*10 ^ 60<=10 ^ (60*i)*10 ^ 60:=Nat.mul_le_mul_right _ hc
   have e2:(c+1)*10 ^ 60=c*10 ^ 60+10 ^ 60:=Nat.succ_mul _ _
   lia
 refine ⟨c',lc,?_⟩
 have pw:fPow (.int 10) (.int 60) h = .ok (.int T60) h:=by simp
 have md:fMod (.int s) (.int T60) h = .ok (.int r) h:=by simp only [fMod];rw [if_pos (by decide),er]
 clear p1 m1 r0 r1 er rl hc lc hi
 generalize T60=t60 at *
 simp [ybO,pw,mu,ix,md,ec,-fMul,-fPow,-fIx,-fMod]
theorem zeW (en0:Option AV) (ns:List Int) (k c f j:Int) (h:AH):∃ f',ybP [some (.fl (ns.map AV.int)),some (.int k),some (.int c),some (.int j),some (.int f)] h = .nx [some (.fl (ns.map AV.int)),some (.int k),some (.int c),some (.int j),some (.int f')] h:=by
 obtain ⟨m,hm⟩:=zjg (c+1009*k+ns.length) j h
 refine ⟨f*2147483647+m,?_⟩
 have m1:fMul (.int f) (.int 2147483647) h = .ok (.int (f*2147483647)) h:=yee (by decide)
 have m2:fMul (.int 1009) (.int k) h = .ok (.int (1009*k)) h:=yed (by decide)
 simp [ybP,hm,m1,m2,-fMul]
theorem zdh (ns:List Int) (hl:ns.length<=63) (k:Nat) (hk:k<=10) (h:AH):∃ N:Int,ybo [.fl (ns.map AV.int),.int k] h = .ok (.ref h.length) (h++[.lst [.int N]]):=by
 obtain ⟨M,eM⟩:∃ M:Nat,M=(if (k:Int)<(ns.length:Int) then ((ns.length:Int)-k-1) / 5+1 else 0).toNat:=⟨_,rfl⟩
 have hM:M<=13/\∀ i,i<M->k+i*5<ns.length:=by
  rw [eM]
  split
  ·refine ⟨by lia,fun i hi=>by lia⟩
  ·refine ⟨by lia,fun i hi=>by simp at hi⟩
 obtain ⟨e1,h1,r1,r2⟩:=ydO (w:=none) (all:=(List.range M).map (fun m:Nat=>AV.int ((k:Int)+m*5))) (t:=.nm 3) (b:=ybO) (xs:=(List.range M).map (fun m:Nat=>AV.int ((k:Int)+m*5))) (en:=[some (.fl (ns.map AV.int)),some (.int k),some (.int 0),none,none]) (h:=h)
  (fun i en h' => h'=h/\∃ (c:Nat) (o:Option AV),c<10 ^ (60*i)/\en=[some (.fl (ns.map AV.int)),some (.int k),some (.int c),o,none]) ⟨rfl,0,none,by decide,rfl⟩ (fun _ _ _ _=>rfl) (by
   rintro j x en h' hx ⟨rfl,c,o,hc,rfl⟩
   rw [List.getElem?_map] at hx
   obtain ⟨m,em,rfl⟩:=Option.map_eq_some_iff.mp hx
   have hj:j<M:=by
    have:=(List.getElem?_eq_some_iff.mp em).1;simpa using this
   rw [List.getElem?_range hj] at em
   cases em
   obtain ⟨c',l',e⟩:=zfi ns k j c none h' (by have:=hM.1;lia) hc (hM.2 j hj)
   show thn (ybO [some (.fl (ns.map AV.int)),some (.int k),some (.int c),some (.int ((k:Int)+j*5)),none] h') _
   rw [e]
   exact ⟨rfl,c',_,l',rfl⟩)
 obtain ⟨rfl,c,o,hc,rfl⟩:=r2
 have z1:(k:Int).natAbs<1099511627776:=by lia
 have z2:((ns.length:Nat):Int).natAbs<1099511627776:=by lia
 have it3:ycT (sVar 1) (yah fLen (yab (sVar 0) sNil)) (sLit (.int 5)) [some (.fl (ns.map AV.int)),some (.int k),some (.int 0),none,none] h1 = .ok ((List.range M).map (fun m:Nat=>AV.int ((k:Int)+m*5)),none) h1:=by
  simp only [ycT,sVar,yah,yab,sNil,sLit,Out.bind,fLen,List.getElem?_cons_zero,List.getElem?_cons_succ,lenA]
  rw [if_pos ⟨z1,z2,by decide,by decide⟩,<- eM]
 have f1:=(yc5 (t:=.nm 3) (b:=ybO) it3).trans r1
 clear r1 it3
 by_cases hb:(1000000000000000000:Int)<=c
 ·exact ⟨c,by simp [ybo,f1,hb,-sFor]⟩
 ·have cm:=zid (js:=[]) (en:=[some (.fl (ns.map AV.int)),some (.int k),some (.int c),o,none]) (w:=none) (all:=ns.map AV.int) (e:=sOp2 fMod (sVar 0) (sOp2 fPow (sLit (.int 10)) (sLit (.int 18)))) (g:=AV.int) (f:=fun i=>AV.int (i % 1000000000000000000)) (h:=h1) rfl ns [] (by intro i _;simp) (by
    simp only [List.length_nil];exact Nat.le_trans (show 0+ns.length<=63 by lia) (by decide))
  have im:(ns.map fun i=>AV.int (i % 1000000000000000000))=(ns.map fun i=>i % 1000000000000000000).map AV.int:=by simp
  obtain ⟨S,eS⟩:∃ S:Int,S=(ns.map fun i=>i % 1000000000000000000).sum:=⟨_,rfl⟩
  have sm:fSum [.fl (ns.map fun i=>AV.int (i % 1000000000000000000))] h1 = .ok (.int S) h1:=by
   rw [im,eS];simp only [fSum,zgC]
  obtain ⟨e2,h2,s1,s2⟩:=ydO (w:=none) (all:=yaL 0 30) (t:=.nm 3) (b:=ybP) (xs:=yaL 0 30) (en:=[some (.fl (ns.map AV.int)),some (.int k),some (.int (c+S)),o,some (.int 0)]) (h:=h1)
   (fun i en h' => h'=h1/\∃ (f:Int) (o:Option AV),en=[some (.fl (ns.map AV.int)),some (.int k),some (.int (c+S)),o,some (.int f)]) ⟨rfl,0,o,rfl⟩ (fun _ _ _ _=>rfl) (by
    rintro j x en h' hx ⟨rfl,f,o,rfl⟩
    rw [zbp] at hx
    by_cases q:j<30
    ·rw [if_pos q] at hx
     cases hx
     obtain ⟨f',e⟩:=zeW none ns k (c+S) f (0+(j:Int)) h'
     show thn (ybP [some (.fl (ns.map AV.int)),some (.int k),some (.int (c+S)),some (.int (0+(j:Int))),some (.int f)] h') _
     rw [e]
     exact ⟨rfl,f',_,rfl⟩
    ·rw [if_neg q] at hx;cases hx)
  obtain ⟨rfl,f,o',rfl⟩:=s2
  have f2:=(yc5 (t:=.nm 3) (b:=ybP) (zaN (a:=sLit (.int 30)) (en:=[some (.fl (ns.map AV.int)),some (.int k),some (.int (c+S)),o,some (.int 0)]) (h:=h2) (n:=30) rfl (by decide))).trans s1
  refine ⟨f / 64,?_⟩
  simp at cm
  simp [ybo,f1,hb,cm,sm,f2,-sFor,-fSum]
def yh3:List Str:=["ab", "aab\n", "a\n", " !#$&'()*+,-./0189:;<=>?\x40AZ[]^_az{|}~\n\\", "n\\\n"]
theorem zjh {x:Str} {v:Nat} (hv:v<x.length) (hx:yaO x=true) (h:AH):∃ c,yd3 c=true/\fIx (.str x) (.int v) h = .ok (.str ⟨#[c]⟩) h:=by
 have hv':v<x.cps.toList.length:=by rw [<- zad];exact hv
 refine ⟨x.cps.toList[v],?_,?_⟩
 ·exact List.all_eq_true.mp hx _ (List.getElem_mem hv')
 ·have e:x.cps.toList[v]? = some x.cps.toList[v]:=List.getElem?_eq_getElem hv'
  simp only [fIx,zdP e]
theorem zho {p r:Nat} {h:AH} {ps:List Pc} (S:ShelfAt h p ps) (g:Good ps) (e:∃ N:Int,h[r]? = some (.lst [.int N])) (hr:r<p\/p+8<r) (x:Str) (hx:yaO x=true/\1<=x.length/\x.length<=60) (many:Nat) (hm:many<=8) (o0 o3 o4 o5 o6 o7 o8 o9 o10 o11:Option AV) :
  ∃ (y:Str) (h':AH),yaO y=true/\y.length=many/\sBM ycS yde (sLit (.str "")) (yab (ya3 [2,1] (yaI (sVar 6)) sYes (sOp2 fIx (sVar 1) (yah yam (yab (sVar 2) (yab (yah fLen (yab (sVar 1) sNil)) sNil))))) sNil) [o0,some (.ref r),some (.str x),o3,o4,o5,some (.int many),o7,o8,o9,o10,o11] h = .ok (.str y) h'/\Wk p r h h' ps ps 0:=by
 obtain ⟨zs,h',c1,⟨cs,c2,c3,W⟩,c4⟩:=yeV (js:=[2,1]) (en:=[o0,some (.ref r),some (.str x),o3,o4,o5,some (.int many),o7,o8,o9,o10,o11]) (all:=yaL 0 many) (e:=sOp2 fIx (sVar 1) (yah yam (yab (sVar 2) (yab (yah fLen (yab (sVar 1) sNil)) sNil)))) (xs:=yaL 0 many) (h:=h)
  (fun ys h' => ∃ cs:List Nat,ys=cs.map (fun c=>AV.str ⟨#[c]⟩)/\(∀ c∈cs,yd3 c=true)/\Wk p r h h' ps ps 0) ⟨[],rfl,by simp,Wk.refl S g e⟩ (by
   rintro v hv ys h1 ⟨cs,rfl,hc,W⟩
   obtain ⟨d,h2,hd,e1,W2⟩:=za0 W.sh W.gd W.row hr x.length hx.2.1 (Nat.le_trans hx.2.2 (by decide))
   obtain ⟨c,pc,ec⟩:=zjh hd hx.1 h2
   have ln:fLen [.str x] h1 = .ok (.int (x.length:Nat)) h1:=by simp
   simp [e1,ec,-fIx]
   refine ⟨cs++[c],by simp,?_,W.trans W2 (by lia)⟩
   intro c' hc'
   rcases List.mem_append.mp hc' with q | q
   ·exact hc _ q
   ·simp at q;subst q;exact pc) (by rw [zaC];exact Nat.le_trans hm (by decide))
 have lc:cs.length=many:=by
  have:=congrArg List.length c2
  rw [c4,zaC] at this;simpa using this.symm
 refine ⟨⟨cs.toArray⟩,h',?_,?_,?_,W⟩
 ·simp only [yaO,List.all_eq_true];intro c hc;exact c3 c (by simpa using hc)
 ·simp [Str.length,lc]
 ·have jn:=zjf (h:=h') (cs:=cs) (by lia)
  have r1:=zaN (a:=sVar 6) (en:=[o0,some (.ref r),some (.str x),o3,o4,o5,some (.int many),o7,o8,o9,o10,o11]) (h:=h) (n:=many) rfl (by lia)
  have cc:ya3 [2,1] (yaI (sVar 6)) sYes (sOp2 fIx (sVar 1) (yah yam (yab (sVar 2) (yab (yah fLen (yab (sVar 1) sNil)) sNil)))) [o0,some (.ref r),some (.str x),o3,o4,o5,some (.int many),o7,o8,o9,o10,o11] h = .ok (.fl zs) h' := by
   simp only [ya3,r1,c1]
  rw [c2] at cc
  simp only [sBM,sLit,Out.bind,yab,sNil,cc,ycS,if_true,jn]
theorem ta1 {n A B N:Nat} (h:n+2*B<N) (q:A<=B):n+A<N:=by lia
theorem ta2 {n n1 A B C N:Nat} (h:n+2*C<N) (q:A<=C) (r:B<=C) (v:n1<=n+(A-1)):n1+B<N:=by lia
theorem ta3 {l m f:Nat} (h:9<=m+f) (e:l=m):8<l+f:=by lia
theorem ta4 {a b:Int} {x y:Nat} (ea:a=x) (eb:b=y) (h1:x<=y+1) (h2:y<=x+1):(a-b).natAbs<=1:=by lia
theorem ta5 {x y A B C:Nat} (hx:x<=8*A) (hy:y<=8*B) (ha:A<=C) (hb:B<=C):x+y<=16*C:=by lia
theorem ta6 {n n1 n2 A B C:Nat} (v1:n1<=n+(A-1)) (v2:n2<=n1+(B-1)) (a:A<=C) (b:B<=C) (h:n+2*C<15000000):n2<16000000:=by lia
theorem ta7 {A B C:Nat} (a:A<=C) (b:B<=C) (a1:1<=A) (b1:1<=B):A-1+(B-1)+1<=2*C-1:=by lia
theorem ta8 {a b:Int} {x y H:Nat} (ea:a=x) (eb:b=y) (hx:x<=H) (hy:y<=H) (o:x=H\/y=H):max a b+1=((H+1:Nat):Int):=by lia
theorem ta9 (H lo t:Nat) (h1:lo<=1) (h2:lo=1->1<=H) (h3:t<2):∃ ha hb:Nat,((H+1:Nat):Int)-1-(lo:Int)*(t:Int)=(ha:Int)/\((H+1:Nat):Int)-1-(lo:Int)*(1-(t:Int))=(hb:Int)/\ha<=H/\hb<=H/\(ha=H\/hb=H)/\ha<=hb+1/\hb<=ha+1:=by
 match lo,t,h1,h2,h3 with
 | 0,0,_,_,_=>exact ⟨H,H,by simp,by simp,Nat.le_refl _,Nat.le_refl _,.inl rfl,Nat.le_succ _,Nat.le_succ _⟩
 | 0,1,_,_,_=>exact ⟨H,H,by simp,by simp,Nat.le_refl _,Nat.le_refl _,.inl rfl,Nat.le_succ _,Nat.le_succ _⟩
 | 1,0,_,h2,_ =>
  obtain ⟨k,rfl⟩:∃ k,H=k+1:=⟨H-1,by have:=h2 rfl;lia⟩
  exact ⟨k+1,k,by simp,by simp,Nat.le_refl _,Nat.le_succ _,.inl rfl,Nat.le_refl _,Nat.le_succ_of_le (Nat.le_succ _)⟩
 | 1,1,_,h2,_ =>
  obtain ⟨k,rfl⟩:∃ k,H=k+1:=⟨H-1,by have:=h2 rfl;lia⟩
  exact ⟨k,k+1,by simp,by simp,Nat.le_succ _,Nat.le_refl _,.inr rfl,Nat.le_succ_of_le (Nat.le_succ _),Nat.le_refl _⟩
theorem tp2 (H:Nat):2 ^ (H+2)=2*2 ^ (H+1):=by rw [Nat.pow_succ,Nat.mul_comm]
theorem tpm {a b:Nat} (h:a<=b):2 ^ a<=2 ^ b:=Nat.pow_le_pow_right (by decide) h
theorem tl1 {last v:Nat} (h8:last<=8) (hv:v<last):∃ many:Nat,(9:Int)-(last:Int)+v=(many:Int)/\9<=last+many/\many<=8/\1<=many:=⟨9-last+v,by lia,by lia,by lia,by lia⟩
theorem tl2 (last:Nat):(9:Int)-(9-(last:Int))=(last:Int):=Int.sub_sub_self _ _
theorem tl3 {last:Nat} (h8:last<=8) (h:AH):ydJ [.int 1,.int (9-(last:Int))] h = .ok (.int (9-(last:Int))) h:=by
 simp
 lia
theorem zhp {p r:Nat} {h:AH} {ps:List Pc} (G:Fn) (S:ShelfAt h p ps) (g:Good ps) (e:∃ N:Int,h[r]? = some (.lst [.int N])) (hr:r<p\/p+8<r) (x:Str) (hx:yaO x=true/\1<=x.length/\x.length<=60) (last:Nat) (h1:1<=last) (h8:last<=8) (hz:ps.length<15000000) :
  ∃ (n:Nat) (y:Str) (many:Nat) (ps':List Pc) (h':AH),ydj G [.ref p,.ref r,.str x,.int 0,.int last] h = .ok (.tup [.int n,.str y,.int many]) h'/\Wk p r h h' ps ps' 1/\Tx ps' n (lfMs y n) y (lfMs y n) (lfMs y n)/\y.length=many/\9<=last+many/\many<=8/\1<=many:=by
 obtain ⟨v,h2,hv,e1,W⟩:=za0 S g e hr last h1 (Nat.le_trans h8 (by decide))
 obtain ⟨many,b3,m9,m8,m1⟩:=tl1 h8 hv
 have b2:=tl2 last
 have mx:=tl3 h8 h
 obtain ⟨y,h3,py,ly,jw,W2⟩:=zho W.sh W.gd W.row hr x hx many m8 (some (.ref p)) (some (.int 0)) (some (.int last)) (some (.int (9-(last:Int)))) none none none none none none
 have sy:ybC y=true:=by
  simp only [ybC,py,ly,Bool.true_and,Bool.and_eq_true,decide_eq_true_eq];exact ⟨m1,m8⟩
 obtain ⟨n,ps',h4,e4,D,tx⟩:=zhn W2.sh W2.gd sy (Nat.lt_trans hz (by decide))
 refine ⟨n,y,many,ps',h4,?_,(W.trans W2 (Nat.le_refl _)).deed D hr (Nat.le_refl _),tx,ly,m9,m8,m1⟩
 unfold ydj
 generalize hJ:sBM ycS yde (sLit (.str "")) (yab (ya3 [2,1] (yaI (sVar 6)) sYes (sOp2 fIx (sVar 1) (yah yam (yab (sVar 2) (yab (yah fLen (yab (sVar 1) sNil)) sNil))))) sNil)=J at jw ⊢
 have ob:=W2.sh.ob
 simp [mx,b2,b3,e1,jw,ob,e4,-ydJ]
theorem zhq {p r:Nat} {h:AH} {ps:List Pc} (G:Fn) (S:ShelfAt h p ps) (g:Good ps) (e:∃ N:Int,h[r]? = some (.lst [.int N])) (hr:r<p\/p+8<r) (x:Str) (H last:Nat) (hH:H<=10) (h1:1<=last) (h8:last<=8) (hz:ps.length+2 ^ (H+2)<15000000)
  (ih:∀ (H' last:Nat) (h:AH) (ps:List Pc),H'<=H->ShelfAt h p ps->Good ps->(∃ N:Int,h[r]? = some (.lst [.int N]))->1<=last->last<=8->ps.length+2 ^ (H'+1)<15000000 ->
   ∃ (n:Nat) (y:Str) (many:Nat) (ps':List Pc) (h':AH) (m f l:Ms),G [.ref p,.ref r,.str x,.int H',.int last] h = .ok (.tup [.int n,.str y,.int many]) h'/\Wk p r h h' ps ps' (2 ^ (H'+1)-1)/\Tx ps' n m y f l/\m.ht=H'/\l.sg=many/\9<=last+f.sg/\y.length<=8*2 ^ H'/\1<=many/\many<=8) :
  ∃ (n:Nat) (y:Str) (many:Nat) (ps':List Pc) (h':AH) (m f l:Ms),ydj G [.ref p,.ref r,.str x,.int ((H+1:Nat):Int),.int last] h = .ok (.tup [.int n,.str y,.int many]) h'/\Wk p r h h' ps ps' (2 ^ (H+2)-1)/\Tx ps' n m y f l/\m.ht=((H+1:Nat):Int)/\l.sg=many/\9<=last+f.sg/\y.length<=8*2 ^ (H+1)/\1<=many/\many<=8:=by
 obtain ⟨v,h2,hv,e1,W1⟩:=za0 S g e hr 3 (by decide) (by decide)
 obtain ⟨t,h3,ht,e2,W2⟩:=za0 W1.sh W1.gd W1.row hr 2 (by decide) (by decide)
 obtain ⟨lo,hlo,e3⟩:∃ lo:Nat,(lo<=1/\(lo=1->1<=H))/\(sOp2 fMul (sOp2 fIx (sLst (yab (sLit (.int 0)) (yab (sLit (.int 0)) (yab (sLit (.int 1)) sNil)))) (yah yam (yab (sVar 1) (yab (sLit (.int 3)) sNil)))) (yah fInt (yab (sOp2 fGt (sVar 3) (sLit (.int 1))) sNil))) [some (.ref p),some (.ref r),some (.str x),some (.int ((H+1:Nat):Int)),some (.int last),none,none,none,none,none,none,none] h = .ok (.int lo) h2:=by
  have e1':yam [.ref r,.int 3] h = .ok (.int v) h2:=e1
  have:v=0\/v=1\/v=2:=by lia
  by_cases q:1<=H
  ·have q':(1:Int)<(H:Int)+1:=by lia
   rcases this with rfl | rfl | rfl
   ·exact ⟨0,by lia,by simp [e1',q'];rfl⟩
   ·exact ⟨0,by lia,by simp [e1',q'];rfl⟩
   ·exact ⟨1,by lia,by simp [e1',q'];rfl⟩
  ·have q' : ¬ (1:Int)<(H:Int)+1:=by lia
   rcases this with rfl | rfl | rfl
   ·exact ⟨0,by lia,by simp [e1',q'];rfl⟩
   ·exact ⟨0,by lia,by simp [e1',q'];rfl⟩
   ·exact ⟨0,by lia,by simp [e1',q'];rfl⟩
 obtain ⟨ha,hb,k1,k2,k3,k4,k5,k6,k7⟩:=ta9 H lo t hlo.1 hlo.2 ht
 have pa:2 ^ (ha+1)<=2 ^ (H+1):=tpm (Nat.succ_le_succ k3)
 have pb:2 ^ (hb+1)<=2 ^ (H+1):=tpm (Nat.succ_le_succ k4)
 have hz':ps.length+2*2 ^ (H+1)<15000000:=tp2 H▸hz
 obtain ⟨n1,y1,many1,ps1,h4,m1,f1,l1,g1,V1,x1,t1,c1,d1,s1,a1,b1⟩:=ih ha last h3 ps k3 W2.sh W2.gd W2.row h1 h8 (ta1 hz' pa)
 obtain ⟨n2,y2,many2,ps2,h5,m2,f2,l2,g2,V2,x2,t2,c2,d2,s2,a2,b2⟩:=ih hb many1 h4 ps1 k4 V1.sh V1.gd V1.row a1 b1 (ta2 hz' pa pb V1.len)
 have sy:y1.length+y2.length<=16*2 ^ H:=ta5 s1 s2 (tpm k3) (tpm k4)
 have pH:16*2 ^ H<=16*2 ^ 10:=Nat.mul_le_mul_left 16 (tpm hH)
 obtain ⟨n,ps',h6,e6,D,tx⟩:=zel V2.sh V2.gd (x1.pre V2.pre) x2 (ta3 d2 c1) (ta4 t1 t2 k6 k7) (by rw [x1.ky.sg,x2.ky.sg];exact Nat.le_trans (Nat.le_trans sy pH) (by decide)) (ta6 V1.len V2.len pa pb hz')
 refine ⟨n,y1++y2,many2,ps',h6,_,_,_,?_,(((W1.trans W2 (Nat.le_refl _)).trans V1 (Nat.le_refl _)).trans V2 (Nat.le_refl _)).deed D hr (by rw [tp2 H];simpa using ta7 pa pb Nat.one_le_two_pow Nat.one_le_two_pow),tx,ta8 t1 t2 k3 k4 k5,c2,d1,?_,a2,b2⟩
 ·unfold ydj
  generalize hJ:(sOp2 fMul (sOp2 fIx (sLst (yab (sLit (.int 0)) (yab (sLit (.int 0)) (yab (sLit (.int 1)) sNil)))) (yah yam (yab (sVar 1) (yab (sLit (.int 3)) sNil)))) (yah fInt (yab (sOp2 fGt (sVar 3) (sLit (.int 1))) sNil)))=J at e3 ⊢
  have e2':yam [.ref r,.int 2] h2 = .ok (.int t) h3:=e2
  have z0 : ¬ ((H:Int)+1=0):=by lia
  have mu1:fMul (.int lo) (.int t) h3 = .ok (.int ((lo:Int)*t)) h3:=yed (by lia)
  have mu2:fMul (.int lo) (.int (1-(t:Int))) h4 = .ok (.int ((lo:Int)*(1-(t:Int)))) h4:=yed (by lia)
  have c0:((H+1:Nat):Int)=(H:Int)+1:=by lia
  have i2:fIx (.tup [.int n1,.str y1,.int many1]) (.int 2)=fun h=>.ok (.int many1) h:=by funext h;rfl
  have i0:fIx (.tup [.int n1,.str y1,.int many1]) (.int 0)=fun h=>.ok (.int n1) h:=by funext h;rfl
  have i1:fIx (.tup [.int n1,.str y1,.int many1]) (.int 1)=fun h=>.ok (.str y1) h:=by funext h;rfl
  have j2:fIx (.tup [.int n2,.str y2,.int many2]) (.int 2)=fun h=>.ok (.int many2) h:=by funext h;rfl
  have j0:fIx (.tup [.int n2,.str y2,.int many2]) (.int 0)=fun h=>.ok (.int n2) h:=by funext h;rfl
  have j1:fIx (.tup [.int n2,.str y2,.int many2]) (.int 1)=fun h=>.ok (.str y2) h:=by funext h;rfl
  have sl:y1.length+y2.length<=sizeLine:=Nat.le_trans (Nat.le_trans sy pH) (by decide)
  have ob:=V2.sh.ob
  rw [c0] at e3 k1 k2 ⊢
  simp at k1 k2
  simp [e3,z0,e2',mu1,mu2,k1,k2,g1,g2,i0,i1,i2,j0,j1,j2,sl,e6,ob,-fMul,-fIx]
 ·rw [zaB,Nat.pow_succ];exact Nat.le_trans sy (by rw [Nat.mul_comm (2 ^ H) 2,<- Nat.mul_assoc];exact Nat.le_refl _)
theorem yfG {p r:Nat} (hr:r<p\/p+8<r) (x:Str) (hx:yaO x=true/\1<=x.length/\x.length<=60):∀ (d H last:Nat) (h:AH) (ps:List Pc),H<d->H<=10->ShelfAt h p ps->Good ps->(∃ N:Int,h[r]? = some (.lst [.int N]))->1<=last->last<=8->ps.length+2 ^ (H+1)<15000000 ->
   ∃ (n:Nat) (y:Str) (many:Nat) (ps':List Pc) (h':AH) (m f l:Ms),ycr d [.ref p,.ref r,.str x,.int H,.int last] h = .ok (.tup [.int n,.str y,.int many]) h'/\Wk p r h h' ps ps' (2 ^ (H+1)-1)/\Tx ps' n m y f l/\m.ht=H/\l.sg=many/\9<=last+f.sg/\y.length<=8*2 ^ H/\1<=many/\many<=8
 | 0,H,_,_,_,hd,_,_,_,_,_,_,_=>absurd hd (Nat.not_lt_zero _)
 | d+1,0,last,h,ps,_,_,S,g,e,h1,h8,hz=>by
  obtain ⟨n,y,many,ps',h',q1,q2,q3,q4,q5,q6,q7⟩:=zhp (ycr d) S g e hr x hx last h1 h8 (by lia)
  exact ⟨n,y,many,ps',h',_,_,_,q1,q2,q3,rfl,q4,by show 9<=last+y.length;lia,by lia,q7,q6⟩
 | d+1,H+1,last,h,ps,hd,hH,S,g,e,h1,h8,hz=>by
  exact zhq (ycr d) S g e hr x H last (by lia) h1 h8 (by simpa using hz) fun H' last' h' ps' l S' g' e' a b z=>yfG hr x hx d H' last' h' ps' (by lia) (by lia) S' g' e' a b z
theorem zbF {h:AH} {p:Nat} {ps:List Pc} {i:Nat} (S:ShelfAt h p ps) (hi:i<=ps.length):yaW [.ref p,.int i] h = .ok .non h:=by
 by_cases z:i=0
 ·subst z;simp [yaW]
 ·have c:=zb8 S (i:=(i:Int)) ⟨by lia,by lia⟩
  simp [yaW,z,S.ob,c]
theorem zap {h:AH} {p:Nat} {ps:List Pc} {i:Nat} {m:Ms} (S:ShelfAt h p ps) (e:(meas ps)[i]? = some m):yaz [.ref p,.int i] h = .ok (.int m.sg) h:=by
 have hi:=(List.getElem?_eq_some_iff.mp e).1
 rw [zao] at hi
 simp [yaz,zbF S (show i<=ps.length by lia),S.ob,S.h3,zak e]
theorem zcN {h:AH} {p:Nat} {ps:List Pc} {i:Nat} {m:Ms} (S:ShelfAt h p ps) (e:(meas ps)[i]? = some m):ybX [.ref p,.int i] h = .ok (.int m.en) h:=by
 have hi:=(List.getElem?_eq_some_iff.mp e).1
 rw [zao] at hi
 simp [ybX,zbF S (show i<=ps.length by lia),S.ob,S.h4,zak e]
theorem zae {h:AH} {p:Nat} {ps:List Pc} {i:Nat} {m:Ms} (S:ShelfAt h p ps) (e:(meas ps)[i]? = some m):yav [.ref p,.int i] h = .ok (.int m.ht) h:=by
 have hi:=(List.getElem?_eq_some_iff.mp e).1
 rw [zao] at hi
 simp [yav,zbF S (show i<=ps.length by lia),S.ob,S.h6,zak e]
theorem zf4 {h:AH} {p:Nat} {ps:List Pc} {i:Nat} {m:Ms} (S:ShelfAt h p ps) (e:(meas ps)[i]? = some m):ybB [.ref p,.int i] h = .ok (.int m.fl) h:=by
 have hi:=(List.getElem?_eq_some_iff.mp e).1
 rw [zao] at hi
 simp [ybB,zbF S (show i<=ps.length by lia),S.ob,S.h7,zak e]
theorem yfH {h:AH} {p:Nat} {ps:List Pc} {i:Nat} {m:Ms} (S:ShelfAt h p ps) (e:(meas ps)[i]? = some m):ybN [.ref p,.int i] h = .ok (.int m.ll) h:=by
 have hi:=(List.getElem?_eq_some_iff.mp e).1
 rw [zao] at hi
 simp [ybN,zbF S (show i<=ps.length by lia),S.ob,S.h8,zak e]
def lp:Nat->Nat×Nat
 | 0=>(1,2)
 | n+1=>((lp n).2,(lp n).1+(lp n).2)
def ll (n:Nat):Nat:=(lp n).1
def ls (n:Nat):Nat:=9*(ll n / 2)+ll n % 2
theorem ll_2 (n:Nat):ll (n+2)=ll n+ll (n+1):=rfl
theorem zeX:∀ n,ll n<=ll (n+1)
 | 0=>by decide
 | n+1=>by rw [show n+1+1=n+2 from rfl,ll_2];lia
theorem zji {a b:Nat} (h:a<=b):ll a<=ll b:=by
 induction h with
 | refl=>exact Nat.le_refl _
 | step h ih=>exact Nat.le_trans ih (zeX _)
theorem zf5 {a b:Nat} (h:a<=b):ls a<=ls b:=by
 have:=zji h
 unfold ls;lia
theorem yg3 {i j a b:Nat} (h1:i<=j+1) (h2:j<=i+1) (u1:ll i<=a) (u2:ll j<=b):ll (max i j+1)<=a+b:=by
 rcases Nat.lt_trichotomy i j with c | c | c
 ·have e':j=i+1:=Nat.le_antisymm h2 c
  subst e'
  rw [Nat.max_eq_right (Nat.le_succ i),ll_2];exact Nat.add_le_add u1 u2
 ·subst c
  rw [Nat.max_self]
  refine Nat.le_trans ?_ (Nat.add_le_add u1 u2)
  cases i with
  | zero=>exact Nat.le_refl 2
  | succ k=>rw [show k+1+1=k+2 from rfl,ll_2];exact Nat.add_le_add_right (zeX k) _
 ·have e':i=j+1:=Nat.le_antisymm h1 c
  subst e'
  rw [Nat.max_eq_left (Nat.le_succ j),ll_2,Nat.add_comm];exact Nat.add_le_add u1 u2
theorem yg4 {x y:Int} {a b:Nat} (hx:0<=x) (hy:0<=y) (q:(x-y).natAbs<=1) (u1:ll x.toNat<=a) (u2:ll y.toNat<=b):ll (max x y+1).toNat<=a+b:=by
 obtain ⟨i,rfl⟩:=Int.eq_ofNat_of_zero_le hx
 obtain ⟨j,rfl⟩:=Int.eq_ofNat_of_zero_le hy
 have e:(max (i:Int) j+1).toNat=max i j+1:=by clear u1 u2 q;lia
 rw [e]
 exact yg3 (by clear u1 u2 e;lia) (by clear u1 u2 e;lia) u1 u2
theorem Good.lv {ps:List Pc} (g:Good ps):∀ n m x f l,Tx ps n m x f l->ll m.ht.toNat<=m.lv:=by
 intro n
 induction n using Nat.strongRecOn with
 | ind n ih =>
  intro m x f l T
  have hn:=T.n1
  have hle:=T.le
  obtain ⟨i,rfl⟩:∃ i,n=i+1:=⟨n-1,by lia⟩
  obtain ⟨q,eq⟩:∃ q,ps[i]? = some q:=⟨ps[i],by simp⟩
  cases q with
  | leaf y =>
   have z:=(zbi g eq).ms.symm.trans T.ms;cases z
   exact Nat.le_refl 1
  | fork a b =>
   have ok':ForkOk (ps.take i) a b:=g.get eq
   have li:(ps.take i).length=i:=by simp;lia
   obtain ⟨ma,mb,la,fb,q1,q2,q3,q4,q5,q6,q7⟩:=ok'.ex
   have ba:=(List.getElem?_eq_some_iff.mp q1).1
   have bb:=(List.getElem?_eq_some_iff.mp q2).1
   rw [zao,li] at ba bb
   obtain ⟨ma',x1,fa,la',A⟩:=g.tx a ok'.pa (by lia)
   obtain ⟨mb',y1,fb',lb,B⟩:=g.tx b ok'.pb (by lia)
   have tp:=zb9 ps i
   have z1:=A.ms.symm.trans (zac tp q1);cases z1
   have z2:=B.ms.symm.trans (zac tp q2);cases z2
   have u1:=ih a (by lia) _ _ _ _ A
   have u2:=ih b (by lia) _ _ _ _ B
   have z:=(zbj g eq A B).ms.symm.trans T.ms;cases z
   exact yg4 A.ky.ht B.ky.ht q6 u1 u2
theorem Tx.ls {ps:List Pc} (g:Good ps) {n:Nat} {m:Ms} {x:Str} {f l:Ms} (T:Tx ps n m x f l):Sk.ls m.ht.toNat<=m.sg:=by
 have u:=g.lv _ _ _ _ _ T
 have f1:=T.ky.f1
 unfold Sk.ls
 obtain ⟨k,⟨e,a,_⟩ | ⟨e,a,_⟩⟩:=T.ky.cnt
 ·rw [e] at u;generalize ll m.ht.toNat=q at *;clear e;lia
 ·rw [e] at u;generalize ll m.ht.toNat=q at *;clear e;lia
theorem yhV:1000000000000000000<ls 101:=by decide +kernel
theorem zdi {ps:List Pc} (g:Good ps) {n:Nat} {m:Ms} {x:Str} {f l:Ms} (T:Tx ps n m x f l):m.ht.toNat<=200:=by
 refine Nat.le_of_not_lt fun z=>?_
 have a:=T.ls g
 have b:=zf5 (show 101<=m.ht.toNat by lia)
 have c:=yhV
 have d:=T.ky.most
 lia
end Sk
namespace Sk
open PySem PySem.Spec L2 Sm
theorem za1 (ps:List Pc):(meas ps)[0]? = some ms0:=by
 obtain ⟨r,e,_⟩:=zbE ydm ps [ms0]
 rw [meas,e];rfl
def TxZ (ps:List Pc) (n:Nat) (y:Str):Prop:=(n=0/\y = "")\/∃ m f l,Tx ps n m y f l
theorem TxZ.pre {ps ps':List Pc} {n:Nat} {y:Str} (t:TxZ ps n y) (h:ps <+: ps'):TxZ ps' n y:=by
 rcases t with t | ⟨m,f,l,t⟩
 ·exact .inl t
 ·exact .inr ⟨m,f,l,t.pre h⟩
def Per (x y:Str) (k:Nat):Prop:=x.length=y.length*k/\∀ i,i<x.length->x.cps.toList[i]? = y.cps.toList[i % y.length]?
theorem Per.one (y:Str):Per y y 1:=⟨by lia,fun i hi=>by rw [Nat.mod_eq_of_lt hi]⟩
theorem lg1 {l f:Nat} (q:9<=1+f) (h:1<=l):8<l+f:=by lia
def sgOf (ps:List Pc) (n:Nat):Nat:=((meas ps).getD n ms0).sg
def path (ps:List Pc):Nat->Nat->Nat->List (Nat×Nat)
 | 0,n,q=>[(n,q)]
 | k+1,n,q=>match ps[n-1]? with
  | some (.fork a b)=>(n,q)::(if q<sgOf ps a then path ps k a q else path ps k b (q-sgOf ps a))
  | _=>[(n,q)]
theorem yfa {ps:List Pc} {n:Nat} {m:Ms} (e:(meas ps)[n]? = some m):sgOf ps n=m.sg:=by unfold sgOf;rw [zaV e]
theorem Good.kind {ps:List Pc} (g:Good ps) {n:Nat} {m:Ms} {x:Str} {f l:Ms} (T:Tx ps n m x f l) :
  (ps[n-1]? = some (.leaf x)/\m.ht=0/\m=lfMs x n/\1<=x.length/\x.length<=8)\/∃ a b ma mb y z fa la fb lb,ps[n-1]? = some (.fork a b)/\a<n/\b<n/\Tx ps a ma y fa la/\Tx ps b mb z fb lb/\x=y++z/\m=ydn ma mb/\(ma.ht-mb.ht).natAbs<=1:=by
 have hn:=T.n1
 have hle:=T.le
 obtain ⟨i,rfl⟩:∃ i,n=i+1:=⟨n-1,by lia⟩
 obtain ⟨q,eq⟩:∃ q,ps[i]? = some q:=⟨ps[i],by simp⟩
 cases q with
 | leaf y =>
  have L:=zbi g eq
  have z:=L.ms.symm.trans T.ms;cases z
  have z2:=L.rd.symm.trans T.rd;cases z2
  have ok:ybC x=true:=g.get eq
  obtain ⟨s1,s2,s3⟩:=zbS ok
  exact .inl ⟨eq,rfl,rfl,s1,s2⟩
 | fork a b =>
  have ok':ForkOk (ps.take i) a b:=g.get eq
  have li:(ps.take i).length=i:=by simp;lia
  obtain ⟨ma,mb,la,fb,q1,q2,q3,q4,q5,q6,q7⟩:=ok'.ex
  have ba:=(List.getElem?_eq_some_iff.mp q1).1
  have bb:=(List.getElem?_eq_some_iff.mp q2).1
  rw [zao,li] at ba bb
  obtain ⟨ma',y,fa,la',A⟩:=g.tx a ok'.pa (by lia)
  obtain ⟨mb',z,fb',lb,B⟩:=g.tx b ok'.pb (by lia)
  have tp:=zb9 ps i
  have z1:=A.ms.symm.trans (zac tp q1);cases z1
  have z2:=B.ms.symm.trans (zac tp q2);cases z2
  have F:=zbj g eq A B
  have z3:=F.ms.symm.trans T.ms;cases z3
  have z4:=F.rd.symm.trans T.rd;cases z4
  exact .inr ⟨a,b,ma,mb,y,z,fa,la',fb',lb,eq,by lia,by lia,A,B,rfl,rfl,q6⟩
theorem zaW {h:AH} {p:Nat} {ps:List Pc} {n:Nat} {q:Pc} (S:ShelfAt h p ps) (n1:1<=n) (e:ps[n-1]? = some q):yaA [.ref p,.int n] h = .ok q.av h:=by
 have:=zjc S e
 rw [show ((n-1:Nat):Int)+1=(n:Int) by lia] at this
 exact this
theorem yg5 {h:AH} {p:Nat} {ps:List Pc} {n q a b:Nat} {ma mb:Ms} (S:ShelfAt h p ps) (n1:1<=n) (e:ps[n-1]? = some (.fork a b)) (ea:(meas ps)[a]? = some ma) :
  yc4 [.ref p,.int n,.int q] h = .ok (if q<ma.sg then .tup [.int a,.int q] else .tup [.int b,.int ((q:Int)-ma.sg)]) h:=by
 have e1:=zaW S n1 e
 have e2:=zap S ea
 have i1:fIx (Pc.fork a b).av (.int 1)=fun h=>Out.ok (.int a) h:=by funext h;rfl
 have i2:fIx (Pc.fork a b).av (.int 2)=fun h=>Out.ok (.int b) h:=by funext h;rfl
 by_cases c:q<ma.sg
 ·have c':(q:Int)<ma.sg:=by lia
  simp [yc4,S.ob,e1,i1,i2,e2,c,c',-fIx]
 ·have c' : ¬ (q:Int)<ma.sg:=by lia
  simp [yc4,S.ob,e1,i1,i2,e2,c,c',-fIx]
abbrev yaq (s:Nat×Nat):AV:=.tup [.int s.1,.int s.2]
theorem zhr {h:AH} {p:Nat} {ps:List Pc} {n q a b:Nat} {ma:Ms} (S:ShelfAt h p ps) (n1:1<=n) (e:ps[n-1]? = some (.fork a b)) (ea:(meas ps)[a]? = some ma) {L:Nat} {ss:List AV} (eL:h[L]? = some (.lst ss)) (hl:ss.length<1000) (o1 o2:Option AV) :
  ybY [some (.ref p),o1,o2,some (yaq (n,q)),some (.ref L)] h = .nx [some (.ref p),o1,o2,some (if q<ma.sg then yaq (a,q) else yaq (b,q-ma.sg)),some (.ref L)] (h.set L (.lst (ss++[if q<ma.sg then yaq (a,q) else yaq (b,q-ma.sg)]))):=by
 have fp:=yg5 (q:=q) (mb:=ma) S n1 e ea
 have i0:fIx (yaq (n,q)) (.int 0)=fun h=>Out.ok (.int n) h:=by funext h;rfl
 have i1:fIx (yaq (n,q)) (.int 1)=fun h=>Out.ok (.int q) h:=by funext h;rfl
 have sl:ss.length<sizeLine:=Nat.lt_of_lt_of_le hl (by decide)
 have ev:(if q<ma.sg then AV.tup [.int a,.int q] else AV.tup [.int b,.int ((q:Int)-ma.sg)])=(if q<ma.sg then yaq (a,q) else yaq (b,q-ma.sg)):=by
  by_cases c:q<ma.sg
  ·rw [if_pos c,if_pos c]
  ·rw [if_neg c,if_neg c]
   show _=AV.tup [.int b,.int ((q-ma.sg:Nat):Int)]
   rw [show ((q-ma.sg:Nat):Int)=(q:Int)-ma.sg by lia]
 rw [ev] at fp
 generalize (if q<ma.sg then yaq (a,q) else yaq (b,q-ma.sg))=V at fp ⊢
 generalize yaq (n,q)=W at i0 i1 ⊢
 simp [ybY,i0,i1,fp,eL,sl,-fIx]
theorem zdj (ps:List Pc):∀ k n q,(path ps k n q).length<=k+1
 | 0,n,q=>by simp [path]
 | k+1,n,q=>by
  unfold path
  split
  ·rename_i a b _
   rw [List.length_cons]
   split
   ·have:=zdj ps k a q;lia
   ·have:=zdj ps k b (q-sgOf ps a);lia
  ·simp
theorem zbT {ps:List Pc} {k n q a b:Nat} (e:ps[n-1]? = some (.fork a b)):path ps (k+1) n q=(n,q)::(if q<sgOf ps a then path ps k a q else path ps k b (q-sgOf ps a)):=by
 show (match ps[n-1]? with | some (.fork a b)=>_ | _=>_)=_
 rw [e]
theorem zbU {ps:List Pc} {n q:Nat} {x:Str} (e:ps[n-1]? = some (.leaf x)):∀ k,path ps k n q=[(n,q)]
 | 0=>rfl
 | k+1=>by
  show (match ps[n-1]? with | some (.fork a b)=>_ | _=>_)=_
  rw [e]
theorem hs1 {m a b:Int} (e:m=max a b+1) (ha:0<=a) (hb:0<=b):∃ j:Nat,m.toNat=j+1/\a.toNat<=j/\b.toNat<=j/\0<m:=by
 obtain ⟨x,rfl⟩:=Int.eq_ofNat_of_zero_le ha
 obtain ⟨y,rfl⟩:=Int.eq_ofNat_of_zero_le hb
 subst e
 exact ⟨max x y,by lia,Nat.le_max_left _ _,Nat.le_max_right _ _,by lia⟩
theorem hs2 {q s t:Nat} (c : ¬ q<s) (h:q<s+t):q-s<t:=by lia
theorem hs3 {s j a M:Nat} (h:s+(j+1)<=M) (ja:a<=j):s+1+a<=M:=by lia
theorem hs4 {s i M:Nat} (h:s+i<=M) (hM:M<=200):s+1<1000:=by lia
theorem zem {ps:List Pc} (g:Good ps):∀ (k n q:Nat) (m:Ms) (x:Str) (f l:Ms),Tx ps n m x f l->m.ht.toNat<=k->path ps k n q=path ps m.ht.toNat n q:=by
 intro k
 induction k using Nat.strongRecOn with
 | ind k ih =>
  intro n q m x f l T hk
  rcases g.kind T with ⟨e1,e2,e3,_⟩ | ⟨a,b,ma,mb,y,z,fa,la,fb,lb,e1,e2,e3,A,B,e4,e5,e6⟩
  ·rw [zbU e1,zbU e1]
  ·obtain ⟨j,ej,ja,jb,_⟩:=hs1 (show m.ht=max ma.ht mb.ht+1 by rw [e5];rfl) A.ky.ht B.ky.ht
   rw [ej] at hk ⊢
   cases k with
   | zero=>exact absurd hk (Nat.not_succ_le_zero _)
   | succ i =>
    have ji:=Nat.le_of_succ_le_succ hk
    have li:=Nat.lt_succ_self i
    have lj:=Nat.lt_succ_of_le ji
    rw [zbT e1,zbT e1,ih i li a q _ _ _ _ A (Nat.le_trans ja ji),ih j lj a q _ _ _ _ A ja,ih i li b _ _ _ _ _ B (Nat.le_trans jb ji),ih j lj b _ _ _ _ _ B jb]
theorem zjj {h:AH} {p:Nat} {ps:List Pc} (S:ShelfAt h p ps) (g:Good ps) {n q:Nat} {m:Ms} {x:Str} {f l:Ms} (T:Tx ps n m x f l) (hh:m.ht.toNat<=200) :
  ydN [.ref p,.int n,.int q] h = .ok (.ref h.length) (h++[.lst ((path ps m.ht.toNat n q).map yaq)]):=by
 have b8:=yc6 S.h8
 obtain ⟨e',h',r1,r2,s,r3⟩:=zdV (c:=yas (sOp2 fGt (yal 0 yav (sVar 0) (yab (sOp2 fIx (sVar 3) (sLit (.int 0))) sNil)) (sLit (.int 0)))) (b:=ybY) (fuel:=ycG) (n:=m.ht.toNat) (en:=[some (.ref p),some (.int n),some (.int q),some (yaq (n,q)),some (.ref h.length)]) (h:=h++[.lst [yaq (n,q)]])
  (fun i en h' => ∃ (ss:List (Nat×Nat)) (n' q':Nat) (m':Ms) (x':Str) (f' l':Ms),Tx ps n' m' x' f' l'/\m'.ht.toNat=i/\ss++path ps m'.ht.toNat n' q'=path ps m.ht.toNat n q/\ss.length+i<=m.ht.toNat/\h'=h++[.lst ((ss++[(n',q')]).map yaq)]/\en=[some (.ref p),some (.int n),some (.int q),some (yaq (n',q')),some (.ref h.length)])
  (fun en h' => h'=h++[.lst ((path ps m.ht.toNat n q).map yaq)]/\∃ s,en=[some (.ref p),some (.int n),some (.int q),s,some (.ref h.length)])
  ⟨[],n,q,m,x,f,l,T,rfl,rfl,by simp,rfl,rfl⟩ (Nat.lt_of_le_of_lt hh (by decide)) (by
   rintro i en h' ⟨ss,n',q',m',x',f',l',T',hi,hp,hs,rfl,rfl⟩
   obtain ⟨hc,ec⟩:∃ hc,hc=h++[AO.lst ((ss++[(n',q')]).map yaq)]:=⟨_,rfl⟩
   have S':ShelfAt hc p ps:=ec▸S.app _
   have fh:=zae S' T'.ms
   have i0:∀ h,fIx (yaq (n',q')) (.int 0) h=Out.ok (.int n') h:=fun h=>rfl
   rw [<- ec]
   rcases g.kind T' with ⟨e1,e2,e3,_⟩ | ⟨a,b,ma,mb,y,z,fa,la,fb,lb,e1,e2,e3,A,B,e4,e5,e6⟩
   ·rw [e2] at fh
    have c:(yas (sOp2 fGt (yal 0 yav (sVar 0) (yab (sOp2 fIx (sVar 3) (sLit (.int 0))) sNil)) (sLit (.int 0)))) [some (.ref p),some (.int n),some (.int q),some (yaq (n',q')),some (.ref h.length)] hc = .ok false hc:=by
     generalize yaq (n',q')=W at i0 ⊢
     simp [S'.ob,i0,fh,-fIx]
    rw [c]
    exact ⟨by rw [ec,<- hp,zbU e1],_,rfl⟩
   ·obtain ⟨j,ej,ja,jb,z0⟩:=hs1 (show m'.ht=max ma.ht mb.ht+1 by rw [e5];rfl) A.ky.ht B.ky.ht
    have hj:=hi.symm.trans ej
    have c:(yas (sOp2 fGt (yal 0 yav (sVar 0) (yab (sOp2 fIx (sVar 3) (sLit (.int 0))) sNil)) (sLit (.int 0)))) [some (.ref p),some (.int n),some (.int q),some (yaq (n',q')),some (.ref h.length)] hc = .ok true hc:=by
     generalize yaq (n',q')=W at i0 ⊢
     simp [S'.ob,i0,fh,z0,-fIx]
    rw [c]
    have tn:=zhr (q:=q') S' T'.n1 e1 A.ms (L:=h.length) (ss:=(ss++[(n',q')]).map yaq) (by rw [ec];simp) (by simpa using hs4 hs hh) (some (.int n)) (some (.int q))
    show thn (ybY [some (.ref p),some (.int n),some (.int q),some (yaq (n',q')),some (.ref h.length)] hc) _
    rw [tn,ec]
    have sa:=yfa A.ms
    rw [ej,zbT e1,sa] at hp
    rw [hj] at hs
    have st:∀ V:Nat×Nat,(h++[AO.lst ((ss++[(n',q')]).map yaq)]).set h.length (.lst ((ss++[(n',q')]).map yaq++[yaq V]))=h++[.lst ((ss++[(n',q')]++[V]).map yaq)]:=fun V=>by simp
    by_cases cq:q'<ma.sg
    ·rw [if_pos cq] at hp ⊢
     rw [st]
     refine ⟨ma.ht.toNat,hj▸Nat.lt_succ_of_le ja,ss++[(n',q')],a,q',ma,y,fa,la,A,rfl,?_,by rw [List.length_append];exact hs3 hs ja,rfl,rfl⟩
     rw [<- hp,zem g j a q' _ _ _ _ A ja];simp
    ·rw [if_neg cq] at hp ⊢
     rw [st]
     refine ⟨mb.ht.toNat,hj▸Nat.lt_succ_of_le jb,ss++[(n',q')],b,q'-ma.sg,mb,z,fb,lb,B,rfl,?_,by rw [List.length_append];exact hs3 hs jb,rfl,rfl⟩
     rw [<- hp,zem g j b (q'-ma.sg) _ _ _ _ B jb];simp)
 subst r2;subst r3
 have r1':ybu (yas (sOp2 fGt (yal 0 yav (sVar 0) (yab (sOp2 fIx (sVar 3) (sLit (.int 0))) sNil)) (sLit (.int 0)))) ybY ycG [some (.ref p),some (.int n),some (.int q),some (.tup [.int n,.int q]),some (.ref h.length)] (h++[.lst [.tup [.int n,.int q]]])=_:=r1
 unfold ydN
 generalize hW:ybu (yas (sOp2 fGt (yal 0 yav (sVar 0) (yab (sOp2 fIx (sVar 3) (sLit (.int 0))) sNil)) (sLit (.int 0)))) ybY ycG=W at r1' ⊢
 simp [r1']
abbrev s1 (c:Nat):AV:=.str ⟨#[c]⟩
theorem neIx (x:Int) (h:AH):fNe (.int x) (.int x) h = .ok (.bl false) h:=by simp
theorem neSx (x:Str) (h:AH):fNe (.str x) (.str x) h = .ok (.bl false) h:=by simp
theorem TxZ.ne0 {ps:List Pc} {n:Nat} {y:Str} (t:TxZ ps n y) (h:0<y.length):∃ m f l,Tx ps n m y f l:=by
 rcases t with ⟨_,rfl⟩ | t
 ·exact absurd h (by decide)
 ·exact t
theorem TxZ.sg {ps:List Pc} {n:Nat} {y:Str} (t:TxZ ps n y):∃ m,(meas ps)[n]? = some m/\m.sg=y.length:=by
 rcases t with ⟨rfl,rfl⟩ | ⟨m,f,l,t⟩
 ·exact ⟨ms0,za1 ps,rfl⟩
 ·exact ⟨m,t.ms,t.ky.sg⟩
end Sk
namespace Sk
open PySem PySem.Spec L2 Sm
theorem zeY (x:Str) (c:Nat):∀ (n i:Nat) (st:Array Nat×Nat),st.1.size=1->(forIn (List.range' i n) st (StrLaws.occBody x ⟨#[c]⟩ x.length 1)).run.fst=st.1
 | 0,i,st,_=>by simp
 | n+1,i,st,hs=>by
  rw [List.range'_succ,List.forIn_cons]
  unfold StrLaws.occBody
  rw [if_neg (by rintro ⟨⟨⟨z,_⟩,_⟩,_⟩;lia)]
  exact zeY x c n (i+1) (st.1,st.2) hs
theorem zen (x:Str) (c p:Nat) (hp:x.cps.toList[p]? = some c):∀ (n i:Nat) (st:Array Nat×Nat),i+n=x.length+1->st.1 = #[]->st.2<=i->i<=p->(∀ j,i<=j->j<p->x.cps.toList[j]? ≠ some c)->(forIn (List.range' i n) st (StrLaws.occBody x ⟨#[c]⟩ x.length 1)).run.fst = #[p]
 | 0,i,st,hn,_,_,ip,_=>by
  have:=(List.getElem?_eq_some_iff.mp hp).1
  rw [<- zad] at this;lia
 | n+1,i,st,hn,h1,h2,ip,hj=>by
  have pl:p<x.length:=by
   have:=(List.getElem?_eq_some_iff.mp hp).1
   rw [<- zad] at this;exact this
  have hi:i<x.length:=Nat.lt_of_le_of_lt ip pl
  rw [List.range'_succ,List.forIn_cons]
  unfold StrLaws.occBody
  by_cases q:i=p
  ·subst q
   have hs:Builtin.Str.subAt x ⟨#[c]⟩ i=true:=by rw [zcM x c i hi,hp];simp
   rw [if_pos ⟨⟨⟨by rw [h1];decide,h2⟩,hi⟩,hs⟩]
   show (forIn (List.range' (i+1) n) (st.1.push i,i+1) (StrLaws.occBody x ⟨#[c]⟩ x.length 1)).run.fst=_
   rw [zeY x c n (i+1) _ (by rw [h1];rfl),h1];rfl
  ·have hs:Builtin.Str.subAt x ⟨#[c]⟩ i=false:=by rw [zcM x c i hi];simpa using hj i (Nat.le_refl _) (by lia)
   rw [if_neg (by simp [hs])]
   exact zen x c p hp n (i+1) (st.1,st.2) (by lia) h1 (Nat.le_succ_of_le h2) (by lia) (fun j h3 h4=>hj j (by lia) h4)
theorem zjk {x:Str} {lo p:Nat} (hp:x.cps.toList[p]? = some 10) (lp:lo<=p) (hj:∀ j,lo<=j->j<p->x.cps.toList[j]? ≠ some 10) (h:AH) :
  ydP (.str x) [.str "\n",.int (lo:Int)] h = .ok (.int (p:Int)) h:=by
 have pl:p<x.length:=by
  have:=(List.getElem?_eq_some_iff.mp hp).1
  rw [<- zad] at this;exact this
 have nl:(Str.ofString "\n")=⟨#[10]⟩:=by decide +kernel
 have fi:fromIndex x.length (lo:Int)=lo:=by unfold fromIndex;lia
 have oc:Builtin.Str.occurrences x ⟨#[10]⟩ lo x.length 1=[p]:=by
  rw [StrLaws.occ_eq,zen x 10 p hp _ lo _ (by lia) rfl (Nat.le_refl _) lp hj]
 simp only [ydP,nl,fi,oc]
def bh:List Nat->Nat->Nat
 | _,0=>0
 | [],_+1=>0
 | c::l,k+1=>1+bh l (if c=10 then k else k+1)
theorem bh0 (l:List Nat):bh l 0=0:=by unfold bh;rfl
theorem ycM (l:List Nat) (k:Nat):bh (10::l) (k+1)=1+bh l k:=rfl
theorem ycW {c:Nat} (h:c≠10) (l:List Nat) (k:Nat):bh (c::l) (k+1)=1+bh l (k+1):=by
 show 1+bh l (if c=10 then k else k+1)=_
 rw [if_neg h]
theorem zby (z:List Nat):∀ (y:List Nat) (k:Nat),k<=y.count 10->bh (y++z) k=bh y k
 | y,0,_=>by rw [bh0,bh0]
 | [],k+1,h=>by simp at h
 | c::y,k+1,h=>by
  by_cases q:c=10
  ·subst q
   rw [List.cons_append,ycM,ycM,zby z y k (by simpa using h)]
  ·rw [List.cons_append,ycW q,ycW q,zby z y (k+1) (by simpa [q] using h)]
theorem zbk (z:List Nat):∀ (y:List Nat) (k:Nat),y.count 10<k->bh (y++z) k=y.length+bh z (k-y.count 10)
 | [],k,h=>by simp
 | c::y,0,h=>by simp at h
 | c::y,k+1,h=>by
  by_cases q:c=10
  ·subst q
   have h':y.count 10<k:=by simpa using h
   rw [List.cons_append,ycM,zbk z y k h',List.count_cons_self,List.length_cons,Nat.add_sub_add_right]
   lia
  ·have h':y.count 10<k+1:=by simpa [q] using h
   rw [List.cons_append,ycW q,zbk z y (k+1) h',List.count_cons_of_ne q,List.length_cons]
   lia
theorem zba:∀ (l:List Nat) (k:Nat),k<l.count 10->∃ p,bh l (k+1)=p+1/\bh l k<=p/\l[p]? = some 10/\∀ j,bh l k<=j->j<p->l[j]? ≠ some 10
 | [],k,h=>by simp at h
 | c::l,k,h=>by
  by_cases q:c=10
  ·subst q
   cases k with
   | zero=>exact ⟨0,by rw [ycM,bh0],by rw [bh0];exact Nat.le_refl _,rfl,fun j _ hj=>absurd hj (Nat.not_lt_zero _)⟩
   | succ k =>
    obtain ⟨p,e1,e2,e3,e4⟩:=zba l k (by simpa using h)
    refine ⟨p+1,by rw [ycM,e1];lia,by rw [ycM];lia,by simpa using e3,fun j h1 h2=>?_⟩
    rw [ycM] at h1
    obtain ⟨i,rfl⟩:∃ i,j=i+1:=⟨j-1,by lia⟩
    rw [List.getElem?_cons_succ]
    exact e4 i (by lia) (by lia)
  ·obtain ⟨p,e1,e2,e3,e4⟩:=zba l k (by simpa [q] using h)
   cases k with
   | zero =>
    refine ⟨p+1,by rw [ycW q,e1];lia,by rw [bh0];lia,by simpa using e3,fun j h1 h2=>?_⟩
    cases j with
    | zero=>simpa using q
    | succ i =>
     rw [List.getElem?_cons_succ]
     exact e4 i (by rw [bh0];lia) (by lia)
   | succ k =>
    refine ⟨p+1,by rw [ycW q,e1];lia,by rw [ycW q];lia,by simpa using e3,fun j h1 h2=>?_⟩
    rw [ycW q] at h1
    obtain ⟨i,rfl⟩:∃ i,j=i+1:=⟨j-1,by lia⟩
    rw [List.getElem?_cons_succ]
    exact e4 i (by lia) (by lia)
theorem zih {x:Str} {k:Nat} (h:AH) (hk:k<=x.cps.toList.count 10) (hx:x.length<=8):ycq [.str x,.int k] h = .ok (.int (bh x.cps.toList k:Nat)) h:=by
 have kl:k<=8:=Nat.le_trans hk (Nat.le_trans List.count_le_length (zad x▸hx))
 obtain ⟨e',h',q1,q2,b,o3,eb,q3⟩:=ydO (w:=none) (all:=yaL 0 k) (t:=.nm 3) (b:=ybk) (xs:=yaL 0 k) (en:=[some (.str x),some (.int k),some (.int 0),none]) (h:=h)
  (fun i en h' => h'=h/\∃ (b:Nat) (o3:Option AV),b=bh x.cps.toList i/\en=[some (.str x),some (.int k),some (.int b),o3]) ⟨rfl,0,none,(bh0 _).symm,rfl⟩ (fun _ _ _ _=>rfl) (by
   rintro j u en h' hu ⟨rfl,b,o3,eb,rfl⟩
   have jk:j<k:=by have:=(List.getElem?_eq_some_iff.mp hu).1;rwa [zaC] at this
   obtain ⟨p,e1,e2,e3,e4⟩:=zba x.cps.toList j (Nat.lt_of_lt_of_le jk hk)
   rw [<- eb] at e2 e4
   have fd:=zjk e3 e2 e4 h'
   show yfD (some [some (.str x),some (.int k),some (.int b),some u]) _
   show thn (ybk [some (.str x),some (.int k),some (.int b),some u] h') (fun en h2=>h2=h'/\∃ (b:Nat) (o3:Option AV),b=bh x.cps.toList (j+1)/\en=[some (.str x),some (.int k),some (.int b),o3])
   have:ybk [some (.str x),some (.int k),some (.int b),some u] h' = .nx [some (.str x),some (.int k),some (.int (p+1:Nat)),some u] h' := by
    simp [ybk,fd,-ydP]
   rw [this]
   exact ⟨rfl,p+1,_,e1.symm,rfl⟩)
 have f1:=(yc5 (t:=.nm 3) (b:=ybk) (zaN (a:=sVar 1) (en:=[some (.str x),some (.int k),some (.int 0),none]) (h:=h) (n:=k) rfl (Nat.le_trans kl (by decide)))).trans q1
 subst q2 q3
 rw [zaC] at eb
 subst eb
 simp [ycq,f1,-sFor]
theorem zca {h:AH} {p:Nat} {ps:List Pc} (S:ShelfAt h p ps) (g:Good ps) {n k:Nat} {x:Str} (t:TxZ ps n x) (hk:k<=x.cps.toList.count 10) :
  ybi [.ref p,.int n,.int k] h = .ok (.int (bh x.cps.toList k:Nat)) h:=by
 by_cases k0:k=0
 ·subst k0;rw [bh0];simp [ybi]
 have xl:0<x.length:=by
  have:=Nat.le_trans hk List.count_le_length
  rw [<- zad] at this;lia
 obtain ⟨m,f,l,T⟩:=t.ne0 xl
 have ob:=S.ob
 have hh:m.ht.toNat<=200:=zdi g T
 obtain ⟨e',h',q1,q2,n',pl,lf,x',o6,o7,c1,c2,c3,c4,c5,q3⟩:=zdV (c:=yas (sOp2 fGt (yal 0 yav (sVar 0) (yab (sVar 3) sNil)) (sLit (.int 0)))) (b:=ybe) (fuel:=ycG) (n:=m.ht.toNat) (en:=[some (.ref p),some (.int n),some (.int k),some (.int n),some (.int 0),some (.int k),none,none]) (h:=h)
  (fun i en h' => h'=h/\∃ (n' pl lf:Nat) (m':Ms) (x':Str) (f' l':Ms) (o6 o7:Option AV),Tx ps n' m' x' f' l'/\m'.ht.toNat=i/\1<=lf/\lf<=x'.cps.toList.count 10/\pl+bh x'.cps.toList lf=bh x.cps.toList k/\en=[some (.ref p),some (.int n),some (.int k),some (.int n'),some (.int pl),some (.int lf),o6,o7])
  (fun en h' => h'=h/\∃ (n' pl lf:Nat) (x':Str) (o6 o7:Option AV),1<=n'/\ps[n'-1]? = some (.leaf x')/\x'.length<=8/\lf<=x'.cps.toList.count 10/\pl+bh x'.cps.toList lf=bh x.cps.toList k/\en=[some (.ref p),some (.int n),some (.int k),some (.int n'),some (.int pl),some (.int lf),o6,o7])
  ⟨rfl,n,0,k,m,x,f,l,none,none,T,rfl,by lia,hk,by lia,rfl⟩ (Nat.lt_of_le_of_lt hh (by decide)) (by
   rintro i en h' ⟨rfl,n',pl,lf,m',x',f',l',o6,o7,T',hi,l1,l2,l3,rfl⟩
   have fh:=zae S T'.ms
   rcases g.kind T' with ⟨e1,e2,e3,x1,x8⟩ | ⟨a,b,ma,mb,y,z,fa,la,fb,lb,e1,e2,e3,A,B,e4,e5,e6⟩
   ·rw [e2] at fh
    have c:(yas (sOp2 fGt (yal 0 yav (sVar 0) (yab (sVar 3) sNil)) (sLit (.int 0)))) [some (.ref p),some (.int n),some (.int k),some (.int n'),some (.int pl),some (.int lf),o6,o7] h' = .ok false h' := by
     simp [ob,fh]
    rw [c]
    exact ⟨rfl,n',pl,lf,x',o6,o7,T'.n1,e1,x8,l2,l3,rfl⟩
   ·obtain ⟨j,ej,ja,jb,z0⟩:=hs1 (show m'.ht=max ma.ht mb.ht+1 by rw [e5];rfl) A.ky.ht B.ky.ht
    have c:(yas (sOp2 fGt (yal 0 yav (sVar 0) (yab (sVar 3) sNil)) (sLit (.int 0)))) [some (.ref p),some (.int n),some (.int k),some (.int n'),some (.int pl),some (.int lf),o6,o7] h' = .ok true h' := by
     simp [ob,fh,z0]
    rw [c]
    have fp:=zaW S T'.n1 e1
    have fe:=zcN S A.ms
    have fs:=zap S A.ms
    have en:ma.en=y.cps.toList.count 10:=A.ky.en.trans (zaO y)
    have sg:ma.sg=y.cps.toList.length:=A.ky.sg.trans (zad y)
    obtain ⟨C,eC⟩:∃ C,C=y.cps.toList.count 10:=⟨_,rfl⟩
    obtain ⟨L,eL⟩:∃ L,L=y.cps.toList.length:=⟨_,rfl⟩
    rw [en,<- eC] at fe
    rw [sg,<- eL] at fs
    have i1:∀ h,fIx (Pc.fork a b).av (.int 1) h=Out.ok (.int a) h:=fun h=>rfl
    have i2:∀ h,fIx (Pc.fork a b).av (.int 2) h=Out.ok (.int b) h:=fun h=>rfl
    have ex:x'.cps.toList=y.cps.toList++z.cps.toList:=by rw [e4,zaf]
    rw [ex,List.count_append] at l2
    rw [ex] at l3
    show thn (ybe [some (.ref p),some (.int n),some (.int k),some (.int n'),some (.int pl),some (.int lf),o6,o7] h') _
    generalize (Pc.fork a b).av=V at *
    by_cases q:lf<=C
    ·have q':(lf:Int)<=(C:Nat):=Int.ofNat_le.mpr q
     have:ybe [some (.ref p),some (.int n),some (.int k),some (.int n'),some (.int pl),some (.int lf),o6,o7] h' = .nx [some (.ref p),some (.int n),some (.int k),some (.int a),some (.int pl),some (.int lf),some V,some (.int (C:Nat))] h' := by
      simp [ybe,ob,fp,i1,fe,q',-fIx]
     rw [this]
     rw [zby _ _ _ (eC▸q)] at l3
     exact ⟨ma.ht.toNat,by lia,rfl,a,pl,lf,ma,y,fa,la,_,_,A,rfl,l1,eC▸q,l3,rfl⟩
    ·have q' : ¬ (lf:Int)<=(C:Nat):=by lia
     obtain ⟨w,ew⟩:∃ w,w=lf-C:=⟨_,rfl⟩
     have ew':(lf:Int)-(C:Nat)=(w:Nat):=by lia
     have:ybe [some (.ref p),some (.int n),some (.int k),some (.int n'),some (.int pl),some (.int lf),o6,o7] h' = .nx [some (.ref p),some (.int n),some (.int k),some (.int b),some (.int ((pl+L:Nat):Int)),some (.int w),some V,some (.int (C:Nat))] h' := by
      simp [ybe,ob,fp,i1,i2,fe,fs,q',ew',-fIx]
     rw [this]
     rw [zbk _ _ _ (eC▸Nat.lt_of_not_le q),<- eC,<- eL,<- ew,<- Nat.add_assoc] at l3
     exact ⟨mb.ht.toNat,by lia,rfl,b,pl+L,w,mb,z,fb,lb,_,_,B,rfl,by lia,by lia,l3,rfl⟩)
 subst q2 q3
 have fl:=zih h' c4 c3
 have fp:=zaW S c1 c2
 have i1:∀ h,fIx (Pc.leaf x').av (.int 1) h=Out.ok (.str x') h:=fun h=>rfl
 have k0' : ¬ (k:Int)=0:=by lia
 rw [<- c5]
 unfold ybi
 generalize ybu (yas (sOp2 fGt (yal 0 yav (sVar 0) (yab (sVar 3) sNil)) (sLit (.int 0)))) ybe ycG=W at q1 ⊢
 generalize (Pc.leaf x').av=V at *
 simp [k0,q1,ob,fp,i1,fl,-fIx]
def enOf (ps:List Pc) (n:Nat):Nat:=((meas ps).getD n ms0).en
theorem yf2 {ps:List Pc} {n:Nat} {m:Ms} (e:(meas ps)[n]? = some m):enOf ps n=m.en:=by unfold enOf;rw [zaV e]
def ycv (ps:List Pc) (s:Nat×Nat):Nat:=match ps[s.1-1]? with
 | some (.leaf x)=>(x.cps.toList.take s.2).count 10
 | some (.fork a _)=>if s.2<sgOf ps a then 0 else enOf ps a
 | none=>0
theorem zc2 {ps:List Pc} {n q:Nat} {x:Str} (e:ps[n-1]? = some (.leaf x)):ycv ps (n,q)=(x.cps.toList.take q).count 10:=by
 show (match ps[n-1]? with | some (.leaf x)=>_ | some (.fork a _)=>_ | none=>0)=_
 rw [e]
theorem zc3 {ps:List Pc} {n q a b:Nat} (e:ps[n-1]? = some (.fork a b)):ycv ps (n,q)=if q<sgOf ps a then 0 else enOf ps a:=by
 show (match ps[n-1]? with | some (.leaf x)=>_ | some (.fork a _)=>_ | none=>0)=_
 rw [e]
theorem zhs {ps:List Pc} (g:Good ps):∀ (k n q:Nat) (m:Ms) (x:Str) (f l:Ms),Tx ps n m x f l->m.ht.toNat<=k ->
  (∀ s∈path ps k n q,∃ m x f l,Tx ps s.1 m x f l)/\((path ps k n q).map (ycv ps)).sum=(x.cps.toList.take q).count 10:=by
 intro k
 induction k using Nat.strongRecOn with
 | ind k ih =>
  intro n q m x f l T hk
  rcases g.kind T with ⟨e1,e2,e3,_⟩ | ⟨a,b,ma,mb,y,z,fa,la,fb,lb,e1,e2,e3,A,B,e4,e5,e6⟩
  ·rw [zbU e1]
   refine ⟨fun s hs=>?_,?_⟩
   ·rw [List.mem_singleton] at hs;subst hs;exact ⟨_,_,_,_,T⟩
   ·rw [List.map_singleton,List.sum_singleton,zc2 e1]
  ·obtain ⟨j,ej,ja,jb,_⟩:=hs1 (show m.ht=max ma.ht mb.ht+1 by rw [e5];rfl) A.ky.ht B.ky.ht
   rw [ej] at hk
   cases k with
   | zero=>exact absurd hk (Nat.not_succ_le_zero _)
   | succ i =>
    have ji:=Nat.le_of_succ_le_succ hk
    have li:=Nat.lt_succ_self i
    have sg:ma.sg=y.cps.toList.length:=A.ky.sg.trans (zad y)
    have en:ma.en=y.cps.toList.count 10:=A.ky.en.trans (zaO y)
    have ex:x.cps.toList=y.cps.toList++z.cps.toList:=by rw [e4,zaf]
    rw [zbT e1,List.map_cons,List.sum_cons,zc3 e1,yfa A.ms,yf2 A.ms,en,sg,ex,List.take_append,List.count_append]
    by_cases c:q<y.cps.toList.length
    ·rw [if_pos c,if_pos c]
     obtain ⟨h1,h2⟩:=ih i li a q _ _ _ _ A (Nat.le_trans ja ji)
     refine ⟨fun s hs=>?_,?_⟩
     ·rcases List.mem_cons.mp hs with rfl | hs
      ·exact ⟨_,_,_,_,T⟩
      ·exact h1 s hs
     ·rw [h2,Nat.sub_eq_zero_of_le (Nat.le_of_lt c)]
      simp
    ·rw [if_neg c,if_neg c]
     obtain ⟨h1,h2⟩:=ih i li b (q-y.cps.toList.length) _ _ _ _ B (Nat.le_trans jb ji)
     refine ⟨fun s hs=>?_,?_⟩
     ·rcases List.mem_cons.mp hs with rfl | hs
      ·exact ⟨_,_,_,_,T⟩
      ·exact h1 s hs
     ·rw [h2,List.take_of_length_le (Nat.le_of_not_lt c)]
theorem zii {h:AH} {p:Nat} {ps:List Pc} (S:ShelfAt h p ps) (g:Good ps) {n q:Nat} {m:Ms} {x:Str} {f l:Ms} (T:Tx ps n m x f l) :
  ybt [.ref p,yaq (n,q)] h = .ok (.int (ycv ps (n,q):Nat)) h:=by
 have ob:=S.ob
 have i0:∀ h,fIx (yaq (n,q)) (.int 0) h=Out.ok (.int n) h:=fun h=>rfl
 have i1:∀ h,fIx (yaq (n,q)) (.int 1) h=Out.ok (.int q) h:=fun h=>rfl
 rcases g.kind T with ⟨e1,e2,e3,_⟩ | ⟨a,b,ma,mb,y,z,fa,la,fb,lb,e1,e2,e3,A,B,e4,e5,e6⟩
 ·have fp:=zaW S T.n1 e1
  have j0:∀ h,fIx (Pc.leaf x).av (.int 0) h=Out.ok (.str "leaf") h:=fun h=>rfl
  have j1:∀ h,fIx (Pc.leaf x).av (.int 1) h=Out.ok (.str x) h:=fun h=>rfl
  have ec:ydl (cutS x none (some (q:Int)))=ycv ps (n,q):=by
   have e:(cutS x none (some (q:Int))).cps.toList=x.cps.toList.take (min q x.cps.toList.length):=by
    simp only [cutS,HT.sIx_none,HT.sIx_nat];simp
   rw [zaO,zc2 e1,e,<- List.take_eq_take_min]
  have fe:=yfE (cutS x none (some (q:Int))) h
  rw [ec] at fe
  generalize ycv ps (n,q)=R at *
  generalize yaq (n,q)=W at *
  generalize (Pc.leaf x).av=V at *
  simp [ybt,ob,i0,i1,fp,j0,j1,fe,-fIx]
 ·have fp:=zaW S T.n1 e1
  have fe:=zcN S A.ms
  have fs:=zap S A.ms
  have j0:∀ h,fIx (Pc.fork a b).av (.int 0) h=Out.ok (.str "fork") h:=fun h=>rfl
  have j1:∀ h,fIx (Pc.fork a b).av (.int 1) h=Out.ok (.int a) h:=fun h=>rfl
  have nf:(Str.ofString "fork")≠(Str.ofString "leaf"):=by decide +kernel
  have ep:=zc3 (q:=q) e1
  rw [yfa A.ms,yf2 A.ms] at ep
  rw [ep]
  generalize yaq (n,q)=W at *
  generalize (Pc.fork a b).av=V at *
  by_cases c:q<ma.sg
  ·have c':(q:Int)<ma.sg:=Int.ofNat_lt.mpr c
   simp [ybt,ob,i0,i1,fp,j0,j1,nf,fs,c,-fIx]
  ·have c' : ¬ (q:Int)<ma.sg:=by lia
   simp [ybt,ob,i0,i1,fp,j0,j1,nf,fs,fe,c,-fIx]
theorem zeZ:∀ ns:List Nat,ydR (ns.map fun n:Nat=>AV.int (n:Int))=some (ns.map fun n:Nat=>(n:Int))
 | []=>rfl
 | n::ns=>by simp [zeZ ns]
theorem zf6:∀ ns:List Nat,(ns.map fun n:Nat=>(n:Int)).sum=((ns.sum:Nat):Int)
 | []=>rfl
 | n::ns=>by simp [zf6 ns]
theorem zjl {h:AH} {p:Nat} {ps:List Pc} (S:ShelfAt h p ps) (g:Good ps) {n q:Nat} {x:Str} (t:TxZ ps n x) :
  ∃ r:AH,ycP [.ref p,.int n,.int q] h = .ok (.int ((x.cps.toList.take q).count 10:Nat)) (h++r):=by
 rcases t with ⟨rfl,rfl⟩ | ⟨m,f,l,T⟩
 ·refine ⟨[],?_⟩
  have e0:(Str.ofString "").cps.toList=[]:=by decide +kernel
  have e1:(((Str.ofString "").cps.toList.take q).count 10)=0:=by rw [e0];simp
  rw [e1]
  simp [ycP]
 ·have hh:m.ht.toNat<=200:=zdi g T
  have st:=zjj (q:=q) S g T hh
  obtain ⟨p1,p2⟩:=zhs g m.ht.toNat n q m x f l T (Nat.le_refl _)
  obtain ⟨H,eH⟩:∃ H,H=h++[AO.lst ((path ps m.ht.toNat n q).map yaq)]:=⟨_,rfl⟩
  have S':ShelfAt H p ps:=eH▸S.app _
  have g1:H[h.length]? = some (.lst ((path ps m.ht.toNat n q).map yaq)):=by rw [eH];simp
  have cp:=zbN (js:=[0]) (en:=[some (.ref p),some (.int n),some (.int q)]) (w:=some h.length) (all:=(path ps m.ht.toNat n q).map yaq) (c:=sYes) (e:=yah ybt (yab (sVar 1) (yab (sVar 0) sNil))) (g:=yaq) (f:=fun s=>AV.int (ycv ps s:Nat)) (p:=fun _=>true) (h:=H) (by simp [yb7,g1]) (path ps m.ht.toNat n q) [] (fun _ _=>rfl) (by
   intro s hs _
   obtain ⟨m',x',f',l',T'⟩:=p1 s hs
   have fp:=zii (q:=s.2) S' g T'
   have fp':ybt [.ref p,yaq s] H = .ok (.int (ycv ps s:Nat)) H:=fp
   generalize yaq s=W at *
   simp [fp']) (by
    have:=zdj ps m.ht.toNat n q
    exact Nat.le_trans (show _<=201 by simp;lia) (by decide))
  have n0 : ¬ (n:Int)=0:=by have:=T.n1;lia
  have sm:fSum [.fl ((path ps m.ht.toNat n q).map fun s=>AV.int (ycv ps s:Nat))] H = .ok (.int ((x.cps.toList.take q).count 10:Nat)) H:=by
   have e:=zeZ ((path ps m.ht.toNat n q).map (ycv ps))
   rw [List.map_map] at e
   have e':ydR ((path ps m.ht.toNat n q).map fun s=>AV.int (ycv ps s:Nat))=_:=e
   simp only [fSum,e',zf6,p2]
  rw [List.nil_append,List.filter_eq_self.mpr (fun _ _=>rfl)] at cp
  refine ⟨[.lst ((path ps m.ht.toNat n q).map yaq)],?_⟩
  rw [<- eH] at st ⊢
  generalize ((x.cps.toList.take q).count 10)=R at *
  generalize ((path ps m.ht.toNat n q).map fun s=>AV.int (ycv ps s:Nat))=Z at *
  generalize ((path ps m.ht.toNat n q).map yaq)=Y at *
  have n1:=T.n1
  have n0':n≠0:=by lia
  simp [ycP,n0',st,g1,cp,sm,-fSum]
end Sk
namespace Sk
open PySem PySem.Spec L2 Sm
def clip (b e:Nat) (z:List Nat) (s:Nat):List Nat:=(z.take (e-s)).drop (b-s)
theorem ze0 (b e s:Nat) (y z:List Nat):clip b e (y++z) s=clip b e y s++clip b e z (s+y.length):=by
 unfold clip
 rw [List.take_append,List.drop_append,List.length_take]
 congr 1
 by_cases q:e-s<y.length
 ·rw [show e-s-y.length=0 by lia,show e-(s+y.length)=0 by lia];simp
 ·rw [Nat.min_eq_right (Nat.le_of_not_lt q),Nat.sub_sub,Nat.sub_sub]
theorem zht {b e s:Nat} {z:List Nat} (h:e<=s\/s+z.length<=b):clip b e z s=[]:=by
 unfold clip
 rcases h with h | h
 ·rw [Nat.sub_eq_zero_of_le h];simp
 ·apply List.drop_of_length_le
  rw [List.length_take]
  exact Nat.le_trans (Nat.min_le_right _ _) (Nat.le_sub_of_add_le (by rw [Nat.add_comm];exact h))
theorem ze1 {b e s:Nat} {z:List Nat} (h1:s<e) (h2:b<s+z.length) (be:b<e) (hz:1<=z.length):1<=(clip b e z s).length:=by
 unfold clip
 rw [List.length_drop,List.length_take]
 lia
def htOf (ps:List Pc) (n:Nat):Nat:=((meas ps).getD n ms0).ht.toNat
def ptOf (b e:Nat) (z:List Nat) (s H:Nat):Nat:=if e<=s\/s+z.length<=b then 1 else 2*(max (clip b e z s).length 1*(H+1))+1
theorem yef (b e:Nat) (z:List Nat) (s H:Nat):1<=ptOf b e z s H:=by
 unfold ptOf
 split
 ·exact Nat.le_refl _
 ·exact Nat.le_add_left _ _
theorem yf3 {A B h H:Nat} (ab:A<=B) (hh:h+1<=H) (b1:1<=B):2*(A*(h+1))+1+1<2*(B*(H+1))+1:=by
 have q1:A*(h+1)<=B*H:=Nat.mul_le_mul ab hh
 have q2:B*(H+1)=B*H+B:=Nat.mul_succ B H
 lia
theorem yhW {A B C h g H:Nat} (ab:A+B<=C) (hh:h+1<=H) (gg:g+1<=H) (b1:1<=C):2*(A*(h+1))+1+(2*(B*(g+1))+1)<2*(C*(H+1))+1:=by
 have q1:A*(h+1)<=A*H:=Nat.mul_le_mul_left A hh
 have q3:B*(g+1)<=B*H:=Nat.mul_le_mul_left B gg
 have q4:(A+B)*H<=C*H:=Nat.mul_le_mul_right H ab
 have q5:(A+B)*H=A*H+B*H:=Nat.add_mul A B H
 have q2:C*(H+1)=C*H+C:=Nat.mul_succ C H
 lia
theorem zjm {b e s h g H:Nat} {y z:List Nat} (hy:1<=y.length) (hz:1<=z.length) (n : ¬ (e<=s\/s+(y++z).length<=b)) (hh:h+1<=H) (gg:g+1<=H) (be:b<=e):ptOf b e y s h+ptOf b e z (s+y.length) g<ptOf b e (y++z) s H:=by
 have ca:=congrArg List.length (ze0 b e s y z)
 rw [List.length_append] at ca
 unfold ptOf
 rw [if_neg n]
 generalize hX:(clip b e (y++z) s).length=X at *
 have m1:1<=max X 1:=Nat.le_max_right _ _
 by_cases sy:e<=s\/s+y.length<=b
 ·rw [if_pos sy]
  by_cases sz:e<=s+y.length\/s+y.length+z.length<=b
  ·rw [if_pos sz]
   have:1<=max X 1*(H+1):=Nat.mul_pos m1 (Nat.succ_pos H)
   lia
  ·rw [if_neg sz]
   have:=yf3 (A:=max (clip b e z (s+y.length)).length 1) (B:=max X 1) (h:=g) (H:=H) (by lia) gg m1
   lia
 ·rw [if_neg sy]
  by_cases sz:e<=s+y.length\/s+y.length+z.length<=b
  ·rw [if_pos sz]
   exact yf3 (by lia) hh m1
  ·rw [if_neg sz]
   have c1:=ze1 (b:=b) (e:=e) (s:=s) (z:=y) (by lia) (by lia) (by lia) hy
   have c2:=ze1 (b:=b) (e:=e) (s:=s+y.length) (z:=z) (by lia) (by lia) (by lia) hz
   exact yhW (by lia) hh gg m1
inductive Stk (ps:List Pc) (b e:Nat):List (Nat×Nat)->List Nat->Nat->Prop
 | nil:Stk ps b e [] [] 0
 | cons {n s:Nat} {x:Str} {st:List (Nat×Nat)} {r:List Nat} {k:Nat}:TxZ ps n x->(0<x.length\/s=0)->Stk ps b e st r k->Stk ps b e ((n,s)::st) (clip b e x.cps.toList s++r) (ptOf b e x.cps.toList s (htOf ps n)+k)
theorem Stk.len {ps:List Pc} {b e:Nat} {st:List (Nat×Nat)} {r:List Nat} {k:Nat} (t:Stk ps b e st r k):st.length<=k:=by
 induction t with
 | nil=>exact Nat.le_refl _
 | @cons n s x st r k _ _ _ ih =>
  have:=yef b e x.cps.toList s (htOf ps n)
  rw [List.length_cons];lia
theorem yej {ps:List Pc} {n:Nat} {m:Ms} (e:(meas ps)[n]? = some m):htOf ps n=m.ht.toNat:=by unfold htOf;rw [zaV e]
theorem zeo (h:AH):∀ st:List (Nat×Nat),toDs (toD 7 h) (st.map yaq)=some (st.map fun s=>PyData.tuple [.int (s.1:Int),.int (s.2:Int)])
 | []=>rfl
 | s::st=>by
  rw [List.map_cons,List.map_cons]
  show (match toD 7 h (yaq s),toDs (toD 7 h) (st.map yaq) with | some d,some ds=>some (d::ds) | _,_=>none)=_
  rw [zeo h st];rfl
theorem yg6 {h:AH} {L:Nat} {st:List (Nat×Nat)} (e:h[L]? = some (.lst (st.map yaq))):fNe (.ref L) (.fl []) h = .ok (.bl (!st.isEmpty)) h:=by
 have t:toD 8 h (.ref L)=some (.list (st.map fun s=>PyData.tuple [.int (s.1:Int),.int (s.2:Int)])):=by
  show (match h[L]? with | some (.lst xs)=>(toDs (toD 7 h) xs).map PyData.list | _=>none)=_
  rw [e]
  show (toDs (toD 7 h) (st.map yaq)).map PyData.list=_
  rw [zeo];rfl
 have q:eqA (.ref L) (.fl []) h=some st.isEmpty:=by
  show (match toD 8 h (.ref L),toD 8 h (.fl []) with | some d,some e=>some (PyData.eqv d e) | _,_=>none)=_
  rw [t]
  show some (PyData.eqv (.list _) (.list []))=_
  cases st with
  | nil=>simp [PyData.eqv,PyData.eqvAll]
  | cons a b=>simp [PyData.eqv,PyData.eqvAll]
 show (match eqA (.ref L) (.fl []) h with | some b=>Out.ok (AV.bl (!b)) h | none=>Out.bad)=_
 rw [q]
theorem ze2 {b e s:Nat} {y:Str} (hs:s<e):(cutS y (some (((b-s:Nat)):Int)) (some ((e-s:Nat):Int))).cps.toList=clip b e y.cps.toList s:=by
 simp only [cutS,HT.sIx_nat,clip]
 rw [List.drop_take]
 generalize y.cps.toList=l
 apply List.ext_getElem?
 intro i
 simp only [List.getElem?_take,List.getElem?_drop]
 by_cases c:i<e-s-(b-s)
 ·by_cases d:b-s<=l.length
  ·rw [Nat.min_eq_left d,if_pos c]
   by_cases f:e-s<=l.length
   ·rw [Nat.min_eq_left f,if_pos c]
   ·rw [Nat.min_eq_right (Nat.le_of_not_le f)]
    by_cases g:i<l.length-(b-s)
    ·rw [if_pos g]
    ·rw [if_neg g,List.getElem?_eq_none (by lia)]
  ·have:min (e-s) l.length-min (b-s) l.length=0:=by lia
   rw [this,if_neg (Nat.not_lt_zero _),if_pos c,List.getElem?_eq_none (by lia)]
 ·have : ¬ i<min (e-s) l.length-min (b-s) l.length:=by lia
  rw [if_neg c,if_neg this]
abbrev sbEn (p:Nat) (o1:Option AV) (b e L1 L2:Nat) (o6 o7 o8 o9:Option AV):En:=[some (.ref p),o1,some (.int b),some (.int e),some (.ref L1),some (.ref L2),o6,o7,o8,o9]
theorem zdW {h:AH} {p:Nat} {ps:List Pc} (S:ShelfAt h p ps) {L:Nat} (hL:p+8<L) (o:AO):ShelfAt (h.set L o) p ps :=
 S.keep fun i _ b=>List.getElem?_set_ne (Nat.ne_of_gt (Nat.lt_of_le_of_lt b hL))
theorem zjn {h:AH} {p:Nat} {ps:List Pc} (S:ShelfAt h p ps) {n s b e L1 L2:Nat} {m:Ms} (em:(meas ps)[n]? = some m) (h2:p+8<L2) {ys:List AV} (e2:h[L2]? = some (.lst (ys++[yaq (n,s)]))) (c:e<=s\/s+m.sg<=b) (o1 o6 o7 o8 o9:Option AV) :
  ∃ o6' o7' o8',yaK (sbEn p o1 b e L1 L2 o6 o7 o8 o9) h = .ct (sbEn p o1 b e L1 L2 o6' o7' o8' o9) (h.set L2 (.lst ys)):=by
 have S' := zdW S h2 (.lst ys)
 have fs:=zap S' em
 have ob:=S'.ob
 have i0:∀ h,fIx (yaq (n,s)) (.int 0) h=Out.ok (.int n) h:=fun h=>rfl
 have i1:∀ h,fIx (yaq (n,s)) (.int 1) h=Out.ok (.int s) h:=fun h=>rfl
 have pp:mPop (.ref L2) [] h = .ok (yaq (n,s)) (h.set L2 (.lst ys)):=by
  simp only [mPop,e2]
  simp
 have ls:yaV (.ref L2) h=true:=by simp only [yaV,ybD,e2];rfl
 refine ⟨some (yaq (n,s)),some (.int n),some (.int s),?_⟩
 generalize yaq (n,s)=W at *
 generalize h.set L2 (.lst ys)=h' at *
 by_cases c1:(e:Int)<=s
 ·simp [yaK,pp,ls,i0,i1,c1,-fIx,-mPop,-yaV]
 ·have c2:(s:Int)+m.sg<=b:=by lia
  simp [yaK,pp,ls,i0,i1,c1,c2,ob,fs,-fIx,-mPop,-yaV]
theorem zjo {h:AH} {p:Nat} {ps:List Pc} (S:ShelfAt h p ps) {n s b e L1 L2:Nat} {y:Str} {m:Ms} (em:(meas ps)[n]? = some m) (n1:1<=n) (ey:ps[n-1]? = some (.leaf y)) (h1:p+8<L1) (h2:p+8<L2) (h12:L1≠L2) {ys fs:List AV} (e1:h[L1]? = some (.lst fs)) (e2:h[L2]? = some (.lst (ys++[yaq (n,s)]))) (c1:s<e) (c2:b<s+m.sg) (hf:fs.length<16000000) (o1 o6 o7 o8 o9:Option AV) :
  ∃ o6' o7' o8' o9',yaK (sbEn p o1 b e L1 L2 o6 o7 o8 o9) h = .nx (sbEn p o1 b e L1 L2 o6' o7' o8' o9') ((h.set L2 (.lst ys)).set L1 (.lst (fs++[.str (cutS y (some ((b-s:Nat):Int)) (some ((e-s:Nat):Int)))]))):=by
 have S' := zdW S h2 (.lst ys)
 have fg:=zap S' em
 have fp:=zaW S' n1 ey
 have ob:=S'.ob
 have i0:∀ h,fIx (yaq (n,s)) (.int 0) h=Out.ok (.int n) h:=fun h=>rfl
 have i1:∀ h,fIx (yaq (n,s)) (.int 1) h=Out.ok (.int s) h:=fun h=>rfl
 have j0:∀ h,fIx (Pc.leaf y).av (.int 0) h=Out.ok (.str "leaf") h:=fun h=>rfl
 have j1:∀ h,fIx (Pc.leaf y).av (.int 1) h=Out.ok (.str y) h:=fun h=>rfl
 have pp:mPop (.ref L2) [] h = .ok (yaq (n,s)) (h.set L2 (.lst ys)):=by
  simp only [mPop,e2]
  simp
 have ls:yaV (.ref L2) h=true:=by simp only [yaV,ybD,e2];rfl
 have e1':(h.set L2 (.lst ys))[L1]? = some (.lst fs):=by rw [List.getElem?_set_ne (Ne.symm h12)];exact e1
 have fl:fs.length<sizeLine:=Nat.lt_trans hf (by decide)
 have ls1:yaV (.ref L1) (h.set L2 (.lst ys))=true:=by simp only [yaV,ybD,e1'];rfl
 have d1 : ¬ (e:Int)<=s:=by lia
 have d2 : ¬ (s:Int)+m.sg<=b:=by lia
 have mx:∀ h,ydJ [.int ((b:Int)-s),.int 0] h = .ok (.int ((b-s:Nat):Int)) h:=fun h=>by
  simp
  lia
 have es:(e:Int)-s=((e-s:Nat):Int):=by lia
 refine ⟨some (yaq (n,s)),some (.int n),some (.int s),some (Pc.leaf y).av,?_⟩
 generalize yaq (n,s)=W at *
 generalize (Pc.leaf y).av=V at *
 generalize h.set L2 (.lst ys)=h' at *
 simp [yaK,pp,ls,i0,i1,d1,d2,ob,fg,fp,j0,j1,mx,es,e1',fl,ls1,-fIx,-mPop,-yaV,-ydJ]
theorem zjp {h:AH} {p:Nat} {ps:List Pc} (S:ShelfAt h p ps) {n s b e L1 L2 c d:Nat} {m mc:Ms} (em:(meas ps)[n]? = some m) (n1:1<=n) (ey:ps[n-1]? = some (.fork c d)) (ec:(meas ps)[c]? = some mc) (h1:p+8<L1) (h2:p+8<L2) {ys:List AV} (e2:h[L2]? = some (.lst (ys++[yaq (n,s)]))) (c1:s<e) (c2:b<s+m.sg) (hf:ys.length<16000000) (o1 o6 o7 o8 o9:Option AV) :
  ∃ o6' o7' o8' o9',yaK (sbEn p o1 b e L1 L2 o6 o7 o8 o9) h = .nx (sbEn p o1 b e L1 L2 o6' o7' o8' o9') (h.set L2 (.lst (ys++[yaq (d,s+mc.sg)]++[yaq (c,s)]))):=by
 have S' := zdW S h2 (.lst ys)
 have fg:=zap S' em
 have fp:=zaW S' n1 ey
 have fc:=zap S' ec
 have ob:=S'.ob
 have bl:=yc6 e2
 have i0:∀ h,fIx (yaq (n,s)) (.int 0) h=Out.ok (.int n) h:=fun h=>rfl
 have i1:∀ h,fIx (yaq (n,s)) (.int 1) h=Out.ok (.int s) h:=fun h=>rfl
 have j0:∀ h,fIx (Pc.fork c d).av (.int 0) h=Out.ok (.str "fork") h:=fun h=>rfl
 have j1:∀ h,fIx (Pc.fork c d).av (.int 1) h=Out.ok (.int c) h:=fun h=>rfl
 have j2:∀ h,fIx (Pc.fork c d).av (.int 2) h=Out.ok (.int d) h:=fun h=>rfl
 have pp:mPop (.ref L2) [] h = .ok (yaq (n,s)) (h.set L2 (.lst ys)):=by
  simp only [mPop,e2]
  simp
 have ls:yaV (.ref L2) h=true:=by simp only [yaV,ybD,e2];rfl
 have nf:(Str.ofString "fork")≠(Str.ofString "leaf"):=by decide +kernel
 have g0:(h.set L2 (.lst ys))[L2]? = some (.lst ys):=List.getElem?_set_self bl
 have g1:((h.set L2 (.lst ys)).set L2 (.lst (ys++[yaq (d,s+mc.sg)])))[L2]? = some (.lst (ys++[yaq (d,s+mc.sg)])):=List.getElem?_set_self (by simpa using bl)
 have l0:ys.length<sizeLine:=Nat.lt_trans hf (by decide)
 have l1:ys.length+1<sizeLine:=Nat.lt_of_le_of_lt (Nat.succ_le_of_lt hf) (by decide)
 have d1 : ¬ (e:Int)<=s:=by lia
 have d2 : ¬ (s:Int)+m.sg<=b:=by lia
 have sv:AV.tup [.int d,.int ((s:Int)+mc.sg)]=yaq (d,s+mc.sg):=by simp [yaq]
 have sw:AV.tup [.int c,.int (s:Int)]=yaq (c,s):=rfl
 have ss:∀ o o',(h.set L2 o).set L2 o'=h.set L2 o' := fun o o' => by simp
 refine ⟨some (yaq (n,s)),some (.int n),some (.int s),some (Pc.fork c d).av,?_⟩
 have ap1:yaU (.ref L2) [yaq (d,s+mc.sg)] (h.set L2 (.lst ys)) = .ok .non (h.set L2 (.lst (ys++[yaq (d,s+mc.sg)]))):=by
  simp only [yaU,g0,l0,if_true,ss]
 rw [ss] at g1
 have ap2:yaU (.ref L2) [yaq (c,s)] (h.set L2 (.lst (ys++[yaq (d,s+mc.sg)]))) = .ok .non (h.set L2 (.lst (ys++[yaq (d,s+mc.sg)]++[yaq (c,s)]))):=by
  simp only [yaU,g1,List.length_append,List.length_cons,List.length_nil,Nat.zero_add,l1,if_true,ss]
 have is0:yaV (.ref L2) (h.set L2 (.lst ys))=true:=by simp only [yaV,ybD,g0];rfl
 have is1:yaV (.ref L2) (h.set L2 (.lst (ys++[yaq (d,s+mc.sg)])))=true:=by simp only [yaV,ybD,g1];rfl
 generalize yaq (n,s)=W at *
 generalize (Pc.fork c d).av=V at *
 generalize h.set L2 (.lst (ys++[yaq (d,s+mc.sg)]++[yaq (c,s)]))=h3 at *
 generalize h.set L2 (.lst (ys++[yaq (d,s+mc.sg)]))=h2 at *
 generalize h.set L2 (.lst ys)=h' at *
 simp [yaK,pp,ls,i0,i1,d1,d2,ob,fg,fp,fc,j0,j1,j2,nf,sv,sw,is0,is1,ap1,ap2,-fIx,-mPop,-yaV,-yaU]
theorem ze3:∀ fs:List Str,yd0 (fs.map AV.str)=some fs
 | []=>rfl
 | f::fs=>by simp [ze3 fs]
theorem ze4 (b e s:Nat) (z:List Nat):(clip b e z s).length<=e-b:=by
 unfold clip
 rw [List.length_drop,List.length_take]
 lia
theorem zhu {h:AH} {p:Nat} {ps:List Pc} (S:ShelfAt h p ps) (g:Good ps) {n b e:Nat} {x:Str} (t:TxZ ps n x) (be:b<=e) (w:e-b<=10000) :
  ∃ (z:Str) (r:AH),ycK [.ref p,.int n,.int b,.int e] h = .ok (.str z) (h++r)/\z.cps.toList=clip b e x.cps.toList 0:=by
 have b8:=yc6 S.h8
 obtain ⟨K0,eK⟩:∃ K0,K0=ptOf b e x.cps.toList 0 (htOf ps n):=⟨_,rfl⟩
 have hK:K0<=5000000:=by
  have cl:=ze4 b e 0 x.cps.toList
  have hh:htOf ps n<=200:=by
   rcases t with ⟨rfl,_⟩ | ⟨m,f,l,T⟩
   ·rw [yej (za1 ps)];decide
   ·rw [yej T.ms];exact zdi g T
  rw [eK];unfold ptOf
  split
  ·decide
  ·have:max (clip b e x.cps.toList 0).length 1*(htOf ps n+1)<=10000*201:=Nat.mul_le_mul (by lia) (by lia)
   lia
 obtain ⟨e',h',q1,fs,q2,o6,o7,o8,o9,q3,q4⟩:=zdV (c:=yas (sOp2 fNe (sVar 5) (sLst sNil))) (b:=yaK) (fuel:=ycG) (n:=K0) (en:=sbEn p (some (.int n)) b e h.length (h.length+1) none none none none) (h:=h++[.lst [],.lst [yaq (n,0)]])
  (fun k en h' => ∃ (fs:List Str) (st:List (Nat×Nat)) (r:List Nat) (o6 o7 o8 o9:Option AV),en=sbEn p (some (.int n)) b e h.length (h.length+1) o6 o7 o8 o9/\h'=h++[.lst (fs.map AV.str),.lst (st.reverse.map yaq)]/\Stk ps b e st r k/\(fs.map fun f:Str=>f.cps.toList).flatten++r=clip b e x.cps.toList 0/\fs.length+k<=K0)
  (fun en h' => ∃ (fs:List Str),h'=h++[.lst (fs.map AV.str),.lst []]/\∃ o6 o7 o8 o9,en=sbEn p (some (.int n)) b e h.length (h.length+1) o6 o7 o8 o9/\(fs.map fun f:Str=>f.cps.toList).flatten=clip b e x.cps.toList 0)
  ⟨[],[(n,0)],clip b e x.cps.toList 0++[],none,none,none,none,rfl,rfl,eK ▸ .cons t (.inr rfl) .nil,by simp,by simp⟩ (Nat.lt_of_le_of_lt hK (by decide)) (by
   rintro k en h' ⟨fs,st,r,o6,o7,o8,o9,rfl,rfl,st0,fl,fk⟩
   obtain ⟨hc,ec⟩:∃ hc,hc=h++[AO.lst (fs.map AV.str),.lst (st.reverse.map yaq)]:=⟨_,rfl⟩
   have S':ShelfAt hc p ps:=ec▸S.app _
   have g1:hc[h.length]? = some (.lst (fs.map AV.str)):=by rw [ec];simp
   have g2:hc[h.length+1]? = some (.lst (st.reverse.map yaq)):=by rw [ec];simp
   have nn:=yg6 g2
   have sl:=st0.len
   have hset:∀ (A B:AO),(h++[AO.lst (fs.map AV.str),B]).set (h.length+1) A=h++[AO.lst (fs.map AV.str),A]:=fun A B=>by simp
   rw [<- ec]
   cases st0 with
   | nil =>
    have c:(yas (sOp2 fNe (sVar 5) (sLst sNil))) (sbEn p (some (.int n)) b e h.length (h.length+1) o6 o7 o8 o9) hc = .ok false hc:=by
     have nn':fNe (.ref (h.length+1)) (.fl []) hc = .ok (.bl false) hc:=nn
     simp [sbEn,nn',-fNe]
    rw [c]
    exact ⟨fs,ec,o6,o7,o8,o9,rfl,by simpa using fl⟩
   | @cons n' s x' st r k t' ts st1 =>
    have c:(yas (sOp2 fNe (sVar 5) (sLst sNil))) (sbEn p (some (.int n)) b e h.length (h.length+1) o6 o7 o8 o9) hc = .ok true hc:=by
     have nn':fNe (.ref (h.length+1)) (.fl []) hc = .ok (.bl true) hc:=by rw [nn];simp
     simp [sbEn,nn',-fNe]
    rw [c]
    have g2':hc[h.length+1]? = some (.lst (st.reverse.map yaq++[yaq (n',s)])):=by rw [g2];simp
    obtain ⟨m,em,sm⟩:=t'.sg
    have lx:x'.cps.toList.length=m.sg:=(zad x').symm.trans sm.symm
    have sl1:=st1.len
    show thn (yaK (sbEn p (some (.int n)) b e h.length (h.length+1) o6 o7 o8 o9) hc) _
    by_cases sk:e<=s\/s+x'.cps.toList.length<=b
    ·obtain ⟨a6,a7,a8,eb⟩:=zjn (L1:=h.length) S' em (show p+8<h.length+1 by lia) g2' (by rw [<- lx];exact sk) (some (.int n)) o6 o7 o8 o9
     rw [eb,ec,hset]
     refine ⟨k,?_,fs,st,r,a6,a7,a8,o9,rfl,rfl,st1,?_,?_⟩
     ·have:=yef b e x'.cps.toList s (htOf ps n');lia
     ·rw [<- fl,zht sk];rfl
     ·have:=yef b e x'.cps.toList s (htOf ps n');lia
    ·have sk1:s<e:=by lia
     have sk2:b<s+m.sg:=by lia
     obtain ⟨m',f',l',T⟩:=t'.ne0 (by rcases ts with ts | ts<;>lia)
     have z:=em.symm.trans T.ms;cases z
     rcases g.kind T with ⟨e1,e2,e3,_⟩ | ⟨c1,c2,mc,md,y,z,fa,la,fb,lb,e1,e2,e3,A,B,e4,e5,e6⟩
     ·obtain ⟨a6,a7,a8,a9,eb⟩:=zjo S' em T.n1 e1 (show p+8<h.length by lia) (show p+8<h.length+1 by lia) (by lia) g1 g2' sk1 sk2 (by simp;lia) (some (.int n)) o6 o7 o8 o9
      rw [eb,ec,hset]
      refine ⟨k,?_,fs++[cutS x' (some ((b-s:Nat):Int)) (some ((e-s:Nat):Int))],st,r,a6,a7,a8,a9,rfl,by simp,st1,?_,?_⟩
      ·have:=yef b e x'.cps.toList s (htOf ps n');lia
      ·rw [<- fl,<- ze2 (y:=x') sk1];simp
      ·have:=yef b e x'.cps.toList s (htOf ps n');simp;lia
     ·obtain ⟨a6,a7,a8,a9,eb⟩:=zjp (L1:=h.length) S' em T.n1 e1 A.ms (show p+8<h.length by lia) (show p+8<h.length+1 by lia) g2' sk1 sk2 (by simp;lia) (some (.int n)) o6 o7 o8 o9
      have ly:y.cps.toList.length=mc.sg:=(zad y).symm.trans A.ky.sg.symm
      have y1:=A.ky.sg1
      have z1:=B.ky.sg1
      have lz:z.cps.toList.length=md.sg:=(zad z).symm.trans B.ky.sg.symm
      have ex:x'.cps.toList=y.cps.toList++z.cps.toList:=by rw [e4,zaf]
      obtain ⟨j,ej,ja,jb,_⟩:=hs1 (show m.ht=max mc.ht md.ht+1 by rw [e5];rfl) A.ky.ht B.ky.ht
      have pf:=zjm (b:=b) (e:=e) (s:=s) (h:=htOf ps c1) (g:=htOf ps c2) (H:=htOf ps n') (y:=y.cps.toList) (z:=z.cps.toList) (by lia) (by lia) (ex▸sk) (by rw [yej A.ms,yej em];lia) (by rw [yej B.ms,yej em];lia) be
      rw [<- ex,ly] at pf
      rw [eb,ec,hset]
      refine ⟨ptOf b e y.cps.toList s (htOf ps c1)+(ptOf b e z.cps.toList (s+mc.sg) (htOf ps c2)+k),by lia,fs,(c1,s)::(c2,s+mc.sg)::st,_,a6,a7,a8,a9,rfl,by simp,.cons (.inr ⟨_,_,_,A⟩) (.inl (A.ky.sg▸y1)) (.cons (.inr ⟨_,_,_,B⟩) (.inl (B.ky.sg▸z1)) st1),?_,by lia⟩
      rw [<- fl,ex,ze0,ly];simp)
 subst q2;subst q3
 refine ⟨⟨((fs.map fun f:Str=>f.cps.toList).flatten).toArray⟩,[.lst (fs.map AV.str),.lst []],?_,by rw [<- q4]⟩
 have fl:((fs.map fun f:Str=>f.cps.toList).flatten).length<=1000000:=by
  rw [q4];exact Nat.le_trans (ze4 _ _ _ _) (Nat.le_trans w (by decide))
 have g1:(h++[AO.lst (fs.map AV.str),.lst []])[h.length]? = some (.lst (fs.map AV.str)):=by simp
 have jn:yde (.str "") [.ref h.length] (h++[AO.lst (fs.map AV.str),.lst []]) = .ok (.str ⟨((fs.map fun f:Str=>f.cps.toList).flatten).toArray⟩) (h++[AO.lst (fs.map AV.str),.lst []]):=by
  have e:(Str.ofString "")=Str.empty:=by decide +kernel
  unfold yde
  simp only [e,if_true,ybD,g1,ze3]
  rw [if_pos fl]
 have q1':ybu (yas (sOp2 fNe (sVar 5) (sLst sNil))) yaK ycG [some (.ref p),some (.int n),some (.int b),some (.int e),some (.ref h.length),some (.ref (h.length+1)),none,none,none,none] (h++[.lst [],.lst [.tup [.int n,.int 0]]])=_:=q1
 unfold ycK
 generalize ybu (yas (sOp2 fNe (sVar 5) (sLst sNil))) yaK ycG=W at q1' ⊢
 generalize hH:(h++[AO.lst (fs.map AV.str),.lst []])=H at *
 have a1:h++[AO.lst []]++[AO.lst [AV.tup [.int n,.int 0]]]=h++[.lst [],.lst [.tup [.int n,.int 0]]]:=by simp
 simp [q1',jn,sbEn,-yde]
theorem zas {x y:Str} (e:x.cps.toList=y.cps.toList):x=y:=by
 cases x;cases y
 congr 1
 exact Array.toList_inj.mp e
theorem zij {h:AH} {p:Nat} {ps:List Pc} {n b e:Nat} {m:Ms} (S:ShelfAt h p ps) (em:(meas ps)[n]? = some m) (be:b<=e) (es:e<=m.sg):ycJ [.ref p,.int n,.int b,.int e] h = .ok .non h:=by
 have c1:(b:Int)<=e:=Int.ofNat_le.mpr be
 have c2:(e:Int)<=m.sg:=Int.ofNat_le.mpr es
 simp [ycJ,S.ob,zap S em,c1,c2]
theorem zhv {h:AH} {p:Nat} {ps:List Pc} (S:ShelfAt h p ps) (g:Good ps) {n b e:Nat} {x:Str} (t:TxZ ps n x) (be:b<=e) (ex:e<=x.length) (w:e-b<=10000) :
  ∃ (z:Str) (r:AH),ycj [.ref p,.int n,.int b,.int e] h = .ok (.str z) (h++r)/\z.cps.toList=clip b e x.cps.toList 0:=by
 obtain ⟨m,em,sm⟩:=t.sg
 have ck:=zij S em be (sm▸ex)
 obtain ⟨z,r,e1,e2⟩:=zhu S g t be w
 refine ⟨z,r,?_,e2⟩
 have w' : ¬ (10000:Int)<(e:Int)-b:=by lia
 simp [ycj,ck,w',e1]
theorem yg7 {b e:Nat} {y:Str} (be:b<=e):(cutS y (some (b:Int)) (some (e:Int))).cps.toList=clip b e y.cps.toList 0:=by
 by_cases q:0<e
 ·have:=ze2 (b:=b) (e:=e) (s:=0) (y:=y) q
  simpa using this
 ·have e0:e=0:=by lia
  have b0:b=0:=by lia
  subst e0 b0
  have s0:HT.sIx y.cps.toList.length 0 (some ((0:Nat):Int))=0:=by rw [HT.sIx_nat];simp
  have s1:HT.sIx y.cps.toList.length y.cps.toList.length (some ((0:Nat):Int))=0:=by rw [HT.sIx_nat];simp
  simp only [cutS,clip,s0,s1]
  simp
structure Dr (r:Nat) (ps:List Pc) (h:AH):Prop where
 sh:ShelfAt h 0 ps
 row:∃ N:Int,h[r]? = some (.lst [.int N])
theorem Dr.app {r:Nat} {ps:List Pc} {h:AH} (d:Dr r ps h) (x:AH):Dr r ps (h++x) :=
 ⟨d.sh.app x,by obtain ⟨N,e⟩:=d.row;exact ⟨N,by rw [List.getElem?_append_left (yc6 e)];exact e⟩⟩
end Sk
namespace Sk
open PySem PySem.Spec L2 Sm
def posL:Nat->List Nat->List Nat
 | _,[]=>[]
 | i,c::l=>if c=10 then i::posL (i+1) l else posL (i+1) l
theorem zcb:∀ (l:List Nat) (i:Nat),(posL i l).length=l.count 10
 | [],i=>rfl
 | c::l,i=>by
  unfold posL
  by_cases q:c=10
  ·subst q;simp [zcb l]
  ·simp [q,zcb l]
theorem zdX:∀ (l:List Nat) (i k c:Nat),(posL i l)[k]? = some c->i+bh l (k+1)=c+1
 | [],i,k,c,e=>by simp [posL] at e
 | d::l,i,k,c,e=>by
  unfold posL at e
  by_cases q:d=10
  ·subst q
   rw [if_pos rfl] at e
   cases k with
   | zero =>
    have:i=c:=by simpa using e
    subst this
    rw [ycM,bh0]
   | succ k =>
    have:=zdX l (i+1) k c (by simpa using e)
    rw [ycM];lia
  ·rw [if_neg q] at e
   have:=zdX l (i+1) k c e
   rw [ycW q];lia
def rend (l:List Nat) (k:Nat):Nat:=if k=l.count 10 then l.length else bh l (k+1)-1
theorem yfb:∀ (l:List Nat) (k:Nat),bh l k<=l.length
 | l,0=>by rw [bh0];exact Nat.zero_le _
 | [],k+1=>Nat.le_refl _
 | c::l,k+1=>by
  by_cases q:c=10
  ·subst q;rw [ycM,List.length_cons];have:=yfb l k;lia
  ·rw [ycW q,List.length_cons];have:=yfb l (k+1);lia
theorem zdY {l:List Nat} {k:Nat} (hk:k<=l.count 10):bh l k<=rend l k/\rend l k<=l.length:=by
 unfold rend
 by_cases q:k=l.count 10
 ·rw [if_pos q];exact ⟨yfb l k,Nat.le_refl _⟩
 ·rw [if_neg q]
  obtain ⟨p,p1,p2,p3,_⟩:=zba l k (by lia)
  have:=(List.getElem?_eq_some_iff.mp p3).1
  lia
theorem zbV {h:AH} {p:Nat} {ps:List Pc} (S:ShelfAt h p ps) {n:Nat} {m:Ms} (em:(meas ps)[n]? = some m):ycO [.ref p,.int n] h = .ok (.int ((m.en:Int)+1)) h:=by
 simp [ycO,S.ob,zcN S em]
theorem TxZ.en {ps:List Pc} {n:Nat} {y:Str} {m:Ms} (t:TxZ ps n y) (em:(meas ps)[n]? = some m):m.en=y.cps.toList.count 10/\m.sg=y.length:=by
 rcases t with ⟨rfl,rfl⟩ | ⟨m',f,l,T⟩
 ·have:=em.symm.trans (za1 ps)
  cases this
  exact ⟨rfl,rfl⟩
 ·have:=em.symm.trans T.ms
  cases this
  exact ⟨T.ky.en.trans (zaO y),T.ky.sg⟩
theorem zcc:∀ (l:List Nat) (k q:Nat),k<=l.count 10->bh l k<=q->(k<l.count 10->q<bh l (k+1))->(l.take q).count 10=k
 | [],k,q,h,_,_=>by
  have:k=0:=by simpa using h
  subst this;simp
 | c::l,k,0,h,hb,hn=>by
  cases k with
  | zero=>rfl
  | succ k =>
   by_cases z:c=10
   ·subst z;rw [ycM] at hb;lia
   ·rw [ycW z] at hb;lia
 | c::l,k,q+1,h,hb,hn=>by
  rw [List.take_succ_cons]
  by_cases z:c=10
  ·subst z
   rw [List.count_cons_self] at h hn ⊢
   cases k with
   | zero =>
    have:=hn (by lia)
    rw [ycM,bh0] at this;lia
   | succ k =>
    rw [ycM] at hb
    rw [zcc l k q (by lia) (by lia) (fun w=>by
     have:=hn (by lia)
     rw [ycM] at this;lia)]
  ·rw [List.count_cons_of_ne z] at h hn ⊢
   cases k with
   | zero =>
    exact zcc l 0 q (by lia) (by rw [bh0];lia) (fun w=>by
     have:=hn (by lia)
     rw [ycW z] at this;lia)
   | succ k =>
    rw [ycW z] at hb
    exact zcc l (k+1) q (by lia) (by lia) (fun w=>by
     have:=hn (by lia)
     rw [ycW z] at this;lia)
theorem yeW {l:List Nat} {k q:Nat} (hk:k<=l.count 10) (h1:bh l k<=q) (h2:q<=rend l k):(l.take q).count 10=k:=by
 refine zcc l k q hk h1 fun w=>?_
 unfold rend at h2
 rw [if_neg (by lia)] at h2
 obtain ⟨p,p1,_⟩:=zba l k w
 lia
def spl:List Nat->List (List Nat)
 | []=>[[]]
 | c::l=>if c=10 then []::spl l else match spl l with
  | r::rs=>(c::r)::rs
  | []=>[[c]]
def dueV (y:Str) (q:Nat):AV:=.tup [.int ((y.cps.toList.take q).count 10:Nat),.int ((q:Int)-(bh y.cps.toList ((y.cps.toList.take q).count 10):Nat))]
theorem zcd {h:AH} {p:Nat} {ps:List Pc} (S:ShelfAt h p ps) (g:Good ps) {n q:Nat} {x:Str} (t:TxZ ps n x) (hq:q<=x.length) :
  ∃ r:AH,yc8 [.ref p,.int n,.int q] h = .ok (dueV x q) (h++r):=by
 obtain ⟨m,em,sm⟩:=t.sg
 have fs:=zap S em
 have ob:=S.ob
 have c1:(q:Int)<=m.sg:=Int.ofNat_le.mpr (sm▸hq)
 have ck:ydB [.ref p,.int n,.int q] h = .ok .non h:=by
  simp [ydB,ob,fs,sm▸hq]
 obtain ⟨r,ea⟩:=zjl (q:=q) S g t
 have eb:=zca (k:=(x.cps.toList.take q).count 10) (S.app r) g t ((List.take_sublist _ _).count_le _)
 refine ⟨r,?_⟩
 unfold dueV
 generalize (x.cps.toList.take q).count 10=A at *
 generalize bh x.cps.toList A=B at *
 generalize h++r=h' at *
 simp [yc8,ck,ea,eb]
end Sk
namespace Sk
open PySem PySem.Spec L2 Sm
theorem zam (x y z:Str):(x++y)++z=x++(y++z):=zas (by simp only [zaf,List.append_assoc])
theorem ls83:1000000000000000000<ls 83:=by decide +kernel
theorem ht82 {ps:List Pc} (g:Good ps) {n:Nat} {m:Ms} {x:Str} {f l:Ms} (T:Tx ps n m x f l):m.ht<=82:=by
 have h1:=T.ls g
 have h2:=T.ky.most
 have h3:=T.ky.ht
 apply Classical.byContradiction
 intro h4
 have:=zf5 (show 83<=m.ht.toNat by lia)
 have:=ls83
 lia
theorem Good.cut {ps:List Pc} (g:Good ps) {n:Nat} {m:Ms} {x:Str} {f l:Ms} (T:Tx ps n m x f l) (hh:0<m.ht) :
  ∃ a b ma mb y z la fb,ps[n-1]? = some (.fork a b)/\Tx ps a ma y f la/\Tx ps b mb z fb l/\x=y++z/\m=ydn ma mb /\ -1<=ma.ht-mb.ht/\ma.ht-mb.ht<=1/\8<la.sg+fb.sg:=by
 rcases g.kind T with ⟨_,e,_⟩ | ⟨a,b,ma,mb,y,z,fa,la,fb,lb,e1,e2,e3,A,B,e4,e5,e6⟩
 ·lia
 ·have ok:ForkOk (ps.take (n-1)) a b:=g.get e1
  obtain ⟨ma',mb',la',fb',q1,q2,q3,q4,q5,_⟩:=(ok.pre (zb9 ps _)).ex
  have z1:=A.ms.symm.trans q1;cases z1
  have z2:=B.ms.symm.trans q2;cases z2
  have z3:=A.ky.ll.symm.trans q3;cases z3
  have z4:=B.ky.fl.symm.trans q4;cases z4
  have f1:=T.ky.fl
  have l1:=T.ky.ll
  rw [e5] at f1 l1
  have z5:=f1.symm.trans A.ky.fl;cases z5
  have z6:=l1.symm.trans B.ky.ll;cases z6
  exact ⟨a,b,ma,mb,y,z,la,fb,e1,A,B,e4,e5,by lia,by lia,q5⟩
structure Dn (F:AH->Out AV) (p:Nat) (h h':AH) (ps ps':List Pc) (k n:Nat):Prop where
 ev:F h = .ok (.int n) h'
 dd:Dd p h h' ps ps' k
 re:∀ h2 ps2,ShelfAt h2 p ps2->Good ps2->ps' <+: ps2->F h2 = .ok (.int n) h2
theorem Dd.trans {p:Nat} {h h' h'':AH} {ps ps' ps'':List Pc} {k k' k2:Nat} (a:Dd p h h' ps ps' k) (b:Dd p h' h'' ps' ps'' k') (hk:k+k'<=k2):Dd p h h'' ps ps'' k2 :=
 ⟨b.sh,b.gd,a.pre.trans b.pre,by have:=a.len;have:=b.len;lia,fun i hi=>(b.fr i hi).trans (a.fr i hi),b.hl.trans a.hl⟩
theorem Dd.refl {p:Nat} {h:AH} {ps:List Pc} (S:ShelfAt h p ps) (g:Good ps):Dd p h h ps ps 0:=⟨S,g,List.prefix_refl _,by lia,fun _ _=>rfl,rfl⟩
theorem Dn.seq {F F1:AH->Out AV} {F2:AV->AH->Out AV} {p:Nat} {h h1 h2:AH} {ps ps1 ps2:List Pc} {k1 k2 k n1 n2:Nat} (S:ShelfAt h p ps) (g:Good ps) (d1:Dn F1 p h h1 ps ps1 k1 n1) (d2:Dn (F2 (.int n1)) p h1 h2 ps1 ps2 k2 n2)
  (eq:∀ hh pp,ShelfAt hh p pp->Good pp->ps <+: pp->F hh=(F1 hh).bind F2) (hk:k1+k2<=k):Dn F p h h2 ps ps2 k n2:=by
 refine ⟨?_,d1.dd.trans d2.dd hk,fun h3 ps3 S3 g3 p3=>?_⟩
 ·rw [eq h ps S g (List.prefix_refl _),d1.ev];exact d2.ev
 ·rw [eq h3 ps3 S3 g3 (d1.dd.pre.trans (d2.dd.pre.trans p3)),d1.re h3 ps3 S3 g3 (d2.dd.pre.trans p3)]
  exact d2.re h3 ps3 S3 g3 p3
theorem Dn.as {F F1:AH->Out AV} {p:Nat} {h h1:AH} {ps ps1:List Pc} {k1 k n1:Nat} (S:ShelfAt h p ps) (g:Good ps) (d1:Dn F1 p h h1 ps ps1 k1 n1) (eq:∀ hh pp,ShelfAt hh p pp->Good pp->ps <+: pp->F hh=F1 hh) (hk:k1<=k):Dn F p h h1 ps ps1 k n1:=by
 refine ⟨?_,{ d1.dd with len:=Nat.le_trans d1.dd.len (Nat.add_le_add_left hk _) },fun h3 ps3 S3 g3 p3=>?_⟩
 ·rw [eq h ps S g (List.prefix_refl _)];exact d1.ev
 ·rw [eq h3 ps3 S3 g3 (d1.dd.pre.trans p3)];exact d1.re h3 ps3 S3 g3 p3
theorem Dn.val {F:AH->Out AV} {p n:Nat} {h:AH} {ps:List Pc} (S:ShelfAt h p ps) (g:Good ps) (eq:∀ hh pp,ShelfAt hh p pp->Good pp->ps <+: pp->F hh = .ok (.int n) hh):Dn F p h h ps ps 0 n :=
 ⟨eq h ps S g (List.prefix_refl _),Dd.refl S g,fun h3 ps3 S3 g3 p3=>eq h3 ps3 S3 g3 p3⟩
theorem ybh {ps ps':List Pc} (h:ps <+: ps') {i:Nat} {q:Pc} (e:ps[i]? = some q):ps'[i]? = some q:=by
 obtain ⟨r,rfl⟩:=h
 rw [List.getElem?_append_left (List.getElem?_eq_some_iff.mp e).1];exact e
theorem zf7 {h:AH} {p:Nat} {ps:List Pc} {x:Str} (S:ShelfAt h p ps) (g:Good ps) (hx:ybC x=true) (hz:ps.length<16000000) :
  ∃ (n:Nat) (ps':List Pc) (h':AH),Dn (yaM [.ref p,.str x]) p h h' ps ps' 1 n/\Tx ps' n (lfMs x n) x (lfMs x n) (lfMs x n):=by
 obtain ⟨s1,s2,s3⟩:=zbS hx
 have hs:x.length<=sizeLine:=Nat.le_trans s2 (by decide)
 by_cases hq:Pc.leaf x∈ps
 ·obtain ⟨i,hi,e⟩:=List.getElem_of_mem hq
  have e':ps[i]? = some (.leaf x):=by rw [List.getElem?_eq_getElem hi,e]
  exact ⟨i+1,ps,h,⟨zbu S g.nodup hx hs e',⟨S,g,List.prefix_refl _,by lia,fun _ _=>rfl,rfl⟩,fun h2 ps2 S2 g2 p2=>zbu S2 g2.nodup hx hs (ybh p2 e')⟩,zbi g e'⟩
 ·have g':Good (ps++[.leaf x]):=.snoc g hq hx
  have e':(ps++[Pc.leaf x])[ps.length]? = some (.leaf x):=by simp
  exact ⟨ps.length+1,_,_,⟨zdB S hx hs hq hz,⟨zbh S,g',List.prefix_append _ _,by simp,fun i hi=>zb7 hi,zbO _ _ _⟩,fun h2 ps2 S2 g2 p2=>zbu S2 g2.nodup hx hs (ybh p2 e')⟩,zbi g' e'⟩
theorem zaF {h:AH} {p:Nat} {ps:List Pc} {a b:Nat} {ma mb fa la fb lb:Ms} {x y:Str} (S:ShelfAt h p ps) (g:Good ps) (A:Tx ps a ma x fa la) (B:Tx ps b mb y fb lb) (hc:8<la.sg+fb.sg) (v1 : -1<=ma.ht-mb.ht) (v2:ma.ht-mb.ht<=1) (hm:ma.sg+mb.sg<=1000000000000000000) (hz:ps.length<16000000) :
  ∃ (n:Nat) (ps':List Pc) (h':AH),Dn (yaf [.ref p,.int a,.int b]) p h h' ps ps' 1 n/\Tx ps' n (ydn ma mb) (x++y) fa lb:=by
 have F:ForkOk ps a b:=⟨A.n1,B.n1,ma,mb,la,fb,A.ms,B.ms,A.ky.ll,B.ky.fl,hc,by lia,hm⟩
 by_cases hq:Pc.fork a b∈ps
 ·obtain ⟨i,hi,e⟩:=List.getElem_of_mem hq
  have e':ps[i]? = some (.fork a b):=by rw [List.getElem?_eq_getElem hi,e]
  exact ⟨i+1,ps,h,⟨zbv S g.nodup F e',⟨S,g,List.prefix_refl _,by lia,fun _ _=>rfl,rfl⟩,fun h2 ps2 S2 g2 p2=>zbv S2 g2.nodup (F.pre p2) (ybh p2 e')⟩,zbj g e' A B⟩
 ·have g':Good (ps++[.fork a b]):=.snoc g hq F
  have e':(ps++[Pc.fork a b])[ps.length]? = some (.fork a b):=by simp
  have pr:ps <+: ps++[Pc.fork a b]:=List.prefix_append _ _
  exact ⟨ps.length+1,_,_,⟨zdC S F hq hz,⟨zbh S,g',pr,by simp,fun i hi=>zb7 hi,zbO _ _ _⟩,fun h2 ps2 S2 g2 p2=>zbv S2 g2.nodup (F.pre (pr.trans p2)) (ybh p2 e')⟩,zbj g' e' (A.pre pr) (B.pre pr)⟩
theorem fmS (ma mb:Ms):(ydn ma mb).sg=ma.sg+mb.sg:=rfl
theorem fmH (ma mb:Ms):(ydn ma mb).ht=max ma.ht mb.ht+1:=rfl
theorem i1 (s:Str) (a b:Int) (h:AH):fIx (.tup [.str s,.int a,.int b]) (.int 1) h = .ok (.int a) h:=rfl
theorem i2 (s:Str) (a b:Int) (h:AH):fIx (.tup [.str s,.int a,.int b]) (.int 2) h = .ok (.int b) h:=rfl
theorem zaS {h:AH} {p:Nat} {ps:List Pc} {n a b:Nat} (S:ShelfAt h p ps) (n1:1<=n) (e:ps[n-1]? = some (.fork a b)):yaA [.ref p,.int n] h = .ok (.tup [.str "fork",.int a,.int b]) h:=zaW S n1 e
theorem tl_1 {h:AH} {p:Nat} {ps:List Pc} {a b:Nat} {ma mb:Ms} (S:ShelfAt h p ps) (ea:(meas ps)[a]? = some ma) (eb:(meas ps)[b]? = some mb) (hd:mb.ht-ma.ht<2) :
  yaS [.ref p,.int a,.int b] h=yaf [.ref p,.int a,.int b] h:=by
 have f1:=zae S ea
 have f2:=zae S eb
 generalize hF:yaf [.ref p,.int a,.int b] h=R
 simp [yaS,S.ob,f1,f2,hd,hF]
 cases R<;>rfl
theorem tl_2 {h:AH} {p:Nat} {ps:List Pc} {a b c d:Nat} {ma mb mc md:Ms} (S:ShelfAt h p ps) (b1:1<=b) (ea:(meas ps)[a]? = some ma) (eb:(meas ps)[b]? = some mb) (e:ps[b-1]? = some (.fork c d)) (ec:(meas ps)[c]? = some mc) (ed:(meas ps)[d]? = some md) (hd : ¬ mb.ht-ma.ht<2) (hh:mc.ht<=md.ht) :
  yaS [.ref p,.int a,.int b] h=(yaf [.ref p,.int a,.int c] h).bind fun v h1=>yaf [.ref p,v,.int d] h1:=by
 have f1:=zae S ea
 have f2:=zae S eb
 have f3:=zaS S b1 e
 have f4:=zae S ec
 have f5:=zae S ed
 generalize hF:yaf [.ref p,.int a,.int c] h=R
 simp [yaS,S.ob,f1,f2,hd,f3,i1,i2,f4,f5,hh,hF,-fIx]
 cases R with
 | ok v h1=>dsimp only;cases yaf [.ref p,v,.int d] h1<;>rfl
 | ex c h1=>rfl
 | bad=>rfl
def onSh (p:Nat) (F:AH->Out AV) (h:AH):Out AV:=match h[p]? with
 | some (.ins c' _)=>if c'=0 then F h else .bad
 | _=>.bad
theorem zf8 {h:AH} {p:Nat} {ps:List Pc} (S:ShelfAt h p ps) (F:AH->Out AV):onSh p F h=F h:=by simp [onSh,S.ob]
theorem tl_3 {h:AH} {p:Nat} {ps:List Pc} {a b c d i j:Nat} {ma mb mc md:Ms} (S:ShelfAt h p ps) (b1:1<=b) (c1:1<=c) (ea:(meas ps)[a]? = some ma) (eb:(meas ps)[b]? = some mb) (e:ps[b-1]? = some (.fork c d)) (ec:(meas ps)[c]? = some mc) (ed:(meas ps)[d]? = some md) (e2:ps[c-1]? = some (.fork i j)) (hd : ¬ mb.ht-ma.ht<2) (hh : ¬ mc.ht<=md.ht) :
  yaS [.ref p,.int a,.int b] h=(yaf [.ref p,.int a,.int i] h).bind fun v h1=>(onSh p (yaf [.ref p,.int j,.int d]) h1).bind fun w h2=>yaf [.ref p,v,w] h2:=by
 have f1:=zae S ea
 have f2:=zae S eb
 have f3:=zaS S b1 e
 have f4:=zae S ec
 have f5:=zae S ed
 have f6:=zaS S c1 e2
 generalize hF:yaf [.ref p,.int a,.int i] h=R
 simp [yaS,S.ob,f1,f2,hd,f3,i1,i2,f4,f5,hh,f6,hF,-fIx]
 cases R with
 | ok v h1 =>
  unfold onSh
  dsimp only
  cases hx:h1[p]? with
  | none=>rfl
  | some o =>
   cases o with
   | lst l=>rfl
   | dct q l=>rfl
   | ins c' l =>
    dsimp only
    by_cases z:c'=0
    ·rw [if_pos z]
     cases yaf [.ref p,.int j,.int d] h1 with
     | ok w h2=>dsimp only;cases yaf [.ref p,v,w] h2<;>rfl
     | ex c h2=>rfl
     | bad=>rfl
    ·rw [if_neg z]
 | ex c h1=>rfl
 | bad=>rfl
theorem tlh1 {a b m:Int} (h1 : -1<=b-a) (h2:b-a<2) (e:m=max a b+1):max a b<=m/\m<=max a b+1/\(b-a<=1->m=max a b+1):=by lia
theorem zf9 {h:AH} {p:Nat} {ps:List Pc} {a b:Nat} {ma mb fa la fb lb:Ms} {x y:Str} (S:ShelfAt h p ps) (g:Good ps) (A:Tx ps a ma x fa la) (B:Tx ps b mb y fb lb) (hc:8<la.sg+fb.sg) (v1 : -1<=mb.ht-ma.ht) (v2:mb.ht-ma.ht<=2) (hm:ma.sg+mb.sg<=1000000000000000000) (hz:ps.length+3<16000000) :
  ∃ (n:Nat) (ps':List Pc) (h':AH) (m:Ms),Dn (yaS [.ref p,.int a,.int b]) p h h' ps ps' 3 n/\Tx ps' n m (x++y) fa lb/\max ma.ht mb.ht<=m.ht/\m.ht<=max ma.ht mb.ht+1/\(mb.ht-ma.ht<=1->m.ht=max ma.ht mb.ht+1):=by
 by_cases q:mb.ht-ma.ht<2
 ·obtain ⟨n,ps',h',d,T⟩:=zaF S g A B hc (by lia) (by lia) hm (by lia)
  exact ⟨n,ps',h',_,d.as S g (fun hh pp S' _ pr=>tl_1 S' (zac pr A.ms) (zac pr B.ms) q) (by lia),T,tlh1 v1 q (fmH ma mb)⟩
 ·obtain ⟨c,d,mc,md,y1,y2,lc,fd,e,C,D,rfl,em,w1,w2,w3⟩:=g.cut B (by have:=A.ky.ht;lia)
  have sg:=congrArg Ms.sg em
  have ht:=congrArg Ms.ht em
  rw [fmS] at sg
  rw [fmH] at ht
  by_cases r:mc.ht<=md.ht
  ·obtain ⟨n1,ps1,h1,d1,T1⟩:=zaF S g A C hc (by lia) (by lia) (by lia) (by lia)
   obtain ⟨n2,ps2,h2,d2,T2⟩:=zaF d1.dd.sh d1.dd.gd T1 (D.pre d1.dd.pre) w3 (by rw [fmH];lia) (by rw [fmH];lia) (by rw [fmS];lia) (by have:=d1.dd.len;lia)
   rw [zam] at T2
   refine ⟨n2,ps2,h2,_,Dn.seq S g d1 d2 (fun hh pp S' _ pr=>tl_2 S' B.n1 (zac pr A.ms) (zac pr B.ms) (ybh pr e) (zac pr C.ms) (zac pr D.ms) q r) (by lia),T2,?_⟩
   rw [fmH,fmH];lia
  ·obtain ⟨i,j,mi,mj,z1,z2,li,fj,e2,I,J,rfl,em2,u1,u2,u3⟩:=g.cut C (by have:=D.ky.ht;lia)
   have sg2:=congrArg Ms.sg em2
   have ht2:=congrArg Ms.ht em2
   rw [fmS] at sg2
   rw [fmH] at ht2
   obtain ⟨n1,ps1,h1,d1,T1⟩:=zaF S g A I hc (by lia) (by lia) (by lia) (by lia)
   obtain ⟨n2,ps2,h2,d2,T2⟩:=zaF d1.dd.sh d1.dd.gd (J.pre d1.dd.pre) (D.pre d1.dd.pre) w3 (by lia) (by lia) (by lia) (by have:=d1.dd.len;lia)
   obtain ⟨n3,ps3,h3,d3,T3⟩:=zaF d2.dd.sh d2.dd.gd (T1.pre d2.dd.pre) T2 u3 (by rw [fmH,fmH];lia) (by rw [fmH,fmH];lia) (by rw [fmS,fmS];lia) (by have:=d1.dd.len;have:=d2.dd.len;lia)
   have d2':Dn (onSh p (yaf [.ref p,.int j,.int d])) p h1 h2 ps1 ps2 1 n2:=d2.as d1.dd.sh d1.dd.gd (fun hh pp S' _ _=>zf8 S' _) (Nat.le_refl _)
   have d23:=Dn.seq (F:=fun h1=>(onSh p (yaf [.ref p,.int j,.int d]) h1).bind fun w h2=>yaf [.ref p,.int n1,w] h2) (F2:=fun w h2=>yaf [.ref p,.int n1,w] h2) d1.dd.sh d1.dd.gd d2' d3 (fun _ _ _ _ _=>rfl) (k:=2) (by lia)
   have ea:(x++z1)++(z2++y2)=x++(z1++z2++y2):=by rw [zam,zam]
   rw [ea] at T3
   refine ⟨n3,ps3,h3,_,Dn.seq (F2:=fun v h1=>(onSh p (yaf [.ref p,.int j,.int d]) h1).bind fun w h2=>yaf [.ref p,v,w] h2) S g d1 d23 (fun hh pp S' _ pr=>tl_3 S' B.n1 C.n1 (zac pr A.ms) (zac pr B.ms) (ybh pr e) (zac pr C.ms) (zac pr D.ms) (ybh pr e2) q r) (by lia),T3,?_⟩
   rw [fmH,fmH,fmH];lia
theorem tr_1 {h:AH} {p:Nat} {ps:List Pc} {a b:Nat} {ma mb:Ms} (S:ShelfAt h p ps) (ea:(meas ps)[a]? = some ma) (eb:(meas ps)[b]? = some mb) (hd:ma.ht-mb.ht<2) :
  ya0 [.ref p,.int a,.int b] h=yaf [.ref p,.int a,.int b] h:=by
 have f1:=zae S ea
 have f2:=zae S eb
 generalize hF:yaf [.ref p,.int a,.int b] h=R
 simp [ya0,S.ob,f1,f2,hd,hF]
 cases R<;>rfl
theorem tr_2 {h:AH} {p:Nat} {ps:List Pc} {a b c d:Nat} {ma mb mc md:Ms} (S:ShelfAt h p ps) (a1:1<=a) (ea:(meas ps)[a]? = some ma) (eb:(meas ps)[b]? = some mb) (e:ps[a-1]? = some (.fork c d)) (ec:(meas ps)[c]? = some mc) (ed:(meas ps)[d]? = some md) (hd : ¬ ma.ht-mb.ht<2) (hh:md.ht<=mc.ht) :
  ya0 [.ref p,.int a,.int b] h=(yaf [.ref p,.int d,.int b] h).bind fun v h1=>yaf [.ref p,.int c,v] h1:=by
 have f1:=zae S ea
 have f2:=zae S eb
 have f3:=zaS S a1 e
 have f4:=zae S ec
 have f5:=zae S ed
 generalize hF:yaf [.ref p,.int d,.int b] h=R
 simp [ya0,S.ob,f1,f2,hd,f3,i1,i2,f4,f5,hh,hF,-fIx]
 cases R with
 | ok v h1=>dsimp only;cases yaf [.ref p,.int c,v] h1<;>rfl
 | ex c h1=>rfl
 | bad=>rfl
theorem tr_3 {h:AH} {p:Nat} {ps:List Pc} {a b c d i j:Nat} {ma mb mc md:Ms} (S:ShelfAt h p ps) (a1:1<=a) (d1:1<=d) (ea:(meas ps)[a]? = some ma) (eb:(meas ps)[b]? = some mb) (e:ps[a-1]? = some (.fork c d)) (ec:(meas ps)[c]? = some mc) (ed:(meas ps)[d]? = some md) (e2:ps[d-1]? = some (.fork i j)) (hd : ¬ ma.ht-mb.ht<2) (hh : ¬ md.ht<=mc.ht) :
  ya0 [.ref p,.int a,.int b] h=(yaf [.ref p,.int c,.int i] h).bind fun v h1=>(onSh p (yaf [.ref p,.int j,.int b]) h1).bind fun w h2=>yaf [.ref p,v,w] h2:=by
 have f1:=zae S ea
 have f2:=zae S eb
 have f3:=zaS S a1 e
 have f4:=zae S ec
 have f5:=zae S ed
 have f6:=zaS S d1 e2
 generalize hF:yaf [.ref p,.int c,.int i] h=R
 simp [ya0,S.ob,f1,f2,hd,f3,i1,i2,f4,f5,hh,f6,hF,-fIx]
 cases R with
 | ok v h1 =>
  unfold onSh
  dsimp only
  cases hx:h1[p]? with
  | none=>rfl
  | some o =>
   cases o with
   | lst l=>rfl
   | dct q l=>rfl
   | ins c' l =>
    dsimp only
    by_cases z:c'=0
    ·rw [if_pos z]
     cases yaf [.ref p,.int j,.int b] h1 with
     | ok w h2=>dsimp only;cases yaf [.ref p,v,w] h2<;>rfl
     | ex c h2=>rfl
     | bad=>rfl
    ·rw [if_neg z]
 | ex c h1=>rfl
 | bad=>rfl
theorem zik {h:AH} {p:Nat} {ps:List Pc} {a b:Nat} {ma mb fa la fb lb:Ms} {x y:Str} (S:ShelfAt h p ps) (g:Good ps) (A:Tx ps a ma x fa la) (B:Tx ps b mb y fb lb) (hc:8<la.sg+fb.sg) (v1 : -1<=ma.ht-mb.ht) (v2:ma.ht-mb.ht<=2) (hm:ma.sg+mb.sg<=1000000000000000000) (hz:ps.length+3<16000000) :
  ∃ (n:Nat) (ps':List Pc) (h':AH) (m:Ms),Dn (ya0 [.ref p,.int a,.int b]) p h h' ps ps' 3 n/\Tx ps' n m (x++y) fa lb/\max ma.ht mb.ht<=m.ht/\m.ht<=max ma.ht mb.ht+1/\(ma.ht-mb.ht<=1->m.ht=max ma.ht mb.ht+1):=by
 by_cases q:ma.ht-mb.ht<2
 ·obtain ⟨n,ps',h',d,T⟩:=zaF S g A B hc (by lia) (by lia) hm (by lia)
  refine ⟨n,ps',h',_,d.as S g (fun hh pp S' _ pr=>tr_1 S' (zac pr A.ms) (zac pr B.ms) q) (by lia),T,?_⟩
  rw [fmH];lia
 ·obtain ⟨c,d,mc,md,y1,y2,lc,fd,e,C,D,rfl,em,w1,w2,w3⟩:=g.cut A (by have:=B.ky.ht;lia)
  have sg:=congrArg Ms.sg em
  have ht:=congrArg Ms.ht em
  rw [fmS] at sg
  rw [fmH] at ht
  by_cases r:md.ht<=mc.ht
  ·obtain ⟨n1,ps1,h1,d1,T1⟩:=zaF S g D B hc (by lia) (by lia) (by lia) (by lia)
   obtain ⟨n2,ps2,h2,d2,T2⟩:=zaF d1.dd.sh d1.dd.gd (C.pre d1.dd.pre) T1 w3 (by rw [fmH];lia) (by rw [fmH];lia) (by rw [fmS];lia) (by have:=d1.dd.len;lia)
   rw [<- zam] at T2
   refine ⟨n2,ps2,h2,_,Dn.seq (F2:=fun v h1=>yaf [.ref p,.int c,v] h1) S g d1 d2 (fun hh pp S' _ pr=>tr_2 S' A.n1 (zac pr A.ms) (zac pr B.ms) (ybh pr e) (zac pr C.ms) (zac pr D.ms) q r) (by lia),T2,?_⟩
   rw [fmH,fmH];lia
  ·obtain ⟨i,j,mi,mj,z1,z2,li,fj,e2,I,J,rfl,em2,u1,u2,u3⟩:=g.cut D (by have:=C.ky.ht;lia)
   have sg2:=congrArg Ms.sg em2
   have ht2:=congrArg Ms.ht em2
   rw [fmS] at sg2
   rw [fmH] at ht2
   obtain ⟨n1,ps1,h1,d1,T1⟩:=zaF S g C I w3 (by lia) (by lia) (by lia) (by lia)
   obtain ⟨n2,ps2,h2,d2,T2⟩:=zaF d1.dd.sh d1.dd.gd (J.pre d1.dd.pre) (B.pre d1.dd.pre) hc (by lia) (by lia) (by lia) (by have:=d1.dd.len;lia)
   obtain ⟨n3,ps3,h3,d3,T3⟩:=zaF d2.dd.sh d2.dd.gd (T1.pre d2.dd.pre) T2 u3 (by rw [fmH,fmH];lia) (by rw [fmH,fmH];lia) (by rw [fmS,fmS];lia) (by have:=d1.dd.len;have:=d2.dd.len;lia)
   have d2':Dn (onSh p (yaf [.ref p,.int j,.int b])) p h1 h2 ps1 ps2 1 n2:=d2.as d1.dd.sh d1.dd.gd (fun hh pp S' _ _=>zf8 S' _) (Nat.le_refl _)
   have d23:=Dn.seq (F:=fun h1=>(onSh p (yaf [.ref p,.int j,.int b]) h1).bind fun w h2=>yaf [.ref p,.int n1,w] h2) (F2:=fun w h2=>yaf [.ref p,.int n1,w] h2) d1.dd.sh d1.dd.gd d2' d3 (fun _ _ _ _ _=>rfl) (k:=2) (by lia)
   have ea:(y1++z1)++(z2++y)=y1++(z1++z2)++y:=by rw [zam,zam,zam]
   rw [ea] at T3
   refine ⟨n3,ps3,h3,_,Dn.seq (F2:=fun v h1=>(onSh p (yaf [.ref p,.int j,.int b]) h1).bind fun w h2=>yaf [.ref p,v,w] h2) S g d1 d23 (fun hh pp S' _ pr=>tr_3 S' A.n1 D.n1 (zac pr A.ms) (zac pr B.ms) (ybh pr e) (zac pr C.ms) (zac pr D.ms) (ybh pr e2) q r) (by lia),T3,?_⟩
   rw [fmH,fmH,fmH];lia
end Sk
namespace Sk
open PySem PySem.Spec L2 Sm
theorem Dn.seq' {F F1 F2:AH->Out AV} {p:Nat} {h h1 h2:AH} {ps ps1 ps2:List Pc} {k1 k2 k n1 n2:Nat} (S:ShelfAt h p ps) (g:Good ps) (d1:Dn F1 p h h1 ps ps1 k1 n1) (d2:Dn F2 p h1 h2 ps1 ps2 k2 n2)
  (eq:∀ hh hh1 pp,ShelfAt hh p pp->Good pp->ps <+: pp->F1 hh = .ok (.int n1) hh1->F hh=F2 hh1) (hk:k1+k2<=k):Dn F p h h2 ps ps2 k n2:=by
 refine ⟨?_,d1.dd.trans d2.dd hk,fun h3 ps3 S3 g3 p3=>?_⟩
 ·rw [eq h h1 ps S g (List.prefix_refl _) d1.ev];exact d2.ev
 ·rw [eq h3 h3 ps3 S3 g3 (d1.dd.pre.trans (d2.dd.pre.trans p3)) (d1.re h3 ps3 S3 g3 (d2.dd.pre.trans p3))]
  exact d2.re h3 ps3 S3 g3 p3
theorem lk_1 {h:AH} {p:Nat} {ps:List Pc} {a b d:Nat} {ma mb:Ms} (S:ShelfAt h p ps) (ea:(meas ps)[a]? = some ma) (eb:(meas ps)[b]? = some mb) (h1:ma.ht-mb.ht<=1) (h2 : -1<=ma.ht-mb.ht) :
  ya9 (d+1) [.ref p,.int a,.int b] h=yaf [.ref p,.int a,.int b] h:=by
 have f1:=zae S ea
 have f2:=zae S eb
 have c1 : ¬ 1<ma.ht-mb.ht:=by lia
 have c2 : ¬ ma.ht-mb.ht < -1:=by lia
 generalize hF:yaf [.ref p,.int a,.int b] h=R
 simp [ya9,yd8,S.ob,f1,f2,c1,c2,hF]
 cases R<;>rfl
theorem lk_2 {h h1:AH} {p:Nat} {ps:List Pc} {a b c e d:Nat} {v:Int} {ma mb:Ms} (S:ShelfAt h p ps) (a1:1<=a) (ea:(meas ps)[a]? = some ma) (eb:(meas ps)[b]? = some mb) (ep:ps[a-1]? = some (.fork c e)) (hd:1<ma.ht-mb.ht) (ev:ya9 d [.ref p,.int e,.int b] h = .ok (.int v) h1) :
  ya9 (d+1) [.ref p,.int a,.int b] h=yaS [.ref p,.int c,.int v] h1:=by
 have f1:=zae S ea
 have f2:=zae S eb
 have f3:=zaS S a1 ep
 generalize hF:yaS [.ref p,.int c,.int v] h1=R
 simp [ya9,yd8,S.ob,f1,f2,hd,f3,i1,i2,ev,hF,-fIx]
 cases R<;>rfl
theorem lk_3 {h h1:AH} {p:Nat} {ps:List Pc} {a b c e d:Nat} {v:Int} {ma mb:Ms} (S:ShelfAt h p ps) (b1:1<=b) (ea:(meas ps)[a]? = some ma) (eb:(meas ps)[b]? = some mb) (ep:ps[b-1]? = some (.fork c e)) (hd:ma.ht-mb.ht < -1) (ev:ya9 d [.ref p,.int a,.int c] h = .ok (.int v) h1) :
  ya9 (d+1) [.ref p,.int a,.int b] h=ya0 [.ref p,.int v,.int e] h1:=by
 have f1:=zae S ea
 have f2:=zae S eb
 have f3:=zaS S b1 ep
 have c1 : ¬ 1<ma.ht-mb.ht:=by lia
 generalize hF:ya0 [.ref p,.int v,.int e] h1=R
 simp [ya9,yd8,S.ob,f1,f2,c1,hd,f3,i1,i2,ev,hF,-fIx]
 cases R<;>rfl
theorem zce {p:Nat}:∀ (d t:Nat) {h:AH} {ps:List Pc} {a b:Nat} {ma mb fa la fb lb:Ms} {x y:Str} (S:ShelfAt h p ps) (g:Good ps) (A:Tx ps a ma x fa la) (B:Tx ps b mb y fb lb) (hc:8<la.sg+fb.sg) (hm:ma.sg+mb.sg<=1000000000000000000)
  (ht:(ma.ht-mb.ht).natAbs<=t) (hd:t<d) (hz:ps.length+3*t+4<16000000),
  ∃ (n:Nat) (ps':List Pc) (h':AH) (m:Ms),Dn (ya9 d [.ref p,.int a,.int b]) p h h' ps ps' (3*t+1) n/\Tx ps' n m (x++y) fa lb/\max ma.ht mb.ht<=m.ht/\m.ht<=max ma.ht mb.ht+1
 | 0,t,h,ps,a,b,ma,mb,fa,la,fb,lb,x,y,S,g,A,B,hc,hm,ht,hd,hz=>absurd hd (Nat.not_lt_zero t)
 | d+1,t,h,ps,a,b,ma,mb,fa,la,fb,lb,x,y,S,g,A,B,hc,hm,ht,hd,hz=>by
  by_cases q1:1<ma.ht-mb.ht
  ·obtain ⟨c,e,mc,me,y1,y2,lc,fe,ep,C,E,rfl,em,w1,w2,w3⟩:=g.cut A (by have:=B.ky.ht;lia)
   have sg:=congrArg Ms.sg em
   have hh:=congrArg Ms.ht em
   rw [fmS] at sg
   rw [fmH] at hh
   obtain ⟨n1,ps1,h1,m1,d1,T1,u1,u2⟩:=zce d (t-1) S g E B hc (by lia) (by lia) (by lia) (by lia)
   have s1:m1.sg=me.sg+mb.sg:=by rw [T1.ky.sg,zaB,<- E.ky.sg,<- B.ky.sg]
   obtain ⟨n2,ps2,h2,m2,d2,T2,u3,u4,u5⟩:=zf9 d1.dd.sh d1.dd.gd (C.pre d1.dd.pre) T1 w3 (by lia) (by lia) (by lia) (by have:=d1.dd.len;lia)
   rw [<- zam] at T2
   exact ⟨n2,ps2,h2,m2,Dn.seq' S g d1 d2 (fun hh hh1 pp S' _ pr ev=>lk_2 S' A.n1 (zac pr A.ms) (zac pr B.ms) (ybh pr ep) q1 ev) (by lia),T2,by lia,by lia⟩
  ·by_cases q2:ma.ht-mb.ht < -1
   ·obtain ⟨c,e,mc,me,y1,y2,lc,fe,ep,C,E,rfl,em,w1,w2,w3⟩:=g.cut B (by have:=A.ky.ht;lia)
    have sg:=congrArg Ms.sg em
    have hh:=congrArg Ms.ht em
    rw [fmS] at sg
    rw [fmH] at hh
    obtain ⟨n1,ps1,h1,m1,d1,T1,u1,u2⟩:=zce d (t-1) S g A C hc (by lia) (by lia) (by lia) (by lia)
    have s1:m1.sg=ma.sg+mc.sg:=by rw [T1.ky.sg,zaB,<- A.ky.sg,<- C.ky.sg]
    obtain ⟨n2,ps2,h2,m2,d2,T2,u3,u4,u5⟩:=zik d1.dd.sh d1.dd.gd T1 (E.pre d1.dd.pre) w3 (by lia) (by lia) (by lia) (by have:=d1.dd.len;lia)
    rw [zam] at T2
    exact ⟨n2,ps2,h2,m2,Dn.seq' S g d1 d2 (fun hh hh1 pp S' _ pr ev=>lk_3 S' B.n1 (zac pr A.ms) (zac pr B.ms) (ybh pr ep) q2 ev) (by lia),T2,by lia,by lia⟩
   ·obtain ⟨n,ps',h',dn,T⟩:=zaF S g A B hc (by lia) (by lia) hm (by lia)
    exact ⟨n,ps',h',_,dn.as S g (fun hh pp S' _ pr=>lk_1 S' (zac pr A.ms) (zac pr B.ms) (by lia) (by lia)) (by lia),T,by rw [fmH];lia,by rw [fmH];lia⟩
theorem zcO {h:AH} {p:Nat} {ps:List Pc} {n:Nat} {x:Str} (S:ShelfAt h p ps) (n1:1<=n) (e:ps[n-1]? = some (.leaf x)):yaA [.ref p,.int n] h = .ok (.tup [.str "leaf",.str x]) h:=zaW S n1 e
theorem i0L (x:Str) (h:AH):fIx (.tup [.str "leaf",.str x]) (.int 0) h = .ok (.str "leaf") h:=rfl
theorem i0F (a b:Int) (h:AH):fIx (.tup [.str "fork",.int a,.int b]) (.int 0) h = .ok (.str "fork") h:=rfl
theorem i1L (x:Str) (h:AH):fIx (.tup [.str "leaf",.str x]) (.int 1) h = .ok (.str x) h:=rfl
theorem eqL (h:AH):fEq (.str "leaf") (.str "leaf") h = .ok (.bl true) h:=by simp
theorem eqF (h:AH):fEq (.str "fork") (.str "leaf") h = .ok (.bl false) h:=by
 have : ¬ (Str.ofString "fork" = Str.ofString "leaf"):=by decide +kernel
 simp [this]
theorem wl_1 {h:AH} {p:Nat} {ps:List Pc} {a d:Nat} {L:Int} {x:Str} (S:ShelfAt h p ps) (a1:1<=a) (ep:ps[a-1]? = some (.leaf x)):yba (d+1) [.ref p,.int a,.int L] h = .ok (.int L) h:=by
 simp [yba,ydW,S.ob,zcO S a1 ep,i0L,eqL,-fIx,-fEq]
theorem wl_2 {h h1:AH} {p:Nat} {ps:List Pc} {a d c e:Nat} {L v:Int} (S:ShelfAt h p ps) (a1:1<=a) (ep:ps[a-1]? = some (.fork c e)) (ev:yba d [.ref p,.int e,.int L] h = .ok (.int v) h1) :
  yba (d+1) [.ref p,.int a,.int L] h=yaf [.ref p,.int c,.int v] h1:=by
 generalize hF:yaf [.ref p,.int c,.int v] h1=R
 simp [yba,ydW,S.ob,zaS S a1 ep,i0F,i1,i2,eqF,ev,hF,-fIx,-fEq]
 cases R<;>rfl
theorem zcP {ps:List Pc} {n:Nat} {m:Ms} {x:Str} {f l:Ms} (T:Tx ps n m x f l) (e:m=lfMs x n):f=m/\l=m:=by
 have h1:=T.ky.fl
 have h2:=T.ky.ll
 have h3:=T.ms
 rw [e] at h1 h2
 exact ⟨Option.some.inj (h1.symm.trans h3),Option.some.inj (h2.symm.trans h3)⟩
theorem zga {p:Nat}:∀ (d:Nat) {h:AH} {ps:List Pc} {a L:Nat} {m f l:Ms} {x w:Str} (S:ShelfAt h p ps) (g:Good ps) (T:Tx ps a m x f l) (N:Tx ps L (lfMs w L) w (lfMs w L) (lfMs w L)) (hw:l.sg<=w.length) (hm:m.sg+w.length<=1000000000000000000+l.sg) (hd:m.ht.toNat<d) (hz:ps.length+m.ht.toNat<16000000),
  ∃ (n:Nat) (ps':List Pc) (h':AH) (m' f':Ms) (u v:Str),Dn (yba d [.ref p,.int a,.int L]) p h h' ps ps' m.ht.toNat n/\x=u++v/\v.length=l.sg/\Tx ps' n m' (u++w) f' (lfMs w L)/\m'.ht=m.ht/\f.sg<=f'.sg
 | 0,h,ps,a,L,m,f,l,x,w,S,g,T,N,hw,hm,hd,hz=>absurd hd (Nat.not_lt_zero _)
 | d+1,h,ps,a,L,m,f,l,x,w,S,g,T,N,hw,hm,hd,hz=>by
  by_cases q:0<m.ht
  ·obtain ⟨c,e,mc,me,y1,y2,lc,fe,ep,C,E,rfl,em,w1,w2,w3⟩:=g.cut T q
   have sg:=congrArg Ms.sg em
   have hh:=congrArg Ms.ht em
   rw [fmS] at sg
   rw [fmH] at hh
   have c0:=C.ky.ht
   have e0:=E.ky.ht
   obtain ⟨n1,ps1,h1,m1,f1,u,v,d1,rfl,lv,T1,k1,k2⟩:=zga d S g E N hw (by lia) (by lia) (by lia)
   have s1:m1.sg+l.sg=me.sg+w.length:=by rw [T1.ky.sg,E.ky.sg,zaB,zaB];lia
   obtain ⟨n2,ps2,h2,d2,T2⟩:=zaF d1.dd.sh d1.dd.gd (C.pre d1.dd.pre) T1 (by lia) (by lia) (by lia) (by lia) (by have:=d1.dd.len;lia)
   rw [<- zam] at T2
   exact ⟨n2,ps2,h2,_,f,y1++u,v,Dn.seq' S g d1 d2 (fun hh hh1 pp S' _ pr ev=>wl_2 S' T.n1 (ybh pr ep) ev) (by lia),by rw [zam],lv,T2,by rw [fmH,k1,hh],Nat.le_refl _⟩
  ·rcases g.kind T with ⟨e1,e2,e3,e4,e5⟩ | ⟨c,e,mc,me,y1,y2,fc,lc,fe,le,e1,e2,e3,C,E,e4,e5,e6⟩
   ·obtain ⟨z1,z2⟩:=zcP T e3
    subst z1 z2
    have em:("" : Str)++x=x:=zas (by rw [zaf];rfl)
    have em2:("" : Str)++w=w:=zas (by rw [zaf];rfl)
    have dv:Dn (yba (d+1) [.ref p,.int a,.int L]) p h h ps ps 0 L:=Dn.val S g fun hh pp S' _ pr=>wl_1 S' T.n1 (ybh pr e1)
    refine ⟨L,ps,h,_,_, "",x,dv.as S g (fun _ _ _ _ _=>rfl) (Nat.zero_le _),em.symm,T.ky.sg.symm,by rw [em2];exact N,e2.symm,hw⟩
   ·have:=congrArg Ms.ht e5
    rw [fmH] at this
    have c0:=C.ky.ht
    lia
theorem wf_1 {h:AH} {p:Nat} {ps:List Pc} {a d:Nat} {x:Str} (S:ShelfAt h p ps) (a1:1<=a) (ep:ps[a-1]? = some (.leaf x)):yaD (d+1) [.ref p,.int a] h = .ok (.int (0:Nat)) h:=by
 simp [yaD,ycH,S.ob,zcO S a1 ep,i0L,eqL,-fIx,-fEq]
theorem wf_2 {h h1:AH} {p:Nat} {ps:List Pc} {a d c e:Nat} (S:ShelfAt h p ps) (a1:1<=a) (ep:ps[a-1]? = some (.fork c e)) (ev:yaD d [.ref p,.int c] h = .ok (.int (0:Nat)) h1) :
  yaD (d+1) [.ref p,.int a] h = .ok (.int e) h1:=by
 have z:fEq (.int 0) (.int 0) h1 = .ok (.bl true) h1:=by simp
 simp [yaD,ycH,S.ob,zaS S a1 ep,i0F,i1,i2,eqF,ev,z,-fIx,-fEq]
theorem wf_3 {h h1:AH} {p:Nat} {ps:List Pc} {a d c e v:Nat} (S:ShelfAt h p ps) (a1:1<=a) (ep:ps[a-1]? = some (.fork c e)) (v1:1<=v) (ev:yaD d [.ref p,.int c] h = .ok (.int v) h1) :
  yaD (d+1) [.ref p,.int a] h=yaS [.ref p,.int v,.int e] h1:=by
 have z:fEq (.int (v:Int)) (.int 0) h1 = .ok (.bl false) h1:=by
  have : ¬ (v=0):=by lia
  simp [this]
 generalize hF:yaS [.ref p,.int v,.int e] h1=R
 simp [yaD,ycH,S.ob,zaS S a1 ep,i0F,i1,i2,eqF,ev,z,hF,-fIx,-fEq]
 cases R<;>rfl
end Sk
namespace Sk
open PySem PySem.Spec L2 Sm
theorem ze5 {p:Nat}:∀ (d:Nat) {h:AH} {ps:List Pc} {a:Nat} {m f l:Ms} {x:Str} (S:ShelfAt h p ps) (g:Good ps) (T:Tx ps a m x f l) (hd:m.ht.toNat<d) (hz:ps.length+3*m.ht.toNat<16000000),
  (m.ht=0/\f.sg=x.length/\Dn (yaD d [.ref p,.int a]) p h h ps ps 0 0) \/
  (0<m.ht/\∃ (n:Nat) (ps':List Pc) (h':AH) (m' f2:Ms) (u v:Str),Dn (yaD d [.ref p,.int a]) p h h' ps ps' (3*m.ht.toNat) n/\x=u++v/\u.length=f.sg/\Tx ps' n m' v f2 l/\m.ht-1<=m'.ht/\m'.ht<=m.ht/\8<f.sg+f2.sg)
 | 0,h,ps,a,m,f,l,x,S,g,T,hd,hz=>absurd hd (Nat.not_lt_zero _)
 | d+1,h,ps,a,m,f,l,x,S,g,T,hd,hz=>by
  by_cases q:0<m.ht
  ·obtain ⟨c,e,mc,me,y1,y2,lc,fe,ep,C,E,rfl,em,w1,w2,w3⟩:=g.cut T q
   have sg:=congrArg Ms.sg em
   have hh:=congrArg Ms.ht em
   rw [fmS] at sg
   rw [fmH] at hh
   have c0:=C.ky.ht
   have e0:=E.ky.ht
   have most:=T.ky.most
   refine .inr ⟨q,?_⟩
   rcases ze5 d S g C (by lia) (by lia) with ⟨k1,k2,d1⟩ | ⟨k1,n1,ps1,h1,m1,f2,u,v,d1,rfl,lu,T1,r1,r2,r3⟩
   ·rcases g.kind C with ⟨e1,e2,e3,e4,e5⟩ | ⟨_,_,mx,my,_,_,_,_,_,_,_,_,_,X,Y,_,e5,_⟩
    ·obtain ⟨z1,z2⟩:=zcP C e3
     have dv:Dn (yaD (d+1) [.ref p,.int a]) p h h ps ps 0 e:=by
      refine ⟨wf_2 S T.n1 ep d1.ev,Dd.refl S g,fun h3 ps3 S3 g3 p3=>wf_2 S3 T.n1 (ybh p3 ep) (d1.re h3 ps3 S3 g3 p3)⟩
     exact ⟨e,ps,h,me,fe,y1,y2,dv.as S g (fun _ _ _ _ _=>rfl) (Nat.zero_le _),rfl,k2.symm,E,by lia,by lia,by rw [z1];rw [z2] at w3;exact w3⟩
    ·have:=congrArg Ms.ht e5
     rw [fmH] at this
     have:=X.ky.ht
     lia
   ·have s1:m1.sg+f.sg=mc.sg:=by rw [T1.ky.sg,C.ky.sg,zaB];lia
    obtain ⟨n2,ps2,h2,m2,d2,T2,u3,u4,u5⟩:=zf9 d1.dd.sh d1.dd.gd T1 (E.pre d1.dd.pre) w3 (by lia) (by lia) (by lia) (by have:=d1.dd.len;lia)
    refine ⟨n2,ps2,h2,m2,f2,u,v++y2,Dn.seq' S g d1 d2 (fun hh hh1 pp S' _ pr ev=>wf_3 S' T.n1 (ybh pr ep) T1.n1 ev) (by lia),by rw [zam],lu,T2,?_,?_,r3⟩
    ·lia
    ·lia
  ·rcases g.kind T with ⟨e1,e2,e3,e4,e5⟩ | ⟨_,_,mx,my,_,_,_,_,_,_,_,_,_,X,Y,_,e5,_⟩
   ·obtain ⟨z1,z2⟩:=zcP T e3
    exact .inl ⟨e2,by rw [z1];exact T.ky.sg,Dn.val S g fun hh pp S' _ pr=>wf_1 S' T.n1 (ybh pr e1)⟩
   ·have:=congrArg Ms.ht e5
    rw [fmH] at this
    have:=X.ky.ht
    lia
theorem Good.ends {ps:List Pc} (g:Good ps):∀ (k n:Nat) {m f l:Ms} {x:Str},n<=k->Tx ps n m x f l ->
  (∃ w u:Str,1<=m.fl/\ps[m.fl-1]? = some (.leaf w)/\x=w++u/\w.length=f.sg)/\(∃ w u:Str,1<=m.ll/\ps[m.ll-1]? = some (.leaf w)/\x=u++w/\w.length=l.sg)
 | 0,n,m,f,l,x,hn,T=>absurd T.n1 (by lia)
 | k+1,n,m,f,l,x,hn,T=>by
  rcases g.kind T with ⟨e1,e2,e3,e4,e5⟩ | ⟨a,b,ma,mb,y,z,fa,la,fb,lb,e1,e2,e3,A,B,rfl,e5,e6⟩
  ·obtain ⟨z1,z2⟩:=zcP T e3
   have em:("" : Str)++x=x:=zas (by rw [zaf];rfl)
   have em2:x++("" : Str)=x:=zas (by rw [zaf];simp;rfl)
   have hf:m.fl=n:=by rw [e3];rfl
   have hl:m.ll=n:=by rw [e3];rfl
   have hx:=T.ky.sg
   refine ⟨⟨x, "",by rw [hf];exact T.n1,by rw [hf];exact e1,em2.symm,by rw [z1];exact hx.symm⟩,⟨x, "",by rw [hl];exact T.n1,by rw [hl];exact e1,em.symm,by rw [z2];exact hx.symm⟩⟩
  ·have q1:=g.ends k a (by lia) A
   have q2:=g.ends k b (by lia) B
   obtain ⟨⟨w,u,a1,a2,rfl,a4⟩,_⟩:=q1
   obtain ⟨_,⟨w2,u2,b1,b2,rfl,b4⟩⟩:=q2
   have f1:=T.ky.fl
   have l1:=T.ky.ll
   have hf:m.fl=ma.fl:=by rw [e5];rfl
   have hl:m.ll=mb.ll:=by rw [e5];rfl
   rw [hf] at f1
   rw [hl] at l1
   have z5:=f1.symm.trans A.ky.fl;cases z5
   have z6:=l1.symm.trans B.ky.ll;cases z6
   rw [hf,hl]
   exact ⟨⟨w,u++(u2++w2),a1,a2,by rw [zam],a4⟩,⟨w2,w++u++u2,b1,b2,by rw [zam (w++u)],b4⟩⟩
theorem zgb {a b c d:Str} (e:a++b=c++d) (h:a.length=c.length):a=c/\b=d:=by
 have:=congrArg (fun z:Str=>z.cps.toList) e
 simp only [zaf] at this
 obtain ⟨h1,h2⟩:=List.append_inj this (by rw [<- zad,<- zad];exact h)
 exact ⟨zas h1,zas h2⟩
theorem zil {a b c d:Str} (e:a++b=c++d) (h:b.length=d.length):a=c/\b=d:=by
 refine zgb e ?_
 have:=congrArg Str.length e
 rw [zaB,zaB] at this
 lia
theorem zjq {h:AH} {p:Nat} {ps:List Pc} {a b:Nat} {ma mb la fb:Ms} (S:ShelfAt h p ps) (ea:(meas ps)[a]? = some ma) (eb:(meas ps)[b]? = some mb) (el:(meas ps)[ma.ll]? = some la) (ef:(meas ps)[mb.fl]? = some fb) :
  ydA [.ref p,.int a,.int b] h = .ok (.bl (decide (8<la.sg+fb.sg))) h:=by
 have e1:=yfH S ea
 have e2:=zf4 S eb
 have e3:=zap S el
 have e4:=zap S ef
 have:decide ((8:Int)<(la.sg:Int)+fb.sg)=decide (8<la.sg+fb.sg):=by apply decide_eq_decide.mpr;lia
 simp [ydA,S.ob,e1,e2,e3,e4,this]
theorem zim {w v:Str} (hw:w.length+v.length<=100) (h:AH):fAdd (.str w) (.str v) h = .ok (.str (w++v)) h:=by
 have:w.length+v.length<=sizeLine:=Nat.le_trans hw (by decide)
 simp [fAdd,this]
theorem wd_1 {h h1 h2 h3:AH} {p:Nat} {ps:List Pc} {a b:Nat} {L n k:Int} {ma mb:Ms} {w v:Str} (S:ShelfAt h p ps) (ea:(meas ps)[a]? = some ma) (eb:(meas ps)[b]? = some mb) (l1:1<=ma.ll) (f1:1<=mb.fl) (el:ps[ma.ll-1]? = some (.leaf w)) (ef:ps[mb.fl-1]? = some (.leaf v)) (hw:w.length+v.length<=100)
  (e1:yaM [.ref p,.str (w++v)] h = .ok (.int L) h1) (e2:yba 90 [.ref p,.int a,.int L] h1 = .ok (.int n) h2) (e3:yaD 90 [.ref p,.int b] h2 = .ok (.int k) h3) :
  yc7 [.ref p,.int a,.int b] h=if k=0 then .ok (.int n) h3 else ya9 90 [.ref p,.int n,.int k] h3:=by
 have q1:=yfH S ea
 have q2:=zf4 S eb
 have q3:=zcO S l1 el
 have q4:=zcO S f1 ef
 have ad:=zim hw h
 unfold yc7
 generalize yba 90=WL at *
 generalize yaD 90=WF at *
 generalize hF:ya9 90=LK at *
 by_cases z:k=0
 ·subst z
  have zz:fEq (.int 0) (.int 0) h3 = .ok (.bl true) h3:=by simp
  simp [S.ob,q1,q2,q3,q4,i1L,ad,e1,e2,e3,zz,-fIx,-fEq,-fAdd]
 ·have zz:fEq (.int k) (.int 0) h3 = .ok (.bl false) h3:=by simp [z]
  rw [if_neg z]
  generalize hR:LK [.ref p,.int n,.int k] h3=R
  simp [S.ob,q1,q2,q3,q4,i1L,ad,e1,e2,e3,zz,hR,-fIx,-fEq,-fAdd]
  cases R<;>rfl
end Sk
namespace Sk
open PySem PySem.Spec L2 Sm
theorem zhw {w v:Str} (h1:1<=w.length) (h2:w.length+v.length<=8) (pw:yaO w=true) (pv:yaO v=true):ybC (w++v)=true:=by
 unfold ybC
 rw [zbR,zaB,pw,pv]
 simp;lia
theorem zin {h:AH} {p:Nat} {ps:List Pc} {a b:Nat} {ma mb fa la fb lb:Ms} {x y:Str} (S:ShelfAt h p ps) (g:Good ps) (A:Tx ps a ma x fa la) (B:Tx ps b mb y fb lb) (hc : ¬ 8<la.sg+fb.sg) (hm:ma.sg+mb.sg<=1000000000000000000) (hz:ps.length<15000000) :
  ∃ (n:Nat) (ps':List Pc) (h':AH) (m f l:Ms),Dn (yc7 [.ref p,.int a,.int b]) p h h' ps ps' (7*(max ma.ht mb.ht).toNat+2) n/\Tx ps' n m (x++y) f l/\m.ht<=max ma.ht mb.ht+1:=by
 obtain ⟨_,w,u,l1,el,ex,lw⟩:=g.ends a a (Nat.le_refl _) A
 obtain ⟨⟨v,t,f1,ef,ey,lv⟩,_⟩:=g.ends b b (Nat.le_refl _) B
 have a0:=A.ky.ht
 have b0:=B.ky.ht
 have ha:=ht82 g A
 have hb:=ht82 g B
 have px:yaO x=true:=A.ky.pl
 have py:yaO y=true:=B.ky.pl
 have pw:yaO w=true:=by rw [ex,zbR,Bool.and_eq_true] at px;exact px.2
 have pv:yaO v=true:=by rw [ey,zbR,Bool.and_eq_true] at py;exact py.1
 have la1:=A.ky.l1
 have fb1:=B.ky.f1
 have sx:=A.ky.sg
 have sy:=B.ky.sg
 have lx:x.length=u.length+w.length:=by rw [ex,zaB]
 have ly:y.length=v.length+t.length:=by rw [ey,zaB]
 have lwv:(w++v).length=w.length+v.length:=zaB w v
 obtain ⟨L,ps1,h1,d1,N⟩:=zf7 S g (zhw (w:=w) (v:=v) (by lia) (by lia) pw pv) (by lia)
 have z1:=d1.dd.len
 obtain ⟨n2,ps2,h2,m2,f2,u2,v2,d2,ex2,lv2,T2,k1,k2⟩:=zga 90 d1.dd.sh d1.dd.gd (A.pre d1.dd.pre) N (by lia) (by lia) (by lia) (by lia)
 have z2:=d2.dd.len
 obtain ⟨rfl,rfl⟩:u=u2/\w=v2:=zil (ex.symm.trans ex2) (by lia)
 have s2:m2.sg=u.length+(w.length+v.length):=by rw [T2.ky.sg,zaB,zaB]
 have p12:=d1.dd.pre.trans d2.dd.pre
 have lm:(lfMs (w++v) L).sg=w.length+v.length:=zaB w v
 have tb:∀ q:Int,0<=q->q<=max ma.ht mb.ht->q.toNat<=(max ma.ht mb.ht).toNat:=fun q _ _=>by lia
 rcases ze5 90 d2.dd.sh d2.dd.gd (B.pre p12) (by lia) (by lia) with ⟨r1,r2,d3⟩ | ⟨r1,n3,ps3,h3,m3,f3,u3,v3,d3,ey3,lu3,T3,r2,r3,r4⟩
 ·have t0:t.length=0:=by lia
  have te:t = "" := zas (by rw [zad] at t0;rw [List.length_eq_zero_iff.mp t0];rfl)
  have rd:u++(w++v)=x++y:=by
   rw [ex,ey,te,zam]
   congr 2
  rw [rd] at T2
  refine ⟨n2,ps2,h2,m2,f2,_,⟨?_,d1.dd.trans d2.dd (by lia),fun h4 ps4 S4 g4 p4=>?_⟩,T2,by lia⟩
  ·rw [wd_1 S A.ms B.ms l1 f1 el ef (by lia) d1.ev d2.ev d3.ev];rfl
  ·have q1:=d1.re h4 ps4 S4 g4 (d2.dd.pre.trans p4)
   have q2:=d2.re h4 ps4 S4 g4 p4
   have q3:=d3.re h4 ps4 S4 g4 p4
   rw [wd_1 S4 (zac (p12.trans p4) A.ms) (zac (p12.trans p4) B.ms) l1 f1 (ybh (p12.trans p4) el) (ybh (p12.trans p4) ef) (by lia) q1 q2 q3];rfl
 ·obtain ⟨rfl,rfl⟩:v=u3/\t=v3:=zgb (ey.symm.trans ey3) (by lia)
  have z3:=d3.dd.len
  have s3:m3.sg=t.length:=T3.ky.sg
  have m30:=T3.ky.ht
  obtain ⟨n4,ps4,h4,m4,d4,T4,r5,r6⟩:=zce 90 (max ma.ht mb.ht).toNat d3.dd.sh d3.dd.gd (T2.pre d3.dd.pre) T3 (by lia) (by lia) (by lia) (by lia) (by lia)
  have rd:(u++(w++v))++t=x++y:=by rw [ex,ey,zam,zam,zam]
  rw [rd] at T4
  have n3z : ¬ (n3:Int)=0:=by have:=T3.n1;lia
  have p123:=p12.trans d3.dd.pre
  refine ⟨n4,ps4,h4,m4,f2,lb,⟨?_,((d1.dd.trans d2.dd (Nat.le_refl _)).trans d3.dd (Nat.le_refl _)).trans d4.dd (by lia),fun h5 ps5 S5 g5 p5=>?_⟩,T4,by lia⟩
  ·rw [wd_1 S A.ms B.ms l1 f1 el ef (by lia) d1.ev d2.ev d3.ev,if_neg n3z];exact d4.ev
  ·have p45:=d4.dd.pre.trans p5
   have q1:=d1.re h5 ps5 S5 g5 (d2.dd.pre.trans (d3.dd.pre.trans p45))
   have q2:=d2.re h5 ps5 S5 g5 (d3.dd.pre.trans p45)
   have q3:=d3.re h5 ps5 S5 g5 p45
   have q4:=d4.re h5 ps5 S5 g5 p5
   have pa:=p123.trans p45
   rw [wd_1 S5 (zac pa A.ms) (zac pa B.ms) l1 f1 (ybh pa el) (ybh pa ef) (by lia) q1 q2 q3,if_neg n3z];exact q4
def htJ (ps:List Pc) (n:Nat):Int:=((meas ps).getD n ms0).ht
theorem yey {ps:List Pc} {n:Nat} {m:Ms} (e:(meas ps)[n]? = some m):htJ ps n=m.ht:=by unfold htJ;rw [zaV e]
theorem zio (ps:List Pc):htJ ps 0 = -1:=yey (za1 ps)
theorem zbw {i:Int} (hi:i<=1000000000000000000) (h:AH):yci [.int i] h = .ok .non h:=by
 have : ¬ (1000000000000000000:Int)<i:=by lia
 simp [yci,this]
theorem jn_0 {h:AH} {p:Nat} {ps:List Pc} {b:Nat} {mb:Ms} (S:ShelfAt h p ps) (eb:(meas ps)[b]? = some mb) (hm:mb.sg<=1000000000000000000):yaP [.ref p,.int (0:Nat),.int b] h = .ok (.int b) h:=by
 have e1:=zap S (za1 ps)
 have e2:=zap S eb
 have z:ms0.sg=0:=rfl
 rw [z] at e1
 have e1':yaz [.ref p,.int 0] h = .ok (.int 0) h:=e1
 have ck:=zbw (i:=(0:Int)+mb.sg) (by lia) h
 have zz:fEq (.int 0) (.int 0) h = .ok (.bl true) h:=by simp
 have ad:fAdd (.int 0) (.int mb.sg) h = .ok (.int (0+mb.sg)) h:=rfl
 simp [yaP,S.ob,e1',e2,ad,ck,zz,-fEq,-fAdd,-Int.zero_add]
theorem jn_1 {h:AH} {p:Nat} {ps:List Pc} {a:Nat} {ma:Ms} (S:ShelfAt h p ps) (a1:1<=a) (ea:(meas ps)[a]? = some ma) (hm:ma.sg<=1000000000000000000):yaP [.ref p,.int a,.int (0:Nat)] h = .ok (.int a) h:=by
 have e1:=zap S (za1 ps)
 have e2:=zap S ea
 have z:ms0.sg=0:=rfl
 rw [z] at e1
 have e1':yaz [.ref p,.int 0] h = .ok (.int 0) h:=e1
 have ck:=zbw (i:=(ma.sg:Int)+0) (by lia) h
 have zz:fEq (.int 0) (.int 0) h = .ok (.bl true) h:=by simp
 have z2:fEq (.int a) (.int 0) h = .ok (.bl false) h:=by
  have : ¬ a=0:=by lia
  simp [this]
 have ad:fAdd (.int ma.sg) (.int 0) h = .ok (.int (ma.sg+0)) h:=rfl
 simp [yaP,S.ob,e1',e2,ad,ck,zz,z2,-fEq,-fAdd,-Int.add_zero]
theorem jn_2 {h:AH} {p:Nat} {ps:List Pc} {a b:Nat} {ma mb la fb:Ms} (S:ShelfAt h p ps) (a1:1<=a) (b1:1<=b) (ea:(meas ps)[a]? = some ma) (eb:(meas ps)[b]? = some mb) (el:(meas ps)[ma.ll]? = some la) (ef:(meas ps)[mb.fl]? = some fb) (hm:ma.sg+mb.sg<=1000000000000000000) :
  yaP [.ref p,.int a,.int b] h=if 8<la.sg+fb.sg then ya9 90 [.ref p,.int a,.int b] h else yc7 [.ref p,.int a,.int b] h:=by
 have e1:=zap S ea
 have e2:=zap S eb
 have cl:=zjq S ea eb el ef
 have ck:=zbw (i:=(ma.sg:Int)+mb.sg) (by lia) h
 have z1:fEq (.int a) (.int 0) h = .ok (.bl false) h:=by
  have : ¬ a=0:=by lia
  simp [this]
 have z2:fEq (.int b) (.int 0) h = .ok (.bl false) h:=by
  have : ¬ b=0:=by lia
  simp [this]
 have ad:fAdd (.int ma.sg) (.int mb.sg) h = .ok (.int (ma.sg+mb.sg)) h:=rfl
 unfold yaP
 generalize ya9 90=LK at *
 by_cases q:8<la.sg+fb.sg
 ·rw [if_pos q]
  generalize hR:LK [.ref p,.int a,.int b] h=R
  simp [S.ob,e1,e2,ad,ck,z1,z2,cl,q,hR,-fEq,-fAdd]
  cases R<;>rfl
 ·rw [if_neg q]
  generalize hR:yc7 [.ref p,.int a,.int b] h=R
  simp [S.ob,e1,e2,ad,ck,z1,z2,cl,q,hR,-fEq,-fAdd]
  cases R<;>rfl
theorem TxZ.meas {ps:List Pc} {n:Nat} {y:Str} (t:TxZ ps n y):∃ m,(meas ps)[n]? = some m/\m.sg=y.length:=by
 rcases t with ⟨rfl,rfl⟩ | ⟨m,f,l,T⟩
 ·exact ⟨ms0,za1 ps,rfl⟩
 ·exact ⟨m,T.ms,T.ky.sg⟩
theorem zdk {h:AH} {p:Nat} {ps:List Pc} {a b:Nat} {x y:Str} (S:ShelfAt h p ps) (g:Good ps) (A:TxZ ps a x) (B:TxZ ps b y) (hm:x.length+y.length<=1000000000000000000) (hz:ps.length<15000000) :
  ∃ (n:Nat) (ps':List Pc) (h':AH),Dn (yaP [.ref p,.int a,.int b]) p h h' ps ps' (16*(max (htJ ps a) (htJ ps b)+1).toNat) n/\TxZ ps' n (x++y):=by
 rcases A with ⟨rfl,rfl⟩ | ⟨ma,fa,la,A⟩
 ·obtain ⟨mb,eb,sb⟩:=B.meas
  have em:("" : Str)++y=y:=zas (by rw [zaf];rfl)
  have dv:Dn (yaP [.ref p,.int (0:Nat),.int b]) p h h ps ps 0 b:=Dn.val S g fun hh pp S' _ pr=>jn_0 S' (zac pr eb) (by rw [sb];lia)
  exact ⟨b,ps,h,dv.as S g (fun _ _ _ _ _=>rfl) (Nat.zero_le _),by rw [em];exact B⟩
 ·rcases B with ⟨rfl,rfl⟩ | ⟨mb,fb,lb,B⟩
  ·have em:x++("" : Str)=x:=zas (by rw [zaf];simp;rfl)
   have dv:Dn (yaP [.ref p,.int a,.int (0:Nat)]) p h h ps ps 0 a:=Dn.val S g fun hh pp S' _ pr=>jn_1 S' A.n1 (zac pr A.ms) A.ky.most
   exact ⟨a,ps,h,dv.as S g (fun _ _ _ _ _=>rfl) (Nat.zero_le _),by rw [em];exact .inr ⟨_,_,_,A⟩⟩
  ·have sa:=A.ky.sg
   have sb:=B.ky.sg
   have a0:=A.ky.ht
   have b0:=B.ky.ht
   have ha:=ht82 g A
   have hb:=ht82 g B
   rw [yey A.ms,yey B.ms]
   by_cases q:8<la.sg+fb.sg
   ·obtain ⟨n,ps',h',m,d,T,_⟩:=zce 90 (max ma.ht mb.ht).toNat S g A B q (by lia) (by lia) (by lia) (by lia)
    exact ⟨n,ps',h',d.as S g (fun hh pp S' _ pr=>by rw [jn_2 S' A.n1 B.n1 (zac pr A.ms) (zac pr B.ms) (zac pr A.ky.ll) (zac pr B.ky.fl) (by lia),if_pos q]) (by lia),.inr ⟨_,_,_,T⟩⟩
   ·obtain ⟨n,ps',h',m,f,l,d,T,_⟩:=zin S g A B q (by lia) hz
    exact ⟨n,ps',h',d.as S g (fun hh pp S' _ pr=>by rw [jn_2 S' A.n1 B.n1 (zac pr A.ms) (zac pr B.ms) (zac pr A.ky.ll) (zac pr B.ky.fl) (by lia),if_neg q]) (by lia),.inr ⟨_,_,_,T⟩⟩
end Sk
namespace Sk
open PySem PySem.Spec L2 Sm
theorem zjr {b e:Nat} {y:Str} (be:b<=e):(cutS y (some (b:Int)) (some (e:Int))).cps.toList=(y.cps.toList.drop b).take (e-b):=by
 unfold cutS
 rw [HT.sIx_nat,HT.sIx_nat]
 generalize y.cps.toList=l
 show (l.drop (min b l.length)).take (min e l.length-min b l.length)=_
 apply List.ext_getElem?
 intro i
 rw [List.getElem?_take,List.getElem?_take,List.getElem?_drop,List.getElem?_drop]
 by_cases q:b<=l.length
 ·rw [Nat.min_eq_left q]
  by_cases c1:i<e-b
  ·rw [if_pos c1]
   by_cases c2:i<min e l.length-b
   ·rw [if_pos c2]
   ·rw [if_neg c2,List.getElem?_eq_none (by lia)]
  ·rw [if_neg c1,if_neg (by lia)]
 ·rw [if_neg (by lia),List.getElem?_eq_none (l:=l) (i:=b+i) (by lia)]
  split<;>rfl
def cat:List Str->Str
 | [] => ""
 | w::ws=>w++cat ws
theorem zdZ:∀ as bs:List Str,cat (as++bs)=cat as++cat bs
 | [],bs=>(zas (by rw [zaf];rfl):cat bs=("" : Str)++cat bs)
 | w::as,bs=>by
  show w++cat (as++bs)=(w++cat as)++cat bs
  rw [zdZ as bs,zam]
theorem zgc (w:Str):cat [w]=w:=zas (by show (w++("" : Str)).cps.toList=_;rw [zaf];simp;rfl)
def LS (ps:List Pc) (ns:List Nat) (ws:List Str):Prop:=ns.length=ws.length/\∀ (i n:Nat) (w:Str),ns[i]? = some n->ws[i]? = some w->Tx ps n (lfMs w n) w (lfMs w n) (lfMs w n)
theorem LS.pre {ps ps':List Pc} {ns:List Nat} {ws:List Str} (s:LS ps ns ws) (h:ps <+: ps'):LS ps' ns ws:=⟨s.1,fun i n w a b=>(s.2 i n w a b).pre h⟩
theorem LS.take {ps:List Pc} {ns:List Nat} {ws:List Str} (s:LS ps ns ws) (k:Nat):LS ps (ns.take k) (ws.take k):=by
 refine ⟨by simp [s.1],fun i n w a b=>?_⟩
 rw [List.getElem?_take] at a b
 by_cases q:i<k
 ·rw [if_pos q] at a b;exact s.2 i n w a b
 ·rw [if_neg q] at a;cases a
theorem LS.drop {ps:List Pc} {ns:List Nat} {ws:List Str} (s:LS ps ns ws) (k:Nat):LS ps (ns.drop k) (ws.drop k):=by
 refine ⟨by simp [s.1],fun i n w a b=>?_⟩
 rw [List.getElem?_drop] at a b
 exact s.2 _ n w a b
abbrev ivs (ns:List Nat):List AV:=ns.map fun n:Nat=>AV.int (n:Int)
theorem hv_1 {h:AH} {p d n:Nat}:ybW (d+1) [.ref p,.fl (ivs [n])] h = .ok (.int n) h:=by
 have ix:fIx (.fl [.int (n:Int)]) (.int 0) h = .ok (.int n) h:=rfl
 simp [ybW,yek,ix,-fIx]
theorem zhx {α:Type} (l:List α) {k:Nat} (hk:k<=l.length):cutA l none (some (k:Int))=l.take k:=by
 unfold cutA
 rw [HT.sIx_nat,HT.sIx_none,Nat.min_eq_left hk];simp
theorem zep {α:Type} (l:List α) {k:Nat} (hk:k<=l.length):cutA l (some (k:Int)) none=l.drop k:=by
 unfold cutA
 rw [HT.sIx_nat,HT.sIx_none,Nat.min_eq_left hk,List.take_of_length_le (by simp)]
theorem hv_2 {h h1 h2:AH} {p d:Nat} {ps:List Pc} {ns:List Nat} {v1 v2:Int} (S:ShelfAt h p ps) (hl:2<=ns.length) (e1:ybW d [.ref p,.fl (ivs (ns.take (ns.length / 2)))] h = .ok (.int v1) h1) (e2:ybW d [.ref p,.fl (ivs (ns.drop (ns.length / 2)))] h1 = .ok (.int v2) h2) :
  ybW (d+1) [.ref p,.fl (ivs ns)] h=yaf [.ref p,.int v1,.int v2] h2:=by
 have hh:ns.length / 2<=ns.length:=Nat.div_le_self _ _
 have ln:fLen [.fl (ivs ns)] h = .ok (.int ns.length) h:=by simp [fLen]
 have q:fEq (.int ns.length) (.int 1) h = .ok (.bl false) h:=by
  have : ¬ (ns.length:Int)=1:=by lia
  simp [this]
 have dv:fDiv (.int ns.length) (.int 2) h = .ok (.int (ns.length / 2:Nat)) h:=rfl
 have c1:yb1 (.fl (ivs ns)) none (some (ns.length / 2:Nat)) h = .ok (.fl (ivs (ns.take (ns.length / 2)))) h:=by
  have:=zhx (ivs ns) (k:=ns.length / 2) (by simpa using hh)
  simp only [yb1,this,ivs,List.map_take]
 have c2:∀ h,yb1 (.fl (ivs ns)) (some (ns.length / 2:Nat)) none h = .ok (.fl (ivs (ns.drop (ns.length / 2)))) h:=fun h=>by
  have:=zep (ivs ns) (k:=ns.length / 2) (by simpa using hh)
  simp only [yb1,this,ivs,List.map_drop]
 generalize hF:yaf [.ref p,.int v1,.int v2] h2=R
 unfold ybW yek
 generalize ivs ns=Z at *
 generalize ivs (ns.take (ns.length / 2))=Z1 at *
 generalize ivs (ns.drop (ns.length / 2))=Z2 at *
 generalize ((ns.length / 2:Nat):Int)=M at *
 generalize (ns.length:Int)=K at *
 simp [S.ob,ln,q,dv,c1,c2,e1,e2,hF,-fLen,-fEq,-fDiv,-yb1]
 cases R<;>rfl
theorem pw1 {a b ha hb:Nat} (ab:b<=a+1) (h1:a<=2 ^ ha) (h2:hb=0\/2 ^ (hb-1)<b):hb<=ha+1:=by
 rcases h2 with h2 | h2
 ·lia
 ·have:2 ^ (hb-1)<=2 ^ ha:=by lia
  have:=(Nat.pow_le_pow_iff_right (a:=2) (by decide)).mp this
  lia
theorem pw2 {a b ha hb:Nat} (ab:a<=b) (h1:b<=2 ^ hb) (h2:ha=0\/2 ^ (ha-1)<a):ha<=hb:=by
 rcases h2 with h2 | h2
 ·lia
 ·have:2 ^ (ha-1)<2 ^ hb:=by lia
  have:=(Nat.pow_lt_pow_iff_right (a:=2) (by decide)).mp this
  lia
theorem pw3 {k b hb:Nat} (h1:k<=2*b) (h2:2*b<=k+1) (h3:2<=k) (h4:b<=2 ^ hb) (h5:hb=0\/2 ^ (hb-1)<b):k<=2 ^ (hb+1)/\2 ^ (hb+1-1)<k:=by
 rw [Nat.pow_succ,Nat.add_sub_cancel]
 refine ⟨by lia,?_⟩
 rcases h5 with h5 | h5
 ·subst h5;simp;lia
 ·cases hb with
  | zero=>simp;lia
  | succ n =>
   rw [Nat.add_sub_cancel] at h5
   rw [Nat.pow_succ];lia
theorem pw4 {k e:Nat} (h:k<=2 ^ (e+1)):k / 2<=2 ^ e/\k-k / 2<=2 ^ e:=by rw [Nat.pow_succ] at h;lia
theorem zdl {p:Nat}:∀ (d e:Nat) {h:AH} {ps:List Pc} {ns:List Nat} {ws:List Str},ShelfAt h p ps->Good ps->LS ps ns ws->1<=ns.length->ns.length<=2 ^ e->e<d->(∀ (i:Nat) (w:Str),ws[i]? = some w->i+1<ws.length->w.length=8)->ps.length+ns.length<16000000->ns.length<=10000 ->
  ∃ (n:Nat) (ps':List Pc) (h':AH) (m f l:Ms) (H:Nat),ybW d [.ref p,.fl (ivs ns)] h = .ok (.int n) h'/\Dd p h h' ps ps' (ns.length-1)/\Tx ps' n m (cat ws) f l/\m.ht=H/\ns.length<=2 ^ H/\(H=0\/2 ^ (H-1)<ns.length)/\((∀ w∈ws,w.length=8)->l.sg=8)/\m.sg<=8*ns.length
 | 0,e,h,ps,ns,ws,S,g,LL,h1,h2,h3,h4,h5,h6=>absurd h3 (Nat.not_lt_zero _)
 | d+1,e,h,ps,ns,ws,S,g,LL,h1,h2,h3,h4,h5,h6=>by
  by_cases q:ns.length=1
  ·obtain ⟨n,rfl⟩:∃ n,ns=[n]:=List.length_eq_one_iff.mp q
   obtain ⟨w,rfl⟩:∃ w,ws=[w]:=List.length_eq_one_iff.mp (LL.1.symm.trans q)
   have T:=LL.2 0 n w rfl rfl
   refine ⟨n,ps,h,_,_,_,0,hv_1,{ Dd.refl S g with len:=by lia },by rw [zgc];exact T,rfl,by simp,.inl rfl,fun hw=>hw w (by simp),?_⟩
   have:=T.ky.f8
   simpa using this
  ·have hh:2<=ns.length:=by lia
   obtain ⟨e',rfl⟩:∃ e',e=e'+1:=by
    cases e with
    | zero=>simp at h2;lia
    | succ e' => exact ⟨e',rfl⟩
   obtain ⟨w1,w2⟩:=pw4 h2
   have lt:(ns.take (ns.length / 2)).length=ns.length / 2:=by rw [List.length_take];lia
   have ld:(ns.drop (ns.length / 2)).length=ns.length-ns.length / 2:=List.length_drop ..
   have lw:=LL.1
   obtain ⟨n1,ps1,hh1,m1,f1,l1,H1,a1,a2,a3,a4,a5,a6,a7,a8⟩:=zdl d e' S g (LL.take (ns.length / 2)) (by lia) (by lia) (by lia) (fun i w ew hi=>by
    rw [List.getElem?_take] at ew
    split at ew
    ·rw [List.length_take] at hi;exact h4 i w ew (by lia)
    ·cases ew) (by lia) (by lia)
   have z1:=a2.len
   obtain ⟨n2,ps2,hh2,m2,f2,l2,H2,b1,b2,b3,b4,b5,b6,b7,b8⟩:=zdl d e' a2.sh a2.gd ((LL.drop (ns.length / 2)).pre a2.pre) (by lia) (by lia) (by lia) (fun i w ew hi=>by
    rw [List.getElem?_drop] at ew
    rw [List.length_drop] at hi
    exact h4 _ w ew (by lia)) (by lia) (by lia)
   have z2:=b2.len
   rw [lt] at a5 a6 a8
   rw [ld] at b5 b6 b8
   have g1:=pw1 (a:=ns.length / 2) (b:=ns.length-ns.length / 2) (by lia) a5 b6
   have g2:=pw2 (a:=ns.length / 2) (b:=ns.length-ns.length / 2) (by lia) b5 a6
   have l8:l1.sg=8:=a7 fun w hw=>by
    obtain ⟨i,hi,ei⟩:=List.getElem_of_mem hw
    have hi' := hi
    rw [List.length_take] at hi'
    have:(ws.take (ns.length / 2))[i]? = some w:=by rw [List.getElem?_eq_getElem hi,ei]
    rw [List.getElem?_take] at this
    split at this
    ·exact h4 i w this (by lia)
    ·cases this
   have f1' := b3.ky.f1
   obtain ⟨n3,ps3,hh3,d3,T3⟩:=zaF b2.sh b2.gd (a3.pre b2.pre) b3 (by lia) (by lia) (by lia) (by lia) (by lia)
   have rd:cat (ws.take (ns.length / 2))++cat (ws.drop (ns.length / 2))=cat ws:=by rw [<- zdZ,List.take_append_drop]
   rw [rd] at T3
   have hv:=hv_2 S hh a1 b1
   obtain ⟨y1,y2⟩:=pw3 (k:=ns.length) (b:=ns.length-ns.length / 2) (by lia) (by lia) hh b5 b6
   refine ⟨n3,ps3,hh3,_,f1,l2,H2+1,hv.trans d3.ev,(a2.trans b2 (Nat.le_refl _)).trans d3.dd (by lia),T3,by rw [fmH,a4,b4];lia,y1,.inr y2,fun hw=>b7 fun w hm=>hw w (List.mem_of_mem_drop hm),by rw [fmS];lia⟩
end Sk
namespace Sk
open PySem PySem.Spec L2 Sm
def ydo (x:Str) (k:Nat):Str:=cutS x (some ((8*k:Nat):Int)) (some ((8*k+8:Nat):Int))
theorem zcx (x:Str) (k:Nat):(ydo x k).cps.toList=(x.cps.toList.drop (8*k)).take 8:=by
 unfold ydo
 rw [zjr (by lia),show 8*k+8-8*k=8 by lia]
theorem zeq (x:Str) (k:Nat):(ydo x k).length=min 8 (x.length-8*k):=by
 rw [zad,zcx,List.length_take,List.length_drop,<- zad]
theorem zfj {x:Str} (px:yaO x=true) (k:Nat):yaO (ydo x k)=true:=by
 unfold yaO at *
 rw [zcx,List.all_eq_true]
 rw [List.all_eq_true] at px
 exact fun c hc=>px c (List.mem_of_mem_drop (List.mem_of_mem_take hc))
theorem zdD (x:Str):∀ j,(cat ((List.range j).map (ydo x))).cps.toList=x.cps.toList.take (8*j)
 | 0=>rfl
 | j+1=>by
  rw [List.range_succ,List.map_append,zdZ,zaf,zdD x j]
  show _++(cat [ydo x j]).cps.toList=_
  rw [zgc,zcx,show 8*(j+1)=8*j+8 by lia,List.take_add]
theorem zer {α:Type} {f:Nat->α} {N i:Nat} {w:α} (e:((List.range N).map f)[i]? = some w):i<N/\w=f i:=by
 rw [List.getElem?_map] at e
 obtain ⟨j,ej,ew⟩:=Option.map_eq_some_iff.mp e
 have h1:=(List.getElem?_eq_some_iff.mp ej).1
 rw [List.length_range] at h1
 rw [List.getElem?_range h1] at ej
 cases ej
 exact ⟨h1,ew.symm⟩
theorem LS.snoc {ps ps':List Pc} {ns:List Nat} {ws:List Str} {n:Nat} {w:Str} (s:LS ps ns ws) (h:ps <+: ps') (T:Tx ps' n (lfMs w n) w (lfMs w n) (lfMs w n)):LS ps' (ns++[n]) (ws++[w]):=by
 have l:=s.1
 refine ⟨by simp [s.1],fun i a b ea eb=>?_⟩
 by_cases q:i<ns.length
 ·rw [List.getElem?_append_left q] at ea
  rw [List.getElem?_append_left (by lia)] at eb
  exact (s.2 i a b ea eb).pre h
 ·have h1:=(List.getElem?_eq_some_iff.mp ea).1
  have hi:i=ns.length:=by simp at h1;lia
  subst hi
  rw [List.getElem?_append_right (by lia)] at ea eb
  simp at ea
  rw [show ns.length-ws.length=0 by lia] at eb
  simp at eb
  subst ea eb
  exact T
theorem zfk {h:AH} {p:Nat} {ps:List Pc} {x:Str} (S:ShelfAt h p ps) (g:Good ps) (px:yaO x=true) (N:Nat) (hN:8*N<x.length+8) (hx:x.length<=10000) (hz:ps.length+N<16000000) (all:List AV) (js:List Nat) (en:En) (hj:js.map (fun j=>(en[j]?).join)=[some (.ref p),some (.str x)]) :
  ∃ (ns:List Nat) (ps':List Pc) (h':AH),yaF js en none all sYes (yal 0 yaM (sVar 1) (yab (sCut (sVar 2) (some (sVar 0)) (some (sOp2 fAdd (sVar 0) (sLit (.int 8))))) sNil)) ((List.range N).map fun m:Nat=>AV.int (0+(m:Int)*8)) [] h = .ok (ivs ns) h'/\Dd p h h' ps ps' N/\LS ps' ns ((List.range N).map (ydo x)):=by
 obtain ⟨zs,h',c1,ns,ps',e1,D,LL⟩:=ygV (js:=js) (en:=en) (all:=all) (e:=yal 0 yaM (sVar 1) (yab (sCut (sVar 2) (some (sVar 0)) (some (sOp2 fAdd (sVar 0) (sLit (.int 8))))) sNil)) (xs:=(List.range N).map fun m:Nat=>AV.int (0+(m:Int)*8)) (h:=h)
  (fun j ys h' => ∃ (ns:List Nat) (ps':List Pc),ys=ivs ns/\Dd p h h' ps ps' j/\LS ps' ns ((List.range j).map (ydo x))) ⟨[],ps,rfl,Dd.refl S g,rfl,fun i n w a _=>by simp at a⟩ (by
   rintro j v ys h' hv ⟨ns,ps',rfl,D,LL⟩
   obtain ⟨jN,rfl⟩:=zer hv
   have z:=D.len
   have lc:=zeq x j
   have sc:ybC (ydo x j)=true:=by
    unfold ybC
    rw [zfj px j,lc]
    simp;lia
   obtain ⟨n,ps2,h2,d2,T⟩:=zf7 D.sh D.gd sc (by lia)
   have i1:(0:Int)+(j:Int)*8=((8*j:Nat):Int):=by lia
   have i2:((8*j:Nat):Int)+8=((8*j+8:Nat):Int):=by lia
   have ct:yb1 (.str x) (some ((8*j:Nat):Int)) (some ((8*j+8:Nat):Int)) h' = .ok (.str (ydo x j)) h' := rfl
   have ev:=d2.ev
   rw [hj]
   have e:yal 0 yaM (sVar 1) (yab (sCut (sVar 2) (some (sVar 0)) (some (sOp2 fAdd (sVar 0) (sLit (.int 8))))) sNil) [some (.int (0+(j:Int)*8)),some (.ref p),some (.str x)] h' = .ok (.int n) h2:=by
    rw [i1]
    have ad:fAdd (.int ((8*j:Nat):Int)) (.int 8) h' = .ok (.int ((8*j+8:Nat):Int)) h' := by rw [<- i2];rfl
    generalize ((8*j:Nat):Int)=B1 at *
    generalize ((8*j+8:Nat):Int)=B2 at *
    simp [D.sh.ob,ad,ct,ev,-fAdd,-yb1]
   rw [e]
   refine ⟨ns++[n],ps2,by simp [ivs],D.trans d2.dd (by lia),?_⟩
   rw [List.range_succ,List.map_append]
   exact LL.snoc d2.dd.pre T) (by simp;exact Nat.le_trans (show N<=10000 by lia) (by decide))
 rw [List.length_map,List.length_range] at D LL
 exact ⟨ns,ps',h',by rw [c1,e1],D,LL⟩
theorem zd0 {h:AH} {p:Nat} {ps:List Pc} {x:Str} (S:ShelfAt h p ps) (g:Good ps) (px:yaO x=true) (hx:x.length<=10000) (hz:ps.length+2*x.length<16000000) :
  ∃ (n:Nat) (ps':List Pc) (h':AH),ydr [.ref p,.str x] h = .ok (.int n) h'/\Dd p h h' ps ps' (2*x.length)/\TxZ ps' n x:=by
 have sl:x.length<=sizeLine:=Nat.le_trans hx (by decide)
 have fp:=zfZ x h sl
 rw [px] at fp
 have c1 : ¬ (10000:Int)<x.length:=by lia
 by_cases q:x.length=0
 ·have xe:x = "" := zas (by rw [zad] at q;rw [List.length_eq_zero_iff.mp q];rfl)
  subst xe
  refine ⟨0,ps,h,?_,{ Dd.refl S g with len:=by lia },.inl ⟨rfl,rfl⟩⟩
  simp [ydr,fp,c1]
 ·obtain ⟨N,eN⟩:∃ N,N=(x.length-1) / 8+1:=⟨_,rfl⟩
  obtain ⟨ns,ps1,h1,e1,D1,LL⟩:=zfk S g px N (by lia) hx (by lia) ((List.range N).map fun m:Nat=>AV.int (0+(m:Int)*8)) [0,1] [some (.ref p),some (.str x),none] rfl
  have z1:=D1.len
  have ln:ns.length=N:=by rw [LL.1];simp
  obtain ⟨n,ps2,h2,m,f,l,H,b1,b2,b3,_⟩:=zdl (p:=p) 20 11 D1.sh D1.gd LL (by lia) (by rw [ln];have:(2:Nat) ^ 11=2048:=rfl;lia) (by decide) (fun i w ew hi=>by
   obtain ⟨iN,rfl⟩:=zer ew
   rw [List.length_map,List.length_range] at hi
   rw [zeq];lia) (by lia) (by lia)
  have rd:cat ((List.range N).map (ydo x))=x:=zas (by rw [zdD,List.take_of_length_le (by rw [<- zad];lia)])
  rw [rd] at b3
  have ir:ycT (sLit (.int 0)) (yah fLen (yab (sVar 1) sNil)) (sLit (.int 8)) [some (.ref p),some (.str x),none] h = .ok ((List.range N).map (fun m:Nat=>AV.int (0+(m:Int)*8)),none) h:=by
   have r1:((if (0:Int)<x.length then ((x.length:Int)-0-1) / 8+1 else 0:Int)).toNat=N:=by
    rw [if_pos (by lia)];lia
   have r2:(0:Int).natAbs<2 ^ 40/\(x.length:Int).natAbs<2 ^ 40/\(0:Int)<8/\(8:Int)<2 ^ 20:=⟨by decide,by lia,by decide,by decide⟩
   show (if _ then _ else _)=_
   rw [if_pos r2,r1]
  have cp:ya3 [0,1] (ycT (sLit (.int 0)) (yah fLen (yab (sVar 1) sNil)) (sLit (.int 8))) sYes (yal 0 yaM (sVar 1) (yab (sCut (sVar 2) (some (sVar 0)) (some (sOp2 fAdd (sVar 0) (sLit (.int 8))))) sNil)) [some (.ref p),some (.str x),none] h = .ok (.fl (ivs ns)) h1:=by
   simp only [ya3,ir,e1]
  have ne:fEq (.str x) (.str "") h = .ok (.bl false) h:=by
   have : ¬ x=Str.ofString "" := fun z=>q (by rw [z];rfl)
   simp [this]
  refine ⟨n,ps2,h2,?_,D1.trans b2 (by lia),.inr ⟨_,_,_,b3⟩⟩
  unfold ydr
  generalize ya3 [0,1] (ycT (sLit (.int 0)) (yah fLen (yab (sVar 1) sNil)) (sLit (.int 8))) sYes (yal 0 yaM (sVar 1) (yab (sCut (sVar 2) (some (sVar 0)) (some (sOp2 fAdd (sVar 0) (sLit (.int 8))))) sNil))=CP at *
  generalize ybW 20=HV at *
  simp [fp,c1,ne,cp,b1,-fEq]
end Sk
namespace Sk
open PySem PySem.Spec L2 Sm
def tkS (x:Str) (a:Nat):Str:=⟨(x.cps.toList.take a).toArray⟩
def dpS (x:Str) (a:Nat):Str:=⟨(x.cps.toList.drop a).toArray⟩
theorem yfI (x:Str) (a:Nat):(tkS x a).cps.toList=x.cps.toList.take a:=rfl
theorem yg8 {x:Str} {a:Nat} (h:AH):yb1 (.str x) none (some (a:Int)) h = .ok (.str (tkS x a)) h:=by
 have:cutS x none (some (a:Int))=tkS x a:=zas (by
  unfold cutS
  rw [HT.sIx_nat,HT.sIx_none,yfI]
  show (x.cps.toList.drop 0).take (min a x.cps.toList.length-0)=_
  rw [List.drop_zero,Nat.sub_zero]
  by_cases q:a<=x.cps.toList.length
  ·rw [Nat.min_eq_left q]
  ·rw [Nat.min_eq_right (by lia),List.take_length,List.take_of_length_le (by lia)])
 simp only [yb1,this]
def cst (z:Int):Nat:=8*((z+1).toNat*(z+2).toNat)
theorem zbl (z:Str) (n:Nat):(repS z n).cps.toList=(List.replicate n z.cps.toList).flatten:=rfl
theorem zcQ (z:Str) (a b:Nat):repS z a++repS z b=repS z (a+b):=zas (by rw [zaf,zbl,zbl,zbl,<- List.flatten_append,List.replicate_append_replicate])
theorem zd1 (z:Str):repS z 1=z:=zas (by rw [zbl];simp)
theorem zdm (z:Str):repS z 0 = "" := zas rfl
theorem zbz (z:Str):∀ n,(repS z n).length=z.length*n
 | 0=>by rw [zdm];rfl
 | n+1=>by rw [<- zcQ,zaB,zbz z n,zd1,Nat.mul_succ]
theorem zgd:∀ n,repS "" n = ""
 | 0=>zdm _
 | n+1=>by
  rw [<- zcQ,zgd n,zd1]
  exact zas (by rw [zaf];rfl)
theorem db_0 {h:AH} {p n d:Nat}:ya2 (d+1) [.ref p,.int n,.int (0:Nat)] h = .ok (.int (0:Nat)) h:=by
 have z:fEq (.int 0) (.int 0) h = .ok (.bl true) h:=by simp
 simp [ya2,ydU,z,-fEq]
theorem db_1 {h h1:AH} {p n d k:Nat} {a:Int} (hk : ¬ k=0) (hp:k % 2=0) (e1:ya2 d [.ref p,.int n,.int (k / 2:Nat)] h = .ok (.int a) h1):ya2 (d+1) [.ref p,.int n,.int k] h=yaP [.ref p,.int a,.int a] h1:=by
 have z:fEq (.int k) (.int 0) h = .ok (.bl false) h:=by simp [hk]
 have dv:fDiv (.int k) (.int 2) h = .ok (.int (k / 2:Nat)) h:=rfl
 have md:∀ h,fMod (.int k) (.int 2) h = .ok (.int 0) h:=fun h=>by
  have:(k:Int) % 2=0:=by lia
  show Out.ok (AV.int ((k:Int) % 2)) h=_
  rw [this]
 have z2:∀ h,fEq (.int 0) (.int 0) h = .ok (.bl true) h:=fun h=>by simp
 unfold ya2 ydU
 generalize hF:yaP [.ref p,.int a,.int a] h1=R
 generalize ((k / 2:Nat):Int)=K2 at *
 generalize ya2 d=G at *
 simp [z,dv,e1,hF,-fEq,-fDiv,-fMod]
 cases R with
 | ok v h2=>simp [md,z2,-fEq,-fMod]
 | ex c h2=>rfl
 | bad=>rfl
theorem db_2 {h h1:AH} {p n d k:Nat} {a:Int} (hk : ¬ k=0) (hp : ¬ k % 2=0) (e1:ya2 d [.ref p,.int n,.int (k / 2:Nat)] h = .ok (.int a) h1):ya2 (d+1) [.ref p,.int n,.int k] h=(yaP [.ref p,.int a,.int a] h1).bind fun v h2=>yaP [.ref p,v,.int n] h2:=by
 have z:fEq (.int k) (.int 0) h = .ok (.bl false) h:=by simp [hk]
 have dv:fDiv (.int k) (.int 2) h = .ok (.int (k / 2:Nat)) h:=rfl
 have md:∀ h,fMod (.int k) (.int 2) h = .ok (.int 1) h:=fun h=>by
  have:(k:Int) % 2=1:=by lia
  show Out.ok (AV.int ((k:Int) % 2)) h=_
  rw [this]
 have z2:∀ h,fEq (.int 1) (.int 0) h = .ok (.bl false) h:=fun h=>by simp
 unfold ya2 ydU
 generalize hF:yaP [.ref p,.int a,.int a] h1=R
 generalize ((k / 2:Nat):Int)=K2 at *
 generalize ya2 d=G at *
 simp [z,dv,e1,hF,-fEq,-fDiv,-fMod]
 cases R with
 | ok v h2 =>
  simp [md,z2,-fEq,-fMod]
  cases yaP [.ref p,v,.int n] h2<;>rfl
 | ex c h2=>rfl
 | bad=>rfl
theorem zdn {ps:List Pc} (g:Good ps) {a b:Nat} {x y:Str} (A:TxZ ps a x) (B:TxZ ps b y):16*(max (htJ ps a) (htJ ps b)+1).toNat<=1400:=by
 have key:∀ {n:Nat} {y:Str},TxZ ps n y->htJ ps n<=82:=fun {n y} t=>by
  rcases t with ⟨rfl,rfl⟩ | ⟨m,f,l,T⟩
  ·rw [zio];lia
  ·rw [yey T.ms];exact ht82 g T
 have:=key A
 have:=key B
 lia
theorem zes {p:Nat}:∀ (d e:Nat) {h:AH} {ps:List Pc} {n k:Nat} {x:Str},ShelfAt h p ps->Good ps->TxZ ps n x->k<2 ^ e->e<d->x.length*k<=1000000000000000000->ps.length+2800*e<15000000 ->
  ∃ (m:Nat) (ps':List Pc) (h':AH),Dn (ya2 d [.ref p,.int n,.int k]) p h h' ps ps' (2800*e) m/\TxZ ps' m (repS x k)
 | 0,e,h,ps,n,k,x,S,g,T,hk,hd,hm,hz=>absurd hd (Nat.not_lt_zero _)
 | d+1,e,h,ps,n,k,x,S,g,T,hk,hd,hm,hz=>by
  by_cases k0:k=0
  ·subst k0
   have dv:Dn (ya2 (d+1) [.ref p,.int n,.int (0:Nat)]) p h h ps ps 0 0:=Dn.val S g fun hh pp S' _ pr=>db_0
   exact ⟨0,ps,h,dv.as S g (fun _ _ _ _ _=>rfl) (Nat.zero_le _),.inl ⟨rfl,zdm x⟩⟩
  ·obtain ⟨e',rfl⟩:∃ e',e=e'+1:=by
    cases e with
    | zero=>simp at hk;lia
    | succ e' => exact ⟨e',rfl⟩
   rw [Nat.pow_succ] at hk
   have kk:x.length*(k / 2)+x.length*(k / 2)+x.length*(k % 2)=x.length*k:=by
    rw [<- Nat.mul_add,<- Nat.mul_add]
    congr 1
    lia
   obtain ⟨a,ps1,h1,d1,T1⟩:=zes d e' (k:=k / 2) S g T (by lia) (by lia) (by lia) (by lia)
   have z1:=d1.dd.len
   have l1:=zbz x (k / 2)
   obtain ⟨b,ps2,h2,d2,T2⟩:=zdk d1.dd.sh d1.dd.gd T1 T1 (by lia) (by lia)
   have w2:=zdn d1.dd.gd T1 T1
   have z2:=d2.dd.len
   rw [zcQ] at T2
   by_cases hp:k % 2=0
   ·have ek:k / 2+k / 2=k:=by lia
    rw [ek] at T2
    exact ⟨b,ps2,h2,Dn.seq' S g d1 d2 (fun hh hh1 pp S' _ pr ev=>db_1 k0 hp ev) (by lia),T2⟩
   ·have l2:=zbz x (k / 2+k / 2)
    rw [Nat.mul_add] at l2
    have km:x.length*(k % 2)=x.length:=by rw [show k % 2=1 by lia,Nat.mul_one]
    have p12:=d1.dd.pre.trans d2.dd.pre
    obtain ⟨c,ps3,h3,d3,T3⟩:=zdk d2.dd.sh d2.dd.gd T2 (T.pre p12) (by lia) (by lia)
    have w3:=zdn d2.dd.gd T2 (T.pre p12)
    have ek:repS x (k / 2+k / 2)++x=repS x k:=by
     conv=>lhs;rhs;rw [<- zd1 x]
     rw [zcQ]
     congr 1
     lia
    rw [ek] at T3
    have d23:=Dn.seq (F:=fun hh=>(yaP [.ref p,.int a,.int a] hh).bind fun v h2=>yaP [.ref p,v,.int n] h2) (F2:=fun v h2=>yaP [.ref p,v,.int n] h2) d1.dd.sh d1.dd.gd d2 d3 (fun _ _ _ _ _=>rfl) (k:=2800) (by lia)
    exact ⟨c,ps3,h3,Dn.seq' S g d1 d23 (fun hh hh1 pp S' _ pr ev=>db_2 k0 hp ev) (by lia),T3⟩
theorem yf4 {h:AH} {p n k:Nat} {ps:List Pc} {m:Ms} (S:ShelfAt h p ps) (em:(meas ps)[n]? = some m) (hk:k<2 ^ 63) (hm:m.sg*k<=1000000000000000000):ycp [.ref p,.int n,.int k] h=if n=0 then .ok (.int (0:Nat)) h else ya2 64 [.ref p,.int n,.int k] h:=by
 have fs:=zap S em
 have lt:fLt (.int k) (.int 0) h = .ok (.bl false) h:=by
  have : ¬ (k:Int)<0:=by lia
  simp only [fLt,this,decide_false]
 have ml:fMul (.int m.sg) (.int k) h = .ok (.int ((m.sg*k:Nat):Int)) h:=by
  have h2:(k:Int).natAbs<2 ^ 64:=by
   have:(2:Nat) ^ 63<2 ^ 64:=by decide
   lia
  rw [yee h2];congr 2
 have ck:=zbw (i:=((m.sg*k:Nat):Int)) (by lia) h
 unfold ycp
 generalize ya2 64=G at *
 generalize ((m.sg*k:Nat):Int)=MK at *
 by_cases z:n=0
 ·subst z
  have z0:fEq (.int 0) (.int 0) h = .ok (.bl true) h:=by simp
  have fs':yaz [.ref p,.int 0] h = .ok (.int m.sg) h:=fs
  simp [S.ob,fs',lt,ml,ck,z0,-fLt,-fMul,-fEq]
 ·have z0:fEq (.int n) (.int 0) h = .ok (.bl false) h:=by simp [z]
  rw [if_neg z]
  generalize hR:G [.ref p,.int n,.int k] h=R
  simp [S.ob,fs,lt,ml,ck,z0,hR,-fLt,-fMul,-fEq]
  cases R<;>rfl
theorem zdE {h:AH} {p:Nat} {ps:List Pc} {n k e:Nat} {x:Str} (S:ShelfAt h p ps) (g:Good ps) (T:TxZ ps n x) (hk:k<2 ^ e) (he:e<62) (hm:x.length*k<=1000000000000000000) (hz:ps.length+2800*e<15000000) :
  ∃ (m:Nat) (ps':List Pc) (h':AH),Dn (ycp [.ref p,.int n,.int k]) p h h' ps ps' (2800*e) m/\TxZ ps' m (repS x k):=by
 obtain ⟨m,em,sm⟩:=T.meas
 have k63:k<2 ^ 63:=Nat.lt_of_lt_of_le hk (Nat.pow_le_pow_right (by decide) (by lia))
 by_cases z:n=0
 ·rcases T with ⟨_,rfl⟩ | ⟨_,_,_,T⟩
  ·have dv:Dn (ycp [.ref p,.int n,.int k]) p h h ps ps 0 0:=Dn.val S g fun hh pp S' _ pr=>by rw [yf4 S' (zac pr em) k63 (by rw [sm];exact hm),if_pos z]
   exact ⟨0,ps,h,dv.as S g (fun _ _ _ _ _=>rfl) (Nat.zero_le _),.inl ⟨rfl,zgd k⟩⟩
  ·exact absurd T.n1 (by lia)
 ·obtain ⟨c,ps',h',d,T'⟩:=zes 64 e S g T hk (by lia) hm hz
  exact ⟨c,ps',h',d.as S g (fun hh pp S' _ pr=>by rw [yf4 S' (zac pr em) k63 (by rw [sm];exact hm),if_neg z]) (Nat.le_refl _),T'⟩
theorem zge {h:AH} {p a b:Nat} {ps:List Pc} {x y:Str} (S:ShelfAt h p ps) (g:Good ps) (A:TxZ ps a x) (B:TxZ ps b y) (hm:x.length+y.length<=1000000000000000000) (hz:ps.length<15000000) :
  ∃ (n:Nat) (ps':List Pc) (h':AH),yaP [.ref p,.int a,.int b] h = .ok (.int n) h'/\Dd p h h' ps ps' 1400/\TxZ ps' n (x++y):=by
 obtain ⟨n,ps',h',d,T⟩:=zdk S g A B hm hz
 exact ⟨n,ps',h',d.ev,{ d.dd with len:=Nat.le_trans d.dd.len (Nat.add_le_add_left (zdn g A B) _) },T⟩
end Sk
namespace Sk
open PySem PySem.Spec L2 Sm
def rp (B:List Nat) (t:Nat):List Nat:=(List.replicate t B).flatten
theorem rp_s (B:List Nat) (t:Nat):rp B (t+1)=B++rp B t:=by
 unfold rp;rw [List.replicate_succ,List.flatten_cons]
theorem rp_a (B:List Nat):∀ a b:Nat,rp B a++rp B b=rp B (a+b)
 | 0,b=>by rw [Nat.zero_add];rfl
 | a+1,b=>by rw [rp_s,List.append_assoc,rp_a B a b,Nat.add_right_comm,rp_s]
theorem rp_1 (B:List Nat):rp B 1=B:=by rw [rp_s];exact List.append_nil _
theorem ydp (B:List Nat):∀ t:Nat,(rp B t).length=B.length*t
 | 0=>rfl
 | t+1=>by rw [rp_s,List.length_append,ydp B t,Nat.mul_succ,Nat.add_comm]
theorem yhX {h:AH} {p:Nat} {ps:List Pc} (S:ShelfAt h p ps) (g:Good ps) {n k:Nat} {x:Str} (t:TxZ ps n x) (hk:k<=x.cps.toList.count 10) :
  ydk [.ref p,.int n,.int k] h=ycj [.ref p,.int n,.int (bh x.cps.toList k:Nat),.int (rend x.cps.toList k:Nat)] h:=by
 obtain ⟨m,em,_⟩:=t.sg
 obtain ⟨en,sg⟩:=t.en em
 have ri:=zbV S em
 have ob:=S.ob
 have c1:(k:Int)<(m.en:Int)+1:=by lia
 have ck:ycc [.ref p,.int n,.int k] h = .ok .non h:=by simp [ycc,ri,c1]
 have fb:=zca (k:=k) S g t hk
 have fe:ydH [.ref p,.int n,.int k] h = .ok (.int (rend x.cps.toList k:Nat)) h:=by
  have fen:=zcN S em
  have fsg:=zap S em
  unfold rend
  by_cases q:k=x.cps.toList.count 10
  ·rw [if_pos q]
   have q':(k:Int)=m.en:=by lia
   rw [<- zad,<- sg]
   simp [ydH,ob,fen,fsg,q']
  ·rw [if_neg q]
   have q' : ¬ (k:Int)=m.en:=by lia
   have fb2:=zca (k:=k+1) S g t (by lia)
   obtain ⟨pp,p1,_⟩:=zba x.cps.toList k (by lia)
   rw [p1] at fb2 ⊢
   have fb3:ybi [.ref p,.int n,.int ((k:Int)+1)] h = .ok (.int ((pp+1:Nat):Int)) h:=by
    have:=fb2;rw [Int.natCast_succ] at this;exact this
   have s1:((pp+1:Nat):Int)-1=((pp+1-1:Nat):Int):=by lia
   rw [<- s1]
   generalize ((pp+1:Nat):Int)=PP at *
   have q2 : ¬ (k=m.en):=fun z=>q' (by rw [z])
   simp [ydH,ob,fen,q',q2,fb3]
 generalize hR:ycj [.ref p,.int n,.int (bh x.cps.toList k:Nat),.int (rend x.cps.toList k:Nat)] h=R
 simp [ydk,ck,fb,fe,hR]
 cases R<;>rfl
theorem yhY {h:AH} {p:Nat} {ps:List Pc} (S:ShelfAt h p ps) (g:Good ps) {n k:Nat} {x:Str} (t:TxZ ps n x) (hk:k<=x.cps.toList.count 10) (hl:rend x.cps.toList k-bh x.cps.toList k<=10000) :
  ∃ (z:Str) (r:AH),ydk [.ref p,.int n,.int k] h = .ok (.str z) (h++r)/\z.cps.toList=clip (bh x.cps.toList k) (rend x.cps.toList k) x.cps.toList 0:=by
 obtain ⟨r1,r2⟩:=zdY hk
 rw [<- zad] at r2
 obtain ⟨w,r,e1,e2⟩:=zhv S g t r1 r2 hl
 exact ⟨w,r,(yhX S g t hk).trans e1,e2⟩
theorem ze6 {h:AH} {p:Nat} {ps:List Pc} (S:ShelfAt h p ps) (g:Good ps) {n k:Nat} {y:Str} (t:TxZ ps n y) (hk:k<=y.cps.toList.count 10):yc3 [.ref p,.int n,.int k] h = .ok (.int (bh y.cps.toList k:Nat)) h:=by
 obtain ⟨m,em,_⟩:=t.sg
 obtain ⟨en,_⟩:=t.en em
 have ri:=zbV S em
 have c1:(k:Int)<(m.en:Int)+1:=by lia
 have ck:ycc [.ref p,.int n,.int k] h = .ok .non h:=by simp [ycc,ri,c1]
 have fb:=zca (k:=k) S g t hk
 simp [yc3,ck,fb]
theorem zjs (a b:Int) (h:AH):fNe (.tup [.int a,.int b]) (.tup [.int a,.int b]) h = .ok (.bl false) h:=by
 have e:eqA (.tup [.int a,.int b]) (.tup [.int a,.int b]) h=some true:=by
  show some (PyData.eqv (.tuple [.int a,.int b]) (.tuple [.int a,.int b]))=some true
  simp [PyData.eqv,PyData.eqvAll]
 show (match eqA (.tup [.int a,.int b]) (.tup [.int a,.int b]) h with | some b=>Out.ok (AV.bl (!b)) h | none=>Out.bad)=_
 rw [e];rfl
def letL:List Str:=["a\n", "aab\n", "abcd\n"]
theorem zd2:∀ x∈letL,yaO x=true/\1<=x.length/\x.length<=60:=by decide +kernel
theorem yg9 (v:Nat) (hv:v<3):∃ w:Str,(yaO w=true/\1<=w.length/\w.length<=60)/\∀ h,fIx (.fl [.str "a\n",.str "aab\n",.str "abcd\n"]) (.int v) h = .ok (.str w) h:=by
 have:v=0\/v=1\/v=2:=by lia
 rcases this with rfl | rfl | rfl
 ·exact ⟨_,zd2 "a\n" (by simp [letL]),fun _=>rfl⟩
 ·exact ⟨_,zd2 "aab\n" (by simp [letL]),fun _=>rfl⟩
 ·exact ⟨_,zd2 "abcd\n" (by simp [letL]),fun _=>rfl⟩
theorem lgA {a c j v:Nat} (h1:a<=c+(16+j)) (h3:c<14000000) (h4:j<v) (h5:v<60):a<16000000:=by lia
abbrev eLR (p r n:Nat) (y:Str) (many k:Nat) (o6:Option AV):En:=[some (.ref p),some (.ref r),some (.int n),some (.str y),some (.int many),some (.int k),o6]
theorem pw18 (h:AH):fPow (.int 10) (.int 18) h = .ok (.int 1000000000000000000) h:=rfl
theorem zjt {p r:Nat} {h:AH} {ps:List Pc} (S:ShelfAt h p ps) (g:Good ps) (e:∃ N:Int,h[r]? = some (.lst [.int N])) (hr:r<p\/p+8<r) (hz:ps.length<14000000) :
  ∃ (n:Nat) (y:Str) (k:Nat) (ps':List Pc) (h':AH) (m f l:Ms) (x:Str),ycI [.ref p,.ref r] h = .ok (.tup [.int n,.str y,.int k]) h'/\Wk p r h h' ps ps' 100/\Tx ps' n m x f l/\x.cps.toList=rp y.cps.toList k/\1<=y.length/\y.length<=64/\1<=k/\yaO y=true:=by
 obtain ⟨v0,h2,hv0,ed0,W1⟩:=za0 S g e hr 3 (by decide) (by decide)
 have ed0':yam [.ref r,.int 3] h = .ok (.int v0) h2:=ed0
 obtain ⟨w,hx,ixw⟩:=yg9 v0 hv0
 obtain ⟨H,h3,hH,ed,W2⟩:=za0 W1.sh W1.gd W1.row hr 4 (by decide) (by decide)
 have ed':yam [.ref r,.int 4] h2 = .ok (.int H) h3:=ed
 have pw:2 ^ (H+1)<=2 ^ 4:=tpm hH
 have pw3:8*2 ^ H<=64:=Nat.mul_le_mul_left 8 (tpm (Nat.le_of_lt_succ hH))
 obtain ⟨n,y,many,ps',h4,m,f,l,et,V,T,q1,q2,q3,q4,q5,q6⟩:=yfG hr w hx 10 H 1 h3 ps (Nat.lt_trans hH (by decide)) (Nat.le_trans (Nat.le_of_lt hH) (by decide)) W2.sh W2.gd W2.row (by decide) (by decide) (Nat.lt_of_lt_of_le (Nat.add_lt_add_of_lt_of_le hz pw) (by decide))
 obtain ⟨v,h5,hv,ev,W3⟩:=za0 V.sh V.gd V.row hr 60 (by decide) (by decide)
 have v1:ps'.length<=ps.length+16:=Nat.le_trans V.len (Nat.add_le_add_left (Nat.le_trans (Nat.sub_le _ _) pw) _)
 have ly:1<=y.length:=T.ky.sg▸T.ky.sg1
 have W:=((W1.trans W2 (Nat.le_refl _)).trans V (Nat.le_refl _)).trans W3 (Nat.le_refl _)
 obtain ⟨e',h6,t1,t2⟩:=ydO (w:=none) (all:=yaL 0 v) (t:=.nm 6) (b:=yaN) (xs:=yaL 0 v) (en:=eLR p r n y many 1 none) (h:=h5)
  (fun i en h' => i<=v->∃ (o6:Option AV) (n k:Nat) (ps2:List Pc) (m:Ms) (z:Str),en=eLR p r n y many k o6/\Wk p r h h' ps ps2 (16+i)/\Tx ps2 n m z f l/\z.cps.toList=rp y.cps.toList k/\1<=k)
  (fun _=>⟨none,n,1,ps',m,y,rfl,⟨W.sh,W.gd,W.pre,v1,W.row,W.fr,W.hl⟩,T,(rp_1 _).symm,Nat.le_refl _⟩) (fun _ _ _ _=>rfl) (by
   intro j u en h' hx' hp
   by_cases q:j<v
   ·obtain ⟨o6,n,k,ps2,m,z,rfl,Wj,Tj,Pj,kj⟩:=hp (Nat.le_of_lt q)
    have sz:m.sg=y.length*k:=by rw [Tj.ky.sg,zad,Pj,ydp,<- zad]
    have ob:=Wj.sh.ob
    have mu1:fMul (.int (y.length:Nat)) (.int (k:Int)) h' = .ok (.int ((y.length*k:Nat):Int)) h' := by rw [yed (by lia)];rfl
    have mu2:fMul (.int ((y.length*k:Nat):Int)) (.int 2) h' = .ok (.int ((y.length*k*2:Nat):Int)) h' := by rw [yee (by decide)];rfl
    have mu3:∀ h'':AH,fMul (.int (k:Int)) (.int 2) h'' = .ok (.int ((k*2:Nat):Int)) h'' := fun _=>by rw [yee (by decide)];rfl
    have le:fLe (.int ((y.length*k*2:Nat):Int)) (.int 1000000000000000000) h' = .ok (.bl (decide (y.length*k*2<=1000000000000000000))) h' := by
     show Out.ok (AV.bl (decide (((y.length*k*2:Nat):Int)<=1000000000000000000))) h'=_
     congr 2
     exact decide_eq_decide.mpr (by lia)
    have p18:=pw18 h'
    have ly':fLen [.str y] h' = .ok (.int y.length) h' := rfl
    by_cases q2:y.length*k*2<=1000000000000000000
    ·rw [decide_eq_true q2] at le
     obtain ⟨n',ps3,h7,e7,D,T7⟩:=zel Wj.sh Wj.gd Tj Tj (lg1 q3 Tj.ky.l1) (by rw [Int.sub_self];decide) (by rw [sz,<- Nat.mul_two];exact q2) (lgA Wj.len hz q hv)
     have eB:yaN (eLR p r n y many k (some u)) h' = .nx (eLR p r n' y many (k*2) (some u)) h7:=by
      simp only [eLR]
      have m3:=mu3 h7
      generalize ((y.length*k*2:Nat):Int)=Y2 at *
      generalize ((y.length*k:Nat):Int)=Y1 at *
      generalize (y.length:Int)=Y0 at *
      generalize ((k*2:Nat):Int)=K2 at *
      simp [yaN,ly',mu1,mu2,p18,le,ob,e7,m3,-fMul,-fLen,-fPow,-fLe]
     show thn (yaN (eLR p r n y many k (some u)) h') _
     rw [eB]
     exact fun _=>⟨_,n',k*2,ps3,ydn m m,z++z,rfl,Wj.deed D hr (Nat.le_refl _),T7,by rw [zaf,Pj,rp_a,Nat.mul_two],by lia⟩
    ·rw [decide_eq_false q2] at le
     have eB:yaN (eLR p r n y many k (some u)) h' = .nx (eLR p r n y many k (some u)) h' := by
      simp only [eLR]
      generalize ((y.length*k*2:Nat):Int)=Y2 at *
      generalize ((y.length*k:Nat):Int)=Y1 at *
      generalize (y.length:Int)=Y0 at *
      simp [yaN,ly',mu1,mu2,p18,le,-fMul,-fLen,-fPow,-fLe]
     show thn (yaN (eLR p r n y many k (some u)) h') _
     rw [eB]
     exact fun _=>⟨_,n,k,ps2,m,z,rfl,⟨Wj.sh,Wj.gd,Wj.pre,Nat.le_succ_of_le Wj.len,Wj.row,Wj.fr,Wj.hl⟩,Tj,Pj,kj⟩
   ·rw [zbp,if_neg q] at hx';cases hx')
 rw [zaC] at t2
 obtain ⟨o6,n',k,ps2,m',z,rfl,W6,T6,P6,k6⟩:=t2 (Nat.le_refl _)
 refine ⟨n',y,k,ps2,h6,m',f,l,z,?_,⟨W6.sh,W6.gd,W6.pre,Nat.le_trans W6.len (by lia),W6.row,W6.fr,W6.hl⟩,T6,P6,ly,Nat.le_trans q4 pw3,k6,T.ky.pl⟩
 have ev':yam [.ref r,.int 60] h4 = .ok (.int v) h5:=ev
 have et':ycr 10 [.ref p,.ref r,.str w,.int H,.int 1] h3 = .ok (.tup [.int n,.str y,.int many]) h4:=et
 have it:yaI (yah yam (yab (sVar 1) (yab (sLit (.int 60)) sNil))) (eLR p r n y many 1 none) h4 = .ok (yaL 0 v,none) h5:=zaN (n:=v) (by simp [eLR,ev']) (by lia)
 have f1:=(yc5 (t:=.nm 6) (b:=yaN) it).trans t1
 have f1':sFor (yaI (yah yam (yab (sVar 1) (yab (sLit (.int 60)) sNil)))) (.nm 6) yaN [some (.ref p),some (.ref r),some (.int n),some (.str y),some (.int many),some (.int 1),none] h4 = .nx [some (.ref p),some (.ref r),some (.int n'),some (.str y),some (.int many),some (.int k),o6] h6:=f1
 clear t1 it f1 W W1 W2 W3 W6 V T T6
 unfold ycI
 generalize sFor (yaI (yah yam (yab (sVar 1) (yab (sLit (.int 60)) sNil)))) (.nm 6) yaN=FF at *
 simp [ed0',ixw,ed',et',f1',-fIx]
end Sk
namespace Sk
open PySem PySem.Spec L2 Sm
theorem ap1 {h:AH} {R:Nat} {fs:List AV} (e:h[R]? = some (.lst fs)) (hf:fs.length<=2000) (v:AV):yaU (.ref R) [v] h = .ok .non (h.set R (.lst (fs++[v]))):=by
 have:fs.length<sizeLine:=Nat.lt_of_le_of_lt hf (by decide)
 simp only [yaU,e,this,if_true]
theorem yez {a b c:Nat} (e:a+b=c) (h:AH):fAdd (.int a) (.int b) h = .ok (.int c) h:=by
 have:(a:Int)+b=c:=by lia
 simp only [fAdd,this]
theorem yeA {a b c:Nat} (ha:a<=1000000) (e:a*b=c) (h:AH):fMul (.int a) (.int b) h = .ok (.int c) h:=by
 rw [yed (Nat.lt_of_le_of_lt (m:=1000000) (by lia) (by decide)),<- e];rfl
theorem yfJ {a b c:Nat} (hb:b<=1000000) (e:a*b=c) (h:AH):fMul (.int a) (.int b) h = .ok (.int c) h:=by
 rw [yee (Nat.lt_of_le_of_lt (m:=1000000) (by lia) (by decide)),<- e];rfl
theorem yf5 {a b c:Nat} (h0:1<=b) (hb:b<=1000000) (e:a / b=c) (h:AH):fDiv (.int a) (.int b) h = .ok (.int c) h:=by
 have q:0<(b:Int)/\(b:Int).natAbs<2 ^ 200:=⟨by lia,Nat.lt_of_le_of_lt (m:=1000000) (by lia) (by decide)⟩
 simp only [fDiv]
 rw [if_pos q,<- e];rfl
theorem eqz (a b:Int) (h:AH):fEq (.int a) (.int b) h = .ok (.bl (decide (a=b))) h:=by simp
theorem ydq (B:List Nat):∀ t,(rp B t).count 10=B.count 10*t
 | 0=>rfl
 | t+1=>by rw [rp_s,List.count_append,ydq B t,Nat.mul_succ,Nat.add_comm]
theorem yfc {B:List Nat} {c:Nat} (hc:B.count 10=c):∀ q t r:Nat,q<t->r<c->bh (rp B t) (c*q+r+1)=B.length*q+bh B (r+1)
 | 0,t,r,ht,hr=>by
  obtain ⟨t,rfl⟩:∃ s,t=s+1:=⟨t-1,by lia⟩
  rw [rp_s,Nat.mul_zero,Nat.zero_add,Nat.mul_zero,Nat.zero_add,zby _ _ _ (by lia)]
 | q+1,t,r,ht,hr=>by
  obtain ⟨t,rfl⟩:∃ s,t=s+1:=⟨t-1,by lia⟩
  have e:c*(q+1)+r+1=c+(c*q+r+1):=by rw [Nat.mul_succ];lia
  rw [rp_s,e,zbk _ _ _ (by lia),hc,Nat.add_sub_cancel_left,yfc hc q t r (by lia) hr,Nat.mul_succ]
  lia
def rolN (B:List Nat) (row:Nat):Nat:=if row=0 then 0 else B.length*((row-1) / B.count 10)+bh B ((row-1) % B.count 10+1)
theorem yeX {B:List Nat} {t row:Nat} (c1:1<=B.count 10) (hr:row<=B.count 10*t):rolN B row=bh (rp B t) row:=by
 unfold rolN
 by_cases z:row=0
 ·rw [if_pos z,z,bh0]
 ·rw [if_neg z]
  have d:=Nat.div_add_mod (row-1) (B.count 10)
  have lt:=Nat.mod_lt (row-1) (show B.count 10 > 0 by lia)
  have q:(row-1) / B.count 10<t:=Nat.div_lt_of_lt_mul (by lia)
  have:=yfc rfl ((row-1) / B.count 10) t ((row-1) % B.count 10) q lt
  rw [<- this]
  congr 1
  lia
theorem yhZ (c:Nat) (h:AH):fEq (.str ⟨#[c]⟩) (.str "\n") h = .ok (.bl (decide (c=10))) h:=by
 have:((⟨#[c]⟩:Str)=Str.ofString "\n") ↔ c=10:=by rw [yew];simp
 simp [this]
theorem zdo {en:En} {all:List AV} {h:AH}:∀ (cs:List Nat) (i:Nat) (ys:List AV),ys.length+cs.length<=sizeLine->yaF [] en none all (un2 (yas (sOp2 fEq (sVar 1) (sLit (.str "\n"))))) (un2 (sVar 0)) (Sm.numbered i (cs.map fun c=>AV.str ⟨#[c]⟩)) ys h = .ok (ys++(posL i cs).map fun k:Nat=>AV.int k) h
 | [],i,ys,_=>by simp [Sm.numbered,yaF,posL]
 | c::cs,i,ys,hl=>by
  rw [List.length_cons] at hl
  have q:=yhZ c h
  rw [List.map_cons,Sm.numbered]
  unfold yaF
  rw [if_pos ⟨rfl,by lia⟩]
  by_cases z:c=10
  ·rw [decide_eq_true z] at q
   have ih:=zdo (en:=en) (all:=all) (h:=h) cs (i+1) (ys++[.int i]) (by rw [List.length_append];show _+1+_<=_;lia)
   have cc:un2 (yas (sOp2 fEq (sVar 1) (sLit (.str "\n")))) (some (.tup [.int i,.str ⟨#[c]⟩])::([]:List Nat).map fun j=>(en[j]?).join) h = .ok true h:=by
    simp [un2,q,-fEq]
   have ce:un2 (sVar 0) (some (.tup [.int i,.str ⟨#[c]⟩])::([]:List Nat).map fun j=>(en[j]?).join) h = .ok (.int i) h:=by simp [un2]
   rw [cc]
   dsimp only
   rw [ce]
   dsimp only
   rw [ih,posL,if_pos z]
   simp
  ·rw [decide_eq_false z] at q
   have ih:=zdo (en:=en) (all:=all) (h:=h) cs (i+1) ys (by lia)
   have cc:un2 (yas (sOp2 fEq (sVar 1) (sLit (.str "\n")))) (some (.tup [.int i,.str ⟨#[c]⟩])::([]:List Nat).map fun j=>(en[j]?).join) h = .ok false h:=by
    simp [un2,q,-fEq]
   rw [cc]
   dsimp only
   rw [ih,posL,if_neg z]
theorem yfd {a b:Nat} (h0:1<=b) (h:AH):fMod (.int a) (.int b) h = .ok (.int ((a % b:Nat):Int)) h:=by
 have:(0:Int)<b:=by lia
 simp only [fMod,this,if_true]
 rfl
theorem yfe {y:Str} {tt row:Nat} (c1:1<=y.cps.toList.count 10) (ly:y.length<=64) (h:AH):ya5 [.str y,.int tt,.int row] h = .ok (.int (rolN y.cps.toList row)) h:=by
 obtain ⟨B,eB⟩:∃ B,B=y.cps.toList:=⟨_,rfl⟩
 have lB:y.length=B.length:=by rw [eB,zad]
 have cB:B.count 10<=B.length:=List.count_le_length
 have cp:∀ en:En,en[0]? = some (some (.str y))->yec [] (ydF (sVar 0)) (yas (sOp2 fEq (sVar 1) (sLit (.str "\n")))) (sVar 0) en h = .ok (.fl ((posL 0 B).map fun k:Nat=>AV.int k)) h:=fun en e=>by
  have:=zdo (en:=en) (all:=Sm.numbered 0 (ydS y)) (h:=h) B 0 [] (Nat.le_trans (m:=64) (by simp;lia) (by decide))
  rw [List.nil_append] at this
  have it:ydF (sVar 0) en h = .ok (Sm.numbered 0 (B.map fun c=>AV.str ⟨#[c]⟩),none) h:=by
   rw [eB]
   simp [e,ydS]
  show (match ydF (sVar 0) en h with | .ok (xs,w) h1=>(match yaF [] en w xs (un2 _) (un2 _) xs [] h1 with | .ok ys h2=>Out.ok (AV.fl ys) h2 | _=>.bad) | _=>.bad)=_
  rw [it]
  dsimp only
  have all':Sm.numbered 0 (ydS y)=Sm.numbered 0 (B.map fun c=>AV.str ⟨#[c]⟩):=by rw [eB];rfl
  rw [all'] at this
  rw [this]
 rw [<- eB] at c1 ⊢
 have lf:fLen [.fl ((posL 0 B).map fun k:Nat=>AV.int k)] h = .ok (.int (B.count 10)) h:=by simp only [fLen,List.length_map,zcb]
 have ly':fLen [.str y] h = .ok (.int B.length) h:=by rw [<- lB];rfl
 by_cases z:row=0
 ·have q:=eqz row 0 h
  rw [decide_eq_true (by lia)] at q
  have e:rolN B row=0:=by unfold rolN;rw [if_pos z]
  rw [e]
  unfold ya5
  generalize yec [] (ydF (sVar 0)) (yas (sOp2 fEq (sVar 1) (sLit (.str "\n")))) (sVar 0)=CM at *
  simp [cp,q,-fEq]
 ·have q:=eqz row 0 h
  rw [decide_eq_false (by lia)] at q
  have sb:fSub (.int row) (.int 1) h = .ok (.int ((row-1:Nat):Int)) h:=by
   show Out.ok (AV.int ((row:Int)-1)) h=_
   congr 2;lia
  obtain ⟨dq,edq⟩:∃ dq,dq=(row-1) / B.count 10:=⟨_,rfl⟩
  obtain ⟨dr,edr⟩:∃ dr,dr=(row-1) % B.count 10:=⟨_,rfl⟩
  have dv:=yf5 (a:=row-1) (b:=B.count 10) c1 (by lia) edq.symm h
  have md:=yfd (a:=row-1) c1 h
  rw [<- edr] at md
  have lt:dr<B.count 10:=by rw [edr];exact Nat.mod_lt _ (by lia)
  have ml:=yfJ (a:=dq) (b:=B.length) (by lia) rfl h
  obtain ⟨fd,efd⟩:∃ fd,(posL 0 B)[dr]? = some fd:=⟨_,List.getElem?_eq_getElem (by rw [zcb];exact lt)⟩
  have pb:=zdX B 0 dr fd efd
  have ix:fIx (.fl ((posL 0 B).map fun k:Nat=>AV.int k)) (.int dr) h = .ok (.int fd) h:=by
   have:=zeS (f:=fun k:Nat=>AV.int k) efd
   simp only [fIx,this]
  have a1:=yez (a:=dq*B.length) (b:=fd) rfl h
  have a2:fAdd (.int ((dq*B.length+fd:Nat):Int)) (.int 1) h = .ok (.int (rolN B row)) h:=by
   have e:rolN B row=dq*B.length+fd+1:=by
    unfold rolN
    rw [if_neg z,<- edq,<- edr,Nat.mul_comm]
    lia
   rw [e]
   exact yez (b:=1) rfl h
  clear lB cB c1 ly
  unfold ya5
  generalize yec [] (ydF (sVar 0)) (yas (sOp2 fEq (sVar 1) (sLit (.str "\n")))) (sVar 0)=CM at *
  generalize (posL 0 B).map (fun k:Nat=>AV.int k)=PP at *
  generalize ((dq*B.length+fd:Nat):Int)=X1 at *
  generalize ((dq*B.length:Nat):Int)=X2 at *
  generalize ((row-1:Nat):Int)=R1 at *
  generalize (B.length:Int)=BL at *
  generalize ((B.count 10:Nat):Int)=BC at *
  generalize (rolN B row:Int)=RN at *
  simp [cp,q,sb,lf,ly',dv,md,ml,ix,a1,a2,-fEq,-fSub,-fLen,-fDiv,-fMod,-fMul,-fIx,-fAdd]
end Sk
namespace Sk
open PySem PySem.Spec L2 Sm
theorem yeB (B:List Nat):∀ t j:Nat,j<B.length*t->(rp B t)[j]? = B[j % B.length]?
 | 0,j,h=>absurd h (by rw [Nat.mul_zero];lia)
 | t+1,j,h=>by
  rw [rp_s,List.getElem?_append]
  by_cases q:j<B.length
  ·rw [if_pos q,Nat.mod_eq_of_lt q]
  ·rw [if_neg q,yeB B t (j-B.length) (by rw [Nat.mul_succ] at h;lia),<- Nat.mod_eq_sub_mod (by lia)]
theorem zju {B:List Nat} {t b e:Nat} (be:b<=e) (he:e<=B.length*t) (w:e-b<=B.length):clip b e (rp B t) 0=clip (b % B.length) (b % B.length+(e-b)) (rp B 3) 0:=by
 refine List.ext_getElem? fun i=>?_
 unfold clip
 simp only [Nat.sub_zero]
 rw [List.getElem?_drop,List.getElem?_take,List.getElem?_drop,List.getElem?_take]
 by_cases q:b+i<e
 ·have m:=Nat.mod_lt b (show B.length > 0 by lia)
  rw [if_pos q,if_pos (by lia),yeB B t _ (by lia),yeB B 3 _ (by lia),Nat.mod_add_mod]
 ·rw [if_neg q,if_neg (by lia)]
theorem zjv {B:List Nat} {t row:Nat} (c1:1<=B.count 10) (t1:1<=t) (hr:row<=B.count 10*t):rend (rp B t) row-bh (rp B t) row<=B.length:=by
 unfold rend
 rw [ydq]
 by_cases z:row=B.count 10*t
 ·rw [if_pos z,ydp]
  obtain ⟨s,rfl⟩:∃ s,t=s+1:=⟨t-1,by lia⟩
  have:=yfc (B:=B) rfl s (s+1) (B.count 10-1) (by lia) (by lia)
  have e:B.count 10*s+(B.count 10-1)+1=row:=by rw [z,Nat.mul_succ];lia
  rw [e] at this
  rw [this,Nat.mul_succ]
  lia
 ·rw [if_neg z]
  obtain ⟨p,p1,p2,p3,p4⟩:=zba (rp B t) row (by rw [ydq];lia)
  rw [p1]
  generalize bh (rp B t) row=b at *
  have pl:p<B.length*t:=by
   rw [<- ydp]
   exact (List.getElem?_eq_some_iff.mp p3).1
  by_cases w:p+1-1-b<=B.length
  ·exact w
  ·exfalso
   obtain ⟨i,hi⟩:=List.getElem?_of_mem (List.count_pos_iff.mp c1)
   have il:=(List.getElem?_eq_some_iff.mp hi).1
   have d:=Nat.div_add_mod b B.length
   have m:=Nat.mod_lt b (show B.length > 0 by lia)
   by_cases q:b % B.length<=i
   ·refine p4 (B.length*(b / B.length)+i) (by lia) (by lia) ?_
    rw [yeB B t _ (by lia),Nat.mul_add_mod,Nat.mod_eq_of_lt il,hi]
   ·refine p4 (B.length*(b / B.length+1)+i) (by rw [Nat.mul_succ];lia) (by rw [Nat.mul_succ];lia) ?_
    rw [yeB B t _ (by rw [Nat.mul_succ];lia),Nat.mul_add_mod,Nat.mod_eq_of_lt il,hi]
theorem zcf (x:Str) (h:AH):ybE (.str x) [.str "\n"] h = .ok (.int ((x.cps.toList.count 10:Nat):Int)) h:=by
 rw [<- zaO]
 simp [ybE,yew,ydl]
theorem zdp (a b:Int) (h:AH):fEq (.tup [.int a,.int b]) (.tup [.int a,.int b]) h = .ok (.bl true) h:=by
 have e:eqA (.tup [.int a,.int b]) (.tup [.int a,.int b]) h=some true:=by
  show some (PyData.eqv (.tuple [.int a,.int b]) (.tuple [.int a,.int b]))=some true
  simp [PyData.eqv,PyData.eqvAll]
 show (match eqA (.tup [.int a,.int b]) (.tup [.int a,.int b]) h with | some b=>Out.ok (AV.bl b) h | none=>Out.bad)=_
 rw [e]
theorem cutO (w:Str) (a b:Int) (h:AH):yb1 (.str w) (some a) (some b) h = .ok (.str (cutS w (some a) (some b))) h:=rfl
theorem zhy {h:AH} {p:Nat} {ps:List Pc} (S:ShelfAt h p ps) (g:Good ps) {n k row:Nat} {x y:Str} (t:TxZ ps n x) (P:x.cps.toList=rp y.cps.toList k) (c1:1<=y.cps.toList.count 10) (ly:y.length<=64) (k1:1<=k) (hr:row<=y.cps.toList.count 10*k) :
  ∃ r,ycb [.ref p,.int n,.str y,.int k,.int row] h = .ok (.bl true) (h++r):=by
 obtain ⟨B,eB⟩:∃ B,B=y.cps.toList:=⟨_,rfl⟩
 obtain ⟨X,eX⟩:∃ X,X=x.cps.toList:=⟨_,rfl⟩
 have hr' := hr
 have fr1:=fun h=>yfe (row:=row) (tt:=k) c1 ly h
 have fr2:=fun h=>yfe (row:=row+1) (tt:=k) c1 ly h
 have fc:=zcf y
 rw [<- eB] at hr c1 fr1 fr2 fc P
 have lB:y.length=B.length:=by rw [eB,zad]
 have cB:B.count 10<=B.length:=List.count_le_length
 have lX:x.length=B.length*k:=by rw [zad,P,ydp]
 rw [<- eX] at P
 have hk:row<=x.cps.toList.count 10:=by rw [<- eX,P,ydq];exact hr
 have ml:=fun h=>yeA (a:=B.count 10) (b:=k) (by lia) rfl h
 have ml2:=fun h=>yeA (a:=B.length) (b:=k) (by lia) rfl h
 have ly':∀ h,fLen [.str y] h = .ok (.int B.length) h:=fun h=>by rw [<- lB];rfl
 obtain ⟨b,eb⟩:∃ b,b=bh X row:=⟨_,rfl⟩
 obtain ⟨e,ee⟩:∃ e,e=rend X row:=⟨_,rfl⟩
 rw [yeX c1 hr,<- P,<- eb] at fr1
 obtain ⟨r1,r2⟩:=zdY hk
 rw [<- eX,<- eb,<- ee] at r1
 rw [<- eX,<- ee,P,ydp] at r2
 have wd:=zjv c1 k1 hr
 rw [<- P,<- eb,<- ee] at wd
 have lt:∀ h,fLt (.int row) (.int ((B.count 10*k:Nat):Int)) h = .ok (.bl (decide (row<B.count 10*k))) h:=fun h=>by
  show Out.ok (AV.bl (decide ((row:Int)<((B.count 10*k:Nat):Int)))) h=_
  congr 2
  exact decide_eq_decide.mpr (by lia)
 have rb:=ze6 S g t hk
 rw [<- eX,<- eb] at rb
 obtain ⟨z,q1,et,ez⟩:=yhY S g t hk (by rw [<- eX,<- eb,<- ee];lia)
 rw [<- eX,<- eb,<- ee,P,zju r1 r2 wd] at ez
 have S1:=S.app q1
 obtain ⟨q2,ea⟩:=zcd (q:=b) S1 g t (by rw [lX];lia)
 obtain ⟨q3,ea2⟩:=zcd (q:=e) (S1.app q2) g t (by rw [lX];lia)
 have n1:dueV x b = .tup [.int row,.int 0]:=by
  unfold dueV
  have:=yeW (l:=X) (q:=b) (by rw [eX];exact hk) (by lia) (by lia)
  rw [<- eX,this,<- eb,Int.sub_self]
 have n2:dueV x e = .tup [.int row,.int ((e:Int)-b)]:=by
  unfold dueV
  have:=yeW (l:=X) (q:=e) (by rw [eX];exact hk) (by lia) (by lia)
  rw [<- eX,this,<- eb]
 rw [n1] at ea
 rw [n2] at ea2
 have l2:(y++y).length=y.length+y.length:=by rw [zad,zaf,List.length_append,<- zad]
 have sl:y.length+y.length<=sizeLine:=Nat.le_trans (m:=192) (by lia) (by decide)
 have sl2:(y++y).length+y.length<=sizeLine:=Nat.le_trans (m:=192) (by lia) (by decide)
 have wide:fAdd (.str y) (.str y) h = .ok (.str (y++y)) h:=by simp only [fAdd,sl,if_true]
 have wide2:fAdd (.str (y++y)) (.str y) h = .ok (.str (y++y++y)) h:=by simp only [fAdd,sl2,if_true]
 clear l2 sl sl2
 have fm:=fun h=>yfd (a:=b) (b:=B.length) (by lia) h
 obtain ⟨f,ef⟩:∃ f,f=b % B.length:=⟨_,rfl⟩
 have ct:cutS (y++y++y) (some (f:Int)) (some ((f:Int)+e-b))=z:=by
  have:(f:Int)+e-b=((f+(e-b):Nat):Int):=by lia
  rw [this]
  refine zas ?_
  rw [yg7 (by lia),zaf,zaf,<- eB,ez,<- ef]
  congr 1
  rw [rp_s,rp_s,rp_1,List.append_assoc]
 rw [<- ef] at fm
 have ixe:=fun h=>cutO (y++y++y) (f:Int) ((f:Int)+e-b) h
 rw [ct] at ixe
 have ad:∀ (i j:Int) (h:AH),fAdd (.int i) (.int j) h = .ok (.int (i+j)) h:=fun _ _ _=>rfl
 have sb:∀ (i j:Int) (h:AH),fSub (.int i) (.int j) h = .ok (.int (i-j)) h:=fun _ _ _=>rfl
 have p1:=fun h=>zdp (row:Int) 0 h
 have p2:=fun h=>zdp (row:Int) ((e:Int)-b) h
 have nb:=fun h=>neIx (b:Int) h
 have nz:=fun h=>neSx z h
 refine ⟨q1++q2++q3,?_⟩
 rw [<- List.append_assoc,<- List.append_assoc]
 by_cases q:row<B.count 10*k
 ·have lt' := lt h
  rw [decide_eq_true q] at lt'
  have e1:bh X (row+1)=e+1:=by
   obtain ⟨pp,w1,w2,_⟩:=zba X row (by rw [P,ydq];exact q)
   rw [ee];unfold rend
   rw [if_neg (by rw [P,ydq];lia),w1];rfl
  rw [yeX (t:=k) c1 (by lia),<- P,e1] at fr2
  have a1:fAdd (.int row) (.int 1) h = .ok (.int ((row+1:Nat):Int)) h:=rfl
  have s1:fSub (.int ((e+1:Nat):Int)) (.int 1) h = .ok (.int e) h:=by
   show Out.ok (AV.int (((e+1:Nat):Int)-1)) h=_
   congr 2;lia
  clear P hr hk r1 r2 wd lt S S1 t g ez ct e1 eb ee ef lX lB cB n1 n2 c1 ly hr' q
  generalize h++q1++q2++q3=H3 at *
  generalize h++q1++q2=H2 at *
  generalize h++q1=H1 at *
  generalize ((B.count 10*k:Nat):Int)=BCK at *
  generalize ((B.length*k:Nat):Int)=BLK at *
  generalize ((B.count 10:Nat):Int)=BC at *
  generalize (B.length:Int)=BL at *
  generalize ((row+1:Nat):Int)=R1 at *
  generalize ((e+1:Nat):Int)=E1 at *
  generalize (e:Int)=EE at *
  generalize (b:Int)=BB at *
  generalize (f:Int)=FF at *
  generalize (row:Int)=RR at *
  unfold ycb
  simp [fc,ml,fr1,ly',ml2,lt',a1,fr2,s1,wide,wide2,fm,rb,nb,et,ad,sb,ixe,nz,ea,ea2,p1,p2,-fAdd,-fSub,-fMul,-fLen,-fLt,-fEq,-fNe,-fMod,-ybE,-yb1]
 ·have lt' := lt h
  rw [decide_eq_false q] at lt'
  have e1:B.length*k=e:=by
   rw [ee];unfold rend
   rw [if_pos (by rw [P,ydq];lia),P,ydp]
  rw [e1] at ml2
  clear P hr hk r1 r2 wd lt S S1 t g ez ct e1 eb ee ef lX lB cB n1 n2 c1 ly hr' q
  generalize h++q1++q2++q3=H3 at *
  generalize h++q1++q2=H2 at *
  generalize h++q1=H1 at *
  generalize ((B.count 10*k:Nat):Int)=BCK at *
  generalize ((B.count 10:Nat):Int)=BC at *
  generalize (B.length:Int)=BL at *
  generalize (e:Int)=EE at *
  generalize (b:Int)=BB at *
  generalize (f:Int)=FF at *
  generalize (row:Int)=RR at *
  unfold ycb
  simp [fc,ml,fr1,ly',ml2,lt',wide,wide2,fm,rb,nb,et,ad,sb,ixe,nz,ea,ea2,p1,p2,-fAdd,-fSub,-fMul,-fLen,-fLt,-fEq,-fNe,-fMod,-ybE,-yb1]
end Sk
namespace Sk
open PySem PySem.Spec L2 Sm
theorem yfK {B:List Nat}:∀ q t r:Nat,r<B.length->B.length*q+r<=B.length*t->((rp B t).take (B.length*q+r)).count 10=B.count 10*q+(B.take r).count 10
 | 0,0,r,hr,h=>by
  have:r=0:=by rw [Nat.mul_zero] at h;lia
  subst this
  simp [rp]
 | 0,t+1,r,hr,h=>by rw [Nat.mul_zero,Nat.zero_add,Nat.mul_zero,Nat.zero_add,rp_s,List.take_append_of_le_length (by lia)]
 | q+1,0,r,hr,h=>by rw [Nat.mul_succ,Nat.mul_zero] at h;lia
 | q+1,t+1,r,hr,h=>by
  have e:B.length*(q+1)+r=B.length+(B.length*q+r):=by rw [Nat.mul_succ];lia
  rw [e,rp_s,List.take_append,List.take_of_length_le (by lia),Nat.add_sub_cancel_left,List.count_append,yfK q t r hr (by rw [Nat.mul_succ,Nat.mul_succ] at h;lia),Nat.mul_succ]
  lia
theorem zfl {h:AH} {p:Nat} {ps:List Pc} (S:ShelfAt h p ps) (g:Good ps) {n k q:Nat} {x y:Str} (t:TxZ ps n x) (P:x.cps.toList=rp y.cps.toList k) (c1:1<=y.cps.toList.count 10) (ly:y.length<=64) (hq:q<=y.length*k) :
  ∃ r,ycg [.ref p,.int n,.str y,.int q] h = .ok (.bl true) (h++r):=by
 have lX:x.length=y.length*k:=by rw [zad,P,ydp,<- zad]
 obtain ⟨r,ea⟩:=zcd (q:=q) S g t (by lia)
 refine ⟨r,?_⟩
 have lc:=List.count_le_length (a:=10) (l:=y.cps.toList)
 rw [<- zad] at lc
 have yl:y.length=y.cps.toList.length:=zad y
 obtain ⟨a,ea'⟩:∃ a,a=q / y.length:=⟨_,rfl⟩
 obtain ⟨b,eb⟩:∃ b,b=q % y.length:=⟨_,rfl⟩
 have d:=Nat.div_add_mod q y.length
 rw [<- ea',<- eb] at d
 have lb:b<y.length:=by rw [eb];exact Nat.mod_lt _ (by lia)
 have cn:=yfK (B:=y.cps.toList) a k b (by lia) (by rw [<- yl];lia)
 rw [<- yl,d,<- P] at cn
 obtain ⟨row,er⟩:∃ row,row=(x.cps.toList.take q).count 10:=⟨_,rfl⟩
 have hr:row<=y.cps.toList.count 10*k:=by
  rw [er,<- ydq,<- P]
  exact (List.take_sublist _ _).count_le _
 unfold dueV at ea
 rw [<- er] at ea cn
 have fr:=fun h=>yfe (row:=row) (tt:=1) c1 ly h
 rw [yeX (t:=k) c1 hr,<- P] at fr
 have fr':∀ h,ya5 [.str y,.int 1,.int row] h = .ok (.int (bh x.cps.toList row:Nat)) h:=fr
 have dv:=fun h=>yf5 (a:=q) (b:=y.length) (by lia) (by lia) ea'.symm h
 have md:=fun h=>yfd (a:=q) (b:=y.length) (by lia) h
 rw [<- eb] at md
 have ly':∀ h,fLen [.str y] h = .ok (.int y.length) h:=fun _=>rfl
 have ct:=fun h=>yg8 (x:=y) (a:=b) h
 have fc:=fun h=>zcf y h
 have fc2:=fun h=>zcf (tkS y b) h
 rw [yfI] at fc2
 have ml:=fun h=>yfJ (a:=a) (b:=y.cps.toList.count 10) (by lia) rfl h
 have ad:=fun h=>yez (a:=a*y.cps.toList.count 10) (b:=(y.cps.toList.take b).count 10) (c:=row) (by rw [cn,Nat.mul_comm]) h
 have sb:∀ (i j:Int) (h:AH),fSub (.int i) (.int j) h = .ok (.int (i-j)) h:=fun _ _ _=>rfl
 have p1:=fun h=>zdp (row:Int) ((q:Int)-(bh x.cps.toList row:Nat)) h
 clear P lX S g t lc yl ea' eb d lb cn er hr fr hq c1 ly
 generalize h++r=H at *
 generalize tkS y b=ty at *
 generalize ((bh x.cps.toList row:Nat):Int)=BX at *
 generalize ((a*y.cps.toList.count 10:Nat):Int)=M1 at *
 generalize ((y.cps.toList.count 10:Nat):Int)=M2 at *
 generalize (((y.cps.toList.take b).count 10:Nat):Int)=M3 at *
 generalize (y.length:Int)=M4 at *
 generalize (row:Int)=M5 at *
 generalize (a:Int)=M6 at *
 generalize (b:Int)=M7 at *
 generalize (q:Int)=M8 at *
 unfold ycg
 simp [ly',dv,md,ct,fc,fc2,ml,ad,fr',ea,sb,p1,-fAdd,-fSub,-fMul,-fLen,-fEq,-fMod,-fDiv,-ybE,-yb1]
structure Hr (L:Nat) (h:AH) (ps:List Pc):Prop where
 sh:ShelfAt h 0 ps
 gd:Good ps
 l8:0+8<L
 row:∃ N:Int,h[L]? = some (.lst [.int N])
theorem Hr.app {L:Nat} {h:AH} {ps:List Pc} (a:Hr L h ps) (r:AH):Hr L (h++r) ps:=by
 obtain ⟨N,e⟩:=a.row
 exact ⟨a.sh.app r,a.gd,a.l8,N,by rw [List.getElem?_append_left (yc6 e)];exact e⟩
theorem Hr.wk {L:Nat} {h h':AH} {ps ps':List Pc} {k:Nat} (a:Hr L h ps) (W:Wk 0 L h h' ps ps' k):Hr L h' ps' := ⟨W.sh,W.gd,a.l8,W.row⟩
theorem Hr.dig {L:Nat} {h:AH} {ps:List Pc} (a:Hr L h ps) (m:Nat) (hm:0<m) (hm2:m<=10 ^ 50):∃ (v:Nat) (h':AH),v<m/\yam [.ref L,.int m] h = .ok (.int v) h'/\Hr L h' ps:=by
 obtain ⟨v,h',hv,e,W⟩:=za0 a.sh a.gd a.row (.inr a.l8) m hm hm2
 exact ⟨v,h',hv,e,a.wk W⟩
theorem Hr.new {h:AH} {ps:List Pc} (S:ShelfAt h 0 ps) (g:Good ps) (N:Int):Hr h.length (h++[.lst [.int N]]) ps:=⟨S.app _,g,yc6 S.h8,N,by simp⟩
abbrev e32 (o0:Option AV) (k:Option AV) (r:Option AV) (n:Nat) (y:Str) (t E L:Nat) (o9 o10:Option AV):En:=[o0,some (.ref 0),k,r,some (.int n),some (.str y),some (.int t),some (.int E),some (.ref L),o9,o10]
theorem zhz {o0 o2 o3 o9 o10:Option AV} {n t E L:Nat} {x y:Str} {ps:List Pc} {h:AH} (R:Hr L h ps) (T:TxZ ps n x) (P:x.cps.toList=rp y.cps.toList t) (c1:1<=y.cps.toList.count 10) (ly:y.length<=64) (t1:1<=t) (eE:E=y.cps.toList.count 10*t) (xs:List AV) (hx:∀ v∈xs,∃ row:Nat,row<=E/\v = .int row) :
  ∃ (h':AH) (o:Option AV),ybM none xs (.nm 9) ycU xs (e32 o0 o2 o3 n y t E L o9 o10) h = .nx (e32 o0 o2 o3 n y t E L o o10) h'/\Hr L h' ps:=by
 obtain ⟨e',h',q1,q2⟩:=ydO (w:=none) (all:=xs) (t:=.nm 9) (b:=ycU) (xs:=xs) (en:=e32 o0 o2 o3 n y t E L o9 o10) (h:=h)
  (fun _ en hh=>∃ o,en=e32 o0 o2 o3 n y t E L o o10/\Hr L hh ps) ⟨_,rfl,R⟩ (fun _ _ _ _=>rfl) (by
   rintro j u en hh hu ⟨o,rfl,Rj⟩
   obtain ⟨row,hr,rfl⟩:=hx u (List.mem_of_getElem? hu)
   obtain ⟨r,er⟩:=zhy (row:=row) Rj.sh Rj.gd T P c1 ly t1 (by lia)
   show thn (ycU (e32 o0 o2 o3 n y t E L (some (.int row)) o10) hh) _
   have:ycU (e32 o0 o2 o3 n y t E L (some (.int row)) o10) hh = .nx (e32 o0 o2 o3 n y t E L (some (.int row)) o10) (hh++r):=by
    generalize hh++r=H at *
    simp [ycU,er]
   rw [this]
   exact ⟨_,rfl,Rj.app r⟩)
 obtain ⟨o,rfl,R'⟩:=q2
 exact ⟨h',o,q1,R'⟩
theorem zfm {o0 o2 o3 o9 o10:Option AV} {n t E L:Nat} {x y:Str} {ps:List Pc} {h:AH} (R:Hr L h ps) (T:TxZ ps n x) (P:x.cps.toList=rp y.cps.toList t) (c1:1<=y.cps.toList.count 10) (ly:y.length<=64) (hm:y.length*t<=1000000000000000000) (xs:List AV) :
  ∃ (h':AH) (o:Option AV),ybM none xs (.nm 10) ycV xs (e32 o0 o2 o3 n y t E L o9 o10) h = .nx (e32 o0 o2 o3 n y t E L o9 o) h'/\Hr L h' ps:=by
 obtain ⟨e',h',q1,q2⟩:=ydO (w:=none) (all:=xs) (t:=.nm 10) (b:=ycV) (xs:=xs) (en:=e32 o0 o2 o3 n y t E L o9 o10) (h:=h)
  (fun _ en hh=>∃ o,en=e32 o0 o2 o3 n y t E L o9 o/\Hr L hh ps) ⟨_,rfl,R⟩ (fun _ _ _ _=>rfl) (by
   rintro j u en hh hu ⟨o,rfl,Rj⟩
   obtain ⟨v,h2,hv,ed,R2⟩:=Rj.dig (y.length*t+1) (by lia) (Nat.le_trans (Nat.succ_le_succ hm) (by decide))
   obtain ⟨r,er⟩:=zfl (q:=v) R2.sh R2.gd T P c1 ly (by lia)
   have ml:=yeA (a:=y.length) (b:=t) (by lia) rfl hh
   have ad:=yez (a:=y.length*t) (b:=1) rfl hh
   have ad':fAdd (.int ((y.length*t:Nat):Int)) (.int 1) hh = .ok (.int ((y.length*t+1:Nat):Int)) hh:=ad
   have ly':fLen [.str y] hh = .ok (.int y.length) hh:=rfl
   show thn (ycV (e32 o0 o2 o3 n y t E L o9 (some u)) hh) _
   have:ycV (e32 o0 o2 o3 n y t E L o9 (some u)) hh = .nx (e32 o0 o2 o3 n y t E L o9 (some u)) (h2++r):=by
    clear ad P
    generalize ((y.length*t+1:Nat):Int)=A1 at *
    generalize ((y.length*t:Nat):Int)=A2 at *
    generalize (y.length:Int)=A3 at *
    generalize h2++r=H at *
    simp [ycV,ly',ml,ad',ed,er,-fAdd,-fMul,-fLen]
   rw [this]
   exact ⟨_,rfl,R2.app r⟩)
 obtain ⟨o,rfl,R'⟩:=q2
 exact ⟨h',o,q1,R'⟩
theorem zfn {L E:Nat} {h:AH} {ps:List Pc} {en:En} (R:Hr L h ps) (hE:E<=1000000000000000000) (e8:en[8]? = some (some (.ref L))) (e7:en[7]? = some (some (.int E))) :
  ∃ (zs:List AV) (h':AH),ya3 [8,7] (yaI (sLit (.int 5))) sYes (yah yam (yab (sVar 1) (yab (sOp2 fAdd (sVar 2) (sLit (.int 1))) sNil))) en h = .ok (.fl zs) h'/\(∀ v∈zs,∃ row:Nat,row<=E/\v = .int row)/\zs.length=5/\Hr L h' ps:=by
 obtain ⟨zs,h',c1,⟨c2,R'⟩,c4⟩:=yeV (js:=[8,7]) (en:=en) (all:=yaL 0 5) (e:=yah yam (yab (sVar 1) (yab (sOp2 fAdd (sVar 2) (sLit (.int 1))) sNil))) (xs:=yaL 0 5) (h:=h)
  (fun ys h' => (∀ v∈ys,∃ row:Nat,row<=E/\v = .int row)/\Hr L h' ps) ⟨by simp,R⟩ (by
   rintro v hv ys h1 ⟨hy,R1⟩
   obtain ⟨d,h2,hd,e1,R2⟩:=R1.dig (E+1) (by lia) (Nat.le_trans (Nat.succ_le_succ hE) (by decide))
   have e1':yam [.ref L,.int ((E:Int)+1)] h1 = .ok (.int d) h2:=e1
   simp [e8,e7,e1']
   refine ⟨?_,R2⟩
   intro v hv
   rcases hv with q | q
   ·exact hy _ q
   ·exact ⟨d,by lia,q⟩) (by rw [zaC];decide)
 refine ⟨zs,h',?_,c2,by rw [c4,zaC],R'⟩
 have r1:=zaN (a:=sLit (.int 5)) (en:=en) (h:=h) (n:=5) rfl (by decide)
 simp only [ya3,r1,c1]
end Sk
namespace Sk
open PySem PySem.Spec L2 Sm
theorem yha (ns:List Int) (hl:ns.length<=63) {h:AH} {ps:List Pc} (S:ShelfAt h 0 ps) (g:Good ps) (k:Nat) (hk:k<2) (hz:ps.length<=1000) (o3 o4 o5 o6 o7 o8 o9 o10:Option AV) :
  ∃ (a3 a4 a5 a6 a7 a8 a9 a10:Option AV) (ps':List Pc) (h':AH),yc9 [some (.fl (ns.map AV.int)),some (.ref 0),some (.int k),o3,o4,o5,o6,o7,o8,o9,o10] h = .nx [some (.fl (ns.map AV.int)),some (.ref 0),some (.int k),a3,a4,a5,a6,a7,a8,a9,a10] h'/\ShelfAt h' 0 ps'/\Good ps'/\ps'.length<=ps.length+100:=by
 obtain ⟨N,es⟩:=zdh ns hl k (by lia) h
 have R1:=Hr.new S g N
 obtain ⟨r,er⟩:∃ r,r=h.length:=⟨_,rfl⟩
 rw [<- er] at es R1
 generalize h++[AO.lst [.int N]]=H1 at *
 obtain ⟨n,y,t,ps',h2,m,f,l,x,el,W,T,P,y1,ly,t1,_⟩:=zjt R1.sh R1.gd R1.row (.inr R1.l8) (by lia)
 have R2:=R1.wk W
 have tz:TxZ ps' n x:=.inr ⟨_,_,_,T⟩
 have lX:x.length=y.length*t:=by rw [zad,P,ydp,<- zad]
 have hm:y.length*t<=1000000000000000000:=by rw [<- lX,<- T.ky.sg];exact T.ky.most
 have fs:=zap R2.sh T.ms
 have ob:=R2.sh.ob
 have ri:=zbV R2.sh T.ms
 obtain ⟨en,_⟩:=tz.en T.ms
 obtain ⟨E,eE⟩:∃ E,E=y.cps.toList.count 10*t:=⟨_,rfl⟩
 have cy:y.cps.toList.count 10<=y.length:=by rw [zad];exact List.count_le_length
 have hE:E<=1000000000000000000:=by rw [eE];exact Nat.le_trans (Nat.mul_le_mul_right t cy) hm
 rw [P,ydq,<- eE] at en
 rw [T.ky.sg,lX] at fs
 rw [en] at ri
 have fc:=fun h=>zcf y h
 have ml:=fun h=>yeA (a:=y.cps.toList.count 10) (b:=t) (by lia) eE.symm h
 have ml2:=fun h=>yeA (a:=y.length) (b:=t) (by lia) rfl h
 have ly':∀ h,fLen [.str y] h = .ok (.int y.length) h:=fun _=>rfl
 have ad:∀ h,fAdd (.int E) (.int 1) h = .ok (.int ((E:Int)+1)) h:=fun _=>rfl
 have n1:=fun h=>neIx ((E:Int)+1) h
 have n2:=fun h=>neIx ((y.length*t:Nat):Int) h
 have gt:∀ h,fGt (.int E) (.int 0) h = .ok (.bl (decide (0<E))) h:=fun h=>by
  show Out.ok (AV.bl (decide ((E:Int) > 0))) h=_
  congr 2
  exact decide_eq_decide.mpr (by lia)
 have lp:ps'.length<=ps.length+100:=W.len
 by_cases q:0<E
 ·rw [decide_eq_true q] at gt
  have c1:1<=y.cps.toList.count 10:=by
   rcases Nat.eq_zero_or_pos (y.cps.toList.count 10) with z | z
   ·rw [z,Nat.zero_mul] at eE;lia
   ·exact z
  obtain ⟨N2,es2⟩:=zdh ns hl (k+2) (by lia) h2
  have R3:=Hr.new R2.sh R2.gd N2
  obtain ⟨L,eL⟩:∃ L,L=h2.length:=⟨_,rfl⟩
  rw [<- eL] at es2 R3
  generalize h2++[AO.lst [.int N2]]=H3 at *
  obtain ⟨zs,h4,cz,hz',lz,R4⟩:=zfn (en:=e32 (some (.fl (ns.map AV.int))) (some (.int k)) (some (.ref r)) n y t E L o9 o10) R3 hE rfl rfl
  have sb:∀ h,fSub (.int E) (.int 1) h = .ok (.int ((E-1:Nat):Int)) h:=fun h=>by
   show Out.ok (AV.int ((E:Int)-1)) h=_
   congr 2;lia
  obtain ⟨xs,ex⟩:∃ xs:List AV,xs=[.int 0,.int 1,.int E,.int ((E-1:Nat):Int)]++zs:=⟨_,rfl⟩
  have hx:∀ v∈xs,∃ row:Nat,row<=E/\v = .int row:=by
   intro v hv
   rw [ex] at hv
   rcases List.mem_append.mp hv with w | w
   ·simp only [List.mem_cons,List.not_mem_nil,or_false] at w
    rcases w with w | w | w | w
    ·exact ⟨0,by lia,w⟩
    ·exact ⟨1,by lia,w⟩
    ·exact ⟨E,by lia,w⟩
    ·exact ⟨E-1,by lia,w⟩
   ·exact hz' v w
  have fa:fAdd (.fl [.int 0,.int 1,.int E,.int ((E-1:Nat):Int)]) (.fl zs) h4 = .ok (.fl xs) h4:=by
   rw [ex]
   have:4+zs.length<=sizeLine:=by rw [lz];decide
   simp only [fAdd,ybD,List.length_cons,List.length_nil]
   rw [if_pos this]
  have it:iVal (sOp2 fAdd (sLst (yab (sLit (.int 0)) (yab (sLit (.int 1)) (yab (sVar 7) (yab (sOp2 fSub (sVar 7) (sLit (.int 1))) sNil))))) (ya3 [8,7] (yaI (sLit (.int 5))) sYes (yah yam (yab (sVar 1) (yab (sOp2 fAdd (sVar 2) (sLit (.int 1))) sNil))))) (e32 (some (.fl (ns.map AV.int))) (some (.int k)) (some (.ref r)) n y t E L o9 o10) H3 = .ok (xs,none) h4:=by
   generalize ya3 [8,7] (yaI (sLit (.int 5))) sYes (yah yam (yab (sVar 1) (yab (sOp2 fAdd (sVar 2) (sLit (.int 1))) sNil)))=CC at *
   simp only [e32] at cz
   generalize ((E-1:Nat):Int)=E1 at *
   simp [cz,sb,fa,-fAdd,-fSub]
  obtain ⟨h5,a9,l1,R5⟩:=zhz (o0:=some (.fl (ns.map AV.int))) (o2:=some (.int k)) (o3:=some (.ref r)) (o9:=o9) (o10:=o10) R4 tz P c1 ly t1 eE xs hx
  have f1:=(yc5 (t:=.nm 9) (b:=ycU) it).trans l1
  obtain ⟨h6,a10,l2,R6⟩:=zfm (o0:=some (.fl (ns.map AV.int))) (o2:=some (.int k)) (o3:=some (.ref r)) (E:=E) (o9:=a9) (o10:=o10) R5 tz P c1 ly hm (yaL 0 6)
  have it2:yaI (sLit (.int 6)) (e32 (some (.fl (ns.map AV.int))) (some (.int k)) (some (.ref r)) n y t E L a9 o10) h5 = .ok (yaL 0 6,none) h5:=zaN (n:=6) rfl (by decide)
  have f2:=(yc5 (t:=.nm 10) (b:=ycV) it2).trans l2
  refine ⟨some (.ref r),some (.int n),some (.str y),some (.int t),some (.int E),some (.ref L),a9,a10,ps',h6,?_,R6.sh,R6.gd,lp⟩
  have es2':ybo [.fl (ns.map AV.int),.int ((k:Int)+2)] h2 = .ok (.ref L) H3:=es2
  have ad2:∀ h,fAdd (.int k) (.int 2) h = .ok (.int ((k:Int)+2)) h:=fun _=>rfl
  simp only [e32] at f1 f2
  clear it it2 l1 l2 cz hz' lz R1 R2 R3 R4 R5 R6 S g W T tz P es2 fa sb hx ex lX hm hE en eE cy c1
  unfold yc9
  generalize sFor (iVal (sOp2 fAdd (sLst (yab (sLit (.int 0)) (yab (sLit (.int 1)) (yab (sVar 7) (yab (sOp2 fSub (sVar 7) (sLit (.int 1))) sNil))))) (ya3 [8,7] (yaI (sLit (.int 5))) sYes (yah yam (yab (sVar 1) (yab (sOp2 fAdd (sVar 2) (sLit (.int 1))) sNil)))))) (.nm 9) ycU=FA at *
  generalize sFor (yaI (sLit (.int 6))) (.nm 10) ycV=FB at *
  generalize ((y.length*t:Nat):Int)=Y1 at *
  generalize (y.length:Int)=Y2 at *
  generalize ((y.cps.toList.count 10:Nat):Int)=Y3 at *
  generalize (E:Int)+1=E1 at *
  generalize (E:Int)=E2 at *
  generalize (k:Int)+2=K2 at *
  simp [es,el,fc,ml,ri,ad,n1,ob,fs,ly',ml2,n2,gt,ad2,es2',f1,f2,-fAdd,-fMul,-fLen,-fNe,-fGt,-ybE]
 ·rw [decide_eq_false q] at gt
  refine ⟨some (.ref r),some (.int n),some (.str y),some (.int t),some (.int E),o8,o9,o10,ps',h2,?_,R2.sh,R2.gd,lp⟩
  clear R1 R2 S g W T tz P lX hm hE en eE cy q
  unfold yc9
  generalize sFor (iVal (sOp2 fAdd (sLst (yab (sLit (.int 0)) (yab (sLit (.int 1)) (yab (sVar 7) (yab (sOp2 fSub (sVar 7) (sLit (.int 1))) sNil))))) (ya3 [8,7] (yaI (sLit (.int 5))) sYes (yah yam (yab (sVar 1) (yab (sOp2 fAdd (sVar 2) (sLit (.int 1))) sNil)))))) (.nm 9) ycU=FA at *
  generalize sFor (yaI (sLit (.int 6))) (.nm 10) ycV=FB at *
  generalize ((y.length*t:Nat):Int)=Y1 at *
  generalize (y.length:Int)=Y2 at *
  generalize ((y.cps.toList.count 10:Nat):Int)=Y3 at *
  generalize (E:Int)+1=E1 at *
  generalize (E:Int)=E2 at *
  simp [es,el,fc,ml,ri,ad,n1,ob,fs,ly',ml2,n2,gt,-fAdd,-fMul,-fLen,-fNe,-fGt,-ybE]
end Sk
namespace Sk
open PySem PySem.Spec L2 Sm
theorem Hr.dd {L:Nat} {h h':AH} {ps ps':List Pc} {k:Nat} (a:Hr L h ps) (D:Dd 0 h h' ps ps' k):Hr L h' ps' := ⟨D.sh,D.gd,a.l8,by rw [D.fr L (.inr a.l8)];exact a.row⟩
abbrev q32 (L n:Nat) (o2 o4 o5 o6 o7 o8 o9:Option AV):En:=[some (.ref 0),some (.ref L),o2,some (.int n),o4,o5,o6,o7,o8,o9]
theorem pl_x:yaO "x" = true:=by decide +kernel
theorem pl_y:yaO "y" = true:=by decide +kernel
theorem pl_n:yaO "\n" = true:=by decide +kernel
theorem yhb {L n row s a:Nat} {o2 o4 o5 o8 o9:Option AV} {ST:AV} {h:AH} {ps:List Pc} {x:Str} (R:Hr L h ps) (T:TxZ ps n x) (hc:row<=x.cps.toList.count 10) (b1:bh x.cps.toList row=s) (b2:rend x.cps.toList row=s+a) (i1:∀ h,fIx ST (.int row) h = .ok (.int s) h) (xs:List AV) (hx:∀ v∈xs,∃ d:Nat,d<=a/\v = .int d) :
  ∃ (h':AH) (o:Option AV),ybM none xs (.nm 9) yaX xs (q32 L n o2 o4 o5 (some ST) (some (.int row)) o8 o9) h = .nx (q32 L n o2 o4 o5 (some ST) (some (.int row)) o8 o) h'/\Hr L h' ps:=by
 obtain ⟨e',h',q1,q2⟩:=ydO (w:=none) (all:=xs) (t:=.nm 9) (b:=yaX) (xs:=xs) (en:=q32 L n o2 o4 o5 (some ST) (some (.int row)) o8 o9) (h:=h)
  (fun _ en hh=>∃ o,en=q32 L n o2 o4 o5 (some ST) (some (.int row)) o8 o/\Hr L hh ps) ⟨_,rfl,R⟩ (fun _ _ _ _=>rfl) (by
   rintro j u en hh hu ⟨o,rfl,Rj⟩
   obtain ⟨d,hd,rfl⟩:=hx u (List.mem_of_getElem? hu)
   obtain ⟨r1,r2⟩:=zdY hc
   rw [<- zad] at r2
   obtain ⟨r,er⟩:=zcd (q:=s+d) Rj.sh Rj.gd T (by lia)
   have cn:=yeW (q:=s+d) hc (by lia) (by lia)
   have dv:dueV x (s+d) = .tup [.int row,.int d]:=by
    unfold dueV
    rw [cn,b1]
    congr 3
    congr 1
    lia
   rw [dv] at er
   have ad:=yez (a:=s) (b:=d) rfl hh
   have i2:=i1 hh
   have np:=zjs (row:Int) (d:Int) (hh++r)
   show thn (yaX (q32 L n o2 o4 o5 (some ST) (some (.int row)) o8 (some (.int d))) hh) _
   have:yaX (q32 L n o2 o4 o5 (some ST) (some (.int row)) o8 (some (.int d))) hh = .nx (q32 L n o2 o4 o5 (some ST) (some (.int row)) o8 (some (.int d))) (hh++r):=by
    generalize hh++r=H at *
    generalize ((s+d:Nat):Int)=SD at *
    generalize (s:Int)=S1 at *
    simp [yaX,i2,ad,er,np,-fAdd,-fIx,-fNe]
   rw [this]
   exact ⟨_,rfl,Rj.app r⟩)
 obtain ⟨o,rfl,R'⟩:=q2
 exact ⟨h',o,q1,R'⟩
theorem yh0 {L n row s a:Nat} {o4 o5 o8 o9:Option AV} {W ST:AV} {h:AH} {ps:List Pc} {x:Str} (R:Hr L h ps) (T:TxZ ps n x) (hc:row<=x.cps.toList.count 10) (b1:bh x.cps.toList row=s) (b2:rend x.cps.toList row=s+a) (ha:a<=1000000000000000000) (i1:∀ h,fIx ST (.int row) h = .ok (.int s) h) (i2:∀ h,fIx W (.int row) h = .ok (.int a) h) :
  ∃ (h':AH) (p8 p9:Option AV),yaY (q32 L n (some W) o4 o5 (some ST) (some (.int row)) o8 o9) h = .nx (q32 L n (some W) o4 o5 (some ST) (some (.int row)) p8 p9) h'/\Hr L h' ps:=by
 obtain ⟨v,h2,hv,ed,R2⟩:=R.dig (a+1) (by lia) (Nat.le_trans (Nat.succ_le_succ ha) (by decide))
 have rb:=ze6 R2.sh R2.gd T hc
 rw [b1] at rb
 obtain ⟨h3,p9,l1,R3⟩:=yhb (o2:=some W) (o4:=o4) (o5:=o5) (o8:=some (.int v)) (o9:=o9) R2 T hc b1 b2 i1 [.int 0,.int v,.int a] (by
  intro w hw
  simp only [List.mem_cons,List.not_mem_nil,or_false] at hw
  rcases hw with z | z | z
  ·exact ⟨0,by lia,z⟩
  ·exact ⟨v,by lia,z⟩
  ·exact ⟨a,by lia,z⟩)
 have it:iVal (sLst (yab (sLit (.int 0)) (yab (sVar 8) (yab (sOp2 fIx (sVar 2) (sVar 7)) sNil)))) (q32 L n (some W) o4 o5 (some ST) (some (.int row)) (some (.int v)) o9) h2 = .ok ([.int 0,.int v,.int a],none) h2:=by
  have:=i2 h2
  simp [this,-fIx]
 have f1:=(yc5 (t:=.nm 9) (b:=yaX) it).trans l1
 refine ⟨h3,some (.int v),p9,?_,R3⟩
 have ad:fAdd (.int a) (.int 1) h = .ok (.int ((a+1:Nat):Int)) h:=rfl
 have j1:=i1 h2
 have j2:=i2 h
 have ne:=neIx (s:Int) h2
 simp only [q32] at f1
 clear it l1 R R2 R3 T
 unfold yaY
 generalize sFor (iVal (sLst (yab (sLit (.int 0)) (yab (sVar 8) (yab (sOp2 fIx (sVar 2) (sVar 7)) sNil))))) (.nm 9) yaX=FF at *
 generalize ((a+1:Nat):Int)=A1 at *
 generalize (s:Int)=S1 at *
 simp [j2,ad,ed,rb,j1,ne,f1,-fAdd,-fIx,-fNe]
theorem yf6 {L n a:Nat} {o2 o5 o6 o7 o8 o9:Option AV} {h:AH} {ps:List Pc} {x:Str} (R:Hr L h ps) (T:TxZ ps n x) (ha:a<=100000000000000000) (hx:x.length<=300000000000000000) (hz:ps.length<=1000000) :
  ∃ (n':Nat) (ps':List Pc) (h':AH) (p5:Option AV),ybf (q32 L n o2 (some (.int a)) o5 o6 o7 o8 o9) h = .nx (q32 L n' o2 (some (.int a)) p5 o6 o7 o8 o9) h'/\Hr L h' ps'/\TxZ ps' n' (x ++ "\n" ++ repS "y" a)/\ps'.length<=ps.length+170000:=by
 have l1:Str.length "y" = 1:=by decide +kernel
 have l2:Str.length "\n" = 1:=by decide +kernel
 obtain ⟨b,ps1,h1,e1,D1,T1⟩:=zd0 R.sh R.gd pl_y (by rw [l1];decide) (by rw [l1];lia)
 have R1:=R.dd D1
 have z1:=D1.len
 rw [l1] at z1
 obtain ⟨c,ps2,h2,D2,T2⟩:=zdE (k:=a) (e:=57) R1.sh R1.gd T1 (Nat.lt_of_le_of_lt ha (by decide)) (by decide) (by rw [l1];lia) (by lia)
 have e2:=D2.ev
 have R2:=R1.dd D2.dd
 have z2:=D2.dd.len
 obtain ⟨d,ps3,h3,e3,D3,T3⟩:=zd0 R2.sh R2.gd pl_n (by rw [l2];decide) (by rw [l2];lia)
 have R3:=R2.dd D3
 have z3:=D3.len
 rw [l2] at z3
 have Tn:=((T.pre D1.pre).pre D2.dd.pre).pre D3.pre
 obtain ⟨f,ps4,h4,e4,D4,T4⟩:=zge R3.sh R3.gd Tn T3 (by rw [l2];lia) (by lia)
 have R4:=R3.dd D4
 have z4:=D4.len
 have lx:(x++("\n" : Str)).length=x.length+1:=by rw [zad,zaf,List.length_append,<- zad,<- zad,l2]
 obtain ⟨k,ps5,h5,e5,D5,T5⟩:=zge R4.sh R4.gd T4 ((T2.pre D3.pre).pre D4.pre) (by rw [lx,zbz,l1];lia) (by lia)
 have R5:=R4.dd D5
 have z5:=D5.len
 refine ⟨k,ps5,h5,some (.int c),?_,R5,T5,by lia⟩
 simp [ybf,e1,e2,e3,e4,e5]
end Sk
namespace Sk
open PySem PySem.Spec L2 Sm
theorem yeL (c:Nat) (h:c≠10):∀ t:Nat,(rp [c] t).count 10=0/\(rp [c] t).length=t
 | 0=>⟨rfl,rfl⟩
 | t+1=>by
  obtain ⟨a,b⟩:=yeL c h t
  rw [rp_s]
  constructor
  ·rw [List.count_append,a];simp [h]
  ·rw [List.length_append,b];simp;lia
theorem yhc {U V W X:List Nat} {a b c:Nat} (hU:U.count 10=0/\U.length=a) (hV:V.count 10=0/\V.length=b) (hW:W.count 10=0/\W.length=c) (e:X=(U++[10])++((V++[10])++W)) :
  X.count 10=2/\X.length=a+b+c+2/\bh X 0=0/\bh X 1=a+1/\bh X 2=a+b+2/\rend X 0=0+a/\rend X 1=a+1+b/\rend X 2=a+b+2+c:=by
 have c1:(U++[10]).count 10=1:=by rw [List.count_append,hU.1];rfl
 have c2:(V++[10]).count 10=1:=by rw [List.count_append,hV.1];rfl
 have cX:X.count 10=2:=by rw [e,List.count_append,c1,List.count_append,c2,hW.1]
 have lU:(U++[10]).length=a+1:=by rw [List.length_append,hU.2];rfl
 have lV:(V++[10]).length=b+1:=by rw [List.length_append,hV.2];rfl
 have lX:X.length=a+b+c+2:=by rw [e,List.length_append,lU,List.length_append,lV,hW.2];lia
 have bb:bh [10] 1=1:=rfl
 have b1:bh X 1=a+1:=by
  rw [e,zby _ _ _ (by lia),zbk _ _ _ (by rw [hU.1];lia),hU.1,hU.2]
  show a+bh [10] 1=_
  rw [bb]
 have b2:bh X 2=a+b+2:=by
  rw [e,zbk _ _ _ (by lia),c1,lU]
  show a+1+bh ((V++[10])++W) 1=_
  rw [zby _ _ _ (by lia),zbk _ _ _ (by rw [hV.1];lia),hV.1,hV.2]
  show a+1+(b+bh [10] 1)=_
  rw [bb];lia
 refine ⟨cX,lX,bh0 _,b1,b2,?_,?_,?_⟩
 ·unfold rend;rw [cX,if_neg (by decide),b1];lia
 ·unfold rend;rw [cX,if_neg (by decide),b2];lia
 ·unfold rend;rw [cX,if_pos rfl,lX];lia
theorem zhA {L:Nat} {h:AH} {ps:List Pc} {en:En} (R:Hr L h ps) (e1:en[1]? = some (some (.ref L))) :
  ∃ (a b c:Nat) (h':AH),ya3 [1] (yaI (sLit (.int 3))) sYes (sOp2 fAdd (sLit (.int 1)) (yah yam (yab (sVar 1) (yab (sOp2 fIx (sLst (yab (sLit (.int 9)) (yab (sOp2 fPow (sLit (.int 10)) (sLit (.int 9))) (yab (sOp2 fPow (sLit (.int 10)) (sLit (.int 17))) sNil)))) (yah yam (yab (sVar 1) (yab (sLit (.int 3)) sNil)))) sNil)))) en h = .ok (.fl [.int a,.int b,.int c]) h'/\a<=100000000000000000/\b<=100000000000000000/\c<=100000000000000000/\Hr L h' ps:=by
 obtain ⟨zs,h',c1,⟨c2,R'⟩,c4⟩:=yeV (js:=[1]) (en:=en) (all:=yaL 0 3) (e:=sOp2 fAdd (sLit (.int 1)) (yah yam (yab (sVar 1) (yab (sOp2 fIx (sLst (yab (sLit (.int 9)) (yab (sOp2 fPow (sLit (.int 10)) (sLit (.int 9))) (yab (sOp2 fPow (sLit (.int 10)) (sLit (.int 17))) sNil)))) (yah yam (yab (sVar 1) (yab (sLit (.int 3)) sNil)))) sNil)))) (xs:=yaL 0 3) (h:=h)
  (fun ys h' => (∀ v∈ys,∃ a:Nat,a<=100000000000000000/\v = .int a)/\Hr L h' ps) ⟨by simp,R⟩ (by
   rintro v hv ys h1 ⟨hy,R1⟩
   obtain ⟨d,h2,hd,d1,R2⟩:=R1.dig 3 (by decide) (by decide)
   have d1':yam [.ref L,.int 3] h1 = .ok (.int d) h2:=d1
   obtain ⟨m,m1,m2,im⟩:∃ m:Nat,0<m/\m<=100000000000000000/\fIx (.fl [.int 9,.int 1000000000,.int 100000000000000000]) (.int d) h2 = .ok (.int m) h2:=by
    have:d=0\/d=1\/d=2:=by lia
    rcases this with rfl | rfl | rfl
    ·exact ⟨9,by decide,by decide,rfl⟩
    ·exact ⟨1000000000,by decide,by decide,rfl⟩
    ·exact ⟨100000000000000000,by decide,by decide,rfl⟩
   obtain ⟨w,h3,hw,w1,R3⟩:=R2.dig m m1 (Nat.le_trans m2 (by decide))
   have p9:∀ h,fPow (.int 10) (.int 9) h = .ok (.int 1000000000) h:=fun _=>rfl
   have p17:∀ h,fPow (.int 10) (.int 17) h = .ok (.int 100000000000000000) h:=fun _=>rfl
   have ad:fAdd (.int 1) (.int w) h3 = .ok (.int ((1+w:Nat):Int)) h3:=by
    show Out.ok (AV.int ((1:Int)+w)) h3=_
    have:(1:Int)+w=((1+w:Nat):Int):=by lia
    rw [this]
   simp [e1,p9,p17,d1',im,w1,ad,-fIx,-fPow,-fAdd]
   refine ⟨?_,R3⟩
   intro v hv
   rcases hv with q | q
   ·exact hy _ q
   ·exact ⟨1+w,by lia,by rw [q];rfl⟩) (by rw [zaC];decide)
 rw [zaC] at c4
 obtain ⟨z0,z1,z2,rfl⟩:∃ z0 z1 z2,zs=[z0,z1,z2]:=by
  match zs,c4 with
  | [z0,z1,z2],_=>exact ⟨z0,z1,z2,rfl⟩
 obtain ⟨a,ha,rfl⟩:=c2 z0 (by simp)
 obtain ⟨b,hb,rfl⟩:=c2 z1 (by simp)
 obtain ⟨c,hc,rfl⟩:=c2 z2 (by simp)
 refine ⟨a,b,c,h',?_,ha,hb,hc,R'⟩
 have r1:=zaN (a:=sLit (.int 3)) (en:=en) (h:=h) (n:=3) rfl (by decide)
 simp only [ya3,r1,c1]
theorem zfo {L:Nat} {h:AH} {ps:List Pc} (R:Hr L h ps) (hz:ps.length<=1000):∃ h',ycf [.ref 0,.ref L] h = .ok (.bl true) h' := by
 obtain ⟨a,b,c,h1,cw,ha,hb,hc,R1⟩:=zhA (en:=[some (.ref 0),some (.ref L),none,none,none,none,none,none,none,none]) R rfl
 have l1:Str.length "x" = 1:=by decide +kernel
 obtain ⟨m,ps2,h2,e2,D2,T2⟩:=zd0 R1.sh R1.gd pl_x (by rw [l1];decide) (by rw [l1];lia)
 have R2:=R1.dd D2
 have z2:=D2.len
 rw [l1] at z2
 obtain ⟨n,ps3,h3,D3,T3⟩:=zdE (k:=a) (e:=57) R2.sh R2.gd T2 (Nat.lt_of_le_of_lt ha (by decide)) (by decide) (by rw [l1];lia) (by lia)
 have e3:=D3.ev
 have R3:=R2.dd D3.dd
 have z3:=D3.dd.len
 obtain ⟨W,eW⟩:∃ W:AV,W = .fl [.int a,.int b,.int c]:=⟨_,rfl⟩
 have ly:Str.length "y" = 1:=by decide +kernel
 have ln:Str.length "\n" = 1:=by decide +kernel
 have lA0:(repS "x" a).length=a:=by rw [zbz,l1,Nat.one_mul]
 have lA1:(repS "x" a++("\n" : Str)++repS "y" b).length=a+1+b:=by rw [zad,zaf,zaf,List.length_append,List.length_append,<- zad,<- zad,<- zad,lA0,ln,zbz,ly,Nat.one_mul]
 obtain ⟨n4,ps4,h4,p5,e4,R4,T4,z4⟩:=yf6 (o2:=some W) (o5:=none) (o6:=none) (o7:=none) (o8:=none) (o9:=none) R3 T3 hb (by rw [lA0];lia) (by lia)
 obtain ⟨n5,ps5,h5,p6,e5,R5,T5,z5⟩:=yf6 (o2:=some W) (o5:=p5) (o6:=none) (o7:=none) (o8:=none) (o9:=none) R4 T4 hc (by rw [lA1];lia) (by lia)
 have f1:sFor (iVal (sCut (sVar 2) (some (sLit (.int 1))) none)) (.nm 4) ybf (q32 L n (some W) none none none none none none) h3 = .nx (q32 L n5 (some W) (some (.int c)) p6 none none none none) h5:=by
  have it:iVal (sCut (sVar 2) (some (sLit (.int 1))) none) (q32 L n (some W) none none none none none none) h3 = .ok ([.int b,.int c],none) h3:=by
   have ct:yb1 W (some 1) none h3 = .ok (.fl [.int b,.int c]) h3:=by
    rw [eW]
    have:=zep [AV.int a,.int b,.int c] (k:=1) (by simp)
    have this':cutA [AV.int a,.int b,.int c] (some 1) none=[.int b,.int c]:=this
    simp only [yb1,this']
   simp [ct,-yb1]
  refine (yc5 (t:=.nm 4) (b:=ybf) it).trans ?_
  have s1:setT (.nm 4) (.int b) (q32 L n (some W) none none none none none none)=some (q32 L n (some W) (some (.int b)) none none none none none):=rfl
  have s2:setT (.nm 4) (.int c) (q32 L n4 (some W) (some (.int b)) p5 none none none none)=some (q32 L n4 (some W) (some (.int c)) p5 none none none none):=rfl
  generalize q32 L n (some W) none none none none none none=E0 at *
  generalize q32 L n (some W) (some (.int b)) none none none none none=E1 at *
  generalize q32 L n4 (some W) (some (.int b)) p5 none none none none=E2 at *
  generalize q32 L n4 (some W) (some (.int c)) p5 none none none none=E3 at *
  simp [ybM,s1,e4,s2,e5,-setT]
 obtain ⟨x,ex⟩:∃ x,x=repS "x" a++("\n" : Str)++repS "y" b++("\n" : Str)++repS "y" c:=⟨_,rfl⟩
 rw [<- ex] at T5
 have kx:("x" : Str).cps.toList=[120]:=by decide +kernel
 have ky:("y" : Str).cps.toList=[121]:=by decide +kernel
 have kn:("\n" : Str).cps.toList=[10]:=by decide +kernel
 have sh:=yhc (X:=x.cps.toList) (yeL 120 (by decide) a) (yeL 121 (by decide) b) (yeL 121 (by decide) c) (by
  rw [ex,zaf,zaf,zaf,zaf,zbl,zbl,zbl,kx,ky,kn]
  show rp [120] a++[10]++rp [121] b++[10]++rp [121] c=_
  simp only [List.append_assoc])
 obtain ⟨cX,lX,b0,b1,b2,r0,r1,r2⟩:=sh
 obtain ⟨ST,eST⟩:∃ ST:AV,ST = .fl [.int 0,.int ((a+1:Nat):Int),.int ((a+b+2:Nat):Int)]:=⟨_,rfl⟩
 have st0:∀ h,fIx ST (.int 0) h = .ok (.int ((0:Nat):Int)) h:=fun h=>by rw [eST];rfl
 have st1:∀ h,fIx ST (.int 1) h = .ok (.int ((a+1:Nat):Int)) h:=fun h=>by rw [eST];rfl
 have st2:∀ h,fIx ST (.int 2) h = .ok (.int ((a+b+2:Nat):Int)) h:=fun h=>by rw [eST];rfl
 have w0:∀ h,fIx W (.int 0) h = .ok (.int a) h:=fun h=>by rw [eW];rfl
 have w1:∀ h,fIx W (.int 1) h = .ok (.int b) h:=fun h=>by rw [eW];rfl
 have w2:∀ h,fIx W (.int 2) h = .ok (.int c) h:=fun h=>by rw [eW];rfl
 obtain ⟨mm,em,sm⟩:=T5.sg
 obtain ⟨en,_⟩:=T5.en em
 have fs:=zap R5.sh em
 have ri:=zbV R5.sh em
 have ob:=R5.sh.ob
 rw [en,cX] at ri
 have ri':ycO [.ref 0,.int n5] h5 = .ok (.int 3) h5:=ri
 rw [sm,zad,lX] at fs
 obtain ⟨e',h6,q1,q2⟩:=ydO (w:=none) (all:=yaL 0 3) (t:=.nm 7) (b:=yaY) (xs:=yaL 0 3) (en:=q32 L n5 (some W) (some (.int c)) p6 (some ST) none none none) (h:=h5)
  (fun _ en hh=>∃ p7 p8 p9,en=q32 L n5 (some W) (some (.int c)) p6 (some ST) p7 p8 p9/\Hr L hh ps5) ⟨none,none,none,rfl,R5⟩ (fun _ _ _ _=>rfl) (by
   rintro j u en hh hu ⟨p7,p8,p9,rfl,Rj⟩
   rw [zbp] at hu
   by_cases q:j<3
   ·rw [if_pos q] at hu
    cases hu
    have go:∀ s w:Nat,bh x.cps.toList j=s->rend x.cps.toList j=s+w->w<=100000000000000000->(∀ h,fIx ST (.int j) h = .ok (.int s) h)->(∀ h,fIx W (.int j) h = .ok (.int w) h)->thn (yaY (q32 L n5 (some W) (some (.int c)) p6 (some ST) (some (.int j)) p8 p9) hh) fun en hh=>∃ p7 p8 p9,en=q32 L n5 (some W) (some (.int c)) p6 (some ST) p7 p8 p9/\Hr L hh ps5:=by
     intro s w g1 g2 g3 g4 g5
     obtain ⟨h',t8,t9,ev,R'⟩:=yh0 (o4:=some (.int c)) (o5:=p6) (o8:=p8) (o9:=p9) Rj T5 (by rw [cX];lia) g1 g2 (by lia) g4 g5
     rw [ev]
     exact ⟨_,_,_,rfl,R'⟩
    have z:(0:Int)+j=j:=by lia
    show thn (yaY (q32 L n5 (some W) (some (.int c)) p6 (some ST) (some (.int (0+(j:Int)))) p8 p9) hh) _
    rw [z]
    have:j=0\/j=1\/j=2:=by lia
    rcases this with rfl | rfl | rfl
    ·exact go 0 a b0 r0 ha st0 w0
    ·exact go (a+1) b b1 r1 hb st1 w1
    ·exact go (a+b+2) c b2 r2 hc st2 w2
   ·rw [if_neg q] at hu;cases hu)
 obtain ⟨p7,p8,p9,rfl,R6⟩:=q2
 have f2:=(yc5 (t:=.nm 7) (b:=yaY) (zaN (a:=sLit (.int 3)) (en:=q32 L n5 (some W) (some (.int c)) p6 (some ST) none none none) (h:=h5) (n:=3) rfl (by decide))).trans q1
 refine ⟨h6,?_⟩
 have a1:fAdd (.int a) (.int 1) h5 = .ok (.int ((a+1:Nat):Int)) h5:=rfl
 have a2:fAdd (.int a) (.int b) h5 = .ok (.int ((a+b:Nat):Int)) h5:=rfl
 have a3:fAdd (.int ((a+b:Nat):Int)) (.int 2) h5 = .ok (.int ((a+b+2:Nat):Int)) h5:=rfl
 have sm':fSum [W] h5 = .ok (.int ((a+b+c:Nat):Int)) h5:=by
  rw [eW]
  have:([(a:Int),(b:Int),(c:Int)]).sum=((a+b+c:Nat):Int):=by simp;lia
  rw [<- this]
  rfl
 have a4:fAdd (.int ((a+b+c:Nat):Int)) (.int 2) h5 = .ok (.int ((a+b+c+2:Nat):Int)) h5:=rfl
 have n3:=neIx 3 h5
 have n4' := neIx ((a+b+c+2:Nat):Int) h5
 have i0:=w0 h1
 have i0' := w0 h2
 have i5:=w0 h5
 have i51:=w1 h5
 rw [<- eW] at cw
 simp only [q32] at f1 f2
 rw [eST] at f2
 clear q1 R R1 R2 R3 R4 R5 R6 D2 D3 T2 T3 T4 T5 e4 e5 ex cX lX b0 b1 b2 r0 r1 r2 st0 st1 st2 w0 w1 w2 lA0 lA1 eST eW sm en em ri
 unfold ycf
 generalize ya3 [1] (yaI (sLit (.int 3))) sYes (sOp2 fAdd (sLit (.int 1)) (yah yam (yab (sVar 1) (yab (sOp2 fIx (sLst (yab (sLit (.int 9)) (yab (sOp2 fPow (sLit (.int 10)) (sLit (.int 9))) (yab (sOp2 fPow (sLit (.int 10)) (sLit (.int 17))) sNil)))) (yah yam (yab (sVar 1) (yab (sLit (.int 3)) sNil)))) sNil))))=CC at *
 generalize sFor (iVal (sCut (sVar 2) (some (sLit (.int 1))) none)) (.nm 4) ybf=FA at *
 generalize sFor (yaI (sLit (.int 3))) (.nm 7) yaY=FB at *
 generalize ((a+b+c+2:Nat):Int)=A4 at *
 generalize ((a+b+c:Nat):Int)=A3 at *
 generalize ((a+b+2:Nat):Int)=A2 at *
 generalize ((a+b:Nat):Int)=A1 at *
 generalize ((a+1:Nat):Int)=A0 at *
 simp [cw,e2,i0,i0',e3,f1,i5,i51,a1,a2,a3,ri',n3,ob,fs,sm',a4,n4',f2,-fAdd,-fIx,-fNe,-fSum]
theorem law_true (ns:List Int) (hl:ns.length<=63):∃ h',ye9 [.fl (ns.map AV.int)] [] = .ok (.bl true) h' := by
 have mk:=ygZ [some (.fl (ns.map AV.int)),none,none,none,none,none,none,none,none,none,none] []
 have l0:([]:AH).length=0:=rfl
 rw [l0,List.nil_append] at mk
 have S0:ShelfAt (yei 0) 0 []:=by have:=yg0 [] [];simpa using this
 obtain ⟨e1,H1,q1,q2⟩:=ydO (w:=none) (all:=yaL 0 2) (t:=.nm 2) (b:=yc9) (xs:=yaL 0 2) (en:=[some (.fl (ns.map AV.int)),some (.ref 0),none,none,none,none,none,none,none,none,none]) (h:=yei 0)
  (fun i en h' => i<=2->∃ (o2 o3 o4 o5 o6 o7 o8 o9 o10:Option AV) (ps:List Pc),ShelfAt h' 0 ps/\Good ps/\ps.length<=100*i/\en=[some (.fl (ns.map AV.int)),some (.ref 0),o2,o3,o4,o5,o6,o7,o8,o9,o10]) (fun _=>⟨none,none,none,none,none,none,none,none,none,[],S0,.nil,Nat.le_refl _,rfl⟩) (fun _ _ _ _=>rfl) (by
   intro j u en h' hu hp
   rw [zbp] at hu
   by_cases q:j<2
   ·rw [if_pos q] at hu
    cases hu
    obtain ⟨o2,o3,o4,o5,o6,o7,o8,o9,o10,ps,S,g,lp,rfl⟩:=hp (Nat.le_of_lt q)
    obtain ⟨a3,a4,a5,a6,a7,a8,a9,a10,ps',h2,e,S2,g2,l2⟩:=yha ns hl S g j q (by lia) o3 o4 o5 o6 o7 o8 o9 o10
    have z:(0:Int)+j=j:=by lia
    show thn (yc9 [some (.fl (ns.map AV.int)),some (.ref 0),some (.int (0+(j:Int))),o3,o4,o5,o6,o7,o8,o9,o10] h') _
    rw [z,e]
    exact fun _=>⟨_,_,_,_,_,_,_,_,_,ps',S2,g2,by lia,rfl⟩
   ·rw [if_neg q] at hu;cases hu)
 rw [zaC] at q2
 obtain ⟨o2,o3,o4,o5,o6,o7,o8,o9,o10,ps,S1,g,lp,rfl⟩:=q2 (Nat.le_refl _)
 have f1:=(yc5 (t:=.nm 2) (b:=yc9) (zaN (a:=sLit (.int 2)) (en:=[some (.fl (ns.map AV.int)),some (.ref 0),none,none,none,none,none,none,none,none,none]) (h:=yei 0) (n:=2) rfl (by decide))).trans q1
 obtain ⟨N,es⟩:=zdh ns hl 4 (by lia) H1
 have es':ybo [.fl (ns.map AV.int),.int 4] H1 = .ok (.ref H1.length) (H1++[.lst [.int N]]):=es
 obtain ⟨h',et⟩:=zfo (Hr.new S1 g N) (by lia)
 refine ⟨h',?_⟩
 generalize hmk:yeH 0 8 ycN sNil=MK at mk
 generalize hF1:sFor (yaI (sLit (.int 2))) (.nm 2) yc9=F1 at f1
 generalize H1.length=L at *
 generalize H1++[AO.lst [.int N]]=H2 at *
 unfold ye9
 rw [hmk,hF1]
 simp [mk,f1,es',et]
end Sk
namespace Sk
open PySem PySem.Spec L2 Sm
def top (i:Nat):Stmt:=PySem.Challenge.pw_skeinwood_k32_whole_rows_of_long_texts.main.body.getD i (.Pass ⟨0,0,0,0⟩)
abbrev yck:Stmt:=ybp (top 37) 0
abbrev ycX:Stmt:=top 11
abbrev ybq:Stmt:=ybp (top 37) 11
abbrev ybg:Stmt:=ybp (top 37) 12
abbrev ybl:Stmt:=ybp (top 37) 13
abbrev yb2:Stmt:=ybp (top 37) 5
abbrev ybQ:Stmt:=top 42
abbrev ybr:Stmt:=ybp (top 37) 10
abbrev ybm:Stmt:=ybp (top 37) 9
abbrev ycw:Stmt:=top 43
abbrev yb3:Stmt:=ybp (top 37) 4
abbrev ybn:Stmt:=ybp (top 37) 14
abbrev ycx:Stmt:=ybp (top 37) 17
abbrev ybx:Stmt:=ybp (top 37) 16
abbrev ycl:Stmt:=ybp (top 37) 2
abbrev ycy:Stmt:=top 48
abbrev ybR:Stmt:=ybp (top 37) 8
abbrev yb4:Stmt:=top 45
abbrev ybF:Stmt:=top 49
abbrev ybS:Stmt:=top 46
abbrev yds:Stmt:=top 44
abbrev ybG:Stmt:=top 13
abbrev ycs:Stmt:=top 12
abbrev ycY:Stmt:=top 14
abbrev yda:Stmt:=top 15
abbrev yby:Stmt:=ybp (top 37) 15
abbrev ycm:Stmt:=ybp (top 37) 1
abbrev ydt:Stmt:=top 47
abbrev ydu:Stmt:=top 39
abbrev ydb:Stmt:=top 51
abbrev ycZ:Stmt:=top 41
abbrev ydv:Stmt:=top 50
abbrev ydw:Stmt:=top 40
abbrev ycz:Stmt:=top 55
abbrev ycn:Stmt:=ybp (top 37) 6
abbrev ydc:Stmt:=top 25
abbrev ycA:Stmt:=top 29
abbrev ybz:Stmt:=top 32
abbrev yb5:Stmt:=top 31
abbrev ycB:Stmt:=top 26
abbrev ycC:Stmt:=top 17
abbrev yb6:Stmt:=top 34
abbrev ycD:Stmt:=top 20
abbrev yc0:Stmt:=top 19
abbrev ybZ:Stmt:=top 33
abbrev ydx:Stmt:=top 27
abbrev ybb:Stmt:=top 61
abbrev ycE:Stmt:=top 53
abbrev yb0:Stmt:=top 54
abbrev yct:Stmt:=top 56
abbrev ybH:Stmt:=top 57
abbrev ybc:Stmt:=top 58
abbrev ybI:Stmt:=top 18
abbrev ybJ:Stmt:=top 23
abbrev yco:Stmt:=top 22
abbrev ydd:Stmt:=top 30
abbrev yc1:Stmt:=top 28
abbrev ybK:Stmt:=top 59
abbrev ybs:Stmt:=top 60
abbrev ydV:Stmt:=top 62
def flds:Nat->List Str
 | 0=>["pieces", "numbers", "sign_counts", "end_counts", "leaf_counts", "heights", "first_leaves", "last_leaves"]
 | _=>[]
theorem zjw:∀ c,(flds c).Nodup
 | 0=>by decide +kernel
 | _+1=>List.nodup_nil
theorem ziq:∀ c,(flds c).length<=500
 | 0=>by decide +kernel
 | _+1=>Nat.zero_le _
abbrev mkT (K:PySem.W.Frag) (cls exc:Nat->Option Addr):Tb:=⟨K,cls,exc,flds,zjw,ziq⟩
structure Facts (P:Program) (w:World) (K:PySem.W.Frag) (cls exc:Nat->Option Addr) (mg:Str->Option Value) (base:Heap):Prop where
 b_abs:mg "abs" = none
 b_all:mg "all" = none
 b_bool:mg "bool" = none
 b_enumerate:mg "enumerate" = none
 b_int:mg "int" = none
 b_isinstance:mg "isinstance" = none
 b_len:mg "len" = none
 b_max:mg "max" = none
 b_range:mg "range" = none
 b_str:mg "str" = none
 b_sum:mg "sum" = none
 c_LEAF_SIGNS:∃ t,mg "LEAF_SIGNS" = some (.int 8 t)
 c_MOST_PLAIN:∃ t,mg "MOST_PLAIN" = some (.int 10000 t)
 c_MOST_SIGNS:∃ t,mg "MOST_SIGNS" = some (.int 1000000000000000000 t)
 cf_Shelf:CF (mkT K cls exc) 0
 x_NoText:GX (mkT K cls exc) mg base 1 "NoText"
 x_NoPiece:GX (mkT K cls exc) mg base 2 "NoPiece"
 x_Loose:GX (mkT K cls exc) mg base 3 "Loose"
 x_Unlevel:GX (mkT K cls exc) mg base 4 "Unlevel"
 x_TooLong:GX (mkT K cls exc) mg base 5 "TooLong"
 x_NoPlace:GX (mkT K cls exc) mg base 6 "NoPlace"
 d_Shelf_init:∃ C f fd,cls 0=some C/\mg "Shelf" = some (.ref C)/\Mk K C f/\Binds K fd ["self"] []/\Fun K "__init__" "Shelf.__init__" yck f fd
 d_is_whole:DG K mg "is_whole" ycX ["thing"]
 d_Shelf_has_piece:∃ C f fd,cls 0=some C/\Cls K C/\Meth K C "has_piece" f/\Binds K fd ["self", "number"] []/\Fun K "has_piece" "Shelf.has_piece" ybq f fd
 d_Shelf_check_piece:∃ C f fd,cls 0=some C/\Cls K C/\Meth K C "check_piece" f/\Binds K fd ["self", "number"] []/\Fun K "check_piece" "Shelf.check_piece" ybg f fd
 d_Shelf_check_text:∃ C f fd,cls 0=some C/\Cls K C/\Meth K C "check_text" f/\Binds K fd ["self", "text"] []/\Fun K "check_text" "Shelf.check_text" ybl f fd
 d_Shelf_signs:∃ C f fd,cls 0=some C/\Cls K C/\Meth K C "signs" f/\Binds K fd ["self", "text"] []/\Fun K "signs" "Shelf.signs" yb2 f fd
 d_check_length:DG K mg "check_length" ybQ ["signs"]
 d_Shelf_last_leaf:∃ C f fd,cls 0=some C/\Cls K C/\Meth K C "last_leaf" f/\Binds K fd ["self", "text"] []/\Fun K "last_leaf" "Shelf.last_leaf" ybr f fd
 d_Shelf_first_leaf:∃ C f fd,cls 0=some C/\Cls K C/\Meth K C "first_leaf" f/\Binds K fd ["self", "text"] []/\Fun K "first_leaf" "Shelf.first_leaf" ybm f fd
 d_are_close:DG K mg "are_close" ycw ["shelf", "one", "other"]
 d_Shelf_piece:∃ C f fd,cls 0=some C/\Cls K C/\Meth K C "piece" f/\Binds K fd ["self", "number"] []/\Fun K "piece" "Shelf.piece" yb3 f fd
 d_Shelf_check_fork:∃ C f fd,cls 0=some C/\Cls K C/\Meth K C "check_fork" f/\Binds K fd ["self", "one", "other"] []/\Fun K "check_fork" "Shelf.check_fork" ybn f fd
 d_Shelf_lay:∃ C f fd,cls 0=some C/\Cls K C/\Meth K C "lay" f/\Binds K fd ["self", "made"] []/\Fun K "lay" "Shelf.lay" ycx f fd
 d_Shelf_lay_fork:∃ C f fd,cls 0=some C/\Cls K C/\Meth K C "lay_fork" f/\Binds K fd ["self", "made"] []/\Fun K "lay_fork" "Shelf.lay_fork" ybx f fd
 d_Shelf_fork:∃ C f fd,cls 0=some C/\Cls K C/\Meth K C "fork" f/\Binds K fd ["self", "one", "other"] []/\Fun K "fork" "Shelf.fork" ycl f fd
 d_with_last:DG K mg "with_last" ycy ["shelf", "text", "leaf"]
 d_Shelf_height:∃ C f fd,cls 0=some C/\Cls K C/\Meth K C "height" f/\Binds K fd ["self", "text"] []/\Fun K "height" "Shelf.height" ybR f fd
 d_turned_left:DG K mg "turned_left" yb4 ["shelf", "one", "other"]
 d_without_first:DG K mg "without_first" ybF ["shelf", "text"]
 d_turned_right:DG K mg "turned_right" ybS ["shelf", "one", "other"]
 d_linked:DG K mg "linked" yds ["shelf", "one", "other"]
 d_is_plain_sign:DG K mg "is_plain_sign" ybG ["sign"]
 d_is_plain:DG K mg "is_plain" ycs ["thing"]
 d_is_short:DG K mg "is_short" ycY ["thing"]
 d_ends_in:DG K mg "ends_in" yda ["plain"]
 d_Shelf_lay_leaf:∃ C f fd,cls 0=some C/\Cls K C/\Meth K C "lay_leaf" f/\Binds K fd ["self", "made"] []/\Fun K "lay_leaf" "Shelf.lay_leaf" yby f fd
 d_Shelf_leaf:∃ C f fd,cls 0=some C/\Cls K C/\Meth K C "leaf" f/\Binds K fd ["self", "plain"] []/\Fun K "leaf" "Shelf.leaf" ycm f fd
 d_welded:DG K mg "welded" ydt ["shelf", "one", "other"]
 d_joined:DG K mg "joined" ydu ["shelf", "one", "other"]
 d_doubled:DG K mg "doubled" ydb ["shelf", "text", "many"]
 d_repeated:DG K mg "repeated" ycZ ["shelf", "text", "many"]
 d_halved:DG K mg "halved" ydv ["shelf", "leaves"]
 d_built:DG K mg "built" ydw ["shelf", "plain"]
 d_law_digit:DG K mg "_law_digit" ycz ["row", "many"]
 d_Shelf_ends:∃ C f fd,cls 0=some C/\Cls K C/\Meth K C "ends" f/\Binds K fd ["self", "text"] []/\Fun K "ends" "Shelf.ends" ycn f fd
 d_rows_in:DG K mg "rows_in" ydc ["shelf", "text"]
 d_check_row:DG K mg "check_row" ycA ["shelf", "text", "row"]
 d_behind_in_leaf:DG K mg "behind_in_leaf" ybz ["plain", "many"]
 d_behind_ends:DG K mg "behind_ends" yb5 ["shelf", "text", "many"]
 d_row_begin:DG K mg "row_begin" ycB ["shelf", "text", "row"]
 d_check_gap:DG K mg "check_gap" ycC ["shelf", "text", "at"]
 d_ends_passed:DG K mg "ends_passed" yb6 ["shelf", "step"]
 d_part_with:DG K mg "part_with" ycD ["shelf", "fork", "place"]
 d_steps_to:DG K mg "steps_to" yc0 ["shelf", "text", "place"]
 d_ends_ahead:DG K mg "ends_ahead" ybZ ["shelf", "text", "place"]
 d_row_at:DG K mg "row_at" ydx ["shelf", "text", "place"]
 d_law_three_right:DG K mg "_law_three_right" ybb ["shelf", "row"]
 d_law_mixed:DG K mg "_law_mixed" ycE ["cell", "k"]
 d_law_stream:DG K mg "_law_stream" yb0 ["script", "k"]
 d_law_tree:DG K mg "_law_tree" yct ["shelf", "row", "letters", "height", "last"]
 d_law_long_rows:DG K mg "_law_long_rows" ybH ["shelf", "row"]
 d_law_row_of_long:DG K mg "_law_row_of_long" ybc ["plain", "times", "row"]
 d_check_stretch:DG K mg "check_stretch" ybI ["shelf", "text", "begin", "end"]
 d_signs_between:DG K mg "signs_between" ybJ ["shelf", "text", "begin", "end"]
 d_stretch_of:DG K mg "stretch_of" yco ["shelf", "text", "begin", "end"]
 d_row_end:DG K mg "row_end" ydd ["shelf", "text", "row"]
 d_row_text:DG K mg "row_text" yc1 ["shelf", "text", "row"]
 d_law_row_right:DG K mg "_law_row_right" ybK ["shelf", "text", "plain", "times", "row"]
 d_law_place_right:DG K mg "_law_place_right" ybs ["shelf", "text", "plain", "place"]
 d_law:DG K mg "law" ydV ["script"]
theorem zey:FnScope ["self"] ["self"] (yad yck):=⟨rfl,rfl,rfl,by decide +kernel,rfl,by decide +kernel,by decide +kernel⟩
theorem ze7 {P:Program} {w:World} {K:PySem.W.Frag} {cls exc:Nat->Option Addr} {mg:Str->Option Value} {base:Heap} (Z:Facts P w K cls exc mg base):GK P w (mkT K cls exc) mg base 1 0 "Shelf" ycN:=by
 obtain ⟨C0,f,fd,h0,h1,h2,h3,h4⟩:=Z.d_Shelf_init
 refine ⟨C0,f,fd,_,h0,h1,h2,h3,okA h4 rfl zey fun cdv A outer s H E hr C=>?_⟩
 have hu:=hu64 hr
 exact (zab (zaZ rfl Z.cf_Shelf (yaa 0) (ycu yac))
  (zab (zaZ rfl Z.cf_Shelf (yaa 0) ziZ)
  (zab (zaZ rfl Z.cf_Shelf (yaa 0) (ycu (zaa yae yac)))
  (zab (zaZ rfl Z.cf_Shelf (yaa 0) (ycu (zaa yae yac)))
  (zab (zaZ rfl Z.cf_Shelf (yaa 0) (ycu (zaa yae yac)))
  (zab (zaZ rfl Z.cf_Shelf (yaa 0) (ycu (zaa (yfV yae) yac)))
  (zab (zaZ rfl Z.cf_Shelf (yaa 0) (ycu (zaa yae yac)))
  (yag (zaZ rfl Z.cf_Shelf (yaa 0) (ycu (zaa yae yac)))))))))))
theorem zfp:FnScope ["thing"] ["thing"] (yad ycX):=⟨rfl,rfl,rfl,by decide +kernel,rfl,by decide +kernel,by decide +kernel⟩
theorem zgD {P:Program} {w:World} {K:PySem.W.Frag} {cls exc:Nat->Option Addr} {mg:Str->Option Value} {base:Heap} (Z:Facts P w K cls exc mg base):GF P w (mkT K cls exc) mg base 1 "is_whole" ydL:=by
 obtain ⟨f,fd,h1,h2,h3,h4⟩:=Z.d_is_whole
 refine ⟨f,fd,_,h1,h2,h3,okA h4 rfl zfp fun cdv A outer s H E hr C=>?_⟩
 have hu:=hu64 hr
 exact (yag (yar (yeJ (ye6 rfl rfl Z.b_isinstance (yaa 0) rfl Z.b_int yfn (by decide)) (yet (yhH (ye6 rfl rfl Z.b_isinstance (yaa 0) rfl Z.b_bool ziS (by decide)))))))
theorem zcy:FnScope ["self", "number"] ["self", "number"] (yad ybq):=⟨rfl,rfl,rfl,by decide +kernel,rfl,by decide +kernel,by decide +kernel⟩
theorem zcS {P:Program} {w:World} {K:PySem.W.Frag} {cls exc:Nat->Option Addr} {mg:Str->Option Value} {base:Heap} (Z:Facts P w K cls exc mg base):GM P w (mkT K cls exc) mg base 2 0 "has_piece" yce:=by
 obtain ⟨C0,f,fd,h0,hc,h1,h3,h4⟩:=Z.d_Shelf_has_piece
 refine ⟨⟨C0,f,fd,_,h0,hc,h1,h3,okA h4 rfl zcy fun cdv A outer s H E hr C=>?_⟩,(show ("has_piece" : Str)∉flds 0 from by decide +kernel)⟩
 have hu:=hu64 hr
 exact (yag (yar (yeJ (yaj rfl C (zgD Z) (hr.mono (show 1<=1 by decide)) rfl (zaa (yaa 1) yac)) (yet (zdR o_le o_le yae (yaa 1) (r_bi (b_len rfl) rfl Z.b_len PySem.boot_len (zaa (yaH rfl Z.cf_Shelf (yaa 0)) yac)))))))
theorem zcg:FnScope ["self", "number"] ["self", "number"] (yad ybg):=⟨rfl,rfl,rfl,by decide +kernel,rfl,by decide +kernel,by decide +kernel⟩
theorem zaL {P:Program} {w:World} {K:PySem.W.Frag} {cls exc:Nat->Option Addr} {mg:Str->Option Value} {base:Heap} (Z:Facts P w K cls exc mg base):GM P w (mkT K cls exc) mg base 3 0 "check_piece" ya6:=by
 obtain ⟨C0,f,fd,h0,hc,h1,h3,h4⟩:=Z.d_Shelf_check_piece
 refine ⟨⟨C0,f,fd,_,h0,hc,h1,h3,okA h4 rfl zcg fun cdv A outer s H E hr C=>?_⟩,(show ("check_piece" : Str)∉flds 0 from by decide +kernel)⟩
 have hu:=hu64 hr
 exact (yag (r_if (ydh (za7 rfl (yak rfl C (zcS Z) (hr.mono (show 2<=2 by decide)) (yaa 0) (zaa (yaa 1) yac)))) (yag (zaK Z.x_NoPiece zaJ rfl (zaa yaR yac))) yax))
theorem zco:FnScope ["self", "text"] ["self", "text"] (yad ybl):=⟨rfl,rfl,rfl,by decide +kernel,rfl,by decide +kernel,by decide +kernel⟩
theorem zaH {P:Program} {w:World} {K:PySem.W.Frag} {cls exc:Nat->Option Addr} {mg:Str->Option Value} {base:Heap} (Z:Facts P w K cls exc mg base):GM P w (mkT K cls exc) mg base 4 0 "check_text" yaW:=by
 obtain ⟨C0,f,fd,h0,hc,h1,h3,h4⟩:=Z.d_Shelf_check_text
 refine ⟨⟨C0,f,fd,_,h0,hc,h1,h3,okA h4 rfl zco fun cdv A outer s H E hr C=>?_⟩,(show ("check_text" : Str)∉flds 0 from by decide +kernel)⟩
 have hu:=hu64 hr
 exact (yag (r_if (yaw (o_ne rfl hu) (yaa 1) yae (yau _)) (yag (yaJ (yak rfl C (zaL Z) (hr.mono (show 3<=3 by decide)) (yaa 0) (zaa (yaa 1) yac)))) yax))
theorem zd3:FnScope ["self", "text"] ["self", "text"] (yad yb2):=⟨rfl,rfl,rfl,by decide +kernel,rfl,by decide +kernel,by decide +kernel⟩
theorem zah {P:Program} {w:World} {K:PySem.W.Frag} {cls exc:Nat->Option Addr} {mg:Str->Option Value} {base:Heap} (Z:Facts P w K cls exc mg base):GM P w (mkT K cls exc) mg base 5 0 "signs" yaz:=by
 obtain ⟨C0,f,fd,h0,hc,h1,h3,h4⟩:=Z.d_Shelf_signs
 refine ⟨⟨C0,f,fd,_,h0,hc,h1,h3,okA h4 rfl zd3 fun cdv A outer s H E hr C=>?_⟩,(show ("signs" : Str)∉flds 0 from by decide +kernel)⟩
 have hu:=hu64 hr
 exact (zab (yaJ (yak rfl C (zaH Z) (hr.mono (show 4<=4 by decide)) (yaa 0) (zaa (yaa 1) yac)))
  (yag (yar (r_ix rfl hu (yaH rfl Z.cf_Shelf (yaa 0)) (yaa 1)))))
theorem zdF:FnScope ["signs"] ["signs"] (yad ybQ):=⟨rfl,rfl,rfl,by decide +kernel,rfl,by decide +kernel,by decide +kernel⟩
theorem zb1 {P:Program} {w:World} {K:PySem.W.Frag} {cls exc:Nat->Option Addr} {mg:Str->Option Value} {base:Heap} (Z:Facts P w K cls exc mg base):GF P w (mkT K cls exc) mg base 1 "check_length" yci:=by
 obtain ⟨f,fd,h1,h2,h3,h4⟩:=Z.d_check_length
 refine ⟨f,fd,_,h1,h2,h3,okA h4 rfl zdF fun cdv A outer s H E hr C=>?_⟩
 have hu:=hu64 hr
 exact (yag (r_if (yaw o_gt (yaa 0) (r_gI rfl Z.c_MOST_SIGNS) (yau _)) (yag (zaK Z.x_TooLong zaJ rfl (zaa yaR yac))) yax))
theorem zcz:FnScope ["self", "text"] ["self", "text"] (yad ybr):=⟨rfl,rfl,rfl,by decide +kernel,rfl,by decide +kernel,by decide +kernel⟩
theorem zbt {P:Program} {w:World} {K:PySem.W.Frag} {cls exc:Nat->Option Addr} {mg:Str->Option Value} {base:Heap} (Z:Facts P w K cls exc mg base):GM P w (mkT K cls exc) mg base 5 0 "last_leaf" ybN:=by
 obtain ⟨C0,f,fd,h0,hc,h1,h3,h4⟩:=Z.d_Shelf_last_leaf
 refine ⟨⟨C0,f,fd,_,h0,hc,h1,h3,okA h4 rfl zcz fun cdv A outer s H E hr C=>?_⟩,(show ("last_leaf" : Str)∉flds 0 from by decide +kernel)⟩
 have hu:=hu64 hr
 exact (zab (yaJ (yak rfl C (zaH Z) (hr.mono (show 4<=4 by decide)) (yaa 0) (zaa (yaa 1) yac)))
  (yag (yar (r_ix rfl hu (yaH rfl Z.cf_Shelf (yaa 0)) (yaa 1)))))
theorem zcp:FnScope ["self", "text"] ["self", "text"] (yad ybm):=⟨rfl,rfl,rfl,by decide +kernel,rfl,by decide +kernel,by decide +kernel⟩
theorem zbq {P:Program} {w:World} {K:PySem.W.Frag} {cls exc:Nat->Option Addr} {mg:Str->Option Value} {base:Heap} (Z:Facts P w K cls exc mg base):GM P w (mkT K cls exc) mg base 5 0 "first_leaf" ybB:=by
 obtain ⟨C0,f,fd,h0,hc,h1,h3,h4⟩:=Z.d_Shelf_first_leaf
 refine ⟨⟨C0,f,fd,_,h0,hc,h1,h3,okA h4 rfl zcp fun cdv A outer s H E hr C=>?_⟩,(show ("first_leaf" : Str)∉flds 0 from by decide +kernel)⟩
 have hu:=hu64 hr
 exact (zab (yaJ (yak rfl C (zaH Z) (hr.mono (show 4<=4 by decide)) (yaa 0) (zaa (yaa 1) yac)))
  (yag (yar (r_ix rfl hu (yaH rfl Z.cf_Shelf (yaa 0)) (yaa 1)))))
theorem ze8:FnScope ["shelf", "one", "other"] ["shelf", "one", "other"] (yad ycw):=⟨rfl,rfl,rfl,by decide +kernel,rfl,by decide +kernel,by decide +kernel⟩
theorem zfq {P:Program} {w:World} {K:PySem.W.Frag} {cls exc:Nat->Option Addr} {mg:Str->Option Value} {base:Heap} (Z:Facts P w K cls exc mg base):GF P w (mkT K cls exc) mg base 6 "are_close" ydA:=by
 obtain ⟨f,fd,h1,h2,h3,h4⟩:=Z.d_are_close
 refine ⟨f,fd,_,h1,h2,h3,okA h4 rfl ze8 fun cdv A outer s H E hr C=>?_⟩
 have hu:=hu64 hr
 exact (yag (yar (yeh o_gt (yai (yaG rfl) (yak rfl C (zah Z) (hr.mono (show 5<=5 by decide)) (yaa 0) (zaa (yak rfl C (zbt Z) (hr.mono (show 5<=5 by decide)) (yaa 0) (zaa (yaa 1) yac)) yac)) (yak rfl C (zah Z) (hr.mono (show 5<=5 by decide)) (yaa 0) (zaa (yak rfl C (zbq Z) (hr.mono (show 5<=5 by decide)) (yaa 0) (zaa (yaa 2) yac)) yac))) (r_gI rfl Z.c_LEAF_SIGNS) (yau _))))
theorem zd4:FnScope ["self", "number"] ["self", "number"] (yad yb3):=⟨rfl,rfl,rfl,by decide +kernel,rfl,by decide +kernel,by decide +kernel⟩
theorem zai {P:Program} {w:World} {K:PySem.W.Frag} {cls exc:Nat->Option Addr} {mg:Str->Option Value} {base:Heap} (Z:Facts P w K cls exc mg base):GM P w (mkT K cls exc) mg base 4 0 "piece" yaA:=by
 obtain ⟨C0,f,fd,h0,hc,h1,h3,h4⟩:=Z.d_Shelf_piece
 refine ⟨⟨C0,f,fd,_,h0,hc,h1,h3,okA h4 rfl zd4 fun cdv A outer s H E hr C=>?_⟩,(show ("piece" : Str)∉flds 0 from by decide +kernel)⟩
 have hu:=hu64 hr
 exact (zab (yaJ (yak rfl C (zaL Z) (hr.mono (show 3<=3 by decide)) (yaa 0) (zaa (yaa 1) yac)))
  (yag (yar (r_ix rfl hu (yaH rfl Z.cf_Shelf (yaa 0)) (yai ybd (yaa 1) yae)))))
theorem zbd:FnScope ["self", "one", "other", "seam"] ["self", "one", "other"] (yad ybn):=⟨rfl,rfl,rfl,by decide +kernel,rfl,by decide +kernel,by decide +kernel⟩
theorem zcA {P:Program} {w:World} {K:PySem.W.Frag} {cls exc:Nat->Option Addr} {mg:Str->Option Value} {base:Heap} (Z:Facts P w K cls exc mg base):GM P w (mkT K cls exc) mg base 4 0 "check_fork" ya1:=by
 obtain ⟨C0,f,fd,h0,hc,h1,h3,h4⟩:=Z.d_Shelf_check_fork
 refine ⟨⟨C0,f,fd,_,h0,hc,h1,h3,okA h4 rfl zbd fun cdv A outer s H E hr C=>?_⟩,(show ("check_fork" : Str)∉flds 0 from by decide +kernel)⟩
 have hu:=hu64 hr
 exact (zab (yaJ (yak rfl C (zaL Z) (hr.mono (show 3<=3 by decide)) (yaa 0) (zaa (yaa 1) yac)))
  (zab (yaJ (yak rfl C (zaL Z) (hr.mono (show 3<=3 by decide)) (yaa 0) (zaa (yaa 2) yac)))
  (zab (yao (i:=3) zbd.nd (yai (yaG rfl) (r_ix rfl hu (yaH rfl Z.cf_Shelf (yaa 0)) (r_ix rfl hu (yaH rfl Z.cf_Shelf (yaa 0)) (yaa 1))) (r_ix rfl hu (yaH rfl Z.cf_Shelf (yaa 0)) (r_ix rfl hu (yaH rfl Z.cf_Shelf (yaa 0)) (yaa 2)))))
  (zab (r_if (yaw o_le (yaa 3) (r_gI rfl Z.c_LEAF_SIGNS) (yau _)) (yag (zaK Z.x_Loose zaJ rfl (zaa yaR yac))) yax)
  (zab (r_if (yaw o_gt (r_bi (b_abs) rfl Z.b_abs PyProof.Rows.boot_abs (zaa (yai ybd (r_ix rfl hu (yaH rfl Z.cf_Shelf (yaa 0)) (yaa 1)) (r_ix rfl hu (yaH rfl Z.cf_Shelf (yaa 0)) (yaa 2))) yac)) yae (yau _)) (yag (zaK Z.x_Unlevel zaJ rfl (zaa yaR yac))) yax)
  (yag (r_if (yaw o_gt (yai (yaG rfl) (r_ix rfl hu (yaH rfl Z.cf_Shelf (yaa 0)) (yaa 1)) (r_ix rfl hu (yaH rfl Z.cf_Shelf (yaa 0)) (yaa 2))) (r_gI rfl Z.c_MOST_SIGNS) (yau _)) (yag (zaK Z.x_TooLong zaJ rfl (zaa yaR yac))) yax)))))))
theorem zcB:FnScope ["self", "made", "number"] ["self", "made"] (yad ycx):=⟨rfl,rfl,rfl,by decide +kernel,rfl,by decide +kernel,by decide +kernel⟩
theorem zc4 {P:Program} {w:World} {K:PySem.W.Frag} {cls exc:Nat->Option Addr} {mg:Str->Option Value} {base:Heap} (Z:Facts P w K cls exc mg base):GM P w (mkT K cls exc) mg base 1 0 "lay" yc2:=by
 obtain ⟨C0,f,fd,h0,hc,h1,h3,h4⟩:=Z.d_Shelf_lay
 refine ⟨⟨C0,f,fd,_,h0,hc,h1,h3,okA h4 rfl zcB fun cdv A outer s H E hr C=>?_⟩,(show ("lay" : Str)∉flds 0 from by decide +kernel)⟩
 have hu:=hu64 hr
 exact (zab (yaJ (r_bm rfl PySem.F.plainAttrs_list PySem.F.slot_list_append PySem.F.type_list_append (zat) zax (yaH rfl Z.cf_Shelf (yaa 0)) (zaa (yaa 1) yac)))
  (zab (yao (i:=2) zcB.nd (r_bi (b_len rfl) rfl Z.b_len PySem.boot_len (zaa (yaH rfl Z.cf_Shelf (yaa 0)) yac)))
  (zab (zfS hu (yaH rfl Z.cf_Shelf (yaa 0)) (yaa 1) (yaa 2))
  (yag (yar (yaa 2))))))
theorem za3:FnScope ["self", "made", "one", "other"] ["self", "made"] (yad ybx):=⟨rfl,rfl,rfl,by decide +kernel,rfl,by decide +kernel,by decide +kernel⟩
theorem zdq {P:Program} {w:World} {K:PySem.W.Frag} {cls exc:Nat->Option Addr} {mg:Str->Option Value} {base:Heap} (Z:Facts P w K cls exc mg base):GM P w (mkT K cls exc) mg base 2 0 "lay_fork" ybU:=by
 obtain ⟨C0,f,fd,h0,hc,h1,h3,h4⟩:=Z.d_Shelf_lay_fork
 refine ⟨⟨C0,f,fd,_,h0,hc,h1,h3,okA h4 rfl za3 fun cdv A outer s H E hr C=>?_⟩,(show ("lay_fork" : Str)∉flds 0 from by decide +kernel)⟩
 have hu:=hu64 hr
 exact (zab (yaJ (yak rfl C (zc4 Z) (hr.mono (show 1<=1 by decide)) (yaa 0) (zaa (yaa 1) yac)))
  (zab (yao (i:=2) za3.nd (r_ix rfl hu (yaa 1) yae))
  (zab (yao (i:=3) za3.nd (r_ix rfl hu (yaa 1) yae))
  (zab (yaJ (r_bm rfl PySem.F.plainAttrs_list PySem.F.slot_list_append PySem.F.type_list_append (zat) zax (yaH rfl Z.cf_Shelf (yaa 0)) (zaa (yai (yaG rfl) (r_ix rfl hu (yaH rfl Z.cf_Shelf (yaa 0)) (yaa 2)) (r_ix rfl hu (yaH rfl Z.cf_Shelf (yaa 0)) (yaa 3))) yac)))
  (zab (yaJ (r_bm rfl PySem.F.plainAttrs_list PySem.F.slot_list_append PySem.F.type_list_append (zat) zax (yaH rfl Z.cf_Shelf (yaa 0)) (zaa (yai (yaG rfl) (r_ix rfl hu (yaH rfl Z.cf_Shelf (yaa 0)) (yaa 2)) (r_ix rfl hu (yaH rfl Z.cf_Shelf (yaa 0)) (yaa 3))) yac)))
  (zab (yaJ (r_bm rfl PySem.F.plainAttrs_list PySem.F.slot_list_append PySem.F.type_list_append (zat) zax (yaH rfl Z.cf_Shelf (yaa 0)) (zaa (yai (yaG rfl) (r_ix rfl hu (yaH rfl Z.cf_Shelf (yaa 0)) (yaa 2)) (r_ix rfl hu (yaH rfl Z.cf_Shelf (yaa 0)) (yaa 3))) yac)))
  (zab (yaJ (r_bm rfl PySem.F.plainAttrs_list PySem.F.slot_list_append PySem.F.type_list_append (zat) zax (yaH rfl Z.cf_Shelf (yaa 0)) (zaa (yai (yaG rfl) (r_bi (yeT) rfl Z.b_max PyProof.Rows.boot_max (zaa (r_ix rfl hu (yaH rfl Z.cf_Shelf (yaa 0)) (yaa 2)) (zaa (r_ix rfl hu (yaH rfl Z.cf_Shelf (yaa 0)) (yaa 3)) yac))) yae) yac)))
  (zab (yaJ (r_bm rfl PySem.F.plainAttrs_list PySem.F.slot_list_append PySem.F.type_list_append (zat) zax (yaH rfl Z.cf_Shelf (yaa 0)) (zaa (r_ix rfl hu (yaH rfl Z.cf_Shelf (yaa 0)) (yaa 2)) yac)))
  (yag (yaJ (r_bm rfl PySem.F.plainAttrs_list PySem.F.slot_list_append PySem.F.type_list_append (zat) zax (yaH rfl Z.cf_Shelf (yaa 0)) (zaa (r_ix rfl hu (yaH rfl Z.cf_Shelf (yaa 0)) (yaa 3)) yac))))))))))))
theorem zcl:FnScope ["self", "one", "other", "made"] ["self", "one", "other"] (yad ycl):=⟨rfl,rfl,rfl,by decide +kernel,rfl,by decide +kernel,by decide +kernel⟩
theorem zag {P:Program} {w:World} {K:PySem.W.Frag} {cls exc:Nat->Option Addr} {mg:Str->Option Value} {base:Heap} (Z:Facts P w K cls exc mg base):GM P w (mkT K cls exc) mg base 5 0 "fork" yaf:=by
 obtain ⟨C0,f,fd,h0,hc,h1,h3,h4⟩:=Z.d_Shelf_fork
 refine ⟨⟨C0,f,fd,_,h0,hc,h1,h3,okA h4 rfl zcl fun cdv A outer s H E hr C=>?_⟩,(show ("fork" : Str)∉flds 0 from by decide +kernel)⟩
 have hu:=hu64 hr
 exact (zab (yaJ (yak rfl C (zcA Z) (hr.mono (show 4<=4 by decide)) (yaa 0) (zaa (yaa 1) (zaa (yaa 2) yac))))
  (zab (yao (i:=3) zcl.nd (ycd (zaa yaR (zaa (yaa 1) (zaa (yaa 2) yac)))))
  (zab (r_if (yaw (zfT rfl hu) (yaa 3) (yaH rfl Z.cf_Shelf (yaa 0)) rfl) (yag (yaJ (yak rfl C (zdq Z) (hr.mono (show 2<=4 by decide)) (yaa 0) (zaa (yaa 3) yac)))) yax)
  (yag (yar (r_ix rfl hu (yaH rfl Z.cf_Shelf (yaa 0)) (yaa 3)))))))
theorem zbG:FnScope ["shelf", "text", "leaf", "piece"] ["shelf", "text", "leaf"] (yad ycy):=⟨rfl,rfl,rfl,by decide +kernel,rfl,by decide +kernel,by decide +kernel⟩
theorem zc5 {P:Program} {w:World} {K:PySem.W.Frag} {cls exc:Nat->Option Addr} {mg:Str->Option Value} {base:Heap} (Z:Facts P w K cls exc mg base):∀ d,GF P w (mkT K cls exc) mg base (5+d+1) "with_last" (yba d)
 | 0=>by
  obtain ⟨f,fd,h1,h2,h3,h4⟩:=Z.d_with_last
  refine ⟨f,fd,_,h1,h2,h3,okA h4 rfl zbG fun cdv A outer s H E hr C=>?_⟩
  exact yd2
 | d+1=>by
  obtain ⟨f,fd,h1,h2,h3,h4⟩:=Z.d_with_last
  refine ⟨f,fd,_,h1,h2,h3,okA h4 rfl zbG fun cdv A outer s H E hr C=>?_⟩
  have hu:=hu64 hr
  exact (zab (yao (i:=3) zbG.nd (yak rfl C (zai Z) (hr.mono (show 4<=5+(d+1) by lia)) (yaa 0) (zaa (yaa 1) yac)))
  (zab (r_if (yaw (o_eq rfl hu) (r_ix rfl hu (yaa 3) yae) yaR (yau _)) (yag (yar (yaa 2))) yax)
  (yag (yar (yak rfl C (zag Z) (hr.mono (show 5<=5+(d+1) by lia)) (yaa 0) (zaa (r_ix rfl hu (yaa 3) yae) (zaa (yaj rfl C (zc5 Z d) (hr.mono (by lia)) rfl (zaa (yaa 0) (zaa (r_ix rfl hu (yaa 3) yae) (zaa (yaa 2) yac)))) yac)))))))
theorem zdG:FnScope ["self", "text"] ["self", "text"] (yad ybR):=⟨rfl,rfl,rfl,by decide +kernel,rfl,by decide +kernel,by decide +kernel⟩
theorem zal {P:Program} {w:World} {K:PySem.W.Frag} {cls exc:Nat->Option Addr} {mg:Str->Option Value} {base:Heap} (Z:Facts P w K cls exc mg base):GM P w (mkT K cls exc) mg base 5 0 "height" yav:=by
 obtain ⟨C0,f,fd,h0,hc,h1,h3,h4⟩:=Z.d_Shelf_height
 refine ⟨⟨C0,f,fd,_,h0,hc,h1,h3,okA h4 rfl zdG fun cdv A outer s H E hr C=>?_⟩,(show ("height" : Str)∉flds 0 from by decide +kernel)⟩
 have hu:=hu64 hr
 exact (zab (yaJ (yak rfl C (zaH Z) (hr.mono (show 4<=4 by decide)) (yaa 0) (zaa (yaa 1) yac)))
  (yag (yar (r_ix rfl hu (yaH rfl Z.cf_Shelf (yaa 0)) (yaa 1)))))
theorem zaT:FnScope ["shelf", "one", "other", "piece", "near", "far", "inner"] ["shelf", "one", "other"] (yad yb4):=⟨rfl,rfl,rfl,by decide +kernel,rfl,by decide +kernel,by decide +kernel⟩
theorem zcm {P:Program} {w:World} {K:PySem.W.Frag} {cls exc:Nat->Option Addr} {mg:Str->Option Value} {base:Heap} (Z:Facts P w K cls exc mg base):GF P w (mkT K cls exc) mg base 6 "turned_left" yaS:=by
 obtain ⟨f,fd,h1,h2,h3,h4⟩:=Z.d_turned_left
 refine ⟨f,fd,_,h1,h2,h3,okA h4 rfl zaT fun cdv A outer s H E hr C=>?_⟩
 have hu:=hu64 hr
 exact (zab (r_if (yaw o_lt (yai ybd (yak rfl C (zal Z) (hr.mono (show 5<=5 by decide)) (yaa 0) (zaa (yaa 2) yac)) (yak rfl C (zal Z) (hr.mono (show 5<=5 by decide)) (yaa 0) (zaa (yaa 1) yac))) yae (yau _)) (yag (yar (yak rfl C (zag Z) (hr.mono (show 5<=5 by decide)) (yaa 0) (zaa (yaa 1) (zaa (yaa 2) yac))))) yax)
  (zab (yao (i:=3) zaT.nd (yak rfl C (zai Z) (hr.mono (show 4<=5 by decide)) (yaa 0) (zaa (yaa 2) yac)))
  (zab (yao (i:=4) zaT.nd (r_ix rfl hu (yaa 3) yae))
  (zab (yao (i:=5) zaT.nd (r_ix rfl hu (yaa 3) yae))
  (zab (r_if (yaw o_le (yak rfl C (zal Z) (hr.mono (show 5<=5 by decide)) (yaa 0) (zaa (yaa 4) yac)) (yak rfl C (zal Z) (hr.mono (show 5<=5 by decide)) (yaa 0) (zaa (yaa 5) yac)) (yau _)) (yag (yar (yak rfl C (zag Z) (hr.mono (show 5<=5 by decide)) (yaa 0) (zaa (yak rfl C (zag Z) (hr.mono (show 5<=5 by decide)) (yaa 0) (zaa (yaa 1) (zaa (yaa 4) yac))) (zaa (yaa 5) yac))))) yax)
  (zab (yao (i:=6) zaT.nd (yak rfl C (zai Z) (hr.mono (show 4<=5 by decide)) (yaa 0) (zaa (yaa 4) yac)))
  (yag (yar (yak rfl C (zag Z) (hr.mono (show 5<=5 by decide)) (yaa 0) (zaa (yak rfl C (zag Z) (hr.mono (show 5<=5 by decide)) (yaa 0) (zaa (yaa 1) (zaa (r_ix rfl hu (yaa 6) yae) yac))) (zaa (yak rfl C (zag Z) (hr.mono (show 5<=5 by decide)) (yaa 0) (zaa (r_ix rfl hu (yaa 6) yae) (zaa (yaa 5) yac))) yac)))))))))))
theorem zaX:FnScope ["shelf", "text", "piece", "rest"] ["shelf", "text"] (yad ybF):=⟨rfl,rfl,rfl,by decide +kernel,rfl,by decide +kernel,by decide +kernel⟩
theorem zbW {P:Program} {w:World} {K:PySem.W.Frag} {cls exc:Nat->Option Addr} {mg:Str->Option Value} {base:Heap} (Z:Facts P w K cls exc mg base):∀ d,GF P w (mkT K cls exc) mg base (6+d+1) "without_first" (yaD d)
 | 0=>by
  obtain ⟨f,fd,h1,h2,h3,h4⟩:=Z.d_without_first
  refine ⟨f,fd,_,h1,h2,h3,okA h4 rfl zaX fun cdv A outer s H E hr C=>?_⟩
  exact yd2
 | d+1=>by
  obtain ⟨f,fd,h1,h2,h3,h4⟩:=Z.d_without_first
  refine ⟨f,fd,_,h1,h2,h3,okA h4 rfl zaX fun cdv A outer s H E hr C=>?_⟩
  have hu:=hu64 hr
  exact (zab (yao (i:=2) zaX.nd (yak rfl C (zai Z) (hr.mono (show 4<=6+(d+1) by lia)) (yaa 0) (zaa (yaa 1) yac)))
  (zab (r_if (yaw (o_eq rfl hu) (r_ix rfl hu (yaa 2) yae) yaR (yau _)) (yag (yar yae)) yax)
  (zab (yao (i:=3) zaX.nd (yaj rfl C (zbW Z d) (hr.mono (by lia)) rfl (zaa (yaa 0) (zaa (r_ix rfl hu (yaa 2) yae) yac))))
  (zab (r_if (yaw (o_eq rfl hu) (yaa 3) yae (yau _)) (yag (yar (r_ix rfl hu (yaa 2) yae))) yax)
  (yag (yar (yaj rfl C (zcm Z) (hr.mono (show 6<=6+(d+1) by lia)) rfl (zaa (yaa 0) (zaa (yaa 3) (zaa (r_ix rfl hu (yaa 2) yae) yac))))))))))
theorem zaP:FnScope ["shelf", "one", "other", "piece", "far", "near", "inner"] ["shelf", "one", "other"] (yad ybS):=⟨rfl,rfl,rfl,by decide +kernel,rfl,by decide +kernel,by decide +kernel⟩
theorem zd5 {P:Program} {w:World} {K:PySem.W.Frag} {cls exc:Nat->Option Addr} {mg:Str->Option Value} {base:Heap} (Z:Facts P w K cls exc mg base):GF P w (mkT K cls exc) mg base 6 "turned_right" ya0:=by
 obtain ⟨f,fd,h1,h2,h3,h4⟩:=Z.d_turned_right
 refine ⟨f,fd,_,h1,h2,h3,okA h4 rfl zaP fun cdv A outer s H E hr C=>?_⟩
 have hu:=hu64 hr
 exact (zab (r_if (yaw o_lt (yai ybd (yak rfl C (zal Z) (hr.mono (show 5<=5 by decide)) (yaa 0) (zaa (yaa 1) yac)) (yak rfl C (zal Z) (hr.mono (show 5<=5 by decide)) (yaa 0) (zaa (yaa 2) yac))) yae (yau _)) (yag (yar (yak rfl C (zag Z) (hr.mono (show 5<=5 by decide)) (yaa 0) (zaa (yaa 1) (zaa (yaa 2) yac))))) yax)
  (zab (yao (i:=3) zaP.nd (yak rfl C (zai Z) (hr.mono (show 4<=5 by decide)) (yaa 0) (zaa (yaa 1) yac)))
  (zab (yao (i:=4) zaP.nd (r_ix rfl hu (yaa 3) yae))
  (zab (yao (i:=5) zaP.nd (r_ix rfl hu (yaa 3) yae))
  (zab (r_if (yaw o_le (yak rfl C (zal Z) (hr.mono (show 5<=5 by decide)) (yaa 0) (zaa (yaa 5) yac)) (yak rfl C (zal Z) (hr.mono (show 5<=5 by decide)) (yaa 0) (zaa (yaa 4) yac)) (yau _)) (yag (yar (yak rfl C (zag Z) (hr.mono (show 5<=5 by decide)) (yaa 0) (zaa (yaa 4) (zaa (yak rfl C (zag Z) (hr.mono (show 5<=5 by decide)) (yaa 0) (zaa (yaa 5) (zaa (yaa 2) yac))) yac))))) yax)
  (zab (yao (i:=6) zaP.nd (yak rfl C (zai Z) (hr.mono (show 4<=5 by decide)) (yaa 0) (zaa (yaa 5) yac)))
  (yag (yar (yak rfl C (zag Z) (hr.mono (show 5<=5 by decide)) (yaa 0) (zaa (yak rfl C (zag Z) (hr.mono (show 5<=5 by decide)) (yaa 0) (zaa (yaa 4) (zaa (r_ix rfl hu (yaa 6) yae) yac))) (zaa (yak rfl C (zag Z) (hr.mono (show 5<=5 by decide)) (yaa 0) (zaa (r_ix rfl hu (yaa 6) yae) (zaa (yaa 2) yac))) yac)))))))))))
theorem zbr:FnScope ["shelf", "one", "other", "tilt", "piece"] ["shelf", "one", "other"] (yad yds):=⟨rfl,rfl,rfl,by decide +kernel,rfl,by decide +kernel,by decide +kernel⟩
theorem zch {P:Program} {w:World} {K:PySem.W.Frag} {cls exc:Nat->Option Addr} {mg:Str->Option Value} {base:Heap} (Z:Facts P w K cls exc mg base):∀ d,GF P w (mkT K cls exc) mg base (6+d+1) "linked" (ya9 d)
 | 0=>by
  obtain ⟨f,fd,h1,h2,h3,h4⟩:=Z.d_linked
  refine ⟨f,fd,_,h1,h2,h3,okA h4 rfl zbr fun cdv A outer s H E hr C=>?_⟩
  exact yd2
 | d+1=>by
  obtain ⟨f,fd,h1,h2,h3,h4⟩:=Z.d_linked
  refine ⟨f,fd,_,h1,h2,h3,okA h4 rfl zbr fun cdv A outer s H E hr C=>?_⟩
  have hu:=hu64 hr
  exact (zab (yao (i:=3) zbr.nd (yai ybd (yak rfl C (zal Z) (hr.mono (show 5<=6+(d+1) by lia)) (yaa 0) (zaa (yaa 1) yac)) (yak rfl C (zal Z) (hr.mono (show 5<=6+(d+1) by lia)) (yaa 0) (zaa (yaa 2) yac))))
  (zab (r_if (yaw o_gt (yaa 3) yae (yau _)) (zab (yao (i:=4) zbr.nd (yak rfl C (zai Z) (hr.mono (show 4<=6+(d+1) by lia)) (yaa 0) (zaa (yaa 1) yac)))
  (yag (yar (yaj rfl C (zcm Z) (hr.mono (show 6<=6+(d+1) by lia)) rfl (zaa (yaa 0) (zaa (r_ix rfl hu (yaa 4) yae) (zaa (yaj rfl C (zch Z d) (hr.mono (by lia)) rfl (zaa (yaa 0) (zaa (r_ix rfl hu (yaa 4) yae) (zaa (yaa 2) yac)))) yac))))))) yax)
  (zab (r_if (yaw o_lt (yaa 3) (yfV yae) (yau _)) (zab (yao (i:=4) zbr.nd (yak rfl C (zai Z) (hr.mono (show 4<=6+(d+1) by lia)) (yaa 0) (zaa (yaa 2) yac)))
  (yag (yar (yaj rfl C (zd5 Z) (hr.mono (show 6<=6+(d+1) by lia)) rfl (zaa (yaa 0) (zaa (yaj rfl C (zch Z d) (hr.mono (by lia)) rfl (zaa (yaa 0) (zaa (yaa 1) (zaa (r_ix rfl hu (yaa 4) yae) yac)))) (zaa (r_ix rfl hu (yaa 4) yae) yac))))))) yax)
  (yag (yar (yak rfl C (zag Z) (hr.mono (show 5<=6+(d+1) by lia)) (yaa 0) (zaa (yaa 1) (zaa (yaa 2) yac))))))))
theorem zdr:FnScope ["sign"] ["sign"] (yad ybG):=⟨rfl,rfl,rfl,by decide +kernel,rfl,by decide +kernel,by decide +kernel⟩
theorem zdH {P:Program} {w:World} {K:PySem.W.Frag} {cls exc:Nat->Option Addr} {mg:Str->Option Value} {base:Heap} (Z:Facts P w K cls exc mg base):GF P w (mkT K cls exc) mg base 1 "is_plain_sign" yca:=by
 obtain ⟨f,fd,h1,h2,h3,h4⟩:=Z.d_is_plain_sign
 refine ⟨f,fd,_,h1,h2,h3,okA h4 rfl zdr fun cdv A outer s H E hr C=>?_⟩
 have hu:=hu64 hr
 exact (yag (yar (r_or (yeh (o_eq rfl hu) (yaa 0) yaR (yau _)) (yet (zdR o_le o_le yaR (yaa 0) yaR)))))
theorem zfr:FnScope ["thing"] ["thing"] (yad ycs):=⟨rfl,rfl,rfl,by decide +kernel,rfl,by decide +kernel,by decide +kernel⟩
theorem zdI {P:Program} {w:World} {K:PySem.W.Frag} {cls exc:Nat->Option Addr} {mg:Str->Option Value} {base:Heap} (Z:Facts P w K cls exc mg base):GF P w (mkT K cls exc) mg base 2 "is_plain" ydi:=by
 obtain ⟨f,fd,h1,h2,h3,h4⟩:=Z.d_is_plain
 refine ⟨f,fd,_,h1,h2,h3,okA h4 rfl zfr fun cdv A outer s H E hr C=>?_⟩
 have hu:=hu64 hr
 exact (zab (r_if (ydh (za7 rfl (ye6 rfl rfl Z.b_isinstance (yaa 0) rfl Z.b_str ygI (by decide)))) (yag (yar r_bl)) yax)
  (yag (yar (r_bi (b_all rfl) rfl Z.b_all PyProof.Rows.boot_all (zaa (yeb (jf:=[]) (zaU (N:=["thing"]) (sc:=yad ycs) rfl (fun _=>rfl) (by decide +kernel)) rfl (yd1 (E:=(fun _=>E)) rfl (yaa 0)) (fun _ _ _ _ _=>zbg) (fun _ _ _ _ _=>(yaj rfl (CA.never rfl) (zdH Z) (hr.mono (show 1<=1 by decide)) rfl (zaa (yaa 0) yac)))) yac)))))
theorem zfs:FnScope ["thing"] ["thing"] (yad ycY):=⟨rfl,rfl,rfl,by decide +kernel,rfl,by decide +kernel,by decide +kernel⟩
theorem zgE {P:Program} {w:World} {K:PySem.W.Frag} {cls exc:Nat->Option Addr} {mg:Str->Option Value} {base:Heap} (Z:Facts P w K cls exc mg base):GF P w (mkT K cls exc) mg base 3 "is_short" ydM:=by
 obtain ⟨f,fd,h1,h2,h3,h4⟩:=Z.d_is_short
 refine ⟨f,fd,_,h1,h2,h3,okA h4 rfl zfs fun cdv A outer s H E hr C=>?_⟩
 have hu:=hu64 hr
 exact (yag (yar (yeJ (yaj rfl C (zdI Z) (hr.mono (show 2<=2 by decide)) rfl (zaa (yaa 0) yac)) (yet (zdR o_le o_le yae (r_bi (b_len rfl) rfl Z.b_len PySem.boot_len (zaa (yaa 0) yac)) (r_gI rfl Z.c_LEAF_SIGNS))))))
theorem zgF:FnScope ["plain"] ["plain"] (yad yda):=⟨rfl,rfl,rfl,by decide +kernel,rfl,by decide +kernel,by decide +kernel⟩
theorem zet {P:Program} {w:World} {K:PySem.W.Frag} {cls exc:Nat->Option Addr} {mg:Str->Option Value} {base:Heap} (Z:Facts P w K cls exc mg base):GF P w (mkT K cls exc) mg base 1 "ends_in" ydG:=by
 obtain ⟨f,fd,h1,h2,h3,h4⟩:=Z.d_ends_in
 refine ⟨f,fd,_,h1,h2,h3,okA h4 rfl zgF fun cdv A outer s H E hr C=>?_⟩
 have hu:=hu64 hr
 exact (yag (yar (r_bm rfl PySem.F.plainAttrs_str PySem.F.slot_str_count PySem.F.type_str_count (zbD) za8 (yaa 0) (zaa yaR yac))))
theorem za4:FnScope ["self", "made", "number", "plain"] ["self", "made"] (yad yby):=⟨rfl,rfl,rfl,by decide +kernel,rfl,by decide +kernel,by decide +kernel⟩
theorem zds {P:Program} {w:World} {K:PySem.W.Frag} {cls exc:Nat->Option Addr} {mg:Str->Option Value} {base:Heap} (Z:Facts P w K cls exc mg base):GM P w (mkT K cls exc) mg base 2 0 "lay_leaf" ybV:=by
 obtain ⟨C0,f,fd,h0,hc,h1,h3,h4⟩:=Z.d_Shelf_lay_leaf
 refine ⟨⟨C0,f,fd,_,h0,hc,h1,h3,okA h4 rfl za4 fun cdv A outer s H E hr C=>?_⟩,(show ("lay_leaf" : Str)∉flds 0 from by decide +kernel)⟩
 have hu:=hu64 hr
 exact (zab (yao (i:=2) za4.nd (yak rfl C (zc4 Z) (hr.mono (show 1<=1 by decide)) (yaa 0) (zaa (yaa 1) yac)))
  (zab (yao (i:=3) za4.nd (r_ix rfl hu (yaa 1) yae))
  (zab (yaJ (r_bm rfl PySem.F.plainAttrs_list PySem.F.slot_list_append PySem.F.type_list_append (zat) zax (yaH rfl Z.cf_Shelf (yaa 0)) (zaa (r_bi (b_len rfl) rfl Z.b_len PySem.boot_len (zaa (yaa 3) yac)) yac)))
  (zab (yaJ (r_bm rfl PySem.F.plainAttrs_list PySem.F.slot_list_append PySem.F.type_list_append (zat) zax (yaH rfl Z.cf_Shelf (yaa 0)) (zaa (yaj rfl C (zet Z) (hr.mono (show 1<=1 by decide)) rfl (zaa (yaa 3) yac)) yac)))
  (zab (yaJ (r_bm rfl PySem.F.plainAttrs_list PySem.F.slot_list_append PySem.F.type_list_append (zat) zax (yaH rfl Z.cf_Shelf (yaa 0)) (zaa yae yac)))
  (zab (yaJ (r_bm rfl PySem.F.plainAttrs_list PySem.F.slot_list_append PySem.F.type_list_append (zat) zax (yaH rfl Z.cf_Shelf (yaa 0)) (zaa yae yac)))
  (zab (yaJ (r_bm rfl PySem.F.plainAttrs_list PySem.F.slot_list_append PySem.F.type_list_append (zat) zax (yaH rfl Z.cf_Shelf (yaa 0)) (zaa (yaa 2) yac)))
  (yag (yaJ (r_bm rfl PySem.F.plainAttrs_list PySem.F.slot_list_append PySem.F.type_list_append (zat) zax (yaH rfl Z.cf_Shelf (yaa 0)) (zaa (yaa 2) yac)))))))))))
theorem zcn:FnScope ["self", "plain", "made"] ["self", "plain"] (yad ycm):=⟨rfl,rfl,rfl,by decide +kernel,rfl,by decide +kernel,by decide +kernel⟩
theorem zbH {P:Program} {w:World} {K:PySem.W.Frag} {cls exc:Nat->Option Addr} {mg:Str->Option Value} {base:Heap} (Z:Facts P w K cls exc mg base):GM P w (mkT K cls exc) mg base 4 0 "leaf" yaM:=by
 obtain ⟨C0,f,fd,h0,hc,h1,h3,h4⟩:=Z.d_Shelf_leaf
 refine ⟨⟨C0,f,fd,_,h0,hc,h1,h3,okA h4 rfl zcn fun cdv A outer s H E hr C=>?_⟩,(show ("leaf" : Str)∉flds 0 from by decide +kernel)⟩
 have hu:=hu64 hr
 exact (zab (r_if (ydh (za7 rfl (yaj rfl C (zgE Z) (hr.mono (show 3<=3 by decide)) rfl (zaa (yaa 1) yac)))) (yag (zaK Z.x_NoText zaJ rfl (zaa yaR yac))) yax)
  (zab (yao (i:=2) zcn.nd (ycd (zaa yaR (zaa (yaa 1) yac))))
  (zab (r_if (yaw (zfT rfl hu) (yaa 2) (yaH rfl Z.cf_Shelf (yaa 0)) rfl) (yag (yaJ (yak rfl C (zds Z) (hr.mono (show 2<=3 by decide)) (yaa 0) (zaa (yaa 2) yac)))) yax)
  (yag (yar (r_ix rfl hu (yaH rfl Z.cf_Shelf (yaa 0)) (yaa 2)))))))
theorem zbX:FnScope ["shelf", "one", "other", "seam", "front", "back"] ["shelf", "one", "other"] (yad ydt):=⟨rfl,rfl,rfl,by decide +kernel,rfl,by decide +kernel,by decide +kernel⟩
theorem zir {P:Program} {w:World} {K:PySem.W.Frag} {cls exc:Nat->Option Addr} {mg:Str->Option Value} {base:Heap} (Z:Facts P w K cls exc mg base):GF P w (mkT K cls exc) mg base 98 "welded" yc7:=by
 obtain ⟨f,fd,h1,h2,h3,h4⟩:=Z.d_welded
 refine ⟨f,fd,_,h1,h2,h3,okA h4 rfl zbX fun cdv A outer s H E hr C=>?_⟩
 have hu:=hu64 hr
 exact (zab (yao (i:=3) zbX.nd (yai (yaG rfl) (r_ix rfl hu (yak rfl C (zai Z) (hr.mono (show 4<=97 by decide)) (yaa 0) (zaa (yak rfl C (zbt Z) (hr.mono (show 5<=97 by decide)) (yaa 0) (zaa (yaa 1) yac)) yac)) yae) (r_ix rfl hu (yak rfl C (zai Z) (hr.mono (show 4<=97 by decide)) (yaa 0) (zaa (yak rfl C (zbq Z) (hr.mono (show 5<=97 by decide)) (yaa 0) (zaa (yaa 2) yac)) yac)) yae)))
  (zab (yao (i:=4) zbX.nd (yaj rfl C (zc5 Z 90) (hr.mono (show 96<=97 by decide)) rfl (zaa (yaa 0) (zaa (yaa 1) (zaa (yak rfl C (zbH Z) (hr.mono (show 4<=97 by decide)) (yaa 0) (zaa (yaa 3) yac)) yac)))))
  (zab (yao (i:=5) zbX.nd (yaj rfl C (zbW Z 90) (hr.mono (show 97<=97 by decide)) rfl (zaa (yaa 0) (zaa (yaa 2) yac))))
  (zab (r_if (yaw (o_eq rfl hu) (yaa 5) yae (yau _)) (yag (yar (yaa 4))) yax)
  (yag (yar (yaj rfl C (zch Z 90) (hr.mono (show 97<=97 by decide)) rfl (zaa (yaa 0) (zaa (yaa 4) (zaa (yaa 5) yac))))))))))
theorem zhB:FnScope ["shelf", "one", "other"] ["shelf", "one", "other"] (yad ydu):=⟨rfl,rfl,rfl,by decide +kernel,rfl,by decide +kernel,by decide +kernel⟩
theorem zci {P:Program} {w:World} {K:PySem.W.Frag} {cls exc:Nat->Option Addr} {mg:Str->Option Value} {base:Heap} (Z:Facts P w K cls exc mg base):GF P w (mkT K cls exc) mg base 99 "joined" yaP:=by
 obtain ⟨f,fd,h1,h2,h3,h4⟩:=Z.d_joined
 refine ⟨f,fd,_,h1,h2,h3,okA h4 rfl zhB fun cdv A outer s H E hr C=>?_⟩
 have hu:=hu64 hr
 exact (zab (yaJ (yaj rfl C (zb1 Z) (hr.mono (show 1<=98 by decide)) rfl (zaa (yai (yaG rfl) (yak rfl C (zah Z) (hr.mono (show 5<=98 by decide)) (yaa 0) (zaa (yaa 1) yac)) (yak rfl C (zah Z) (hr.mono (show 5<=98 by decide)) (yaa 0) (zaa (yaa 2) yac))) yac)))
  (zab (r_if (yaw (o_eq rfl hu) (yaa 1) yae (yau _)) (yag (yar (yaa 2))) yax)
  (zab (r_if (yaw (o_eq rfl hu) (yaa 2) yae (yau _)) (yag (yar (yaa 1))) yax)
  (zab (r_if (za7 rfl (yaj rfl C (zfq Z) (hr.mono (show 6<=98 by decide)) rfl (zaa (yaa 0) (zaa (yaa 1) (zaa (yaa 2) yac))))) (yag (yar (yaj rfl C (zch Z 90) (hr.mono (show 97<=98 by decide)) rfl (zaa (yaa 0) (zaa (yaa 1) (zaa (yaa 2) yac)))))) yax)
  (yag (yar (yaj rfl C (zir Z) (hr.mono (show 98<=98 by decide)) rfl (zaa (yaa 0) (zaa (yaa 1) (zaa (yaa 2) yac))))))))))
theorem zbx:FnScope ["shelf", "text", "many", "half", "twice"] ["shelf", "text", "many"] (yad ydb):=⟨rfl,rfl,rfl,by decide +kernel,rfl,by decide +kernel,by decide +kernel⟩
theorem zeu {P:Program} {w:World} {K:PySem.W.Frag} {cls exc:Nat->Option Addr} {mg:Str->Option Value} {base:Heap} (Z:Facts P w K cls exc mg base):∀ d,GF P w (mkT K cls exc) mg base (99+d+1) "doubled" (ya2 d)
 | 0=>by
  obtain ⟨f,fd,h1,h2,h3,h4⟩:=Z.d_doubled
  refine ⟨f,fd,_,h1,h2,h3,okA h4 rfl zbx fun cdv A outer s H E hr C=>?_⟩
  exact yd2
 | d+1=>by
  obtain ⟨f,fd,h1,h2,h3,h4⟩:=Z.d_doubled
  refine ⟨f,fd,_,h1,h2,h3,okA h4 rfl zbx fun cdv A outer s H E hr C=>?_⟩
  have hu:=hu64 hr
  exact (zab (r_if (yaw (o_eq rfl hu) (yaa 2) yae (yau _)) (yag (yar yae)) yax)
  (zab (yao (i:=3) zbx.nd (yaj rfl C (zeu Z d) (hr.mono (by lia)) rfl (zaa (yaa 0) (zaa (yaa 1) (zaa (yai yeg (yaa 2) yae) yac)))))
  (zab (yao (i:=4) zbx.nd (yaj rfl C (zci Z) (hr.mono (show 99<=99+(d+1) by lia)) rfl (zaa (yaa 0) (zaa (yaa 3) (zaa (yaa 3) yac)))))
  (zab (r_if (yaw (o_eq rfl hu) (yai ydf (yaa 2) yae) yae (yau _)) (yag (yar (yaa 4))) yax)
  (yag (yar (yaj rfl C (zci Z) (hr.mono (show 99<=99+(d+1) by lia)) rfl (zaa (yaa 0) (zaa (yaa 4) (zaa (yaa 1) yac))))))))))
theorem zc6:FnScope ["shelf", "text", "many", "signs"] ["shelf", "text", "many"] (yad ycZ):=⟨rfl,rfl,rfl,by decide +kernel,rfl,by decide +kernel,by decide +kernel⟩
theorem zdJ {P:Program} {w:World} {K:PySem.W.Frag} {cls exc:Nat->Option Addr} {mg:Str->Option Value} {base:Heap} (Z:Facts P w K cls exc mg base):GF P w (mkT K cls exc) mg base 165 "repeated" ycp:=by
 obtain ⟨f,fd,h1,h2,h3,h4⟩:=Z.d_repeated
 refine ⟨f,fd,_,h1,h2,h3,okA h4 rfl zc6 fun cdv A outer s H E hr C=>?_⟩
 have hu:=hu64 hr
 exact (zab (yao (i:=3) zc6.nd (yak rfl C (zah Z) (hr.mono (show 5<=164 by decide)) (yaa 0) (zaa (yaa 1) yac)))
  (zab (r_if (yaw o_lt (yaa 2) yae (yau _)) (yag (zaK Z.x_NoPlace zaJ rfl (zaa yaR yac))) yax)
  (zab (yaJ (yaj rfl C (zb1 Z) (hr.mono (show 1<=164 by decide)) rfl (zaa (yai ybA (yaa 3) (yaa 2)) yac)))
  (zab (r_if (yaw (o_eq rfl hu) (yaa 1) yae (yau _)) (yag (yar yae)) yax)
  (yag (yar (yaj rfl C (zeu Z 64) (hr.mono (show 164<=164 by decide)) rfl (zaa (yaa 0) (zaa (yaa 1) (zaa (yaa 2) yac))))))))))
theorem zcC:FnScope ["shelf", "leaves", "middle"] ["shelf", "leaves"] (yad ydv):=⟨rfl,rfl,rfl,by decide +kernel,rfl,by decide +kernel,by decide +kernel⟩
theorem zdt {P:Program} {w:World} {K:PySem.W.Frag} {cls exc:Nat->Option Addr} {mg:Str->Option Value} {base:Heap} (Z:Facts P w K cls exc mg base):∀ d,GF P w (mkT K cls exc) mg base (5+d+1) "halved" (ybW d)
 | 0=>by
  obtain ⟨f,fd,h1,h2,h3,h4⟩:=Z.d_halved
  refine ⟨f,fd,_,h1,h2,h3,okA h4 rfl zcC fun cdv A outer s H E hr C=>?_⟩
  exact yd2
 | d+1=>by
  obtain ⟨f,fd,h1,h2,h3,h4⟩:=Z.d_halved
  refine ⟨f,fd,_,h1,h2,h3,okA h4 rfl zcC fun cdv A outer s H E hr C=>?_⟩
  have hu:=hu64 hr
  exact (zab (r_if (yaw (o_eq rfl hu) (r_bi (b_len rfl) rfl Z.b_len PySem.boot_len (zaa (yaa 1) yac)) yae (yau _)) (yag (yar (r_ix rfl hu (yaa 1) yae))) yax)
  (zab (yao (i:=2) zcC.nd (yai yeg (r_bi (b_len rfl) rfl Z.b_len PySem.boot_len (zaa (yaa 1) yac)) yae))
  (yag (yar (yak rfl C (zag Z) (hr.mono (show 5<=5+(d+1) by lia)) (yaa 0) (zaa (yaj rfl C (zdt Z d) (hr.mono (by lia)) rfl (zaa (yaa 0) (zaa (za9 rfl (yaa 1) zb0 (zaR (yaa 2))) yac))) (zaa (yaj rfl C (zdt Z d) (hr.mono (by lia)) rfl (zaa (yaa 0) (zaa (za9 rfl (yaa 1) (zaR (yaa 2)) zb0) yac))) yac)))))))
theorem ze9:FnScope ["shelf", "plain", "leaves"] ["shelf", "plain"] (yad ydw):=⟨rfl,rfl,rfl,by decide +kernel,rfl,by decide +kernel,by decide +kernel⟩
theorem zd6 {P:Program} {w:World} {K:PySem.W.Frag} {cls exc:Nat->Option Addr} {mg:Str->Option Value} {base:Heap} (Z:Facts P w K cls exc mg base):GF P w (mkT K cls exc) mg base 27 "built" ydr:=by
 obtain ⟨f,fd,h1,h2,h3,h4⟩:=Z.d_built
 refine ⟨f,fd,_,h1,h2,h3,okA h4 rfl ze9 fun cdv A outer s H E hr C=>?_⟩
 have hu:=hu64 hr
 exact (zab (r_if (ydh (za7 rfl (yaj rfl C (zdI Z) (hr.mono (show 2<=26 by decide)) rfl (zaa (yaa 1) yac)))) (yag (zaK Z.x_NoText zaJ rfl (zaa yaR yac))) yax)
  (zab (r_if (yaw o_gt (r_bi (b_len rfl) rfl Z.b_len PySem.boot_len (zaa (yaa 1) yac)) (r_gI rfl Z.c_MOST_PLAIN) (yau _)) (yag (zaK Z.x_TooLong zaJ rfl (zaa yaR yac))) yax)
  (zab (r_if (yaw (o_eq rfl hu) (yaa 1) yaR (yau _)) (yag (yar yae)) yax)
  (zab (zfP (jf:=[(0, "shelf"),(1, "plain")]) (zaU (N:=["shelf", "plain", "leaves"]) (sc:=yad ydw) rfl (fun _=>rfl) (by decide +kernel)) rfl (zeh (E:=(fun _=>E)) rfl Z.b_range yae (r_bi (b_len rfl) rfl Z.b_len PySem.boot_len (zaa (yaa 1) yac)) (r_gI rfl Z.c_LEAF_SIGNS)) (fun _ _ _ _ _=>zbg) (fun _ _ _ _ _=>(yak rfl (CA.never rfl) (zbH Z) (hr.mono (show 4<=26 by decide)) (yaa 1) (zaa (za9 rfl (yaa 2) (zaR (yaa 0)) (zaR (yai (yaG rfl) (yaa 0) (r_gI rfl Z.c_LEAF_SIGNS)))) yac))) ze9.nd (i:=2))
  (yag (yar (yaj rfl C (zdt Z 20) (hr.mono (show 26<=26 by decide)) rfl (zaa (yaa 0) (zaa (yaa 2) yac)))))))))
theorem zcD:FnScope ["row", "many", "digit"] ["row", "many"] (yad ycz):=⟨rfl,rfl,rfl,by decide +kernel,rfl,by decide +kernel,by decide +kernel⟩
theorem zav {P:Program} {w:World} {K:PySem.W.Frag} {cls exc:Nat->Option Addr} {mg:Str->Option Value} {base:Heap} (Z:Facts P w K cls exc mg base):GF P w (mkT K cls exc) mg base 1 "_law_digit" yam:=by
 obtain ⟨f,fd,h1,h2,h3,h4⟩:=Z.d_law_digit
 refine ⟨f,fd,_,h1,h2,h3,okA h4 rfl zcD fun cdv A outer s H E hr C=>?_⟩
 have hu:=hu64 hr
 exact (zab (yao (i:=2) zcD.nd (yai ydf (r_ix rfl hu (yaa 0) yae) (yaa 1)))
  (zab (zfS hu (yaa 0) yae (yai yeg (r_ix rfl hu (yaa 0) yae) (yaa 1)))
  (yag (yar (yaa 2)))))
theorem zez:FnScope ["self", "text"] ["self", "text"] (yad ycn):=⟨rfl,rfl,rfl,by decide +kernel,rfl,by decide +kernel,by decide +kernel⟩
theorem zbc {P:Program} {w:World} {K:PySem.W.Frag} {cls exc:Nat->Option Addr} {mg:Str->Option Value} {base:Heap} (Z:Facts P w K cls exc mg base):GM P w (mkT K cls exc) mg base 5 0 "ends" ybX:=by
 obtain ⟨C0,f,fd,h0,hc,h1,h3,h4⟩:=Z.d_Shelf_ends
 refine ⟨⟨C0,f,fd,_,h0,hc,h1,h3,okA h4 rfl zez fun cdv A outer s H E hr C=>?_⟩,(show ("ends" : Str)∉flds 0 from by decide +kernel)⟩
 have hu:=hu64 hr
 exact (zab (yaJ (yak rfl C (zaH Z) (hr.mono (show 4<=4 by decide)) (yaa 0) (zaa (yaa 1) yac)))
  (yag (yar (r_ix rfl hu (yaH rfl Z.cf_Shelf (yaa 0)) (yaa 1)))))
theorem zgG:FnScope ["shelf", "text"] ["shelf", "text"] (yad ydc):=⟨rfl,rfl,rfl,by decide +kernel,rfl,by decide +kernel,by decide +kernel⟩
theorem zcE {P:Program} {w:World} {K:PySem.W.Frag} {cls exc:Nat->Option Addr} {mg:Str->Option Value} {base:Heap} (Z:Facts P w K cls exc mg base):GF P w (mkT K cls exc) mg base 6 "rows_in" ycO:=by
 obtain ⟨f,fd,h1,h2,h3,h4⟩:=Z.d_rows_in
 refine ⟨f,fd,_,h1,h2,h3,okA h4 rfl zgG fun cdv A outer s H E hr C=>?_⟩
 have hu:=hu64 hr
 exact (yag (yar (yai (yaG rfl) (yak rfl C (zbc Z) (hr.mono (show 5<=5 by decide)) (yaa 0) (zaa (yaa 1) yac)) yae)))
theorem zcF:FnScope ["shelf", "text", "row", "many"] ["shelf", "text", "row"] (yad ycA):=⟨rfl,rfl,rfl,by decide +kernel,rfl,by decide +kernel,by decide +kernel⟩
theorem zc7 {P:Program} {w:World} {K:PySem.W.Frag} {cls exc:Nat->Option Addr} {mg:Str->Option Value} {base:Heap} (Z:Facts P w K cls exc mg base):GF P w (mkT K cls exc) mg base 7 "check_row" ycc:=by
 obtain ⟨f,fd,h1,h2,h3,h4⟩:=Z.d_check_row
 refine ⟨f,fd,_,h1,h2,h3,okA h4 rfl zcF fun cdv A outer s H E hr C=>?_⟩
 have hu:=hu64 hr
 exact (zab (yao (i:=3) zcF.nd (yaj rfl C (zcE Z) (hr.mono (show 6<=6 by decide)) rfl (zaa (yaa 0) (zaa (yaa 1) yac))))
  (yag (r_if (ydh (zeN o_le o_lt yae (yaa 2) (yaa 3))) (yag (zaK Z.x_NoPlace zaJ rfl (zaa yaR yac))) yax)))
theorem zaQ:FnScope ["plain", "many", "place", "turn"] ["plain", "many"] (yad ybz):=⟨rfl,rfl,rfl,by decide +kernel,rfl,by decide +kernel,by decide +kernel⟩
theorem zdu {P:Program} {w:World} {K:PySem.W.Frag} {cls exc:Nat->Option Addr} {mg:Str->Option Value} {base:Heap} (Z:Facts P w K cls exc mg base):GF P w (mkT K cls exc) mg base 1 "behind_in_leaf" ycq:=by
 obtain ⟨f,fd,h1,h2,h3,h4⟩:=Z.d_behind_in_leaf
 refine ⟨f,fd,_,h1,h2,h3,okA h4 rfl zaQ fun cdv A outer s H E hr C=>?_⟩
 have hu:=hu64 hr
 exact (zab (yao (i:=2) zaQ.nd yae)
  (zab (ydz rfl (zaM (E:=EN) rfl Z.b_range (yaa 1)) (zaY (i:=3) zaQ.nd) (yag (yao (i:=2) zaQ.nd (yai (yaG rfl) (r_bm rfl PySem.F.plainAttrs_str PySem.F.slot_str_find PySem.F.type_str_find (zh6) za8 (yaa 0) (zaa yaR (zaa (yaa 2) yac))) yae))))
  (yag (yar (yaa 2)))))
theorem zaq:FnScope ["shelf", "text", "many", "number", "place", "left", "piece", "ends"] ["shelf", "text", "many"] (yad yb5):=⟨rfl,rfl,rfl,by decide +kernel,rfl,by decide +kernel,by decide +kernel⟩
theorem za6 {P:Program} {w:World} {K:PySem.W.Frag} {cls exc:Nat->Option Addr} {mg:Str->Option Value} {base:Heap} (Z:Facts P w K cls exc mg base):GF P w (mkT K cls exc) mg base 6 "behind_ends" ybi:=by
 obtain ⟨f,fd,h1,h2,h3,h4⟩:=Z.d_behind_ends
 refine ⟨f,fd,_,h1,h2,h3,okA h4 rfl zaq fun cdv A outer s H E hr C=>?_⟩
 have hu:=hu64 hr
 exact (zab (r_if (yaw (o_eq rfl hu) (yaa 2) yae (yau _)) (yag (yar yae)) yax)
  (zab (yao (i:=3) zaq.nd (yaa 1))
  (zab (yao (i:=4) zaq.nd yae)
  (zab (yao (i:=5) zaq.nd (yaa 2))
  (zab (zdS ycG (yaw o_gt (yak rfl (C.nox) (zal Z) (hr.mono (show 5<=5 by decide)) (yaa 0) (zaa (yaa 3) yac)) yae (yau _)) (zab (yao (i:=6) zaq.nd (yak rfl (C.nox) (zai Z) (hr.mono (show 4<=5 by decide)) (yaa 0) (zaa (yaa 3) yac)))
  (zab (yao (i:=7) zaq.nd (yak rfl (C.nox) (zbc Z) (hr.mono (show 5<=5 by decide)) (yaa 0) (zaa (r_ix rfl hu (yaa 6) yae) yac)))
  (yag (r_if (yaw o_le (yaa 5) (yaa 7) (yau _)) (yag (yao (i:=3) zaq.nd (r_ix rfl hu (yaa 6) yae))) (zab (yao (i:=3) zaq.nd (r_ix rfl hu (yaa 6) yae))
  (zab (yao (i:=4) zaq.nd (yai (yaG rfl) (yaa 4) (yak rfl (C.nox) (zah Z) (hr.mono (show 5<=5 by decide)) (yaa 0) (zaa (r_ix rfl hu (yaa 6) yae) yac))))
  (yag (yao (i:=5) zaq.nd (yai ybd (yaa 5) (yaa 7)))))))))))
  (yag (yar (yai (yaG rfl) (yaa 4) (yaj rfl C (zdu Z) (hr.mono (show 1<=5 by decide)) rfl (zaa (r_ix rfl hu (yak rfl C (zai Z) (hr.mono (show 4<=5 by decide)) (yaa 0) (zaa (yaa 3) yac)) yae) (zaa (yaa 5) yac)))))))))))
theorem zfa:FnScope ["shelf", "text", "row"] ["shelf", "text", "row"] (yad ycB):=⟨rfl,rfl,rfl,by decide +kernel,rfl,by decide +kernel,by decide +kernel⟩
theorem zc8 {P:Program} {w:World} {K:PySem.W.Frag} {cls exc:Nat->Option Addr} {mg:Str->Option Value} {base:Heap} (Z:Facts P w K cls exc mg base):GF P w (mkT K cls exc) mg base 8 "row_begin" yc3:=by
 obtain ⟨f,fd,h1,h2,h3,h4⟩:=Z.d_row_begin
 refine ⟨f,fd,_,h1,h2,h3,okA h4 rfl zfa fun cdv A outer s H E hr C=>?_⟩
 have hu:=hu64 hr
 exact (zab (yaJ (yaj rfl C (zc7 Z) (hr.mono (show 7<=7 by decide)) rfl (zaa (yaa 0) (zaa (yaa 1) (zaa (yaa 2) yac)))))
  (yag (yar (yaj rfl C (za6 Z) (hr.mono (show 6<=7 by decide)) rfl (zaa (yaa 0) (zaa (yaa 1) (zaa (yaa 2) yac)))))))
theorem zcG:FnScope ["shelf", "text", "at", "signs"] ["shelf", "text", "at"] (yad ycC):=⟨rfl,rfl,rfl,by decide +kernel,rfl,by decide +kernel,by decide +kernel⟩
theorem zft {P:Program} {w:World} {K:PySem.W.Frag} {cls exc:Nat->Option Addr} {mg:Str->Option Value} {base:Heap} (Z:Facts P w K cls exc mg base):GF P w (mkT K cls exc) mg base 6 "check_gap" ydB:=by
 obtain ⟨f,fd,h1,h2,h3,h4⟩:=Z.d_check_gap
 refine ⟨f,fd,_,h1,h2,h3,okA h4 rfl zcG fun cdv A outer s H E hr C=>?_⟩
 have hu:=hu64 hr
 exact (zab (yao (i:=3) zcG.nd (yak rfl C (zah Z) (hr.mono (show 5<=5 by decide)) (yaa 0) (zaa (yaa 1) yac)))
  (yag (r_if (ydh (zeN o_le o_le yae (yaa 2) (yaa 3))) (yag (zaK Z.x_NoPlace zaJ rfl (zaa yaR yac))) yax)))
theorem zb2:FnScope ["shelf", "step", "piece"] ["shelf", "step"] (yad yb6):=⟨rfl,rfl,rfl,by decide +kernel,rfl,by decide +kernel,by decide +kernel⟩
theorem zeA {P:Program} {w:World} {K:PySem.W.Frag} {cls exc:Nat->Option Addr} {mg:Str->Option Value} {base:Heap} (Z:Facts P w K cls exc mg base):GF P w (mkT K cls exc) mg base 6 "ends_passed" ybt:=by
 obtain ⟨f,fd,h1,h2,h3,h4⟩:=Z.d_ends_passed
 refine ⟨f,fd,_,h1,h2,h3,okA h4 rfl zb2 fun cdv A outer s H E hr C=>?_⟩
 have hu:=hu64 hr
 exact (zab (yao (i:=2) zb2.nd (yak rfl C (zai Z) (hr.mono (show 4<=5 by decide)) (yaa 0) (zaa (r_ix rfl hu (yaa 1) yae) yac)))
  (zab (r_if (yaw (o_eq rfl hu) (r_ix rfl hu (yaa 2) yae) yaR (yau _)) (yag (yar (yaj rfl C (zet Z) (hr.mono (show 1<=5 by decide)) rfl (zaa (za9 rfl (r_ix rfl hu (yaa 2) yae) zb0 (zaR (r_ix rfl hu (yaa 1) yae))) yac)))) yax)
  (zab (r_if (yaw o_lt (r_ix rfl hu (yaa 1) yae) (yak rfl C (zah Z) (hr.mono (show 5<=5 by decide)) (yaa 0) (zaa (r_ix rfl hu (yaa 2) yae) yac)) (yau _)) (yag (yar yae)) yax)
  (yag (yar (yak rfl C (zbc Z) (hr.mono (show 5<=5 by decide)) (yaa 0) (zaa (r_ix rfl hu (yaa 2) yae) yac)))))))
theorem zbI:FnScope ["shelf", "fork", "place", "piece", "ahead"] ["shelf", "fork", "place"] (yad ycD):=⟨rfl,rfl,rfl,by decide +kernel,rfl,by decide +kernel,by decide +kernel⟩
theorem zfu {P:Program} {w:World} {K:PySem.W.Frag} {cls exc:Nat->Option Addr} {mg:Str->Option Value} {base:Heap} (Z:Facts P w K cls exc mg base):GF P w (mkT K cls exc) mg base 6 "part_with" yc4:=by
 obtain ⟨f,fd,h1,h2,h3,h4⟩:=Z.d_part_with
 refine ⟨f,fd,_,h1,h2,h3,okA h4 rfl zbI fun cdv A outer s H E hr C=>?_⟩
 have hu:=hu64 hr
 exact (zab (yao (i:=3) zbI.nd (yak rfl C (zai Z) (hr.mono (show 4<=5 by decide)) (yaa 0) (zaa (yaa 1) yac)))
  (zab (yao (i:=4) zbI.nd (yak rfl C (zah Z) (hr.mono (show 5<=5 by decide)) (yaa 0) (zaa (r_ix rfl hu (yaa 3) yae) yac)))
  (zab (r_if (yaw o_lt (yaa 2) (yaa 4) (yau _)) (yag (yar (ycd (zaa (r_ix rfl hu (yaa 3) yae) (zaa (yaa 2) yac))))) yax)
  (yag (yar (ycd (zaa (r_ix rfl hu (yaa 3) yae) (zaa (yai ybd (yaa 2) (yaa 4)) yac))))))))
theorem zbo:FnScope ["shelf", "text", "place", "step", "steps"] ["shelf", "text", "place"] (yad yc0):=⟨rfl,rfl,rfl,by decide +kernel,rfl,by decide +kernel,by decide +kernel⟩
theorem zgH {P:Program} {w:World} {K:PySem.W.Frag} {cls exc:Nat->Option Addr} {mg:Str->Option Value} {base:Heap} (Z:Facts P w K cls exc mg base):GF P w (mkT K cls exc) mg base 7 "steps_to" ydN:=by
 obtain ⟨f,fd,h1,h2,h3,h4⟩:=Z.d_steps_to
 refine ⟨f,fd,_,h1,h2,h3,okA h4 rfl zbo fun cdv A outer s H E hr C=>?_⟩
 have hu:=hu64 hr
 exact (zab (yao (i:=3) zbo.nd (ycd (zaa (yaa 1) (zaa (yaa 2) yac))))
  (zab (yao (i:=4) zbo.nd (ycu (zaa (yaa 3) yac)))
  (zab (zdS ycG (yaw o_gt (yak rfl (C.nox) (zal Z) (hr.mono (show 5<=6 by decide)) (yaa 0) (zaa (r_ix rfl hu (yaa 3) yae) yac)) yae (yau _)) (zab (yao (i:=3) zbo.nd (yaj rfl (C.nox) (zfu Z) (hr.mono (show 6<=6 by decide)) rfl (zaa (yaa 0) (zaa (r_ix rfl hu (yaa 3) yae) (zaa (r_ix rfl hu (yaa 3) yae) yac)))))
  (yag (yaJ (r_bm rfl PySem.F.plainAttrs_list PySem.F.slot_list_append PySem.F.type_list_append (zat) zax (yaa 4) (zaa (yaa 3) yac))))))
  (yag (yar (yaa 4))))))
theorem zeB:FnScope ["shelf", "text", "place"] ["shelf", "text", "place"] (yad ybZ):=⟨rfl,rfl,rfl,by decide +kernel,rfl,by decide +kernel,by decide +kernel⟩
theorem zfb {P:Program} {w:World} {K:PySem.W.Frag} {cls exc:Nat->Option Addr} {mg:Str->Option Value} {base:Heap} (Z:Facts P w K cls exc mg base):GF P w (mkT K cls exc) mg base 8 "ends_ahead" ycP:=by
 obtain ⟨f,fd,h1,h2,h3,h4⟩:=Z.d_ends_ahead
 refine ⟨f,fd,_,h1,h2,h3,okA h4 rfl zeB fun cdv A outer s H E hr C=>?_⟩
 have hu:=hu64 hr
 exact (zab (r_if (yaw (o_eq rfl hu) (yaa 1) yae (yau _)) (yag (yar yae)) yax)
  (yag (yar (r_bi (b_sum rfl) rfl Z.b_sum PyProof.Rows.boot_sum (zaa (yeb (jf:=[(0, "shelf")]) (zaU (N:=["shelf", "text", "place"]) (sc:=yad ybZ) rfl (fun _=>rfl) (by decide +kernel)) rfl (yd1 (E:=(fun _=>E)) rfl (yaj rfl C (zgH Z) (hr.mono (show 7<=7 by decide)) rfl (zaa (yaa 0) (zaa (yaa 1) (zaa (yaa 2) yac))))) (fun _ _ _ _ _=>zbg) (fun _ _ _ _ _=>(yaj rfl (CA.never rfl) (zeA Z) (hr.mono (show 6<=7 by decide)) rfl (zaa (yaa 1) (zaa (yaa 0) yac))))) yac)))))
theorem zev:FnScope ["shelf", "text", "place", "row"] ["shelf", "text", "place"] (yad ydx):=⟨rfl,rfl,rfl,by decide +kernel,rfl,by decide +kernel,by decide +kernel⟩
theorem zcj {P:Program} {w:World} {K:PySem.W.Frag} {cls exc:Nat->Option Addr} {mg:Str->Option Value} {base:Heap} (Z:Facts P w K cls exc mg base):GF P w (mkT K cls exc) mg base 9 "row_at" yc8:=by
 obtain ⟨f,fd,h1,h2,h3,h4⟩:=Z.d_row_at
 refine ⟨f,fd,_,h1,h2,h3,okA h4 rfl zev fun cdv A outer s H E hr C=>?_⟩
 have hu:=hu64 hr
 exact (zab (yaJ (yaj rfl C (zft Z) (hr.mono (show 6<=8 by decide)) rfl (zaa (yaa 0) (zaa (yaa 1) (zaa (yaa 2) yac)))))
  (zab (yao (i:=3) zev.nd (yaj rfl C (zfb Z) (hr.mono (show 8<=8 by decide)) rfl (zaa (yaa 0) (zaa (yaa 1) (zaa (yaa 2) yac)))))
  (yag (yar (ycd (zaa (yaa 3) (zaa (yai ybd (yaa 2) (yaj rfl C (za6 Z) (hr.mono (show 6<=8 by decide)) rfl (zaa (yaa 0) (zaa (yaa 1) (zaa (yaa 3) yac))))) yac)))))))
theorem zaj:FnScope ["shelf", "row", "lengths", "text", "length", "more", "begins", "k", "at", "column"] ["shelf", "row"] (yad ybb):=⟨rfl,rfl,rfl,by decide +kernel,rfl,by decide +kernel,by decide +kernel⟩
theorem zcT {P:Program} {w:World} {K:PySem.W.Frag} {cls exc:Nat->Option Addr} {mg:Str->Option Value} {base:Heap} (Z:Facts P w K cls exc mg base):GF P w (mkT K cls exc) mg base 166 "_law_three_right" ycf:=by
 obtain ⟨f,fd,h1,h2,h3,h4⟩:=Z.d_law_three_right
 refine ⟨f,fd,_,h1,h2,h3,okA h4 rfl zaj fun cdv A outer s H E hr C=>?_⟩
 have hu:=hu64 hr
 exact (zab (zfP (jf:=[(1, "row")]) (zaU (N:=["shelf", "row", "lengths", "text", "length", "more", "begins", "k", "at", "column"]) (sc:=yad ybb) rfl (fun _=>rfl) (by decide +kernel)) rfl (zaM (E:=(fun _=>E)) rfl Z.b_range yae) (fun _ _ _ _ _=>zbg) (fun _ _ _ _ _=>(yai (yaG rfl) yae (yaj rfl (CA.never rfl) (zav Z) (hr.mono (show 1<=165 by decide)) rfl (zaa (yaa 1) (zaa (r_ix rfl hu (yd7 (zaa yae (zaa (yai yd6 yae yae) (zaa (yai yd6 yae yae) yac)))) (yaj rfl (CA.never rfl) (zav Z) (hr.mono (show 1<=165 by decide)) rfl (zaa (yaa 1) (zaa yae yac)))) yac))))) zaj.nd (i:=2))
  (zab (yao (i:=3) zaj.nd (yaj rfl C (zdJ Z) (hr.mono (show 165<=165 by decide)) rfl (zaa (yaa 0) (zaa (yaj rfl C (zd6 Z) (hr.mono (show 27<=165 by decide)) rfl (zaa (yaa 0) (zaa yaR yac))) (zaa (r_ix rfl hu (yaa 2) yae) yac)))))
  (zab (ydz rfl (yd1 (E:=EN) rfl (za9 rfl (yaa 2) (zaR yae) zb0)) (zaY (i:=4) zaj.nd) (zab (yao (i:=5) zaj.nd (yaj rfl (C.nox) (zdJ Z) (hr.mono (show 165<=165 by decide)) rfl (zaa (yaa 0) (zaa (yaj rfl (C.nox) (zd6 Z) (hr.mono (show 27<=165 by decide)) rfl (zaa (yaa 0) (zaa yaR yac))) (zaa (yaa 4) yac)))))
  (yag (yao (i:=3) zaj.nd (yaj rfl (C.nox) (zci Z) (hr.mono (show 99<=165 by decide)) rfl (zaa (yaa 0) (zaa (yaj rfl (C.nox) (zci Z) (hr.mono (show 99<=165 by decide)) rfl (zaa (yaa 0) (zaa (yaa 3) (zaa (yaj rfl (C.nox) (zd6 Z) (hr.mono (show 27<=165 by decide)) rfl (zaa (yaa 0) (zaa yaR yac))) yac)))) (zaa (yaa 5) yac))))))))
  (zab (yao (i:=6) zaj.nd (yd7 (zaa yae (zaa (yai (yaG rfl) (r_ix rfl hu (yaa 2) yae) yae) (zaa (yai (yaG rfl) (yai (yaG rfl) (r_ix rfl hu (yaa 2) yae) (r_ix rfl hu (yaa 2) yae)) yae) yac)))))
  (zab (r_if (rt_w (yeI (yaw (o_ne rfl hu) (yaj rfl C (zcE Z) (hr.mono (show 6<=165 by decide)) rfl (zaa (yaa 0) (zaa (yaa 3) yac))) yae (yau _)) (yes (yaw (o_ne rfl hu) (yak rfl C (zah Z) (hr.mono (show 5<=165 by decide)) (yaa 0) (zaa (yaa 3) yac)) (yai (yaG rfl) (r_bi (b_sum rfl) rfl Z.b_sum PyProof.Rows.boot_sum (zaa (yaa 2) yac)) yae) (yau _))))) (yag (yar r_bl)) yax)
  (zab (ydz rfl (zaM (E:=EN) rfl Z.b_range yae) (zaY (i:=7) zaj.nd) (zab (yao (i:=8) zaj.nd (yaj rfl (C.nox) (zav Z) (hr.mono (show 1<=165 by decide)) rfl (zaa (yaa 1) (zaa (yai (yaG rfl) (r_ix rfl hu (yaa 2) (yaa 7)) yae) yac))))
  (zab (r_if (yaw (o_ne rfl hu) (yaj rfl (C.nox) (zc8 Z) (hr.mono (show 8<=165 by decide)) rfl (zaa (yaa 0) (zaa (yaa 3) (zaa (yaa 7) yac)))) (r_ix rfl hu (yaa 6) (yaa 7)) (yau _)) (yag (yar r_bl)) yax)
  (yag (ydz rfl (yd1 (E:=EN) rfl (yd7 (zaa yae (zaa (yaa 8) (zaa (r_ix rfl hu (yaa 2) (yaa 7)) yac))))) (zaY (i:=9) zaj.nd) (yag (r_if (yaw (o_ne rfl hu) (yaj rfl ((C.nox).nox) (zcj Z) (hr.mono (show 9<=165 by decide)) rfl (zaa (yaa 0) (zaa (yaa 3) (zaa (yai (yaG rfl) (r_ix rfl hu (yaa 6) (yaa 7)) (yaa 9)) yac)))) (ycd (zaa (yaa 7) (zaa (yaa 9) yac))) (yau _)) (yag (yar r_bl)) yax)))))))
  (yag (yar r_bl))))))))
theorem zcH:FnScope ["cell", "k", "stir"] ["cell", "k"] (yad ycE):=⟨rfl,rfl,rfl,by decide +kernel,rfl,by decide +kernel,by decide +kernel⟩
theorem zfv {P:Program} {w:World} {K:PySem.W.Frag} {cls exc:Nat->Option Addr} {mg:Str->Option Value} {base:Heap} (Z:Facts P w K cls exc mg base):GF P w (mkT K cls exc) mg base 1 "_law_mixed" ydC:=by
 obtain ⟨f,fd,h1,h2,h3,h4⟩:=Z.d_law_mixed
 refine ⟨f,fd,_,h1,h2,h3,okA h4 rfl zcH fun cdv A outer s H E hr C=>?_⟩
 have hu:=hu64 hr
 exact (zab (yao (i:=2) zcH.nd (yai ydf (yai ybA (yai (yaG rfl) (yai (yaG rfl) (yai ydf (yaa 0) yae) (yai ybA yae (yaa 1))) yae) yae) yae))
  (yag (yar (yai ydf (yai ybA (yai ydf (yai ybA (yaa 2) (yaa 2)) yae) yae) yae))))
theorem zaD:FnScope ["script", "k", "cell", "j", "found"] ["script", "k"] (yad yb0):=⟨rfl,rfl,rfl,by decide +kernel,rfl,by decide +kernel,by decide +kernel⟩
theorem zbJ {P:Program} {w:World} {K:PySem.W.Frag} {cls exc:Nat->Option Addr} {mg:Str->Option Value} {base:Heap} (Z:Facts P w K cls exc mg base):GF P w (mkT K cls exc) mg base 2 "_law_stream" ybo:=by
 obtain ⟨f,fd,h1,h2,h3,h4⟩:=Z.d_law_stream
 refine ⟨f,fd,_,h1,h2,h3,okA h4 rfl zaD fun cdv A outer s H E hr C=>?_⟩
 have hu:=hu64 hr
 exact (zab (yao (i:=2) zaD.nd yae)
  (zab (ydz rfl (zeh (E:=EN) rfl Z.b_range (yaa 1) (r_bi (b_len rfl) rfl Z.b_len PySem.boot_len (zaa (yaa 0) yac)) yae) (zaY (i:=3) zaD.nd) (yag (yao (i:=2) zaD.nd (yai (yaG rfl) (yai ybA (yaa 2) (yai yd6 yae yae)) (yai ydf (r_ix rfl hu (yaa 0) (yaa 3)) (yai yd6 yae yae))))))
  (zab (r_if (yaw o_ge (yaa 2) (yai yd6 yae yae) (yau _)) (yag (yar (ycu (zaa (yaa 2) yac)))) yax)
  (zab (yao (i:=2) zaD.nd (yai (yaG rfl) (yaa 2) (r_bi (b_sum rfl) rfl Z.b_sum PyProof.Rows.boot_sum (zaa (yeb (jf:=[]) (zaU (N:=["script", "k", "cell", "j", "found"]) (sc:=yad yb0) rfl (fun _=>rfl) (by decide +kernel)) rfl (yd1 (E:=(fun _=>E)) rfl (yaa 0)) (fun _ _ _ _ _=>zbg) (fun _ _ _ _ _=>(yai ydf (yaa 0) (yai yd6 yae yae)))) yac))))
  (zab (yao (i:=4) zaD.nd yae)
  (zab (ydz rfl (zaM (E:=EN) rfl Z.b_range yae) (zaY (i:=3) zaD.nd) (yag (yao (i:=4) zaD.nd (yai (yaG rfl) (yai ybA (yaa 4) yae) (yaj rfl (C.nox) (zfv Z) (hr.mono (show 1<=1 by decide)) rfl (zaa (yai (yaG rfl) (yai (yaG rfl) (yaa 2) (yai ybA yae (yaa 1))) (r_bi (b_len rfl) rfl Z.b_len PySem.boot_len (zaa (yaa 0) yac))) (zaa (yaa 3) yac)))))))
  (yag (yar (ycu (zaa (yai yeg (yaa 4) yae) yac))))))))))
theorem zaG:FnScope ["shelf", "row", "letters", "height", "last", "least", "many", "plain", "lower", "turn", "one", "other"] ["shelf", "row", "letters", "height", "last"] (yad yct):=⟨rfl,rfl,rfl,by decide +kernel,rfl,by decide +kernel,by decide +kernel⟩
theorem zck {P:Program} {w:World} {K:PySem.W.Frag} {cls exc:Nat->Option Addr} {mg:Str->Option Value} {base:Heap} (Z:Facts P w K cls exc mg base):∀ d,GF P w (mkT K cls exc) mg base (5+d+1) "_law_tree" (ycr d)
 | 0=>by
  obtain ⟨f,fd,h1,h2,h3,h4⟩:=Z.d_law_tree
  refine ⟨f,fd,_,h1,h2,h3,okA h4 rfl zaG fun cdv A outer s H E hr C=>?_⟩
  exact yd2
 | d+1=>by
  obtain ⟨f,fd,h1,h2,h3,h4⟩:=Z.d_law_tree
  refine ⟨f,fd,_,h1,h2,h3,okA h4 rfl zaG fun cdv A outer s H E hr C=>?_⟩
  have hu:=hu64 hr
  exact (zab (r_if (yaw (o_eq rfl hu) (yaa 3) yae (yau _)) (zab (yao (i:=5) zaG.nd (r_bi (yeT) rfl Z.b_max PyProof.Rows.boot_max (zaa yae (zaa (yai ybd yae (yaa 4)) yac))))
  (zab (yao (i:=6) zaG.nd (yai (yaG rfl) (yaa 5) (yaj rfl C (zav Z) (hr.mono (show 1<=5+(d+1) by lia)) rfl (zaa (yaa 1) (zaa (yai ybd yae (yaa 5)) yac)))))
  (zab (yao (i:=7) zaG.nd (r_bm rfl PySem.F.plainAttrs_str PySem.F.slot_str_join PySem.F.type_str_join (yfB rfl) za8 yaR (zaa (yeb (jf:=[(2, "letters"),(1, "row")]) (zaU (N:=["shelf", "row", "letters", "height", "last", "least", "many", "plain", "lower", "turn", "one", "other"]) (sc:=yad yct) rfl (fun _=>rfl) (by decide +kernel)) rfl (zaM (E:=(fun _=>E)) rfl Z.b_range (yaa 6)) (fun _ _ _ _ _=>zbg) (fun _ _ _ _ _=>(r_ix rfl hu (yaa 1) (yaj rfl (CA.never rfl) (zav Z) (hr.mono (show 1<=5+(d+1) by lia)) rfl (zaa (yaa 2) (zaa (r_bi (b_len rfl) rfl Z.b_len PySem.boot_len (zaa (yaa 1) yac)) yac)))))) yac)))
  (yag (yar (ycd (zaa (yak rfl C (zbH Z) (hr.mono (show 4<=5+(d+1) by lia)) (yaa 0) (zaa (yaa 7) yac)) (zaa (yaa 7) (zaa (yaa 6) yac))))))))) yax)
  (zab (yao (i:=8) zaG.nd (yai ybA (r_ix rfl hu (yd7 (zaa yae (zaa yae (zaa yae yac)))) (yaj rfl C (zav Z) (hr.mono (show 1<=5+(d+1) by lia)) rfl (zaa (yaa 1) (zaa yae yac)))) (r_ty (b_int) rfl Z.b_int yfn (zaa (yeh o_gt (yaa 3) yae (yau _)) yac))))
  (zab (yao (i:=9) zaG.nd (yaj rfl C (zav Z) (hr.mono (show 1<=5+(d+1) by lia)) rfl (zaa (yaa 1) (zaa yae yac))))
  (zab (yao (i:=10) zaG.nd (yaj rfl C (zck Z d) (hr.mono (by lia)) rfl (zaa (yaa 0) (zaa (yaa 1) (zaa (yaa 2) (zaa (yai ybd (yai ybd (yaa 3) yae) (yai ybA (yaa 8) (yaa 9))) (zaa (yaa 4) yac)))))))
  (zab (yao (i:=11) zaG.nd (yaj rfl C (zck Z d) (hr.mono (by lia)) rfl (zaa (yaa 0) (zaa (yaa 1) (zaa (yaa 2) (zaa (yai ybd (yai ybd (yaa 3) yae) (yai ybA (yaa 8) (yai ybd yae (yaa 9)))) (zaa (r_ix rfl hu (yaa 10) yae) yac)))))))
  (yag (yar (ycd (zaa (yak rfl C (zag Z) (hr.mono (show 5<=5+(d+1) by lia)) (yaa 0) (zaa (r_ix rfl hu (yaa 10) yae) (zaa (r_ix rfl hu (yaa 11) yae) yac))) (zaa (yai (yaG rfl) (r_ix rfl hu (yaa 10) yae) (r_ix rfl hu (yaa 11) yae)) (zaa (r_ix rfl hu (yaa 11) yae) yac)))))))))))
theorem zau:FnScope ["shelf", "row", "number", "plain", "last", "many", "turn"] ["shelf", "row"] (yad ybH):=⟨rfl,rfl,rfl,by decide +kernel,rfl,by decide +kernel,by decide +kernel⟩
theorem zdK {P:Program} {w:World} {K:PySem.W.Frag} {cls exc:Nat->Option Addr} {mg:Str->Option Value} {base:Heap} (Z:Facts P w K cls exc mg base):GF P w (mkT K cls exc) mg base 17 "_law_long_rows" ycI:=by
 obtain ⟨f,fd,h1,h2,h3,h4⟩:=Z.d_law_long_rows
 refine ⟨f,fd,_,h1,h2,h3,okA h4 rfl zau fun cdv A outer s H E hr C=>?_⟩
 have hu:=hu64 hr
 exact (zab (yfv (yaj rfl C (zck Z 10) (hr.mono (show 16<=16 by decide)) rfl (zaa (yaa 0) (zaa (yaa 1) (zaa (r_ix rfl hu (yd7 (zaa yaR (zaa yaR (zaa yaR yac)))) (yaj rfl C (zav Z) (hr.mono (show 1<=16 by decide)) rfl (zaa (yaa 1) (zaa yae yac)))) (zaa (yaj rfl C (zav Z) (hr.mono (show 1<=16 by decide)) rfl (zaa (yaa 1) (zaa yae yac))) (zaa yae yac)))))) (yfu rfl rfl (zbf (i:=2) zau.nd (zbf (i:=3) zau.nd (zbf (i:=4) zau.nd zfN)))))
  (zab (yao (i:=5) zau.nd yae)
  (zab (ydz rfl (zaM (E:=EN) rfl Z.b_range (yaj rfl (C.nox) (zav Z) (hr.mono (show 1<=16 by decide)) rfl (zaa (yaa 1) (zaa yae yac)))) (zaY (i:=6) zau.nd) (yag (r_if (yaw o_le (yai ybA (yai ybA (r_bi (b_len rfl) rfl Z.b_len PySem.boot_len (zaa (yaa 3) yac)) (yaa 5)) yae) (yai yd6 yae yae) (yau _)) (zab (yao (i:=2) zau.nd (yak rfl (C.nox) (zag Z) (hr.mono (show 5<=16 by decide)) (yaa 0) (zaa (yaa 2) (zaa (yaa 2) yac))))
  (yag (yao (i:=5) zau.nd (yai ybA (yaa 5) yae)))) yax)))
  (yag (yar (ycd (zaa (yaa 2) (zaa (yaa 3) (zaa (yaa 5) yac)))))))))
theorem zbs:FnScope ["plain", "times", "row", "feeds"] ["plain", "times", "row"] (yad ybc):=⟨rfl,rfl,rfl,by decide +kernel,rfl,by decide +kernel,by decide +kernel⟩
theorem za5 {P:Program} {w:World} {K:PySem.W.Frag} {cls exc:Nat->Option Addr} {mg:Str->Option Value} {base:Heap} (Z:Facts P w K cls exc mg base):GF P w (mkT K cls exc) mg base 1 "_law_row_of_long" ya5:=by
 obtain ⟨f,fd,h1,h2,h3,h4⟩:=Z.d_law_row_of_long
 refine ⟨f,fd,_,h1,h2,h3,okA h4 rfl zbs fun cdv A outer s H E hr C=>?_⟩
 have hu:=hu64 hr
 exact (zab (zic rfl (jf:=[]) (zgz (N:=["plain", "times", "row", "feeds"]) (sc:=yad ybc) rfl (fun _=>rfl) (by decide +kernel)) rfl (zia (E:=(fun _=>E)) rfl rfl Z.b_enumerate (yaa 0)) (fun _ _ _ _ _=>zi3 (yaw (o_eq rfl hu) (yaa 1) yaR (yau _))) (fun _ _ _ _ _=>(yaa 0)) zbs.nd (i:=3))
  (zab (r_if (yaw (o_eq rfl hu) (yaa 2) yae (yau _)) (yag (yar yae)) yax)
  (yag (yar (yai (yaG rfl) (yai (yaG rfl) (yai ybA (yai yeg (yai ybd (yaa 2) yae) (r_bi (b_len rfl) rfl Z.b_len PySem.boot_len (zaa (yaa 3) yac))) (r_bi (b_len rfl) rfl Z.b_len PySem.boot_len (zaa (yaa 0) yac))) (r_ix rfl hu (yaa 3) (yai ydf (yai ybd (yaa 2) yae) (r_bi (b_len rfl) rfl Z.b_len PySem.boot_len (zaa (yaa 3) yac))))) yae)))))
theorem zbK:FnScope ["shelf", "text", "begin", "end", "signs"] ["shelf", "text", "begin", "end"] (yad ybI):=⟨rfl,rfl,rfl,by decide +kernel,rfl,by decide +kernel,by decide +kernel⟩
theorem zdL {P:Program} {w:World} {K:PySem.W.Frag} {cls exc:Nat->Option Addr} {mg:Str->Option Value} {base:Heap} (Z:Facts P w K cls exc mg base):GF P w (mkT K cls exc) mg base 6 "check_stretch" ycJ:=by
 obtain ⟨f,fd,h1,h2,h3,h4⟩:=Z.d_check_stretch
 refine ⟨f,fd,_,h1,h2,h3,okA h4 rfl zbK fun cdv A outer s H E hr C=>?_⟩
 have hu:=hu64 hr
 exact (zab (yao (i:=4) zbK.nd (yak rfl C (zah Z) (hr.mono (show 5<=5 by decide)) (yaa 0) (zaa (yaa 1) yac)))
  (yag (r_if (ydh (zhh o_le o_le o_le yae (yaa 2) (yaa 3) (yaa 4))) (yag (zaK Z.x_NoPlace zaJ rfl (zaa yaR yac))) yax)))
theorem zaz:FnScope ["shelf", "text", "begin", "end", "found", "ahead", "step", "number", "start", "piece"] ["shelf", "text", "begin", "end"] (yad ybJ):=⟨rfl,rfl,rfl,by decide +kernel,rfl,by decide +kernel,by decide +kernel⟩
theorem zdM {P:Program} {w:World} {K:PySem.W.Frag} {cls exc:Nat->Option Addr} {mg:Str->Option Value} {base:Heap} (Z:Facts P w K cls exc mg base):GF P w (mkT K cls exc) mg base 6 "signs_between" ycK:=by
 obtain ⟨f,fd,h1,h2,h3,h4⟩:=Z.d_signs_between
 refine ⟨f,fd,_,h1,h2,h3,okA h4 rfl zaz fun cdv A outer s H E hr C=>?_⟩
 have hu:=hu64 hr
 exact (zab (yao (i:=4) zaz.nd (ycu yac))
  (zab (yao (i:=5) zaz.nd (ycu (zaa (ycd (zaa (yaa 1) (zaa yae yac))) yac)))
  (zab (zdS ycG (yaw (o_ne rfl hu) (yaa 5) (yd7 yac) (yau _)) (zab (yao (i:=6) zaz.nd (yhP rfl PySem.F.plainAttrs_list PySem.F.slot_list_pop PySem.F.type_list_pop (yhQ) zax (yaa 5)))
  (zab (yao (i:=7) zaz.nd (r_ix rfl hu (yaa 6) yae))
  (zab (yao (i:=8) zaz.nd (r_ix rfl hu (yaa 6) yae))
  (zab (r_if (rt_w (yeI (yaw o_ge (yaa 8) (yaa 3) (yau _)) (yes (yaw o_le (yai (yaG rfl) (yaa 8) (yak rfl (C.nox) (zah Z) (hr.mono (show 5<=5 by decide)) (yaa 0) (zaa (yaa 7) yac))) (yaa 2) (yau _))))) (yag zgv) yax)
  (zab (yao (i:=9) zaz.nd (yak rfl (C.nox) (zai Z) (hr.mono (show 4<=5 by decide)) (yaa 0) (zaa (yaa 7) yac)))
  (yag (r_if (yaw (o_eq rfl hu) (r_ix rfl hu (yaa 9) yae) yaR (yau _)) (yag (yaJ (r_bm rfl PySem.F.plainAttrs_list PySem.F.slot_list_append PySem.F.type_list_append (zat) zax (yaa 4) (zaa (za9 rfl (r_ix rfl hu (yaa 9) yae) (zaR (r_bi (yeT) rfl Z.b_max PyProof.Rows.boot_max (zaa (yai ybd (yaa 2) (yaa 8)) (zaa yae yac)))) (zaR (yai ybd (yaa 3) (yaa 8)))) yac)))) (zab (yaJ (r_bm rfl PySem.F.plainAttrs_list PySem.F.slot_list_append PySem.F.type_list_append (zat) zax (yaa 5) (zaa (ycd (zaa (r_ix rfl hu (yaa 9) yae) (zaa (yai (yaG rfl) (yaa 8) (yak rfl (C.nox) (zah Z) (hr.mono (show 5<=5 by decide)) (yaa 0) (zaa (r_ix rfl hu (yaa 9) yae) yac))) yac))) yac)))
  (yag (yaJ (r_bm rfl PySem.F.plainAttrs_list PySem.F.slot_list_append PySem.F.type_list_append (zat) zax (yaa 5) (zaa (ycd (zaa (r_ix rfl hu (yaa 9) yae) (zaa (yaa 8) yac))) yac)))))))))))))
  (yag (yar (r_bm rfl PySem.F.plainAttrs_str PySem.F.slot_str_join PySem.F.type_str_join (yfB rfl) za8 yaR (zaa (yaa 4) yac)))))))
theorem zeC:FnScope ["shelf", "text", "begin", "end"] ["shelf", "text", "begin", "end"] (yad yco):=⟨rfl,rfl,rfl,by decide +kernel,rfl,by decide +kernel,by decide +kernel⟩
theorem zfc {P:Program} {w:World} {K:PySem.W.Frag} {cls exc:Nat->Option Addr} {mg:Str->Option Value} {base:Heap} (Z:Facts P w K cls exc mg base):GF P w (mkT K cls exc) mg base 7 "stretch_of" ycj:=by
 obtain ⟨f,fd,h1,h2,h3,h4⟩:=Z.d_stretch_of
 refine ⟨f,fd,_,h1,h2,h3,okA h4 rfl zeC fun cdv A outer s H E hr C=>?_⟩
 have hu:=hu64 hr
 exact (zab (yaJ (yaj rfl C (zdL Z) (hr.mono (show 6<=6 by decide)) rfl (zaa (yaa 0) (zaa (yaa 1) (zaa (yaa 2) (zaa (yaa 3) yac))))))
  (zab (r_if (yaw o_gt (yai ybd (yaa 3) (yaa 2)) (r_gI rfl Z.c_MOST_PLAIN) (yau _)) (yag (zaK Z.x_TooLong zaJ rfl (zaa yaR yac))) yax)
  (yag (yar (yaj rfl C (zdM Z) (hr.mono (show 6<=6 by decide)) rfl (zaa (yaa 0) (zaa (yaa 1) (zaa (yaa 2) (zaa (yaa 3) yac)))))))))
theorem zgI:FnScope ["shelf", "text", "row"] ["shelf", "text", "row"] (yad ydd):=⟨rfl,rfl,rfl,by decide +kernel,rfl,by decide +kernel,by decide +kernel⟩
theorem zhC {P:Program} {w:World} {K:PySem.W.Frag} {cls exc:Nat->Option Addr} {mg:Str->Option Value} {base:Heap} (Z:Facts P w K cls exc mg base):GF P w (mkT K cls exc) mg base 7 "row_end" ydH:=by
 obtain ⟨f,fd,h1,h2,h3,h4⟩:=Z.d_row_end
 refine ⟨f,fd,_,h1,h2,h3,okA h4 rfl zgI fun cdv A outer s H E hr C=>?_⟩
 have hu:=hu64 hr
 exact (zab (r_if (yaw (o_eq rfl hu) (yaa 2) (yak rfl C (zbc Z) (hr.mono (show 5<=6 by decide)) (yaa 0) (zaa (yaa 1) yac)) (yau _)) (yag (yar (yak rfl C (zah Z) (hr.mono (show 5<=6 by decide)) (yaa 0) (zaa (yaa 1) yac)))) yax)
  (yag (yar (yai ybd (yaj rfl C (za6 Z) (hr.mono (show 6<=6 by decide)) rfl (zaa (yaa 0) (zaa (yaa 1) (zaa (yai (yaG rfl) (yaa 2) yae) yac)))) yae))))
theorem zfw:FnScope ["shelf", "text", "row"] ["shelf", "text", "row"] (yad yc1):=⟨rfl,rfl,rfl,by decide +kernel,rfl,by decide +kernel,by decide +kernel⟩
theorem zgJ {P:Program} {w:World} {K:PySem.W.Frag} {cls exc:Nat->Option Addr} {mg:Str->Option Value} {base:Heap} (Z:Facts P w K cls exc mg base):GF P w (mkT K cls exc) mg base 8 "row_text" ydk:=by
 obtain ⟨f,fd,h1,h2,h3,h4⟩:=Z.d_row_text
 refine ⟨f,fd,_,h1,h2,h3,okA h4 rfl zfw fun cdv A outer s H E hr C=>?_⟩
 have hu:=hu64 hr
 exact (zab (yaJ (yaj rfl C (zc7 Z) (hr.mono (show 7<=7 by decide)) rfl (zaa (yaa 0) (zaa (yaa 1) (zaa (yaa 2) yac)))))
  (yag (yar (yaj rfl C (zfc Z) (hr.mono (show 7<=7 by decide)) rfl (zaa (yaa 0) (zaa (yaa 1) (zaa (yaj rfl C (za6 Z) (hr.mono (show 6<=7 by decide)) rfl (zaa (yaa 0) (zaa (yaa 1) (zaa (yaa 2) yac)))) (zaa (yaj rfl C (zhC Z) (hr.mono (show 7<=7 by decide)) rfl (zaa (yaa 0) (zaa (yaa 1) (zaa (yaa 2) yac)))) yac))))))))
theorem zaA:FnScope ["shelf", "text", "plain", "times", "row", "ends", "begin", "end", "wide", "first"] ["shelf", "text", "plain", "times", "row"] (yad ybK):=⟨rfl,rfl,rfl,by decide +kernel,rfl,by decide +kernel,by decide +kernel⟩
theorem zdN {P:Program} {w:World} {K:PySem.W.Frag} {cls exc:Nat->Option Addr} {mg:Str->Option Value} {base:Heap} (Z:Facts P w K cls exc mg base):GF P w (mkT K cls exc) mg base 10 "_law_row_right" ycb:=by
 obtain ⟨f,fd,h1,h2,h3,h4⟩:=Z.d_law_row_right
 refine ⟨f,fd,_,h1,h2,h3,okA h4 rfl zaA fun cdv A outer s H E hr C=>?_⟩
 have hu:=hu64 hr
 exact (zab (yao (i:=5) zaA.nd (yai ybA (r_bm rfl PySem.F.plainAttrs_str PySem.F.slot_str_count PySem.F.type_str_count (zbD) za8 (yaa 2) (zaa yaR yac)) (yaa 3)))
  (zab (yao (i:=6) zaA.nd (yaj rfl C (za5 Z) (hr.mono (show 1<=9 by decide)) rfl (zaa (yaa 2) (zaa (yaa 3) (zaa (yaa 4) yac)))))
  (zab (yao (i:=7) zaA.nd (yai ybA (r_bi (b_len rfl) rfl Z.b_len PySem.boot_len (zaa (yaa 2) yac)) (yaa 3)))
  (zab (r_if (yaw o_lt (yaa 4) (yaa 5) (yau _)) (yag (yao (i:=7) zaA.nd (yai ybd (yaj rfl C (za5 Z) (hr.mono (show 1<=9 by decide)) rfl (zaa (yaa 2) (zaa (yaa 3) (zaa (yai (yaG rfl) (yaa 4) yae) yac)))) yae))) yax)
  (zab (yao (i:=8) zaA.nd (yai (yaG rfl) (yai (yaG rfl) (yaa 2) (yaa 2)) (yaa 2)))
  (zab (yao (i:=9) zaA.nd (yai ydf (yaa 6) (r_bi (b_len rfl) rfl Z.b_len PySem.boot_len (zaa (yaa 2) yac))))
  (zab (r_if (rt_w (yeI (yaw (o_ne rfl hu) (yaj rfl C (zc8 Z) (hr.mono (show 8<=9 by decide)) rfl (zaa (yaa 0) (zaa (yaa 1) (zaa (yaa 4) yac)))) (yaa 6) (yau _)) (yes (yaw (o_ne rfl hu) (yaj rfl C (zgJ Z) (hr.mono (show 8<=9 by decide)) rfl (zaa (yaa 0) (zaa (yaa 1) (zaa (yaa 4) yac)))) (za9 rfl (yaa 8) (zaR (yaa 9)) (zaR (yai ybd (yai (yaG rfl) (yaa 9) (yaa 7)) (yaa 6)))) (yau _))))) (yag (yar r_bl)) yax)
  (yag (yar (yeJ (yeh (o_eq rfl hu) (yaj rfl C (zcj Z) (hr.mono (show 9<=9 by decide)) rfl (zaa (yaa 0) (zaa (yaa 1) (zaa (yaa 6) yac)))) (ycd (zaa (yaa 4) (zaa yae yac))) (yau _)) (yet (yeh (o_eq rfl hu) (yaj rfl C (zcj Z) (hr.mono (show 9<=9 by decide)) rfl (zaa (yaa 0) (zaa (yaa 1) (zaa (yaa 7) yac)))) (ycd (zaa (yaa 4) (zaa (yai ybd (yaa 7) (yaa 6)) yac))) (yau _)))))))))))))
theorem zaI:FnScope ["shelf", "text", "plain", "place", "times", "ahead", "row", "begin"] ["shelf", "text", "plain", "place"] (yad ybs):=⟨rfl,rfl,rfl,by decide +kernel,rfl,by decide +kernel,by decide +kernel⟩
theorem zcU {P:Program} {w:World} {K:PySem.W.Frag} {cls exc:Nat->Option Addr} {mg:Str->Option Value} {base:Heap} (Z:Facts P w K cls exc mg base):GF P w (mkT K cls exc) mg base 10 "_law_place_right" ycg:=by
 obtain ⟨f,fd,h1,h2,h3,h4⟩:=Z.d_law_place_right
 refine ⟨f,fd,_,h1,h2,h3,okA h4 rfl zaI fun cdv A outer s H E hr C=>?_⟩
 have hu:=hu64 hr
 exact (zab (yao (i:=4) zaI.nd (yai yeg (yaa 3) (r_bi (b_len rfl) rfl Z.b_len PySem.boot_len (zaa (yaa 2) yac))))
  (zab (yao (i:=5) zaI.nd (za9 rfl (yaa 2) zb0 (zaR (yai ydf (yaa 3) (r_bi (b_len rfl) rfl Z.b_len PySem.boot_len (zaa (yaa 2) yac))))))
  (zab (yao (i:=6) zaI.nd (yai (yaG rfl) (yai ybA (yaa 4) (r_bm rfl PySem.F.plainAttrs_str PySem.F.slot_str_count PySem.F.type_str_count (zbD) za8 (yaa 2) (zaa yaR yac))) (r_bm rfl PySem.F.plainAttrs_str PySem.F.slot_str_count PySem.F.type_str_count (zbD) za8 (yaa 5) (zaa yaR yac))))
  (zab (yao (i:=7) zaI.nd (yaj rfl C (za5 Z) (hr.mono (show 1<=9 by decide)) rfl (zaa (yaa 2) (zaa yae (zaa (yaa 6) yac)))))
  (yag (yar (yeh (o_eq rfl hu) (yaj rfl C (zcj Z) (hr.mono (show 9<=9 by decide)) rfl (zaa (yaa 0) (zaa (yaa 1) (zaa (yaa 3) yac)))) (ycd (zaa (yaa 6) (zaa (yai ybd (yaa 3) (yaa 7)) yac))) (yau _))))))))
theorem sc_law:FnScope ["script", "shelf", "k", "row", "text", "plain", "times", "ends", "draw", "number", "turn"] ["script"] (yad ydV):=⟨rfl,rfl,rfl,by decide +kernel,rfl,by decide +kernel,by decide +kernel⟩
theorem yh1 {P:Program} {w:World} {K:PySem.W.Frag} {cls exc:Nat->Option Addr} {mg:Str->Option Value} {base:Heap} (Z:Facts P w K cls exc mg base) {f:Addr} {fd:FuncData} (h4:Fun K "law" "law" ydV f fd):FnOk P w K mg base (CXE P w) 167 f fd ["script"] (spA (mkT K cls exc) ye9):=by
 refine okA h4 rfl sc_law fun cdv A outer s H E hr C=>?_
 have hu:=hu64 hr
 exact (zab (yao (i:=1) sc_law.nd (zi6 rfl C (ze7 Z) (hr.mono (show 2<=166 by decide)) rfl))
  (zab (ydz rfl (zaM (E:=EN) rfl Z.b_range yae) (zaY (i:=2) sc_law.nd) (zab (yao (i:=3) sc_law.nd (yaj rfl (C.nox) (zbJ Z) (hr.mono (show 2<=166 by decide)) rfl (zaa (yaa 0) (zaa (yaa 2) yac))))
  (zab (yfv (yaj rfl (C.nox) (zdK Z) (hr.mono (show 17<=166 by decide)) rfl (zaa (yaa 1) (zaa (yaa 3) yac))) (yfu rfl rfl (zbf (i:=4) sc_law.nd (zbf (i:=5) sc_law.nd (zbf (i:=6) sc_law.nd zfN)))))
  (zab (yao (i:=7) sc_law.nd (yai ybA (r_bm rfl PySem.F.plainAttrs_str PySem.F.slot_str_count PySem.F.type_str_count (zbD) za8 (yaa 5) (zaa yaR yac)) (yaa 6)))
  (zab (r_if (rt_w (yeI (yaw (o_ne rfl hu) (yaj rfl (C.nox) (zcE Z) (hr.mono (show 6<=166 by decide)) rfl (zaa (yaa 1) (zaa (yaa 4) yac))) (yai (yaG rfl) (yaa 7) yae) (yau _)) (yes (yaw (o_ne rfl hu) (yak rfl (C.nox) (zah Z) (hr.mono (show 5<=166 by decide)) (yaa 1) (zaa (yaa 4) yac)) (yai ybA (r_bi (b_len rfl) rfl Z.b_len PySem.boot_len (zaa (yaa 5) yac)) (yaa 6)) (yau _))))) (yag (yar r_bl)) yax)
  (yag (r_if (yaw o_gt (yaa 7) yae (yau _)) (zab (yao (i:=8) sc_law.nd (yaj rfl (C.nox) (zbJ Z) (hr.mono (show 2<=166 by decide)) rfl (zaa (yaa 0) (zaa (yai (yaG rfl) (yaa 2) yae) yac))))
  (zab (ydz rfl (yd1 (E:=EN) rfl (yai (yaG rfl) (yd7 (zaa yae (zaa yae (zaa (yaa 7) (zaa (yai ybd (yaa 7) yae) yac))))) (yeb (jf:=[(8, "draw"),(7, "ends")]) (zaU (N:=["script", "shelf", "k", "row", "text", "plain", "times", "ends", "draw", "number", "turn"]) (sc:=yad ydV) rfl (fun _=>rfl) (by decide +kernel)) rfl (zaM (E:=EN) rfl Z.b_range yae) (fun _ _ _ _ _=>zbg) (fun _ _ _ _ _=>(yaj rfl (CA.never rfl) (zav Z) (hr.mono (show 1<=166 by decide)) rfl (zaa (yaa 1) (zaa (yai (yaG rfl) (yaa 2) yae) yac))))))) (zaY (i:=9) sc_law.nd) (yag (r_if (ydh (za7 rfl (yaj rfl ((C.nox).nox) (zdN Z) (hr.mono (show 10<=166 by decide)) rfl (zaa (yaa 1) (zaa (yaa 4) (zaa (yaa 5) (zaa (yaa 6) (zaa (yaa 9) yac)))))))) (yag (yar r_bl)) yax)))
  (yag (ydz rfl (zaM (E:=EN) rfl Z.b_range yae) (zaY (i:=10) sc_law.nd) (yag (r_if (ydh (za7 rfl (yaj rfl ((C.nox).nox) (zcU Z) (hr.mono (show 10<=166 by decide)) rfl (zaa (yaa 1) (zaa (yaa 4) (zaa (yaa 5) (zaa (yaj rfl ((C.nox).nox) (zav Z) (hr.mono (show 1<=166 by decide)) rfl (zaa (yaa 8) (zaa (yai (yaG rfl) (yai ybA (r_bi (b_len rfl) rfl Z.b_len PySem.boot_len (zaa (yaa 5) yac)) (yaa 6)) yae) yac))) yac))))))) (yag (yar r_bl)) yax)))))) yax)))))))
  (yag (yar (yaj rfl C (zcT Z) (hr.mono (show 166<=166 by decide)) rfl (zaa (yaa 1) (zaa (yaj rfl C (zbJ Z) (hr.mono (show 2<=166 by decide)) rfl (zaa (yaa 0) (zaa yae yac))) yac)))))))
end Sk
namespace Sk
open PySem PySem.Spec L2 Sm
theorem all_mk {l:PySem.W.OpenLaw} {w:World} {K:PySem.W.Frag} {h:Heap} {mg:Str->Option Value} {fa f0 f1 f2 f3 f4 f5 f6 f7 f8 f9 f10 f11 f12 f13 f14 f15 f16 f17 f18 f19 f20 f21 f22 f23 f24 f25 f26 f27 f28 f29 f30 f31 f32 f33 f34 f35 f36 f37 f38 f39 f40 f41 f42 f43 f44 f45 f46 f47 f48 f49 f50 f51 f52 f53 f54 f55 f56 f57 f58 f59 C0 X0 X1 X2 X3 X4 X5 X6:Addr} {tk_LEAF_SIGNS tk_MOST_PLAIN tk_MOST_SIGNS:Tok} (X:K.In h) (G:h.Ns mainGlobals mg) (hfa:mg "law" = some (.ref fa))
  {od0 an0 od1 an1 od2 an2 od3 an3 od4 an4 od5 an5 od6 an6 od7 an7 od8 an8 od9 an9 od10 an10 od11 an11 od12 an12 od13 an13 od14 an14 od15 an15 od16 an16 od17 an17 od18 an18 od19 an19 od20 an20 od21 an21 od22 an22 od23 an23 od24 an24 od25 an25 od26 an26 od27 an27 od28 an28 od29 an29 od30 an30 od31 an31 od32 an32 od33 an33 od34 an34 od35 an35 od36 an36 od37 an37 od38 an38 od39 an39 od40 an40 od41 an41 od42 an42 od43 an43 od44 an44 od45 an45 od46 an46 od47 an47 od48 an48 od49 an49 od50 an50 od51 an51 od52 an52 od53 an53 od54 an54 od55 an55 od56 an56 od57 an57 od58 an58 od59 an59:Option Addr} {sl0 sl1 sl2 sl3 sl4 sl5 sl6 sl7 sl8 sl9 sl10 sl11 sl12 sl13 sl14 sl15 sl16 sl17 sl18 sl19 sl20 sl21 sl22 sl23 sl24 sl25 sl26 sl27 sl28 sl29 sl30 sl31 sl32 sl33 sl34 sl35 sl36 sl37 sl38 sl39 sl40 sl41 sl42 sl43 sl44 sl45 sl46 sl47 sl48 sl49 sl50 sl51 sl52 sl53 sl54 sl55 sl56 sl57 sl58 sl59:Array (Option Value)} {oc0 kV0 dc0 pm0 cd0 ct0 oc1 kV1 dc1 pm1 cd1 ct1 oc2 kV2 dc2 pm2 cd2 ct2 oc3 kV3 dc3 pm3 cd3 ct3 oc4 kV4 dc4 pm4 cd4 ct4 oc5 kV5 dc5 pm5 cd5 ct5 oc6 kV6 dc6 pm6 cd6 ct6 oc7 kV7 dc7 pm7 cd7 ct7 oc8 kV8 dc8 pm8 cd8 ct8 oc9 kV9 dc9 pm9 cd9 ct9 oc10 kV10 dc10 pm10 cd10 ct10 oc11 kV11 dc11 pm11 cd11 ct11 oc12 kV12 dc12 pm12 cd12 ct12 oc13 kV13 dc13 pm13 cd13 ct13 oc14 kV14 dc14 pm14 cd14 ct14 oc15 kV15 dc15 pm15 cd15 ct15 oc16 kV16 dc16 pm16 cd16 ct16 oc17 kV17 dc17 pm17 cd17 ct17 oc18 kV18 dc18 pm18 cd18 ct18 oc19 kV19 dc19 pm19 cd19 ct19 oc20 kV20 dc20 pm20 cd20 ct20 oc21 kV21 dc21 pm21 cd21 ct21 oc22 kV22 dc22 pm22 cd22 ct22 oc23 kV23 dc23 pm23 cd23 ct23 oc24 kV24 dc24 pm24 cd24 ct24 oc25 kV25 dc25 pm25 cd25 ct25 oc26 kV26 dc26 pm26 cd26 ct26 oc27 kV27 dc27 pm27 cd27 ct27 oc28 kV28 dc28 pm28 cd28 ct28 oc29 kV29 dc29 pm29 cd29 ct29 oc30 kV30 dc30 pm30 cd30 ct30 oc31 kV31 dc31 pm31 cd31 ct31 oc32 kV32 dc32 pm32 cd32 ct32 oc33 kV33 dc33 pm33 cd33 ct33 oc34 kV34 dc34 pm34 cd34 ct34 oc35 kV35 dc35 pm35 cd35 ct35 oc36 kV36 dc36 pm36 cd36 ct36 oc37 kV37 dc37 pm37 cd37 ct37 oc38 kV38 dc38 pm38 cd38 ct38 oc39 kV39 dc39 pm39 cd39 ct39 oc40 kV40 dc40 pm40 cd40 ct40 oc41 kV41 dc41 pm41 cd41 ct41 oc42 kV42 dc42 pm42 cd42 ct42 oc43 kV43 dc43 pm43 cd43 ct43 oc44 kV44 dc44 pm44 cd44 ct44 oc45 kV45 dc45 pm45 cd45 ct45 oc46 kV46 dc46 pm46 cd46 ct46 oc47 kV47 dc47 pm47 cd47 ct47 oc48 kV48 dc48 pm48 cd48 ct48 oc49 kV49 dc49 pm49 cd49 ct49 oc50 kV50 dc50 pm50 cd50 ct50 oc51 kV51 dc51 pm51 cd51 ct51 oc52 kV52 dc52 pm52 cd52 ct52 oc53 kV53 dc53 pm53 cd53 ct53 oc54 kV54 dc54 pm54 cd54 ct54 oc55 kV55 dc55 pm55 cd55 ct55 oc56 kV56 dc56 pm56 cd56 ct56 oc57 kV57 dc57 pm57 cd57 ct57 oc58 kV58 dc58 pm58 cd58 ct58 oc59 kV59 dc59 pm59 cd59 ct59:Value}
  (aC0:PySem.W.nsIn K mainGlobals "Shelf" = some (some (.ref C0)))
  (a0:PySem.W.findIn K (.ref C0) "__init__" = some (some (.ref f0)))
  (i0:PySem.W.isFn K (.ref f0)=true)
  (l0:K.lookup f0=some ⟨oc0,od0,.func (PySem.W.fnOf "__init__" "Shelf.__init__" (yap yck) (yan yck) (yad yck) .none kV0 dc0 pm0 an0 cd0 ct0),sl0⟩)
  (c0:PySem.W.codeIn K cd0 "Shelf.__init__" = true)
  (k0:PySem.W.keepIn K (.ref f0)=true)
  (a2:PySem.W.findIn K (.ref C0) "has_piece" = some (some (.ref f2)))
  (i2:PySem.W.isFn K (.ref f2)=true)
  (l2:K.lookup f2=some ⟨oc2,od2,.func (PySem.W.fnOf "has_piece" "Shelf.has_piece" (yap ybq) (yan ybq) (yad ybq) .none kV2 dc2 pm2 an2 cd2 ct2),sl2⟩)
  (c2:PySem.W.codeIn K cd2 "Shelf.has_piece" = true)
  (k2:PySem.W.keepIn K (.ref f2)=true)
  (a3:PySem.W.findIn K (.ref C0) "check_piece" = some (some (.ref f3)))
  (i3:PySem.W.isFn K (.ref f3)=true)
  (l3:K.lookup f3=some ⟨oc3,od3,.func (PySem.W.fnOf "check_piece" "Shelf.check_piece" (yap ybg) (yan ybg) (yad ybg) .none kV3 dc3 pm3 an3 cd3 ct3),sl3⟩)
  (c3:PySem.W.codeIn K cd3 "Shelf.check_piece" = true)
  (k3:PySem.W.keepIn K (.ref f3)=true)
  (a4:PySem.W.findIn K (.ref C0) "check_text" = some (some (.ref f4)))
  (i4:PySem.W.isFn K (.ref f4)=true)
  (l4:K.lookup f4=some ⟨oc4,od4,.func (PySem.W.fnOf "check_text" "Shelf.check_text" (yap ybl) (yan ybl) (yad ybl) .none kV4 dc4 pm4 an4 cd4 ct4),sl4⟩)
  (c4:PySem.W.codeIn K cd4 "Shelf.check_text" = true)
  (k4:PySem.W.keepIn K (.ref f4)=true)
  (a5:PySem.W.findIn K (.ref C0) "signs" = some (some (.ref f5)))
  (i5:PySem.W.isFn K (.ref f5)=true)
  (l5:K.lookup f5=some ⟨oc5,od5,.func (PySem.W.fnOf "signs" "Shelf.signs" (yap yb2) (yan yb2) (yad yb2) .none kV5 dc5 pm5 an5 cd5 ct5),sl5⟩)
  (c5:PySem.W.codeIn K cd5 "Shelf.signs" = true)
  (k5:PySem.W.keepIn K (.ref f5)=true)
  (a7:PySem.W.findIn K (.ref C0) "last_leaf" = some (some (.ref f7)))
  (i7:PySem.W.isFn K (.ref f7)=true)
  (l7:K.lookup f7=some ⟨oc7,od7,.func (PySem.W.fnOf "last_leaf" "Shelf.last_leaf" (yap ybr) (yan ybr) (yad ybr) .none kV7 dc7 pm7 an7 cd7 ct7),sl7⟩)
  (c7:PySem.W.codeIn K cd7 "Shelf.last_leaf" = true)
  (k7:PySem.W.keepIn K (.ref f7)=true)
  (a8:PySem.W.findIn K (.ref C0) "first_leaf" = some (some (.ref f8)))
  (i8:PySem.W.isFn K (.ref f8)=true)
  (l8:K.lookup f8=some ⟨oc8,od8,.func (PySem.W.fnOf "first_leaf" "Shelf.first_leaf" (yap ybm) (yan ybm) (yad ybm) .none kV8 dc8 pm8 an8 cd8 ct8),sl8⟩)
  (c8:PySem.W.codeIn K cd8 "Shelf.first_leaf" = true)
  (k8:PySem.W.keepIn K (.ref f8)=true)
  (a10:PySem.W.findIn K (.ref C0) "piece" = some (some (.ref f10)))
  (i10:PySem.W.isFn K (.ref f10)=true)
  (l10:K.lookup f10=some ⟨oc10,od10,.func (PySem.W.fnOf "piece" "Shelf.piece" (yap yb3) (yan yb3) (yad yb3) .none kV10 dc10 pm10 an10 cd10 ct10),sl10⟩)
  (c10:PySem.W.codeIn K cd10 "Shelf.piece" = true)
  (k10:PySem.W.keepIn K (.ref f10)=true)
  (a11:PySem.W.findIn K (.ref C0) "check_fork" = some (some (.ref f11)))
  (i11:PySem.W.isFn K (.ref f11)=true)
  (l11:K.lookup f11=some ⟨oc11,od11,.func (PySem.W.fnOf "check_fork" "Shelf.check_fork" (yap ybn) (yan ybn) (yad ybn) .none kV11 dc11 pm11 an11 cd11 ct11),sl11⟩)
  (c11:PySem.W.codeIn K cd11 "Shelf.check_fork" = true)
  (k11:PySem.W.keepIn K (.ref f11)=true)
  (a12:PySem.W.findIn K (.ref C0) "lay" = some (some (.ref f12)))
  (i12:PySem.W.isFn K (.ref f12)=true)
  (l12:K.lookup f12=some ⟨oc12,od12,.func (PySem.W.fnOf "lay" "Shelf.lay" (yap ycx) (yan ycx) (yad ycx) .none kV12 dc12 pm12 an12 cd12 ct12),sl12⟩)
  (c12:PySem.W.codeIn K cd12 "Shelf.lay" = true)
  (k12:PySem.W.keepIn K (.ref f12)=true)
  (a13:PySem.W.findIn K (.ref C0) "lay_fork" = some (some (.ref f13)))
  (i13:PySem.W.isFn K (.ref f13)=true)
  (l13:K.lookup f13=some ⟨oc13,od13,.func (PySem.W.fnOf "lay_fork" "Shelf.lay_fork" (yap ybx) (yan ybx) (yad ybx) .none kV13 dc13 pm13 an13 cd13 ct13),sl13⟩)
  (c13:PySem.W.codeIn K cd13 "Shelf.lay_fork" = true)
  (k13:PySem.W.keepIn K (.ref f13)=true)
  (a14:PySem.W.findIn K (.ref C0) "fork" = some (some (.ref f14)))
  (i14:PySem.W.isFn K (.ref f14)=true)
  (l14:K.lookup f14=some ⟨oc14,od14,.func (PySem.W.fnOf "fork" "Shelf.fork" (yap ycl) (yan ycl) (yad ycl) .none kV14 dc14 pm14 an14 cd14 ct14),sl14⟩)
  (c14:PySem.W.codeIn K cd14 "Shelf.fork" = true)
  (k14:PySem.W.keepIn K (.ref f14)=true)
  (a16:PySem.W.findIn K (.ref C0) "height" = some (some (.ref f16)))
  (i16:PySem.W.isFn K (.ref f16)=true)
  (l16:K.lookup f16=some ⟨oc16,od16,.func (PySem.W.fnOf "height" "Shelf.height" (yap ybR) (yan ybR) (yad ybR) .none kV16 dc16 pm16 an16 cd16 ct16),sl16⟩)
  (c16:PySem.W.codeIn K cd16 "Shelf.height" = true)
  (k16:PySem.W.keepIn K (.ref f16)=true)
  (a25:PySem.W.findIn K (.ref C0) "lay_leaf" = some (some (.ref f25)))
  (i25:PySem.W.isFn K (.ref f25)=true)
  (l25:K.lookup f25=some ⟨oc25,od25,.func (PySem.W.fnOf "lay_leaf" "Shelf.lay_leaf" (yap yby) (yan yby) (yad yby) .none kV25 dc25 pm25 an25 cd25 ct25),sl25⟩)
  (c25:PySem.W.codeIn K cd25 "Shelf.lay_leaf" = true)
  (k25:PySem.W.keepIn K (.ref f25)=true)
  (a26:PySem.W.findIn K (.ref C0) "leaf" = some (some (.ref f26)))
  (i26:PySem.W.isFn K (.ref f26)=true)
  (l26:K.lookup f26=some ⟨oc26,od26,.func (PySem.W.fnOf "leaf" "Shelf.leaf" (yap ycm) (yan ycm) (yad ycm) .none kV26 dc26 pm26 an26 cd26 ct26),sl26⟩)
  (c26:PySem.W.codeIn K cd26 "Shelf.leaf" = true)
  (k26:PySem.W.keepIn K (.ref f26)=true)
  (a34:PySem.W.findIn K (.ref C0) "ends" = some (some (.ref f34)))
  (i34:PySem.W.isFn K (.ref f34)=true)
  (l34:K.lookup f34=some ⟨oc34,od34,.func (PySem.W.fnOf "ends" "Shelf.ends" (yap ycn) (yan ycn) (yad ycn) .none kV34 dc34 pm34 an34 cd34 ct34),sl34⟩)
  (c34:PySem.W.codeIn K cd34 "Shelf.ends" = true)
  (k34:PySem.W.keepIn K (.ref f34)=true)
  (a1:PySem.W.nsIn K mainGlobals "is_whole" = some (some (.ref f1)))
  (l1:K.lookup f1=some ⟨oc1,od1,.func (PySem.W.fnOf "is_whole" "is_whole" (yap ycX) (yan ycX) (yad ycX) .none kV1 dc1 pm1 an1 cd1 ct1),sl1⟩)
  (c1:PySem.W.codeIn K cd1 "is_whole" = true)
  (k1:PySem.W.keepIn K (.ref f1)=true)
  (a6:PySem.W.nsIn K mainGlobals "check_length" = some (some (.ref f6)))
  (l6:K.lookup f6=some ⟨oc6,od6,.func (PySem.W.fnOf "check_length" "check_length" (yap ybQ) (yan ybQ) (yad ybQ) .none kV6 dc6 pm6 an6 cd6 ct6),sl6⟩)
  (c6:PySem.W.codeIn K cd6 "check_length" = true)
  (k6:PySem.W.keepIn K (.ref f6)=true)
  (a9:PySem.W.nsIn K mainGlobals "are_close" = some (some (.ref f9)))
  (l9:K.lookup f9=some ⟨oc9,od9,.func (PySem.W.fnOf "are_close" "are_close" (yap ycw) (yan ycw) (yad ycw) .none kV9 dc9 pm9 an9 cd9 ct9),sl9⟩)
  (c9:PySem.W.codeIn K cd9 "are_close" = true)
  (k9:PySem.W.keepIn K (.ref f9)=true)
  (a15:PySem.W.nsIn K mainGlobals "with_last" = some (some (.ref f15)))
  (l15:K.lookup f15=some ⟨oc15,od15,.func (PySem.W.fnOf "with_last" "with_last" (yap ycy) (yan ycy) (yad ycy) .none kV15 dc15 pm15 an15 cd15 ct15),sl15⟩)
  (c15:PySem.W.codeIn K cd15 "with_last" = true)
  (k15:PySem.W.keepIn K (.ref f15)=true)
  (a17:PySem.W.nsIn K mainGlobals "turned_left" = some (some (.ref f17)))
  (l17:K.lookup f17=some ⟨oc17,od17,.func (PySem.W.fnOf "turned_left" "turned_left" (yap yb4) (yan yb4) (yad yb4) .none kV17 dc17 pm17 an17 cd17 ct17),sl17⟩)
  (c17:PySem.W.codeIn K cd17 "turned_left" = true)
  (k17:PySem.W.keepIn K (.ref f17)=true)
  (a18:PySem.W.nsIn K mainGlobals "without_first" = some (some (.ref f18)))
  (l18:K.lookup f18=some ⟨oc18,od18,.func (PySem.W.fnOf "without_first" "without_first" (yap ybF) (yan ybF) (yad ybF) .none kV18 dc18 pm18 an18 cd18 ct18),sl18⟩)
  (c18:PySem.W.codeIn K cd18 "without_first" = true)
  (k18:PySem.W.keepIn K (.ref f18)=true)
  (a19:PySem.W.nsIn K mainGlobals "turned_right" = some (some (.ref f19)))
  (l19:K.lookup f19=some ⟨oc19,od19,.func (PySem.W.fnOf "turned_right" "turned_right" (yap ybS) (yan ybS) (yad ybS) .none kV19 dc19 pm19 an19 cd19 ct19),sl19⟩)
  (c19:PySem.W.codeIn K cd19 "turned_right" = true)
  (k19:PySem.W.keepIn K (.ref f19)=true)
  (a20:PySem.W.nsIn K mainGlobals "linked" = some (some (.ref f20)))
  (l20:K.lookup f20=some ⟨oc20,od20,.func (PySem.W.fnOf "linked" "linked" (yap yds) (yan yds) (yad yds) .none kV20 dc20 pm20 an20 cd20 ct20),sl20⟩)
  (c20:PySem.W.codeIn K cd20 "linked" = true)
  (k20:PySem.W.keepIn K (.ref f20)=true)
  (a21:PySem.W.nsIn K mainGlobals "is_plain_sign" = some (some (.ref f21)))
  (l21:K.lookup f21=some ⟨oc21,od21,.func (PySem.W.fnOf "is_plain_sign" "is_plain_sign" (yap ybG) (yan ybG) (yad ybG) .none kV21 dc21 pm21 an21 cd21 ct21),sl21⟩)
  (c21:PySem.W.codeIn K cd21 "is_plain_sign" = true)
  (k21:PySem.W.keepIn K (.ref f21)=true)
  (a22:PySem.W.nsIn K mainGlobals "is_plain" = some (some (.ref f22)))
  (l22:K.lookup f22=some ⟨oc22,od22,.func (PySem.W.fnOf "is_plain" "is_plain" (yap ycs) (yan ycs) (yad ycs) .none kV22 dc22 pm22 an22 cd22 ct22),sl22⟩)
  (c22:PySem.W.codeIn K cd22 "is_plain" = true)
  (k22:PySem.W.keepIn K (.ref f22)=true)
  (a23:PySem.W.nsIn K mainGlobals "is_short" = some (some (.ref f23)))
  (l23:K.lookup f23=some ⟨oc23,od23,.func (PySem.W.fnOf "is_short" "is_short" (yap ycY) (yan ycY) (yad ycY) .none kV23 dc23 pm23 an23 cd23 ct23),sl23⟩)
  (c23:PySem.W.codeIn K cd23 "is_short" = true)
  (k23:PySem.W.keepIn K (.ref f23)=true)
  (a24:PySem.W.nsIn K mainGlobals "ends_in" = some (some (.ref f24)))
  (l24:K.lookup f24=some ⟨oc24,od24,.func (PySem.W.fnOf "ends_in" "ends_in" (yap yda) (yan yda) (yad yda) .none kV24 dc24 pm24 an24 cd24 ct24),sl24⟩)
  (c24:PySem.W.codeIn K cd24 "ends_in" = true)
  (k24:PySem.W.keepIn K (.ref f24)=true)
  (a27:PySem.W.nsIn K mainGlobals "welded" = some (some (.ref f27)))
  (l27:K.lookup f27=some ⟨oc27,od27,.func (PySem.W.fnOf "welded" "welded" (yap ydt) (yan ydt) (yad ydt) .none kV27 dc27 pm27 an27 cd27 ct27),sl27⟩)
  (c27:PySem.W.codeIn K cd27 "welded" = true)
  (k27:PySem.W.keepIn K (.ref f27)=true)
  (a28:PySem.W.nsIn K mainGlobals "joined" = some (some (.ref f28)))
  (l28:K.lookup f28=some ⟨oc28,od28,.func (PySem.W.fnOf "joined" "joined" (yap ydu) (yan ydu) (yad ydu) .none kV28 dc28 pm28 an28 cd28 ct28),sl28⟩)
  (c28:PySem.W.codeIn K cd28 "joined" = true)
  (k28:PySem.W.keepIn K (.ref f28)=true)
  (a29:PySem.W.nsIn K mainGlobals "doubled" = some (some (.ref f29)))
  (l29:K.lookup f29=some ⟨oc29,od29,.func (PySem.W.fnOf "doubled" "doubled" (yap ydb) (yan ydb) (yad ydb) .none kV29 dc29 pm29 an29 cd29 ct29),sl29⟩)
  (c29:PySem.W.codeIn K cd29 "doubled" = true)
  (k29:PySem.W.keepIn K (.ref f29)=true)
  (a30:PySem.W.nsIn K mainGlobals "repeated" = some (some (.ref f30)))
  (l30:K.lookup f30=some ⟨oc30,od30,.func (PySem.W.fnOf "repeated" "repeated" (yap ycZ) (yan ycZ) (yad ycZ) .none kV30 dc30 pm30 an30 cd30 ct30),sl30⟩)
  (c30:PySem.W.codeIn K cd30 "repeated" = true)
  (k30:PySem.W.keepIn K (.ref f30)=true)
  (a31:PySem.W.nsIn K mainGlobals "halved" = some (some (.ref f31)))
  (l31:K.lookup f31=some ⟨oc31,od31,.func (PySem.W.fnOf "halved" "halved" (yap ydv) (yan ydv) (yad ydv) .none kV31 dc31 pm31 an31 cd31 ct31),sl31⟩)
  (c31:PySem.W.codeIn K cd31 "halved" = true)
  (k31:PySem.W.keepIn K (.ref f31)=true)
  (a32:PySem.W.nsIn K mainGlobals "built" = some (some (.ref f32)))
  (l32:K.lookup f32=some ⟨oc32,od32,.func (PySem.W.fnOf "built" "built" (yap ydw) (yan ydw) (yad ydw) .none kV32 dc32 pm32 an32 cd32 ct32),sl32⟩)
  (c32:PySem.W.codeIn K cd32 "built" = true)
  (k32:PySem.W.keepIn K (.ref f32)=true)
  (a33:PySem.W.nsIn K mainGlobals "_law_digit" = some (some (.ref f33)))
  (l33:K.lookup f33=some ⟨oc33,od33,.func (PySem.W.fnOf "_law_digit" "_law_digit" (yap ycz) (yan ycz) (yad ycz) .none kV33 dc33 pm33 an33 cd33 ct33),sl33⟩)
  (c33:PySem.W.codeIn K cd33 "_law_digit" = true)
  (k33:PySem.W.keepIn K (.ref f33)=true)
  (a35:PySem.W.nsIn K mainGlobals "rows_in" = some (some (.ref f35)))
  (l35:K.lookup f35=some ⟨oc35,od35,.func (PySem.W.fnOf "rows_in" "rows_in" (yap ydc) (yan ydc) (yad ydc) .none kV35 dc35 pm35 an35 cd35 ct35),sl35⟩)
  (c35:PySem.W.codeIn K cd35 "rows_in" = true)
  (k35:PySem.W.keepIn K (.ref f35)=true)
  (a36:PySem.W.nsIn K mainGlobals "check_row" = some (some (.ref f36)))
  (l36:K.lookup f36=some ⟨oc36,od36,.func (PySem.W.fnOf "check_row" "check_row" (yap ycA) (yan ycA) (yad ycA) .none kV36 dc36 pm36 an36 cd36 ct36),sl36⟩)
  (c36:PySem.W.codeIn K cd36 "check_row" = true)
  (k36:PySem.W.keepIn K (.ref f36)=true)
  (a37:PySem.W.nsIn K mainGlobals "behind_in_leaf" = some (some (.ref f37)))
  (l37:K.lookup f37=some ⟨oc37,od37,.func (PySem.W.fnOf "behind_in_leaf" "behind_in_leaf" (yap ybz) (yan ybz) (yad ybz) .none kV37 dc37 pm37 an37 cd37 ct37),sl37⟩)
  (c37:PySem.W.codeIn K cd37 "behind_in_leaf" = true)
  (k37:PySem.W.keepIn K (.ref f37)=true)
  (a38:PySem.W.nsIn K mainGlobals "behind_ends" = some (some (.ref f38)))
  (l38:K.lookup f38=some ⟨oc38,od38,.func (PySem.W.fnOf "behind_ends" "behind_ends" (yap yb5) (yan yb5) (yad yb5) .none kV38 dc38 pm38 an38 cd38 ct38),sl38⟩)
  (c38:PySem.W.codeIn K cd38 "behind_ends" = true)
  (k38:PySem.W.keepIn K (.ref f38)=true)
  (a39:PySem.W.nsIn K mainGlobals "row_begin" = some (some (.ref f39)))
  (l39:K.lookup f39=some ⟨oc39,od39,.func (PySem.W.fnOf "row_begin" "row_begin" (yap ycB) (yan ycB) (yad ycB) .none kV39 dc39 pm39 an39 cd39 ct39),sl39⟩)
  (c39:PySem.W.codeIn K cd39 "row_begin" = true)
  (k39:PySem.W.keepIn K (.ref f39)=true)
  (a40:PySem.W.nsIn K mainGlobals "check_gap" = some (some (.ref f40)))
  (l40:K.lookup f40=some ⟨oc40,od40,.func (PySem.W.fnOf "check_gap" "check_gap" (yap ycC) (yan ycC) (yad ycC) .none kV40 dc40 pm40 an40 cd40 ct40),sl40⟩)
  (c40:PySem.W.codeIn K cd40 "check_gap" = true)
  (k40:PySem.W.keepIn K (.ref f40)=true)
  (a41:PySem.W.nsIn K mainGlobals "ends_passed" = some (some (.ref f41)))
  (l41:K.lookup f41=some ⟨oc41,od41,.func (PySem.W.fnOf "ends_passed" "ends_passed" (yap yb6) (yan yb6) (yad yb6) .none kV41 dc41 pm41 an41 cd41 ct41),sl41⟩)
  (c41:PySem.W.codeIn K cd41 "ends_passed" = true)
  (k41:PySem.W.keepIn K (.ref f41)=true)
  (a42:PySem.W.nsIn K mainGlobals "part_with" = some (some (.ref f42)))
  (l42:K.lookup f42=some ⟨oc42,od42,.func (PySem.W.fnOf "part_with" "part_with" (yap ycD) (yan ycD) (yad ycD) .none kV42 dc42 pm42 an42 cd42 ct42),sl42⟩)
  (c42:PySem.W.codeIn K cd42 "part_with" = true)
  (k42:PySem.W.keepIn K (.ref f42)=true)
  (a43:PySem.W.nsIn K mainGlobals "steps_to" = some (some (.ref f43)))
  (l43:K.lookup f43=some ⟨oc43,od43,.func (PySem.W.fnOf "steps_to" "steps_to" (yap yc0) (yan yc0) (yad yc0) .none kV43 dc43 pm43 an43 cd43 ct43),sl43⟩)
  (c43:PySem.W.codeIn K cd43 "steps_to" = true)
  (k43:PySem.W.keepIn K (.ref f43)=true)
  (a44:PySem.W.nsIn K mainGlobals "ends_ahead" = some (some (.ref f44)))
  (l44:K.lookup f44=some ⟨oc44,od44,.func (PySem.W.fnOf "ends_ahead" "ends_ahead" (yap ybZ) (yan ybZ) (yad ybZ) .none kV44 dc44 pm44 an44 cd44 ct44),sl44⟩)
  (c44:PySem.W.codeIn K cd44 "ends_ahead" = true)
  (k44:PySem.W.keepIn K (.ref f44)=true)
  (a45:PySem.W.nsIn K mainGlobals "row_at" = some (some (.ref f45)))
  (l45:K.lookup f45=some ⟨oc45,od45,.func (PySem.W.fnOf "row_at" "row_at" (yap ydx) (yan ydx) (yad ydx) .none kV45 dc45 pm45 an45 cd45 ct45),sl45⟩)
  (c45:PySem.W.codeIn K cd45 "row_at" = true)
  (k45:PySem.W.keepIn K (.ref f45)=true)
  (a46:PySem.W.nsIn K mainGlobals "_law_three_right" = some (some (.ref f46)))
  (l46:K.lookup f46=some ⟨oc46,od46,.func (PySem.W.fnOf "_law_three_right" "_law_three_right" (yap ybb) (yan ybb) (yad ybb) .none kV46 dc46 pm46 an46 cd46 ct46),sl46⟩)
  (c46:PySem.W.codeIn K cd46 "_law_three_right" = true)
  (k46:PySem.W.keepIn K (.ref f46)=true)
  (a47:PySem.W.nsIn K mainGlobals "_law_mixed" = some (some (.ref f47)))
  (l47:K.lookup f47=some ⟨oc47,od47,.func (PySem.W.fnOf "_law_mixed" "_law_mixed" (yap ycE) (yan ycE) (yad ycE) .none kV47 dc47 pm47 an47 cd47 ct47),sl47⟩)
  (c47:PySem.W.codeIn K cd47 "_law_mixed" = true)
  (k47:PySem.W.keepIn K (.ref f47)=true)
  (a48:PySem.W.nsIn K mainGlobals "_law_stream" = some (some (.ref f48)))
  (l48:K.lookup f48=some ⟨oc48,od48,.func (PySem.W.fnOf "_law_stream" "_law_stream" (yap yb0) (yan yb0) (yad yb0) .none kV48 dc48 pm48 an48 cd48 ct48),sl48⟩)
  (c48:PySem.W.codeIn K cd48 "_law_stream" = true)
  (k48:PySem.W.keepIn K (.ref f48)=true)
  (a49:PySem.W.nsIn K mainGlobals "_law_tree" = some (some (.ref f49)))
  (l49:K.lookup f49=some ⟨oc49,od49,.func (PySem.W.fnOf "_law_tree" "_law_tree" (yap yct) (yan yct) (yad yct) .none kV49 dc49 pm49 an49 cd49 ct49),sl49⟩)
  (c49:PySem.W.codeIn K cd49 "_law_tree" = true)
  (k49:PySem.W.keepIn K (.ref f49)=true)
  (a50:PySem.W.nsIn K mainGlobals "_law_long_rows" = some (some (.ref f50)))
  (l50:K.lookup f50=some ⟨oc50,od50,.func (PySem.W.fnOf "_law_long_rows" "_law_long_rows" (yap ybH) (yan ybH) (yad ybH) .none kV50 dc50 pm50 an50 cd50 ct50),sl50⟩)
  (c50:PySem.W.codeIn K cd50 "_law_long_rows" = true)
  (k50:PySem.W.keepIn K (.ref f50)=true)
  (a51:PySem.W.nsIn K mainGlobals "_law_row_of_long" = some (some (.ref f51)))
  (l51:K.lookup f51=some ⟨oc51,od51,.func (PySem.W.fnOf "_law_row_of_long" "_law_row_of_long" (yap ybc) (yan ybc) (yad ybc) .none kV51 dc51 pm51 an51 cd51 ct51),sl51⟩)
  (c51:PySem.W.codeIn K cd51 "_law_row_of_long" = true)
  (k51:PySem.W.keepIn K (.ref f51)=true)
  (a52:PySem.W.nsIn K mainGlobals "check_stretch" = some (some (.ref f52)))
  (l52:K.lookup f52=some ⟨oc52,od52,.func (PySem.W.fnOf "check_stretch" "check_stretch" (yap ybI) (yan ybI) (yad ybI) .none kV52 dc52 pm52 an52 cd52 ct52),sl52⟩)
  (c52:PySem.W.codeIn K cd52 "check_stretch" = true)
  (k52:PySem.W.keepIn K (.ref f52)=true)
  (a53:PySem.W.nsIn K mainGlobals "signs_between" = some (some (.ref f53)))
  (l53:K.lookup f53=some ⟨oc53,od53,.func (PySem.W.fnOf "signs_between" "signs_between" (yap ybJ) (yan ybJ) (yad ybJ) .none kV53 dc53 pm53 an53 cd53 ct53),sl53⟩)
  (c53:PySem.W.codeIn K cd53 "signs_between" = true)
  (k53:PySem.W.keepIn K (.ref f53)=true)
  (a54:PySem.W.nsIn K mainGlobals "stretch_of" = some (some (.ref f54)))
  (l54:K.lookup f54=some ⟨oc54,od54,.func (PySem.W.fnOf "stretch_of" "stretch_of" (yap yco) (yan yco) (yad yco) .none kV54 dc54 pm54 an54 cd54 ct54),sl54⟩)
  (c54:PySem.W.codeIn K cd54 "stretch_of" = true)
  (k54:PySem.W.keepIn K (.ref f54)=true)
  (a55:PySem.W.nsIn K mainGlobals "row_end" = some (some (.ref f55)))
  (l55:K.lookup f55=some ⟨oc55,od55,.func (PySem.W.fnOf "row_end" "row_end" (yap ydd) (yan ydd) (yad ydd) .none kV55 dc55 pm55 an55 cd55 ct55),sl55⟩)
  (c55:PySem.W.codeIn K cd55 "row_end" = true)
  (k55:PySem.W.keepIn K (.ref f55)=true)
  (a56:PySem.W.nsIn K mainGlobals "row_text" = some (some (.ref f56)))
  (l56:K.lookup f56=some ⟨oc56,od56,.func (PySem.W.fnOf "row_text" "row_text" (yap yc1) (yan yc1) (yad yc1) .none kV56 dc56 pm56 an56 cd56 ct56),sl56⟩)
  (c56:PySem.W.codeIn K cd56 "row_text" = true)
  (k56:PySem.W.keepIn K (.ref f56)=true)
  (a57:PySem.W.nsIn K mainGlobals "_law_row_right" = some (some (.ref f57)))
  (l57:K.lookup f57=some ⟨oc57,od57,.func (PySem.W.fnOf "_law_row_right" "_law_row_right" (yap ybK) (yan ybK) (yad ybK) .none kV57 dc57 pm57 an57 cd57 ct57),sl57⟩)
  (c57:PySem.W.codeIn K cd57 "_law_row_right" = true)
  (k57:PySem.W.keepIn K (.ref f57)=true)
  (a58:PySem.W.nsIn K mainGlobals "_law_place_right" = some (some (.ref f58)))
  (l58:K.lookup f58=some ⟨oc58,od58,.func (PySem.W.fnOf "_law_place_right" "_law_place_right" (yap ybs) (yan ybs) (yad ybs) .none kV58 dc58 pm58 an58 cd58 ct58),sl58⟩)
  (c58:PySem.W.codeIn K cd58 "_law_place_right" = true)
  (k58:PySem.W.keepIn K (.ref f58)=true)
  (a59:PySem.W.nsIn K mainGlobals "law" = some (some (.ref f59)))
  (l59:K.lookup f59=some ⟨oc59,od59,.func (PySem.W.fnOf "law" "law" (yap ydV) (yan ydV) (yad ydV) .none kV59 dc59 pm59 an59 cd59 ct59),sl59⟩)
  (c59:PySem.W.codeIn K cd59 "law" = true)
  (k59:PySem.W.keepIn K (.ref f59)=true)
  (pg0:PySem.W.plainGet K C0 Str.empty=true)
  (hd0:PySem.W.hasDictIn K C0=true)
  (po0:PySem.W.plainOver K C0=true)
  (sa0:PySem.W.findIn K (.ref C0) "__setattr__" = some (some (.builtin "object.__setattr__")))
  (mk0:PySem.W.makesIn K C0=true)
  (kc0:PySem.W.keepIn K (.ref C0)=true)
  (nf0_0:PySem.W.findIn K (.ref C0) "pieces" = some none)
  (nf0_1:PySem.W.findIn K (.ref C0) "numbers" = some none)
  (nf0_2:PySem.W.findIn K (.ref C0) "sign_counts" = some none)
  (nf0_3:PySem.W.findIn K (.ref C0) "end_counts" = some none)
  (nf0_4:PySem.W.findIn K (.ref C0) "leaf_counts" = some none)
  (nf0_5:PySem.W.findIn K (.ref C0) "heights" = some none)
  (nf0_6:PySem.W.findIn K (.ref C0) "first_leaves" = some none)
  (nf0_7:PySem.W.findIn K (.ref C0) "last_leaves" = some none)
  (z_abs:PySem.W.nsIn K mainGlobals "abs" = some none)
  (z_all:PySem.W.nsIn K mainGlobals "all" = some none)
  (z_bool:PySem.W.nsIn K mainGlobals "bool" = some none)
  (z_enumerate:PySem.W.nsIn K mainGlobals "enumerate" = some none)
  (z_int:PySem.W.nsIn K mainGlobals "int" = some none)
  (z_isinstance:PySem.W.nsIn K mainGlobals "isinstance" = some none)
  (z_len:PySem.W.nsIn K mainGlobals "len" = some none)
  (z_max:PySem.W.nsIn K mainGlobals "max" = some none)
  (z_range:PySem.W.nsIn K mainGlobals "range" = some none)
  (z_str:PySem.W.nsIn K mainGlobals "str" = some none)
  (z_sum:PySem.W.nsIn K mainGlobals "sum" = some none)
  (e_SkeinError:PySem.W.nsIn K mainGlobals "SkeinError" = some (some (.ref X0)))
  (e_NoText:PySem.W.nsIn K mainGlobals "NoText" = some (some (.ref X1)))
  (x_NoText:PySem.W.excIn K X1 [.type "ValueError",.type "Exception",.type "BaseException",.type "object"] "ValueError.__new__" = true)
  (e_NoPiece:PySem.W.nsIn K mainGlobals "NoPiece" = some (some (.ref X2)))
  (x_NoPiece:PySem.W.excIn K X2 [.type "ValueError",.type "Exception",.type "BaseException",.type "object"] "ValueError.__new__" = true)
  (e_Loose:PySem.W.nsIn K mainGlobals "Loose" = some (some (.ref X3)))
  (x_Loose:PySem.W.excIn K X3 [.type "ValueError",.type "Exception",.type "BaseException",.type "object"] "ValueError.__new__" = true)
  (e_Unlevel:PySem.W.nsIn K mainGlobals "Unlevel" = some (some (.ref X4)))
  (x_Unlevel:PySem.W.excIn K X4 [.type "ValueError",.type "Exception",.type "BaseException",.type "object"] "ValueError.__new__" = true)
  (e_TooLong:PySem.W.nsIn K mainGlobals "TooLong" = some (some (.ref X5)))
  (x_TooLong:PySem.W.excIn K X5 [.type "ValueError",.type "Exception",.type "BaseException",.type "object"] "ValueError.__new__" = true)
  (e_NoPlace:PySem.W.nsIn K mainGlobals "NoPlace" = some (some (.ref X6)))
  (x_NoPlace:PySem.W.excIn K X6 [.type "ValueError",.type "Exception",.type "BaseException",.type "object"] "ValueError.__new__" = true)
  (m_LEAF_SIGNS:PySem.W.nsIn K mainGlobals "LEAF_SIGNS" = some (some (.int 8 tk_LEAF_SIGNS)))
  (m_MOST_PLAIN:PySem.W.nsIn K mainGlobals "MOST_PLAIN" = some (some (.int 10000 tk_MOST_PLAIN)))
  (m_MOST_SIGNS:PySem.W.nsIn K mainGlobals "MOST_SIGNS" = some (some (.int 1000000000000000000 tk_MOST_SIGNS)))
  : ∃ fd:FuncData,(∀ (s:Shared) (v:Value),BindsTo s fd ⟨[v],[]⟩ [("script",v)])/\∀ base:Heap,K.In base->base.Ns mainGlobals mg->FnOk l.prog w K mg base (CXE l.prog w) 167 fa fd ["script"] (spL K):=by
 have e:=hfa.symm.trans (PySem.W.mg_of X G a59)
 cases e
 have F0:=yat (st:=yck) l0 c0 k0
 have b0:=F0.binds (ps:=["self"]) fun _ _ _ _ _ _ us hl=>by obtain ⟨_,rfl⟩:=el1 hl;rfl
 have F1:=yat (st:=ycX) l1 c1 k1
 have b1:=F1.binds (ps:=["thing"]) fun _ _ _ _ _ _ us hl=>by obtain ⟨_,rfl⟩:=el1 hl;rfl
 have F2:=yat (st:=ybq) l2 c2 k2
 have b2:=F2.binds (ps:=["self", "number"]) fun _ _ _ _ _ _ us hl=>by obtain ⟨_,_,rfl⟩:=el2 hl;rfl
 have F3:=yat (st:=ybg) l3 c3 k3
 have b3:=F3.binds (ps:=["self", "number"]) fun _ _ _ _ _ _ us hl=>by obtain ⟨_,_,rfl⟩:=el2 hl;rfl
 have F4:=yat (st:=ybl) l4 c4 k4
 have b4:=F4.binds (ps:=["self", "text"]) fun _ _ _ _ _ _ us hl=>by obtain ⟨_,_,rfl⟩:=el2 hl;rfl
 have F5:=yat (st:=yb2) l5 c5 k5
 have b5:=F5.binds (ps:=["self", "text"]) fun _ _ _ _ _ _ us hl=>by obtain ⟨_,_,rfl⟩:=el2 hl;rfl
 have F6:=yat (st:=ybQ) l6 c6 k6
 have b6:=F6.binds (ps:=["signs"]) fun _ _ _ _ _ _ us hl=>by obtain ⟨_,rfl⟩:=el1 hl;rfl
 have F7:=yat (st:=ybr) l7 c7 k7
 have b7:=F7.binds (ps:=["self", "text"]) fun _ _ _ _ _ _ us hl=>by obtain ⟨_,_,rfl⟩:=el2 hl;rfl
 have F8:=yat (st:=ybm) l8 c8 k8
 have b8:=F8.binds (ps:=["self", "text"]) fun _ _ _ _ _ _ us hl=>by obtain ⟨_,_,rfl⟩:=el2 hl;rfl
 have F9:=yat (st:=ycw) l9 c9 k9
 have b9:=F9.binds (ps:=["shelf", "one", "other"]) fun _ _ _ _ _ _ us hl=>by obtain ⟨_,_,_,rfl⟩:=el3 hl;rfl
 have F10:=yat (st:=yb3) l10 c10 k10
 have b10:=F10.binds (ps:=["self", "number"]) fun _ _ _ _ _ _ us hl=>by obtain ⟨_,_,rfl⟩:=el2 hl;rfl
 have F11:=yat (st:=ybn) l11 c11 k11
 have b11:=F11.binds (ps:=["self", "one", "other"]) fun _ _ _ _ _ _ us hl=>by obtain ⟨_,_,_,rfl⟩:=el3 hl;rfl
 have F12:=yat (st:=ycx) l12 c12 k12
 have b12:=F12.binds (ps:=["self", "made"]) fun _ _ _ _ _ _ us hl=>by obtain ⟨_,_,rfl⟩:=el2 hl;rfl
 have F13:=yat (st:=ybx) l13 c13 k13
 have b13:=F13.binds (ps:=["self", "made"]) fun _ _ _ _ _ _ us hl=>by obtain ⟨_,_,rfl⟩:=el2 hl;rfl
 have F14:=yat (st:=ycl) l14 c14 k14
 have b14:=F14.binds (ps:=["self", "one", "other"]) fun _ _ _ _ _ _ us hl=>by obtain ⟨_,_,_,rfl⟩:=el3 hl;rfl
 have F15:=yat (st:=ycy) l15 c15 k15
 have b15:=F15.binds (ps:=["shelf", "text", "leaf"]) fun _ _ _ _ _ _ us hl=>by obtain ⟨_,_,_,rfl⟩:=el3 hl;rfl
 have F16:=yat (st:=ybR) l16 c16 k16
 have b16:=F16.binds (ps:=["self", "text"]) fun _ _ _ _ _ _ us hl=>by obtain ⟨_,_,rfl⟩:=el2 hl;rfl
 have F17:=yat (st:=yb4) l17 c17 k17
 have b17:=F17.binds (ps:=["shelf", "one", "other"]) fun _ _ _ _ _ _ us hl=>by obtain ⟨_,_,_,rfl⟩:=el3 hl;rfl
 have F18:=yat (st:=ybF) l18 c18 k18
 have b18:=F18.binds (ps:=["shelf", "text"]) fun _ _ _ _ _ _ us hl=>by obtain ⟨_,_,rfl⟩:=el2 hl;rfl
 have F19:=yat (st:=ybS) l19 c19 k19
 have b19:=F19.binds (ps:=["shelf", "one", "other"]) fun _ _ _ _ _ _ us hl=>by obtain ⟨_,_,_,rfl⟩:=el3 hl;rfl
 have F20:=yat (st:=yds) l20 c20 k20
 have b20:=F20.binds (ps:=["shelf", "one", "other"]) fun _ _ _ _ _ _ us hl=>by obtain ⟨_,_,_,rfl⟩:=el3 hl;rfl
 have F21:=yat (st:=ybG) l21 c21 k21
 have b21:=F21.binds (ps:=["sign"]) fun _ _ _ _ _ _ us hl=>by obtain ⟨_,rfl⟩:=el1 hl;rfl
 have F22:=yat (st:=ycs) l22 c22 k22
 have b22:=F22.binds (ps:=["thing"]) fun _ _ _ _ _ _ us hl=>by obtain ⟨_,rfl⟩:=el1 hl;rfl
 have F23:=yat (st:=ycY) l23 c23 k23
 have b23:=F23.binds (ps:=["thing"]) fun _ _ _ _ _ _ us hl=>by obtain ⟨_,rfl⟩:=el1 hl;rfl
 have F24:=yat (st:=yda) l24 c24 k24
 have b24:=F24.binds (ps:=["plain"]) fun _ _ _ _ _ _ us hl=>by obtain ⟨_,rfl⟩:=el1 hl;rfl
 have F25:=yat (st:=yby) l25 c25 k25
 have b25:=F25.binds (ps:=["self", "made"]) fun _ _ _ _ _ _ us hl=>by obtain ⟨_,_,rfl⟩:=el2 hl;rfl
 have F26:=yat (st:=ycm) l26 c26 k26
 have b26:=F26.binds (ps:=["self", "plain"]) fun _ _ _ _ _ _ us hl=>by obtain ⟨_,_,rfl⟩:=el2 hl;rfl
 have F27:=yat (st:=ydt) l27 c27 k27
 have b27:=F27.binds (ps:=["shelf", "one", "other"]) fun _ _ _ _ _ _ us hl=>by obtain ⟨_,_,_,rfl⟩:=el3 hl;rfl
 have F28:=yat (st:=ydu) l28 c28 k28
 have b28:=F28.binds (ps:=["shelf", "one", "other"]) fun _ _ _ _ _ _ us hl=>by obtain ⟨_,_,_,rfl⟩:=el3 hl;rfl
 have F29:=yat (st:=ydb) l29 c29 k29
 have b29:=F29.binds (ps:=["shelf", "text", "many"]) fun _ _ _ _ _ _ us hl=>by obtain ⟨_,_,_,rfl⟩:=el3 hl;rfl
 have F30:=yat (st:=ycZ) l30 c30 k30
 have b30:=F30.binds (ps:=["shelf", "text", "many"]) fun _ _ _ _ _ _ us hl=>by obtain ⟨_,_,_,rfl⟩:=el3 hl;rfl
 have F31:=yat (st:=ydv) l31 c31 k31
 have b31:=F31.binds (ps:=["shelf", "leaves"]) fun _ _ _ _ _ _ us hl=>by obtain ⟨_,_,rfl⟩:=el2 hl;rfl
 have F32:=yat (st:=ydw) l32 c32 k32
 have b32:=F32.binds (ps:=["shelf", "plain"]) fun _ _ _ _ _ _ us hl=>by obtain ⟨_,_,rfl⟩:=el2 hl;rfl
 have F33:=yat (st:=ycz) l33 c33 k33
 have b33:=F33.binds (ps:=["row", "many"]) fun _ _ _ _ _ _ us hl=>by obtain ⟨_,_,rfl⟩:=el2 hl;rfl
 have F34:=yat (st:=ycn) l34 c34 k34
 have b34:=F34.binds (ps:=["self", "text"]) fun _ _ _ _ _ _ us hl=>by obtain ⟨_,_,rfl⟩:=el2 hl;rfl
 have F35:=yat (st:=ydc) l35 c35 k35
 have b35:=F35.binds (ps:=["shelf", "text"]) fun _ _ _ _ _ _ us hl=>by obtain ⟨_,_,rfl⟩:=el2 hl;rfl
 have F36:=yat (st:=ycA) l36 c36 k36
 have b36:=F36.binds (ps:=["shelf", "text", "row"]) fun _ _ _ _ _ _ us hl=>by obtain ⟨_,_,_,rfl⟩:=el3 hl;rfl
 have F37:=yat (st:=ybz) l37 c37 k37
 have b37:=F37.binds (ps:=["plain", "many"]) fun _ _ _ _ _ _ us hl=>by obtain ⟨_,_,rfl⟩:=el2 hl;rfl
 have F38:=yat (st:=yb5) l38 c38 k38
 have b38:=F38.binds (ps:=["shelf", "text", "many"]) fun _ _ _ _ _ _ us hl=>by obtain ⟨_,_,_,rfl⟩:=el3 hl;rfl
 have F39:=yat (st:=ycB) l39 c39 k39
 have b39:=F39.binds (ps:=["shelf", "text", "row"]) fun _ _ _ _ _ _ us hl=>by obtain ⟨_,_,_,rfl⟩:=el3 hl;rfl
 have F40:=yat (st:=ycC) l40 c40 k40
 have b40:=F40.binds (ps:=["shelf", "text", "at"]) fun _ _ _ _ _ _ us hl=>by obtain ⟨_,_,_,rfl⟩:=el3 hl;rfl
 have F41:=yat (st:=yb6) l41 c41 k41
 have b41:=F41.binds (ps:=["shelf", "step"]) fun _ _ _ _ _ _ us hl=>by obtain ⟨_,_,rfl⟩:=el2 hl;rfl
 have F42:=yat (st:=ycD) l42 c42 k42
 have b42:=F42.binds (ps:=["shelf", "fork", "place"]) fun _ _ _ _ _ _ us hl=>by obtain ⟨_,_,_,rfl⟩:=el3 hl;rfl
 have F43:=yat (st:=yc0) l43 c43 k43
 have b43:=F43.binds (ps:=["shelf", "text", "place"]) fun _ _ _ _ _ _ us hl=>by obtain ⟨_,_,_,rfl⟩:=el3 hl;rfl
 have F44:=yat (st:=ybZ) l44 c44 k44
 have b44:=F44.binds (ps:=["shelf", "text", "place"]) fun _ _ _ _ _ _ us hl=>by obtain ⟨_,_,_,rfl⟩:=el3 hl;rfl
 have F45:=yat (st:=ydx) l45 c45 k45
 have b45:=F45.binds (ps:=["shelf", "text", "place"]) fun _ _ _ _ _ _ us hl=>by obtain ⟨_,_,_,rfl⟩:=el3 hl;rfl
 have F46:=yat (st:=ybb) l46 c46 k46
 have b46:=F46.binds (ps:=["shelf", "row"]) fun _ _ _ _ _ _ us hl=>by obtain ⟨_,_,rfl⟩:=el2 hl;rfl
 have F47:=yat (st:=ycE) l47 c47 k47
 have b47:=F47.binds (ps:=["cell", "k"]) fun _ _ _ _ _ _ us hl=>by obtain ⟨_,_,rfl⟩:=el2 hl;rfl
 have F48:=yat (st:=yb0) l48 c48 k48
 have b48:=F48.binds (ps:=["script", "k"]) fun _ _ _ _ _ _ us hl=>by obtain ⟨_,_,rfl⟩:=el2 hl;rfl
 have F49:=yat (st:=yct) l49 c49 k49
 have b49:=F49.binds (ps:=["shelf", "row", "letters", "height", "last"]) fun _ _ _ _ _ _ us hl=>by obtain ⟨_,_,_,_,_,rfl⟩:=el5 hl;rfl
 have F50:=yat (st:=ybH) l50 c50 k50
 have b50:=F50.binds (ps:=["shelf", "row"]) fun _ _ _ _ _ _ us hl=>by obtain ⟨_,_,rfl⟩:=el2 hl;rfl
 have F51:=yat (st:=ybc) l51 c51 k51
 have b51:=F51.binds (ps:=["plain", "times", "row"]) fun _ _ _ _ _ _ us hl=>by obtain ⟨_,_,_,rfl⟩:=el3 hl;rfl
 have F52:=yat (st:=ybI) l52 c52 k52
 have b52:=F52.binds (ps:=["shelf", "text", "begin", "end"]) fun _ _ _ _ _ _ us hl=>by obtain ⟨_,_,_,_,rfl⟩:=el4 hl;rfl
 have F53:=yat (st:=ybJ) l53 c53 k53
 have b53:=F53.binds (ps:=["shelf", "text", "begin", "end"]) fun _ _ _ _ _ _ us hl=>by obtain ⟨_,_,_,_,rfl⟩:=el4 hl;rfl
 have F54:=yat (st:=yco) l54 c54 k54
 have b54:=F54.binds (ps:=["shelf", "text", "begin", "end"]) fun _ _ _ _ _ _ us hl=>by obtain ⟨_,_,_,_,rfl⟩:=el4 hl;rfl
 have F55:=yat (st:=ydd) l55 c55 k55
 have b55:=F55.binds (ps:=["shelf", "text", "row"]) fun _ _ _ _ _ _ us hl=>by obtain ⟨_,_,_,rfl⟩:=el3 hl;rfl
 have F56:=yat (st:=yc1) l56 c56 k56
 have b56:=F56.binds (ps:=["shelf", "text", "row"]) fun _ _ _ _ _ _ us hl=>by obtain ⟨_,_,_,rfl⟩:=el3 hl;rfl
 have F57:=yat (st:=ybK) l57 c57 k57
 have b57:=F57.binds (ps:=["shelf", "text", "plain", "times", "row"]) fun _ _ _ _ _ _ us hl=>by obtain ⟨_,_,_,_,_,rfl⟩:=el5 hl;rfl
 have F58:=yat (st:=ybs) l58 c58 k58
 have b58:=F58.binds (ps:=["shelf", "text", "plain", "place"]) fun _ _ _ _ _ _ us hl=>by obtain ⟨_,_,_,_,rfl⟩:=el4 hl;rfl
 have F59:=yat (st:=ydV) l59 c59 k59
 have b59:=F59.binds (ps:=["script"]) fun _ _ _ _ _ _ us hl=>by obtain ⟨_,rfl⟩:=el1 hl;rfl
 have Z:∀ base:Heap,K.In base->Facts l.prog w K (fun n=>[C0][n]?) (fun n=>[X0,X1,X2,X3,X4,X5,X6][n]?) mg base:=fun base KB=>{
   b_abs:=PySem.W.mg_none_of X G z_abs,
   b_all:=PySem.W.mg_none_of X G z_all,
   b_bool:=PySem.W.mg_none_of X G z_bool,
   b_enumerate:=PySem.W.mg_none_of X G z_enumerate,
   b_int:=PySem.W.mg_none_of X G z_int,
   b_isinstance:=PySem.W.mg_none_of X G z_isinstance,
   b_len:=PySem.W.mg_none_of X G z_len,
   b_max:=PySem.W.mg_none_of X G z_max,
   b_range:=PySem.W.mg_none_of X G z_range,
   b_str:=PySem.W.mg_none_of X G z_str,
   b_sum:=PySem.W.mg_none_of X G z_sum,
   c_LEAF_SIGNS:=⟨_,PySem.W.mg_of X G m_LEAF_SIGNS⟩,
   c_MOST_PLAIN:=⟨_,PySem.W.mg_of X G m_MOST_PLAIN⟩,
   c_MOST_SIGNS:=⟨_,PySem.W.mg_of X G m_MOST_SIGNS⟩,
   cf_Shelf:=⟨C0,rfl,⟨pg0,hd0,po0,sa0⟩,fun f hf=>by
   have hf2:f∈flds 0:=hf
   simp only [flds,List.mem_cons,List.not_mem_nil,or_false] at hf2
   rcases hf2 with rfl | rfl | rfl | rfl | rfl | rfl | rfl | rfl
   ·exact nf0_0
   ·exact nf0_1
   ·exact nf0_2
   ·exact nf0_3
   ·exact nf0_4
   ·exact nf0_5
   ·exact nf0_6
   ·exact nf0_7⟩,
   x_NoText:=⟨X1,rfl,zbe KB (PySem.W.mg_of X G e_NoText) x_NoText⟩,
   x_NoPiece:=⟨X2,rfl,zbe KB (PySem.W.mg_of X G e_NoPiece) x_NoPiece⟩,
   x_Loose:=⟨X3,rfl,zbe KB (PySem.W.mg_of X G e_Loose) x_Loose⟩,
   x_Unlevel:=⟨X4,rfl,zbe KB (PySem.W.mg_of X G e_Unlevel) x_Unlevel⟩,
   x_TooLong:=⟨X5,rfl,zbe KB (PySem.W.mg_of X G e_TooLong) x_TooLong⟩,
   x_NoPlace:=⟨X6,rfl,zbe KB (PySem.W.mg_of X G e_NoPlace) x_NoPlace⟩,
   d_Shelf_init:=⟨C0,f0,_,rfl,PySem.W.mg_of X G aC0,⟨mk0,a0,i0,kc0⟩,b0,F0⟩,
   d_is_whole:=⟨_,_,PySem.W.mg_of X G a1,k1,b1,F1⟩,
   d_Shelf_has_piece:=⟨C0,f2,_,rfl,⟨pg0,hd0,po0,sa0⟩,⟨a2,i2,k2⟩,b2,F2⟩,
   d_Shelf_check_piece:=⟨C0,f3,_,rfl,⟨pg0,hd0,po0,sa0⟩,⟨a3,i3,k3⟩,b3,F3⟩,
   d_Shelf_check_text:=⟨C0,f4,_,rfl,⟨pg0,hd0,po0,sa0⟩,⟨a4,i4,k4⟩,b4,F4⟩,
   d_Shelf_signs:=⟨C0,f5,_,rfl,⟨pg0,hd0,po0,sa0⟩,⟨a5,i5,k5⟩,b5,F5⟩,
   d_check_length:=⟨_,_,PySem.W.mg_of X G a6,k6,b6,F6⟩,
   d_Shelf_last_leaf:=⟨C0,f7,_,rfl,⟨pg0,hd0,po0,sa0⟩,⟨a7,i7,k7⟩,b7,F7⟩,
   d_Shelf_first_leaf:=⟨C0,f8,_,rfl,⟨pg0,hd0,po0,sa0⟩,⟨a8,i8,k8⟩,b8,F8⟩,
   d_are_close:=⟨_,_,PySem.W.mg_of X G a9,k9,b9,F9⟩,
   d_Shelf_piece:=⟨C0,f10,_,rfl,⟨pg0,hd0,po0,sa0⟩,⟨a10,i10,k10⟩,b10,F10⟩,
   d_Shelf_check_fork:=⟨C0,f11,_,rfl,⟨pg0,hd0,po0,sa0⟩,⟨a11,i11,k11⟩,b11,F11⟩,
   d_Shelf_lay:=⟨C0,f12,_,rfl,⟨pg0,hd0,po0,sa0⟩,⟨a12,i12,k12⟩,b12,F12⟩,
   d_Shelf_lay_fork:=⟨C0,f13,_,rfl,⟨pg0,hd0,po0,sa0⟩,⟨a13,i13,k13⟩,b13,F13⟩,
   d_Shelf_fork:=⟨C0,f14,_,rfl,⟨pg0,hd0,po0,sa0⟩,⟨a14,i14,k14⟩,b14,F14⟩,
   d_with_last:=⟨_,_,PySem.W.mg_of X G a15,k15,b15,F15⟩,
   d_Shelf_height:=⟨C0,f16,_,rfl,⟨pg0,hd0,po0,sa0⟩,⟨a16,i16,k16⟩,b16,F16⟩,
   d_turned_left:=⟨_,_,PySem.W.mg_of X G a17,k17,b17,F17⟩,
   d_without_first:=⟨_,_,PySem.W.mg_of X G a18,k18,b18,F18⟩,
   d_turned_right:=⟨_,_,PySem.W.mg_of X G a19,k19,b19,F19⟩,
   d_linked:=⟨_,_,PySem.W.mg_of X G a20,k20,b20,F20⟩,
   d_is_plain_sign:=⟨_,_,PySem.W.mg_of X G a21,k21,b21,F21⟩,
   d_is_plain:=⟨_,_,PySem.W.mg_of X G a22,k22,b22,F22⟩,
   d_is_short:=⟨_,_,PySem.W.mg_of X G a23,k23,b23,F23⟩,
   d_ends_in:=⟨_,_,PySem.W.mg_of X G a24,k24,b24,F24⟩,
   d_Shelf_lay_leaf:=⟨C0,f25,_,rfl,⟨pg0,hd0,po0,sa0⟩,⟨a25,i25,k25⟩,b25,F25⟩,
   d_Shelf_leaf:=⟨C0,f26,_,rfl,⟨pg0,hd0,po0,sa0⟩,⟨a26,i26,k26⟩,b26,F26⟩,
   d_welded:=⟨_,_,PySem.W.mg_of X G a27,k27,b27,F27⟩,
   d_joined:=⟨_,_,PySem.W.mg_of X G a28,k28,b28,F28⟩,
   d_doubled:=⟨_,_,PySem.W.mg_of X G a29,k29,b29,F29⟩,
   d_repeated:=⟨_,_,PySem.W.mg_of X G a30,k30,b30,F30⟩,
   d_halved:=⟨_,_,PySem.W.mg_of X G a31,k31,b31,F31⟩,
   d_built:=⟨_,_,PySem.W.mg_of X G a32,k32,b32,F32⟩,
   d_law_digit:=⟨_,_,PySem.W.mg_of X G a33,k33,b33,F33⟩,
   d_Shelf_ends:=⟨C0,f34,_,rfl,⟨pg0,hd0,po0,sa0⟩,⟨a34,i34,k34⟩,b34,F34⟩,
   d_rows_in:=⟨_,_,PySem.W.mg_of X G a35,k35,b35,F35⟩,
   d_check_row:=⟨_,_,PySem.W.mg_of X G a36,k36,b36,F36⟩,
   d_behind_in_leaf:=⟨_,_,PySem.W.mg_of X G a37,k37,b37,F37⟩,
   d_behind_ends:=⟨_,_,PySem.W.mg_of X G a38,k38,b38,F38⟩,
   d_row_begin:=⟨_,_,PySem.W.mg_of X G a39,k39,b39,F39⟩,
   d_check_gap:=⟨_,_,PySem.W.mg_of X G a40,k40,b40,F40⟩,
   d_ends_passed:=⟨_,_,PySem.W.mg_of X G a41,k41,b41,F41⟩,
   d_part_with:=⟨_,_,PySem.W.mg_of X G a42,k42,b42,F42⟩,
   d_steps_to:=⟨_,_,PySem.W.mg_of X G a43,k43,b43,F43⟩,
   d_ends_ahead:=⟨_,_,PySem.W.mg_of X G a44,k44,b44,F44⟩,
   d_row_at:=⟨_,_,PySem.W.mg_of X G a45,k45,b45,F45⟩,
   d_law_three_right:=⟨_,_,PySem.W.mg_of X G a46,k46,b46,F46⟩,
   d_law_mixed:=⟨_,_,PySem.W.mg_of X G a47,k47,b47,F47⟩,
   d_law_stream:=⟨_,_,PySem.W.mg_of X G a48,k48,b48,F48⟩,
   d_law_tree:=⟨_,_,PySem.W.mg_of X G a49,k49,b49,F49⟩,
   d_law_long_rows:=⟨_,_,PySem.W.mg_of X G a50,k50,b50,F50⟩,
   d_law_row_of_long:=⟨_,_,PySem.W.mg_of X G a51,k51,b51,F51⟩,
   d_check_stretch:=⟨_,_,PySem.W.mg_of X G a52,k52,b52,F52⟩,
   d_signs_between:=⟨_,_,PySem.W.mg_of X G a53,k53,b53,F53⟩,
   d_stretch_of:=⟨_,_,PySem.W.mg_of X G a54,k54,b54,F54⟩,
   d_row_end:=⟨_,_,PySem.W.mg_of X G a55,k55,b55,F55⟩,
   d_row_text:=⟨_,_,PySem.W.mg_of X G a56,k56,b56,F56⟩,
   d_law_row_right:=⟨_,_,PySem.W.mg_of X G a57,k57,b57,F57⟩,
   d_law_place_right:=⟨_,_,PySem.W.mg_of X G a58,k58,b58,F58⟩,
   d_law:=⟨_,_,PySem.W.mg_of X G a59,k59,b59,F59⟩ }
 refine ⟨_,fun s v=>.of_eq rfl,fun base KB _=>FnOk.imp (yh1 (Z base KB) F59) (zi9 (T:=mkT K (fun n=>[C0][n]?) (fun n=>[X0,X1,X2,X3,X4,X5,X6][n]?)) law_true)⟩
theorem walk {l:PySem.W.OpenLaw} {q:Program} {loose:List Str} {XP:(Str->Option Value)->Heap->Prop} {YP:World->Heap->Prop} {d:DefRec} {K:Params->PySem.W.Frag} (hn:l.most=some 63) (hdf:d.params.defaults=[])
  (hY:∀ (w:World) (h:Heap),YP w h->(K w.params).In h)
  (F:∀ (w:World) (mg:Str->Option Value) (fa:Addr) (h:Heap),(K w.params).In h->h.Ns mainGlobals mg->mg d.name=some (.ref fa) ->
   ∃ fd:FuncData,(∀ (s:Shared) (u:Value),BindsTo s fd ⟨[u],[]⟩ [("script",u)])/\∀ base:Heap,(K w.params).In base->base.Ns mainGlobals mg->FnOk l.prog w (K w.params) mg base (CXE l.prog w) 167 fa fd ["script"] (spL (K w.params))) :
  PySem.W.WalkO q loose XP YP l.row.toRowW d [] (fun f vs=>PySem.call f vs) :=
 L2.walk_of (n:=63) (k:=167) (x := "script") (CX:=fun w=>CXE l.prog w) (sp:=fun w=>spL (K w.params)) hn (by decide) hdf ⟨rfl,by decide,by decide⟩ hY F (fun _ _ a ns hl _ hS=>⟨a,ns,rfl,hS,hl,fun _=>rfl⟩) fun _ _ _ _ _ z=>zhg z
end Sk
open PySem PySem.W PyProof.Rows
section
namespace PySem.W.Fast
def tw9380359466299047271:=0
def tw9287612522782102723:=0
def tw7715350190679332863:=0
def tw7839032701730827167:=0
def tw11154075377677289311:=0
def tw4460870737230743263:=0
def tw2210149534460544703:=0
def tw1043813794348164639:=0
def tw3363100337537228255:=0
def tw10018301956927972831:=0
def tw15327331259519747359:=0
def tw2718609150729659615:=0
def tw13601503522205131967:=0
def tw4371252627836095615:=0
def tw16177127609201905759:=0
def tw6567177540976762943:=0
def tw3938114908384624606:=0
def tw857338974933191582:=0
def tw11237141138414950078:=0
def tw7747992670737259102:=0
def tw8878603481794774558:=0
def tw5858468219852151294:=0
def tw18179037067223885182:=0
def tw2085237273926988158:=0
def tw17085376851848869150:=0
def tw6959845222700622110:=0
def tw13542914990150254846:=0
def tw2404017806275700862:=0
def tw2960784420261782654:=0
def tw15385221088557315005:=0
def tw17597756444741114749:=0
def tw10863615550431557469:=0
def tw4641124207289683389:=0
def tw6961308958394081725:=0
def tw11081584668959880541:=0
def tw12872575661858889981:=0
def tw11898907127673692221:=0
def tw11811537446658270237:=0
def tw9478038262165476252:=0
def tw2862989721198790492:=0
def tw7295435816670490364:=0
def tw12356126649897030364:=0
def tw2527540558183913148:=0
def tw11197738728212480668:=0
def tw18301948836780691068:=0
def tw16169548904014304828:=0
def tw2513611028997284284:=0
def tw6160109865558590876:=0
def tw13920018952062721372:=0
def tw15183365836225412316:=0
def tw9277279928840707164:=0
def tw16101611209211252828:=0
def tw16675477460730796092:=0
def tw11622360295571953659:=0
def tw17748367440487073755:=0
def tw17623879738013031387:=0
def tw4948826284341925723:=0
def tw11869588693516985819:=0
def tw9767769227542787483:=0
def tw10543108738226620763:=0
def tw3094530531112512859:=0
def tw4202296622708560091:=0
def tw6165801270039354362:=0
def tw2299730025091089338:=0
def tw5208214820854546298:=0
def tw2897249608257567482:=0
def tw16270978086387211994:=0
def tw14918750592860172922:=0
def tw506285890413928058:=0
def tw16519467594333902426:=0
def tw16974495030873111034:=0
def tw6644605740671485306:=0
def tw15916313542679107930:=0
def tw17240015959011551354:=0
def tw6795557762600493881:=0
def tw9325105107581320953:=0
def tw11317920389060898425:=0
def tw6154937395725788729:=0
def tw7685497927314916729:=0
def tw12053563028563977561:=0
def tw5277864117348394329:=0
def tw2454507357490985273:=0
def tw13911274262527751321:=0
def tw17305333766773789721:=0
def tw14671770379791806489:=0
def tw4595871838639331320:=0
def tw9815634918294218712:=0
def tw12373058170968321752:=0
def tw13122713461494491736:=0
def tw9646897560960613912:=0
def tw4339198545118528888:=0
def tw699573486610655576:=0
def tw15438934464543865112:=0
def tw2322010020195312888:=0
def tw15504320692996805591:=0
def tw7334681530111321015:=0
def tw4801793682721664887:=0
def tw6317786960827796343:=0
def tw13192407705215716215:=0
def tw8684618468639550071:=0
def tw10059734970572882519:=0
def tw16301172643045974583:=0
def tw3158520544403814935:=0
def tw13627251337798650295:=0
def tw13165159271037648215:=0
def tw17386431738056308023:=0
def tw6788203776657538359:=0
def tw5411909511511930135:=0
def tw17571530964590460119:=0
def tw6453505849094154455:=0
def tw17563777009809290391:=0
def tw3842863150864501879:=0
def tw6193204717355469911:=0
def tw12111563443973491799:=0
def tw8252590746968933302:=0
def tw18429906411057849270:=0
def tw14165295290246913942:=0
def tw8712760289539509942:=0
def tw10150633890901408374:=0
def tw13876152205486392950:=0
def tw2522175264500287062:=0
def tw14452313288184651286:=0
def tw15792910435202462166:=0
def tw6287006137804638614:=0
def tw15600112375958432022:=0
def tw14637849952874781814:=0
def tw14992005924144771094:=0
def tw13713443548719787861:=0
def tw13086459087662120725:=0
def tw13948483590411106997:=0
def tw2971339443286577781:=0
def tw3049345882779584085:=0
def tw9536171873915656693:=0
def tw3416306371530706293:=0
def tw12579385264246393173:=0
def tw13311634923554236693:=0
def tw10548671125279010005:=0
def tw883400548698804437:=0
def tw11892003103133363381:=0
def tw3814260971845798037:=0
def tw16313442272960103573:=0
def tw17923300422515180661:=0
def tw5197924404498156436:=0
def tw16678318364321562516:=0
def tw17744656706145568596:=0
def tw10555044404989127412:=0
def tw9895917095222739668:=0
def tw5631329065464465076:=0
def tw10282415988159223476:=0
def tw16620914650818421300:=0
def tw2030653005975644308:=0
def tw4535295992059791251:=0
def tw15057763979016051507:=0
def tw10403958547045854963:=0
def tw3307512029544396499:=0
def tw18139052723259186803:=0
def tw11256717803249810931:=0
def tw760535378050728403:=0
def tw8827414002259584371:=0
def tw16828227373652291763:=0
def tw7341709197788516531:=0
def tw13143082992488732723:=0
def tw15197449630980593490:=0
def tw6316499583533330226:=0
def tw13961040278211564338:=0
def tw9499002128044583698:=0
def tw3285543232132011730:=0
def tw6179410415057342994:=0
def tw15223838458361802226:=0
def tw15102782750944473554:=0
def tw11230329951468462482:=0
def tw2463559643775738258:=0
def tw2941513104248350066:=0
def tw17446197949609276658:=0
def tw2772961793657846994:=0
def tw6002702276043451506:=0
def tw12146923234531446898:=0
def tw1809572554996294738:=0
def tw7694286697915821106:=0
def tw10744379820049861617:=0
def tw7814089555819666417:=0
def tw3830497806004833201:=0
def tw6372858828052191121:=0
def tw7436421615765977905:=0
def tw14554103402115543761:=0
def tw10818756033229305457:=0
def tw3726470102434212337:=0
def tw12618217367081639281:=0
def tw3272649716314205425:=0
def tw10866507904256683185:=0
def tw16165250169391889521:=0
def tw7850973213225904209:=0
def tw6252194538983821393:=0
def tw1894957404760564753:=0
def tw1293121479414422448:=0
def tw15908238046011608720:=0
def tw2933272768128267920:=0
def tw11404026593774862864:=0
def tw9575716256083306928:=0
def tw15509299994425609648:=0
def tw16423183675939786160:=0
def tw5105285920307342704:=0
def tw11896736591274967376:=0
def tw680735910006673584:=0
def tw15044848820079388688:=0
def tw9924367956484465647:=0
def tw7488024481477565263:=0
def tw3644207265525829295:=0
def tw14682803611103111695:=0
def tw547954797454043631:=0
def tw17749072104622959951:=0
def tw3981158822460502127:=0
def tw7558922908850195471:=0
def tw3413842268537374638:=0
def tw1331614745899905870:=0
def tw10570967904872278830:=0
def tw8899528300922353422:=0
def tw11288634846901463758:=0
def tw66885302900313710:=0
def tw12633467728314658414:=0
def tw7257630835962769870:=0
def tw7664785983014469038:=0
def tw10539849937900403054:=0
def tw7057641185466540270:=0
def tw2042567413640665230:=0
def tw15898376875121159214:=0
def tw13618822820085675853:=0
def tw11012015678623728397:=0
def tw1968122652284310189:=0
def tw11570714159389787757:=0
def tw5154919004001638893:=0
def tw17800366305612526733:=0
def tw9360745703992460172:=0
def tw1097320988460415788:=0
def tw8187037642255255148:=0
def tw14929847891827349068:=0
def tw5725742917862775116:=0
def tw4487144167608739052:=0
def tw13342980196803011756:=0
def tw13891900856009190540:=0
def tw7533348145852456972:=0
def tw15934102413566647243:=0
def tw15291599045190820747:=0
def tw462509504771748715:=0
def tw3483576872748312427:=0
def tw1743226688535337803:=0
def tw17045132696558446411:=0
def tw11444251030142342955:=0
def tw1142115047435698859:=0
def tw15369439301036914187:=0
def tw1668861346249012715:=0
def tw4394599067191576971:=0
def tw7169685823098865003:=0
def tw13034869528426292587:=0
def tw4481143830693228779:=0
def tw8286762442202294443:=0
def tw18045209651026603115:=0
def tw1443756878295928907:=0
def tw4211359718925190187:=0
def tw10875197802873687083:=0
def tw4475238968271130602:=0
def tw7098851871696027338:=0
def tw11940681851273644746:=0
def tw8418734563593381514:=0
def tw11595750563156532746:=0
def tw12215108590583860714:=0
def tw17716298332273392074:=0
def tw12713274112037774634:=0
def tw5120304431998220330:=0
def tw8467693620791529321:=0
def tw7626127046098617065:=0
def tw9283446302816594601:=0
def tw13879099242003894793:=0
def tw5957134308703926761:=0
def tw4128765641284872585:=0
def tw3811631483830866313:=0
def tw3253796642260837705:=0
def tw14894086141628948713:=0
def tw10727256766049769481:=0
def tw12098497357506351080:=0
def tw11316992927068455624:=0
def tw1842438450910995112:=0
def tw15129981038314821256:=0
def tw1831636900291540296:=0
def tw15497047662074741064:=0
def tw14473253057005427016:=0
def tw9617909792160571624:=0
def tw1701780725226408168:=0
def tw14447759112322987208:=0
def tw17331206501601734824:=0
def tw1366322371329687720:=0
def tw8862259547747832936:=0
def tw5658743221003393064:=0
def tw12090726531426703368:=0
def tw10480755650559159304:=0
def tw16591665597733757927:=0
def tw1527031062429295591:=0
def tw4020619784811636711:=0
def tw12132279646484286087:=0
def tw10036159250687322599:=0
def tw16664029998418720135:=0
def tw5950982149775155527:=0
def tw3323473455309747431:=0
def tw6584335105987138631:=0
def tw16337050807518315591:=0
def tw1514098517709609766:=0
def tw17289081527333480134:=0
def tw8881795661199851142:=0
def tw2516738920176263782:=0
def tw7364707725185380838:=0
def tw15963291779559219686:=0
def tw380303665121948102:=0
def tw2803561892861623750:=0
def tw4440631347362140582:=0
def tw13404601341557265702:=0
def tw8800935508690115846:=0
def tw4829399528448873734:=0
def tw7645297143239429254:=0
def tw18006850370949513318:=0
def tw8532694209811957862:=0
def tw14841033627873670053:=0
def tw8397338504240963461:=0
def tw10170204945630204645:=0
def tw7670004235610652197:=0
def tw5365770513767740933:=0
def tw5509154901506795013:=0
def tw17860844438388028709:=0
def tw4522042433204838693:=0
def tw3732939501362527365:=0
def tw4244244922960844516:=0
def tw5849709924485423812:=0
def tw4441530583689717188:=0
def tw789267739625859268:=0
def tw12277787516368245764:=0
def tw13637965358543962083:=0
def tw3255084645237222243:=0
def tw11208898876044394179:=0
def tw492503120430106243:=0
def tw9586071435115358723:=0
def tw5460977613942468995:=0
def tw15545797663031643491:=0
def tw17622260593852507459:=0
def tw16370018674515056899:=0
def tw6294613682534857923:=0
def tw12236759322340626467:=0
def tw5407542620402609122:=0
def tw14458000091868531618:=0
def tw15815245073816449858:=0
def tw11700122632957200194:=0
def tw9982567296909590274:=0
def tw6823353708991808194:=0
def tw12018726843477480770:=0
def tw3685079613849731234:=0
def tw2111429581806461058:=0
def tw10632668227636960354:=0
def tw12833159172411019298:=0
def tw17934185983177917313:=0
def tw10490755646003375809:=0
def tw16619404893725081249:=0
def tw17294116176653274689:=0
def tw3516460376508713121:=0
def tw8003691999127336065:=0
def tw1424881995970728065:=0
def tw177765475022572609:=0
def tw11615006301659467809:=0
def tw11515642124226743168:=0
def tw1479938311953456000:=0
def tw16257664946198652736:=0
def tw18044534266367614720:=0
def tw3812896504630803104:=0
def tw13010068129910934656:=0
def tw8489936428287045696:=0
def tw1659138462967725120:=0
end PySem.W.Fast
end
set_option maxRecDepth 100000 in
set_option maxHeartbeats 0 in
theorem PySem.Challenge.cw_skeinwood_k32_whole_rows_of_long_texts_holds : PySem.Challenge.rw_skeinwood_k32_whole_rows_of_long_texts.Holds := by
 w_on; o_law; k_head; (case hw => w_witness2)
 k_fill
 refine Sk.walk (l := PySem.Challenge.rw_skeinwood_k32_whole_rows_of_long_texts) rfl rfl (fun w h Y => PySem.W.kIn_of Y) ?F
 case F =>
  intro w mg fa h KX G hmg
  refine' Sk.all_mk KX G hmg ?aC0 ?a0 ?i0 ?l0 ?c0 ?k0 ?a2 ?i2 ?l2 ?c2 ?k2 ?a3 ?i3 ?l3 ?c3 ?k3 ?a4 ?i4 ?l4 ?c4 ?k4 ?a5 ?i5 ?l5 ?c5 ?k5 ?a7 ?i7 ?l7 ?c7 ?k7 ?a8 ?i8 ?l8 ?c8 ?k8 ?a10 ?i10 ?l10 ?c10 ?k10 ?a11 ?i11 ?l11 ?c11 ?k11 ?a12 ?i12 ?l12 ?c12 ?k12 ?a13 ?i13 ?l13 ?c13 ?k13 ?a14 ?i14 ?l14 ?c14 ?k14 ?a16 ?i16 ?l16 ?c16 ?k16 ?a25 ?i25 ?l25 ?c25 ?k25 ?a26 ?i26 ?l26 ?c26 ?k26 ?a34 ?i34 ?l34 ?c34 ?k34 ?a1 ?l1 ?c1 ?k1 ?a6 ?l6 ?c6 ?k6 ?a9 ?l9 ?c9 ?k9 ?a15 ?l15 ?c15 ?k15 ?a17 ?l17 ?c17 ?k17 ?a18 ?l18 ?c18 ?k18 ?a19 ?l19 ?c19 ?k19 ?a20 ?l20 ?c20 ?k20 ?a21 ?l21 ?c21 ?k21 ?a22 ?l22 ?c22 ?k22 ?a23 ?l23 ?c23 ?k23 ?a24 ?l24 ?c24 ?k24 ?a27 ?l27 ?c27 ?k27 ?a28 ?l28 ?c28 ?k28 ?a29 ?l29 ?c29 ?k29 ?a30 ?l30 ?c30 ?k30 ?a31 ?l31 ?c31 ?k31 ?a32 ?l32 ?c32 ?k32 ?a33 ?l33 ?c33 ?k33 ?a35 ?l35 ?c35 ?k35 ?a36 ?l36 ?c36 ?k36 ?a37 ?l37 ?c37 ?k37 ?a38 ?l38 ?c38 ?k38 ?a39 ?l39 ?c39 ?k39 ?a40 ?l40 ?c40 ?k40 ?a41 ?l41 ?c41 ?k41 ?a42 ?l42 ?c42 ?k42 ?a43 ?l43 ?c43 ?k43 ?a44 ?l44 ?c44 ?k44 ?a45 ?l45 ?c45 ?k45 ?a46 ?l46 ?c46 ?k46 ?a47 ?l47 ?c47 ?k47 ?a48 ?l48 ?c48 ?k48 ?a49 ?l49 ?c49 ?k49 ?a50 ?l50 ?c50 ?k50 ?a51 ?l51 ?c51 ?k51 ?a52 ?l52 ?c52 ?k52 ?a53 ?l53 ?c53 ?k53 ?a54 ?l54 ?c54 ?k54 ?a55 ?l55 ?c55 ?k55 ?a56 ?l56 ?c56 ?k56 ?a57 ?l57 ?c57 ?k57 ?a58 ?l58 ?c58 ?k58 ?a59 ?l59 ?c59 ?k59 ?pg0 ?hd0 ?po0 ?sa0 ?mk0 ?kc0 ?nf0_0 ?nf0_1 ?nf0_2 ?nf0_3 ?nf0_4 ?nf0_5 ?nf0_6 ?nf0_7 ?z_abs ?z_all ?z_bool ?z_enumerate ?z_int ?z_isinstance ?z_len ?z_max ?z_range ?z_str ?z_sum ?e_SkeinError ?e_NoText ?x_NoText ?e_NoPiece ?x_NoPiece ?e_Loose ?x_Loose ?e_Unlevel ?x_Unlevel ?e_TooLong ?x_TooLong ?e_NoPlace ?x_NoPlace ?m_LEAF_SIGNS ?m_MOST_PLAIN ?m_MOST_SIGNS
  (case aC0 => k_is)
  (case a0 => k_is)
  (case i0 => k_is)
  (case l0 => k_is)
  (case c0 => k_is)
  (case k0 => k_is)
  (case a2 => k_is)
  (case i2 => k_is)
  (case l2 => k_is)
  (case c2 => k_is)
  (case k2 => k_is)
  (case a3 => k_is)
  (case i3 => k_is)
  (case l3 => k_is)
  (case c3 => k_is)
  (case k3 => k_is)
  (case a4 => k_is)
  (case i4 => k_is)
  (case l4 => k_is)
  (case c4 => k_is)
  (case k4 => k_is)
  (case a5 => k_is)
  (case i5 => k_is)
  (case l5 => k_is)
  (case c5 => k_is)
  (case k5 => k_is)
  (case a7 => k_is)
  (case i7 => k_is)
  (case l7 => k_is)
  (case c7 => k_is)
  (case k7 => k_is)
  (case a8 => k_is)
  (case i8 => k_is)
  (case l8 => k_is)
  (case c8 => k_is)
  (case k8 => k_is)
  (case a10 => k_is)
  (case i10 => k_is)
  (case l10 => k_is)
  (case c10 => k_is)
  (case k10 => k_is)
  (case a11 => k_is)
  (case i11 => k_is)
  (case l11 => k_is)
  (case c11 => k_is)
  (case k11 => k_is)
  (case a12 => k_is)
  (case i12 => k_is)
  (case l12 => k_is)
  (case c12 => k_is)
  (case k12 => k_is)
  (case a13 => k_is)
  (case i13 => k_is)
  (case l13 => k_is)
  (case c13 => k_is)
  (case k13 => k_is)
  (case a14 => k_is)
  (case i14 => k_is)
  (case l14 => k_is)
  (case c14 => k_is)
  (case k14 => k_is)
  (case a16 => k_is)
  (case i16 => k_is)
  (case l16 => k_is)
  (case c16 => k_is)
  (case k16 => k_is)
  (case a25 => k_is)
  (case i25 => k_is)
  (case l25 => k_is)
  (case c25 => k_is)
  (case k25 => k_is)
  (case a26 => k_is)
  (case i26 => k_is)
  (case l26 => k_is)
  (case c26 => k_is)
  (case k26 => k_is)
  (case a34 => k_is)
  (case i34 => k_is)
  (case l34 => k_is)
  (case c34 => k_is)
  (case k34 => k_is)
  (case a1 => k_is)
  (case l1 => k_is)
  (case c1 => k_is)
  (case k1 => k_is)
  (case a6 => k_is)
  (case l6 => k_is)
  (case c6 => k_is)
  (case k6 => k_is)
  (case a9 => k_is)
  (case l9 => k_is)
  (case c9 => k_is)
  (case k9 => k_is)
  (case a15 => k_is)
  (case l15 => k_is)
  (case c15 => k_is)
  (case k15 => k_is)
  (case a17 => k_is)
  (case l17 => k_is)
  (case c17 => k_is)
  (case k17 => k_is)
  (case a18 => k_is)
  (case l18 => k_is)
  (case c18 => k_is)
  (case k18 => k_is)
  (case a19 => k_is)
  (case l19 => k_is)
  (case c19 => k_is)
  (case k19 => k_is)
  (case a20 => k_is)
  (case l20 => k_is)
  (case c20 => k_is)
  (case k20 => k_is)
  (case a21 => k_is)
  (case l21 => k_is)
  (case c21 => k_is)
  (case k21 => k_is)
  (case a22 => k_is)
  (case l22 => k_is)
  (case c22 => k_is)
  (case k22 => k_is)
  (case a23 => k_is)
  (case l23 => k_is)
  (case c23 => k_is)
  (case k23 => k_is)
  (case a24 => k_is)
  (case l24 => k_is)
  (case c24 => k_is)
  (case k24 => k_is)
  (case a27 => k_is)
  (case l27 => k_is)
  (case c27 => k_is)
  (case k27 => k_is)
  (case a28 => k_is)
  (case l28 => k_is)
  (case c28 => k_is)
  (case k28 => k_is)
  (case a29 => k_is)
  (case l29 => k_is)
  (case c29 => k_is)
  (case k29 => k_is)
  (case a30 => k_is)
  (case l30 => k_is)
  (case c30 => k_is)
  (case k30 => k_is)
  (case a31 => k_is)
  (case l31 => k_is)
  (case c31 => k_is)
  (case k31 => k_is)
  (case a32 => k_is)
  (case l32 => k_is)
  (case c32 => k_is)
  (case k32 => k_is)
  (case a33 => k_is)
  (case l33 => k_is)
  (case c33 => k_is)
  (case k33 => k_is)
  (case a35 => k_is)
  (case l35 => k_is)
  (case c35 => k_is)
  (case k35 => k_is)
  (case a36 => k_is)
  (case l36 => k_is)
  (case c36 => k_is)
  (case k36 => k_is)
  (case a37 => k_is)
  (case l37 => k_is)
  (case c37 => k_is)
  (case k37 => k_is)
  (case a38 => k_is)
  (case l38 => k_is)
  (case c38 => k_is)
  (case k38 => k_is)
  (case a39 => k_is)
  (case l39 => k_is)
  (case c39 => k_is)
  (case k39 => k_is)
  (case a40 => k_is)
  (case l40 => k_is)
  (case c40 => k_is)
  (case k40 => k_is)
  (case a41 => k_is)
  (case l41 => k_is)
  (case c41 => k_is)
  (case k41 => k_is)
  (case a42 => k_is)
  (case l42 => k_is)
  (case c42 => k_is)
  (case k42 => k_is)
  (case a43 => k_is)
  (case l43 => k_is)
  (case c43 => k_is)
  (case k43 => k_is)
  (case a44 => k_is)
  (case l44 => k_is)
  (case c44 => k_is)
  (case k44 => k_is)
  (case a45 => k_is)
  (case l45 => k_is)
  (case c45 => k_is)
  (case k45 => k_is)
  (case a46 => k_is)
  (case l46 => k_is)
  (case c46 => k_is)
  (case k46 => k_is)
  (case a47 => k_is)
  (case l47 => k_is)
  (case c47 => k_is)
  (case k47 => k_is)
  (case a48 => k_is)
  (case l48 => k_is)
  (case c48 => k_is)
  (case k48 => k_is)
  (case a49 => k_is)
  (case l49 => k_is)
  (case c49 => k_is)
  (case k49 => k_is)
  (case a50 => k_is)
  (case l50 => k_is)
  (case c50 => k_is)
  (case k50 => k_is)
  (case a51 => k_is)
  (case l51 => k_is)
  (case c51 => k_is)
  (case k51 => k_is)
  (case a52 => k_is)
  (case l52 => k_is)
  (case c52 => k_is)
  (case k52 => k_is)
  (case a53 => k_is)
  (case l53 => k_is)
  (case c53 => k_is)
  (case k53 => k_is)
  (case a54 => k_is)
  (case l54 => k_is)
  (case c54 => k_is)
  (case k54 => k_is)
  (case a55 => k_is)
  (case l55 => k_is)
  (case c55 => k_is)
  (case k55 => k_is)
  (case a56 => k_is)
  (case l56 => k_is)
  (case c56 => k_is)
  (case k56 => k_is)
  (case a57 => k_is)
  (case l57 => k_is)
  (case c57 => k_is)
  (case k57 => k_is)
  (case a58 => k_is)
  (case l58 => k_is)
  (case c58 => k_is)
  (case k58 => k_is)
  (case a59 => k_is)
  (case l59 => k_is)
  (case c59 => k_is)
  (case k59 => k_is)
  (case pg0 => k_is)
  (case hd0 => k_is)
  (case po0 => k_is)
  (case sa0 => k_is)
  (case mk0 => k_is)
  (case kc0 => k_is)
  (case nf0_0 => k_is)
  (case nf0_1 => k_is)
  (case nf0_2 => k_is)
  (case nf0_3 => k_is)
  (case nf0_4 => k_is)
  (case nf0_5 => k_is)
  (case nf0_6 => k_is)
  (case nf0_7 => k_is)
  (case z_abs => k_is)
  (case z_all => k_is)
  (case z_bool => k_is)
  (case z_enumerate => k_is)
  (case z_int => k_is)
  (case z_isinstance => k_is)
  (case z_len => k_is)
  (case z_max => k_is)
  (case z_range => k_is)
  (case z_str => k_is)
  (case z_sum => k_is)
  (case e_SkeinError => k_is)
  (case e_NoText => k_is)
  (case x_NoText => k_exc)
  (case e_NoPiece => k_is)
  (case x_NoPiece => k_exc)
  (case e_Loose => k_is)
  (case x_Loose => k_exc)
  (case e_Unlevel => k_is)
  (case x_Unlevel => k_exc)
  (case e_TooLong => k_is)
  (case x_TooLong => k_exc)
  (case e_NoPlace => k_is)
  (case x_NoPlace => k_exc)
  (case m_LEAF_SIGNS => k_is)
  (case m_MOST_PLAIN => k_is)
  (case m_MOST_SIGNS => k_is)
