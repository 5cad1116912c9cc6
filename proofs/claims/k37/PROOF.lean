import PyProof.Rows.All
import Wide.All
import OpenK.AllK
import Wide.FinOn
import Lean
import PyProof.EqAt
import PyProof.EqKinds
import PyProof.TupleCall
import PyProof.StrCalls2
import PyProof.SumAny
import PyProof.Rows.Range3
import PyProof.StrBlockI
import PyProof.SliceStr2
import PyProof.IsRules
import PyProof.StrBlock2
import PyProof.ListRange
import KE.KRevSl
import PyProof.StrLawsIn
import PySem.Challenge.RW_skeinwood_k37_high_with_low
set_option Elab.async false
set_option linter.all false
set_option maxRecDepth 100000
noncomputable section
namespace L2
open PySem PySem.Spec PyProof.Rows
abbrev Key := Sum Int Str
abbrev b01 (b : Bool) : Int := if b then 1 else 0
def ydk : Key -> Value -> Bool
 | .inl k, .bool b => decide (k = b01 b)
 | .inl k, v => Value.isInt k v
 | .inr x, v => Value.isStrOf x v
def keyH (w : World) : Key -> Int
 | .inl k => hashInt k
 | .inr x => hashStr w x
theorem zar : ∀ {k : Key} {v : Value}, ydk k v = true -> (∃ i t, k = Sum.inl i /\ v = Value.int i t) \/ (∃ b, k = Sum.inl (b01 b) /\ v = Value.bool b) \/ (∃ x t, k = Sum.inr x /\ v = Value.str x t)
 | .inl i, v, h => by
  cases v with
  | bool b => exact .inr (.inl ⟨b, by rw [of_decide_eq_true (show decide (i = b01 b) = true from h)], rfl⟩)
  | int j t =>
   obtain ⟨t, e⟩ := Value.isInt_shape (k := i) (v := .int j t) h
   exact .inl ⟨i, t, rfl, e⟩
  | _ => exact absurd h (by simp [ydk, Value.isInt])
 | .inr x, v, h => by
  obtain ⟨t, e⟩ := Value.isStrOf_shape (x := x) (v := v) h
  exact .inr (.inr ⟨x, t, rfl, e⟩)
theorem zfN (i : Int) (t : Tok) : ydk (.inl i) (.int i t) = true := by simp [ydk, Value.isInt]
theorem zfO (x : Str) (t : Tok) : ydk (.inr x) (.str x t) = true := by simp [ydk, Value.isStrOf]
theorem yen (a b : Int) : decide ((Sum.inl a : Key) = Sum.inl b) = (a == b) := by
 by_cases e : a = b
 ·subst e; simp
 ·have h : ¬ (Sum.inl a : Key) = Sum.inl b := fun q => e (Sum.inl.inj q)
  rw [decide_eq_false h]
  exact (beq_eq_false_iff_ne.mpr e).symm
theorem yfE (a b : Str) : decide ((Sum.inr a : Key) = Sum.inr b) = decide (a = b) := by
 by_cases e : a = b
 ·subst e; simp
 ·have h : ¬ (Sum.inr a : Key) = Sum.inr b := fun q => e (Sum.inr.inj q)
  rw [decide_eq_false h, decide_eq_false e]
theorem yeK (a : Int) (b : Str) : decide ((Sum.inl a : Key) = Sum.inr b) = false := decide_eq_false (fun q => nomatch q)
theorem yeL (a : Str) (b : Int) : decide ((Sum.inr a : Key) = Sum.inl b) = false := decide_eq_false (fun q => nomatch q)
theorem zb7 {prog : Program} {w : World} {A : Around} {E : Value -> Shared -> Prop} {s : Shared} {b : Bool} {Q : Int -> Shared -> Prop} (h : Q (hashInt (b01 b)) { s with toks := s.toks + 1 }) :
  wpAny (model prog w) A (pyHash (.bool b)) Q E s := by
 unfold pyHash
 unfold pyHashByItsType
 have hv : [Value.bool b].any Value.onHeap = false := rfl
 refine wpAny_bind ?_
 rw [cRoomFor, if_neg (by rw [hv]; exact Bool.false_ne_true)]; refine wpAny_pure ?_
 refine wpAny_bind (wpAny_specialOf (PySem.typeIs_bool s b) PySem.F.slot_bool_hash.lookup ?_)
 show wpAny _ _ (if (some (Value.builtin "int.__hash__") == some Value.none) = true then _ else _) Q E s
 rw [if_neg (by rw [beq_builtin_none]; exact Bool.false_ne_true)]
 refine wpAny_bind (wpAny_specialOf (PySem.typeIs_bool s b) PySem.F.slot_bool_hash.lookup ?_)
 show wpAny _ _ (callSpecialIfBoundUnlessNone? (.bool b) "__hash__" _ >>= _) Q E s
 cases b with
 | false =>
  refine wpAny_bind (wpAny_callSpecialIfBoundUnlessNone?_slot (PySem.typeIs_bool s false) PySem.F.slot_bool_hash
   (wpAny_call_entry PySem.F.slot_bool_hash (PySem.typeIs_bool s false) entry_int_hash
    (show wpAny _ _ (do ret (<- mkInt 0)) _ _ s from wpAny_ret_mkInt ?_) (args_int_hash _)))
  exact wpAny_pure h
 | true =>
  refine wpAny_bind (wpAny_callSpecialIfBoundUnlessNone?_slot (PySem.typeIs_bool s true) PySem.F.slot_bool_hash
   (wpAny_call_entry PySem.F.slot_bool_hash (PySem.typeIs_bool s true) entry_int_hash
    (show wpAny _ _ (do ret (<- mkInt 1)) _ _ s from wpAny_ret_mkInt ?_) (args_int_hash _)))
  exact wpAny_pure h
theorem zhC {a b : Bool} (e : b01 a = b01 b) : a = b := by cases a <;> cases b <;> first | rfl | exact absurd e (by decide)
theorem zhD (a b : Bool) : (a == b) = decide ((Sum.inl (b01 a) : Key) = Sum.inl (b01 b)) := by cases a <;> cases b <;> decide
def ybb (prog : Program) (w : World) : PySem.KeyKind prog w Key where
 is := ydk
 hash := keyH w
 inj := fun v a b ha hb => by
  rcases zar ha with ⟨i, t, rfl, rfl⟩ | ⟨c, rfl, rfl⟩ | ⟨x, t, rfl, rfl⟩
  ·rcases zar hb with ⟨j, u, rfl, e⟩ | ⟨d, rfl, e⟩ | ⟨y, u, rfl, e⟩
   ·injection e with e1 _; rw [e1]
   ·exact nomatch e
   ·exact nomatch e
  ·rcases zar hb with ⟨j, u, rfl, e⟩ | ⟨d, rfl, e⟩ | ⟨y, u, rfl, e⟩
   ·exact nomatch e
   ·injection e with e1; rw [e1]
   ·exact nomatch e
  ·rcases zar hb with ⟨j, u, rfl, e⟩ | ⟨d, rfl, e⟩ | ⟨y, u, rfl, e⟩
   ·exact nomatch e
   ·exact nomatch e
   ·injection e with e1 _; rw [e1]
 byValue := fun k v h => by
  rcases zar h with ⟨i, t, rfl, rfl⟩ | ⟨c, rfl, rfl⟩ | ⟨x, t, rfl, rfl⟩ <;> rfl
 pyHash := fun hv h => by
  rcases zar hv with ⟨i, t, rfl, rfl⟩ | ⟨c, rfl, rfl⟩ | ⟨x, t, rfl, rfl⟩
  ·exact wpAny_pyHash_int h
  ·exact zb7 h
  ·exact wpAny_pyHash_str h
 eqBool := fun hu hv h => by
  rcases zar hu with ⟨i, t, rfl, rfl⟩ | ⟨c, rfl, rfl⟩ | ⟨x, t, rfl, rfl⟩
  ·rcases zar hv with ⟨j, u, rfl, rfl⟩ | ⟨d, rfl, rfl⟩ | ⟨y, u, rfl, rfl⟩
   ·rw [yen] at h; exact wpAny_eqBool_int h
   ·rw [yen] at h; exact SeqAt.EqAt.int_bool i t d _ _ _ _ h
   ·rw [yeK] at h; exact SeqAt.EqAt.int_str i t y u _ _ _ _ h
  ·rcases zar hv with ⟨j, u, rfl, rfl⟩ | ⟨d, rfl, rfl⟩ | ⟨y, u, rfl, rfl⟩
   ·rw [yen] at h; exact SeqAt.EqAt.bool_int c j u _ _ _ _ h
   ·rw [<- zhD] at h; exact SeqAt.EqAt.bool_bool c d _ _ _ _ h
   ·rw [yeK] at h; exact SeqAt.EqAt.bool_str c y u _ _ _ _ h
  ·rcases zar hv with ⟨j, u, rfl, rfl⟩ | ⟨d, rfl, rfl⟩ | ⟨y, u, rfl, rfl⟩
   ·rw [yeL] at h; exact SeqAt.EqAt.str_int x t j u _ _ _ _ h
   ·rw [yeL] at h; exact SeqAt.EqAt.str_bool x t d _ _ _ _ h
   ·rw [yfE] at h; exact wpAny_eqBool_str h
 «strs» := fun k x t v h => by
  rcases zar h with ⟨i, u, rfl, e⟩ | ⟨d, rfl, e⟩ | ⟨y, u, rfl, e⟩
  ·exact nomatch e
  ·exact nomatch e
  ·injection e with e1 _
   subst e1
   cases v <;> rfl
theorem zcc (prog : Program) (w : World) (i : Int) (t : Tok) : (ybb prog w).is (.inl i) (.int i t) = true := zfN i t
theorem zcd (prog : Program) (w : World) (x : Str) (t : Tok) : (ybb prog w).is (.inr x) (.str x t) = true := zfO x t
end L2
namespace L2
open PySem PySem.Spec PyProof.Rows
inductive V where
 | non | bl (b : Bool) | int (i : Int) | str (x : Str) | byt (b : Array UInt8) | flt (b : UInt64) | ref (a : Addr) | ty (n : String)
 deriving DecidableEq
def RelV : V -> Value -> Prop
 | .non, u => u = Value.none
 | .bl b, u => u = Value.bool b
 | .int i, u => ∃ t, u = Value.int i t
 | .str x, u => ∃ t, u = Value.str x t
 | .byt b, u => ∃ t, u = Value.bytes b t
 | .flt b, u => ∃ t, u = Value.float b t
 | .ref a, u => u = Value.ref a
 | .ty n, u => u = Value.type n
abbrev Vals : List V -> List Value -> Prop := Paired RelV
theorem Vals.length {xs : List V} {us : List Value} (r : Vals xs us) : xs.length = us.length := Paired.length r
theorem Vals.get : ∀ {xs : List V} {us : List Value} {i : Nat} {x : V}, Vals xs us -> xs[i]? = some x -> ∃ u, us[i]? = some u /\ RelV x u
 | _, _, _, _, .nil, e => by simp at e
 | _, _, 0, _, .cons r _, e => by simp at e; subst e; exact ⟨_, rfl, r⟩
 | _, _, i + 1, x, .cons _ t, e => by
  obtain ⟨u, h1, h2⟩ := Vals.get (i := i) (x := x) t (by simpa using e)
  exact ⟨u, by simpa using h1, h2⟩
theorem Vals.set {x : V} {u : Value} (r : RelV x u) : ∀ {xs : List V} {us : List Value} (i : Nat), Vals xs us -> Vals (xs.set i x) (us.set i u)
 | _, _, _, .nil => .nil
 | _, _, 0, .cons _ t => .cons r t
 | _, _, i + 1, .cons q t => .cons q (Vals.set r i t)
theorem Vals.append : ∀ {xs ys : List V} {us ws : List Value}, Vals xs us -> Vals ys ws -> Vals (xs ++ ys) (us ++ ws)
 | _, _, _, _, .nil, s => s
 | _, _, _, _, .cons r t, s => .cons r (Vals.append t s)
theorem Vals.take : ∀ {xs : List V} {us : List Value} (n : Nat), Vals xs us -> Vals (xs.take n) (us.take n)
 | _, _, 0, _ => .nil
 | _, _, _ + 1, .nil => .nil
 | _, _, n + 1, .cons r t => .cons r (Vals.take n t)
theorem Vals.drop : ∀ {xs : List V} {us : List Value} (n : Nat), Vals xs us -> Vals (xs.drop n) (us.drop n)
 | _, _, 0, r => r
 | _, _, _ + 1, .nil => .nil
 | _, _, n + 1, .cons _ t => Vals.drop n t
def RelO : Option V -> Option Value -> Prop
 | some v, some u => RelV v u
 | none, none => True
 | _, _ => False
def KV {κ : Type} : List (κ × V) -> List (κ × Value) -> Prop := Paired fun (p : κ × V) (q : κ × Value) => p.1 = q.1 /\ RelV p.2 q.2
def kV : Key -> V
 | .inl i => .int i
 | .inr x => .str x
def kOf : V -> Option Key
 | .int i => some (.inl i)
 | .bl b => some (.inl (b01 b))
 | .str x => some (.inr x)
 | _ => none
theorem yfF (k : Key) : kOf (kV k) = some k := by cases k <;> rfl
inductive HO where
 | lst (xs : List V)
 | tup (xs : List V)
 | dK (kvs : List (Key × V)) | dT (kvs : List (List Key × V))
 | set (S : Int -> Bool) (n : Nat)
 | ins (C dx : Addr) (fs : List (Str × V))
 | own (x : Addr)
 | xd (fs : List (Str × V))
 | met (f x : Addr)
 | rng (lo hi : Int)
 | frz (o : Obj) (u : HO)
 | tbl (ps : Array Value)
 | ext (φ : Heap -> Prop)
abbrev Hp := Addr -> Option HO
def upd (H : Hp) (a : Addr) (o : HO) : Hp := fun b => if b = a then some o else H b
theorem zam {H : Hp} {a : Addr} {o : HO} : upd H a o a = some o := by unfold upd; rw [if_pos rfl]
theorem yar {H : Hp} {a b : Addr} {o : HO} (h : b ≠ a) : upd H a o b = H b := by unfold upd; rw [if_neg h]
theorem ygI {H : Hp} {a b : Addr} {o u : HO} (h : H a = some o) (h' : H b = some u) (d : o ≠ u) : a ≠ b := by
 intro e; subst e; rw [h] at h'; exact d (Option.some.inj h')
theorem zao {H : Hp} {a b : Addr} {o : HO} (h : H a = some o) (h' : H b = none) : a ≠ b := by
 intro e; subst e; rw [h] at h'; cases h'
section
variable (P : Program) (w : World)
def ObjOk (H : Hp) (h : Heap) (a : Addr) : HO -> Prop
 | .lst xs => xs.length <= sizeLine /\ ∃ (its : List Value) (n : Nat), Vals xs its /\ h.get? a = some { cls := .type "list", data := .seq its.toArray n }
 | .tup xs => xs.length <= sizeLine /\ ∃ its : List Value, Vals xs its /\ IsTup h a its.toArray
 | .dK kvs => kvs.length <= sizeLine /\ (a == sysModules) = false /\ ∃ vs, KV kvs vs /\ h.DictOf (ybb P w) a vs
 | .dT kvs => kvs.length <= sizeLine /\ (a == sysModules) = false /\ ∃ xs : List (List Key × Addr × Value),
   Paired (fun (p : List Key × V) (q : List Key × Addr × Value) => p.1 = q.1 /\ (∃ ys, H q.2.1 = some (.tup ys) /\ ys.map kOf = p.1.map some) /\ RelV p.2 q.2.2) kvs xs /\
   ∃ o es ep, h.get? a = some o /\ o.ExactDict /\ o.data = .dict es ep /\ es.toList = xs.map (entryOfKey (tupleKind (ybb P w))) /\ (xs.map (·.1)).Nodup
 | .set S n => h.SetOf (intKind P w) a S n
 | .ins C dx fs => H dx = some (.own a) /\ fs.length <= 1000 /\ dx ≠ a /\ h.get? a = some (PySem.W.instObj C dx) /\
   ∃ mA, h.Ns1 dx mA /\ (∀ f, RelO (fs.lookup f) (mA f)) /\ PySem.Within mA (fs.map (·.1))
 | .own _ => ∃ o, h.get? a = some o
 | .xd fs => ∃ mA, h.Ns1 a mA /\ ∀ f, RelO (fs.lookup f) (mA f)
 | .rng lo hi => ∃ t u v, h.get? a = some { cls := .type "range", data := .fields #[.int lo t, .int hi u, .int 1 v] }
 | .frz o u => h.get? a = some o /\ ObjOk H h a u
 | .tbl ps => h.get? a = some { cls := .none, data := .fields ps }
 | .met f x => h.get? a = some (PySem.W.methodObj (.ref f) (.ref x))
 | .ext φ => φ h /\ (∃ o, h.get? a = some o) /\ ∀ h1 h2 : Heap, φ h1 -> (∀ o, h1.get? a = some o -> h2.get? a = some o) -> φ h2
def HOk (H : Hp) (h : Heap) : Prop := ∀ a o, H a = some o -> ObjOk P w H h a o
end
section
variable {P : Program} {w : World} {H H' : Hp} {h h' : Heap} {a : Addr} {o : HO}
theorem ObjOk.lt (x : ObjOk P w H h a o) : a < h.objs.size := by
 cases o with
 | lst xs => obtain ⟨_, _, _, _, e⟩ := x; exact Heap.lt_size e
 | tup xs => obtain ⟨_, _, _, p⟩ := x; exact p.lt
 | dK kvs => obtain ⟨_, _, _, _, o, _, _, e, _⟩ := x; exact Heap.lt_size e
 | dT kvs => obtain ⟨_, _, _, _, o, _, _, e, _⟩ := x; exact Heap.lt_size e
 | set S n => obtain ⟨o, _, _, _, e, _⟩ := x; exact Heap.lt_size e
 | ins C dx fs => obtain ⟨_, _, _, e, _⟩ := x; exact Heap.lt_size e
 | own y => obtain ⟨_, e⟩ := x; exact Heap.lt_size e
 | xd fs => obtain ⟨_, ⟨_, _, _, e, _⟩, _⟩ := x; exact Heap.lt_size e
 | rng lo hi => obtain ⟨_, _, _, e⟩ := x; exact Heap.lt_size e
 | frz ob u => obtain ⟨e, _⟩ := x; exact Heap.lt_size e
 | tbl ps => exact Heap.lt_size (show h.get? a = some _ from x)
 | met f y => exact Heap.lt_size (show h.get? a = some _ from x)
 | ext φ => obtain ⟨_, ⟨_, e⟩, _⟩ := x; exact Heap.lt_size e
theorem Paired.mapP {α β : Type} {F G : α -> β -> Prop} : ∀ {l₁ : List α} {l₂ : List β}, Paired F l₁ l₂ -> (∀ a b, F a b -> G a b) -> Paired G l₁ l₂
 | _, _, .nil, _ => .nil
 | _, _, .cons r t, f => .cons (f _ _ r) (Paired.mapP t f)
theorem ObjOk.stay (x : ObjOk P w H h a o) (k : ∀ b u, (b = a \/ H b = some (.own a)) -> h.get? b = some u -> h'.get? b = some u)
  (ho : ∀ b, H b = some (.own a) -> H' b = some (.own a)) (ht : ∀ b xs, H b = some (.tup xs) -> H' b = some (.tup xs)) : ObjOk P w H' h' a o := by
 induction o with
 | lst xs => obtain ⟨z, its, n, r, e⟩ := x; exact ⟨z, its, n, r, k _ _ (.inl rfl) e⟩
 | tup xs => obtain ⟨z, its, r, ob, e, c⟩ := x; exact ⟨z, its, r, ob, k _ _ (.inl rfl) e, c⟩
 | dK kvs => obtain ⟨z, y, vs, r, ob, es, ep, e, c⟩ := x; exact ⟨z, y, vs, r, ob, es, ep, k _ _ (.inl rfl) e, c⟩
 | dT kvs =>
  obtain ⟨z, y, xs, r, ob, es, ep, e, c⟩ := x
  exact ⟨z, y, xs, Paired.mapP r fun p q z => ⟨z.1, z.2.1.imp fun _ e => ⟨ht _ _ e.1, e.2⟩, z.2.2⟩, ob, es, ep, k _ _ (.inl rfl) e, c⟩
 | set S n => obtain ⟨ob, es, ep, t, e, c⟩ := x; exact ⟨ob, es, ep, t, k _ _ (.inl rfl) e, c⟩
 | ins C dx fs =>
  obtain ⟨d, z, ne, e, mA, ⟨od, es, ep, e2, c⟩, r⟩ := x
  exact ⟨ho _ d, z, ne, k _ _ (.inl rfl) e, mA, ⟨od, es, ep, k _ _ (.inr d) e2, c⟩, r⟩
 | own y => obtain ⟨ob, e⟩ := x; exact ⟨ob, k _ _ (.inl rfl) e⟩
 | xd fs => obtain ⟨mA, ⟨od, es, ep, e, c⟩, r⟩ := x; exact ⟨mA, ⟨od, es, ep, k _ _ (.inl rfl) e, c⟩, r⟩
 | rng lo hi => obtain ⟨t, u, v, e⟩ := x; exact ⟨t, u, v, k _ _ (.inl rfl) e⟩
 | frz ob u ih => obtain ⟨e, q⟩ := x; exact ⟨k _ _ (.inl rfl) e, ih q⟩
 | tbl ps =>
  have e : h.get? a = some { cls := .none, data := .fields ps } := x
  show h'.get? a = some { cls := .none, data := .fields ps }
  exact k a _ (.inl rfl) e
 | met f y =>
  have e : h.get? a = some (PySem.W.methodObj (.ref f) (.ref y)) := x
  show h'.get? a = some (PySem.W.methodObj (.ref f) (.ref y))
  exact k a _ (.inl rfl) e
 | ext φ => obtain ⟨p, ⟨o, e⟩, st⟩ := x; exact ⟨st _ _ p fun o q => k _ _ (.inl rfl) q, ⟨o, k _ _ (.inl rfl) e⟩, st⟩
theorem HOk.lt (x : HOk P w H h) (e : H a = some o) : a < h.objs.size := (x a o e).lt
theorem HOk.fresh (x : HOk P w H h) (e : h.objs.size <= a) : H a = none := by
 cases q : H a with
 | none => rfl
 | some u => exact absurd (Nat.lt_of_lt_of_le (x.lt q) e) (Nat.lt_irrefl _)
theorem HOk.kept (x : HOk P w H h) (k : ∀ b u, h.get? b = some u -> h'.get? b = some u) : HOk P w H h' := fun a o e =>
 (x a o e).stay (fun b u _ q => k b u q) (fun _ q => q) fun _ _ q => q
theorem HOk.laid (x : HOk P w H h) (k : ∀ b u, h.get? b = some u -> h'.get? b = some u) (hp : h.objs.size <= a) (new : ObjOk P w (upd H a o) h' a o) : HOk P w (upd H a o) h' := fun b u e => by
 have hn := x.fresh hp
 by_cases hb : b = a
 ·subst hb; rw [zam] at e; cases e; exact new
 ·rw [yar hb] at e
  exact (x b u e).stay (fun c v _ q => k c v q) (fun c q => by rw [yar (zao q hn)]; exact q) fun c xs q => by rw [yar (zao q hn)]; exact q
end
def Rd (H : Hp) (a : Addr) (u : HO) : Prop := H a = some u \/ ∃ o, H a = some (.frz o u)
theorem Rd.ok {P : Program} {w : World} {H : Hp} {h : Heap} {a : Addr} {u : HO} (r : Rd H a u) (x : HOk P w H h) : ObjOk P w H h a u := by
 rcases r with r | ⟨o, r⟩
 ·exact x a u r
 ·obtain ⟨_, q⟩ := x a _ r
  exact q
def Mut : Option HO -> Prop
 | some (.lst _) => True
 | some (.dK _) => True
 | some (.dT _) => True
 | some (.set _ _) => True
 | some (.ins _ _ _) => True
 | some (.ext _) => True
 | _ => False
section
variable {P : Program} {w : World} {H : Hp} {h h' : Heap} {x e : Addr} {o' : HO}
theorem HOk.write (ok : HOk P w H h) (mu : Mut (H x)) (he : e = x \/ H e = some (.own x)) (k : ∀ b u, b ≠ e -> h.get? b = some u -> h'.get? b = some u) (heo : ∃ u, h'.get? e = some u)
  (new : ObjOk P w (upd H x o') h' x o') : HOk P w (upd H x o') h' := fun b u q => by
 have nown : ∀ c y, H c = some (.own y) -> c ≠ x := fun c y r z => by subst z; rw [r] at mu; exact mu
 have ntup : ∀ c xs, H c = some (.tup xs) -> c ≠ x := fun c xs r z => by subst z; rw [r] at mu; exact mu
 by_cases hb : b = x
 ·subst hb; rw [zam] at q; cases q; exact new
 ·rw [yar hb] at q
  by_cases hbe : b = e
  ·have q' : H b = some (.own x) := by
    rcases he with z | z
    ·exact absurd (hbe.trans z) hb
    ·rw [hbe]; exact z
   rw [q] at q'; cases q'
   obtain ⟨v, hv⟩ := heo
   exact ⟨v, by rw [hbe]; exact hv⟩
  ·refine (ok b u q).stay (fun c v hc r => k c v ?_ r) (fun c r => by rw [yar (nown c b r)]; exact r) fun c xs r => by rw [yar (ntup c xs r)]; exact r
   rcases hc with rfl | hc
   ·exact hbe
   ·rintro rfl
    rcases he with z | z
    ·exact nown c b hc z
    ·rw [hc] at z; cases z; exact hb rfl
end
structure Un (fs ex : List Addr) (H H' : Hp) (h h' : Heap) : Prop where
 keep : ∀ b o, h.get? b = some o -> H b = none -> b ∉ fs -> b ∉ ex -> h'.get? b = some o
 slot : ∀ b o, h.get? b = some o -> H b = none -> b ∈ fs -> b ∉ ex -> ∃ sl, h'.get? b = some { o with slots := sl }
 free : ∀ b o, h.get? b = some o -> H b = none -> b ∉ ex -> H' b = none
 there : ∀ b o, h.get? b = some o -> b ∉ ex -> ∃ o', h'.get? b = some o'
 tups : ∀ b xs, H b = some (.tup xs) -> H' b = some (.tup xs)
 frzs : ∀ b o u, H b = some (.frz o u) -> H' b = some (.frz o u)
 tbls : ∀ b ps, H b = some (.tbl ps) -> ∃ more, H' b = some (.tbl (ps ++ more))
section
variable {fs fs' ex ex' : List Addr} {H H1 H2 : Hp} {h h1 h2 h' : Heap} {a x e : Addr} {o : HO}
theorem Un.any (u : Un fs ex H H1 h h1) {b : Addr} {ob : Obj} (q : h.get? b = some ob) (n : H b = none) (hx : b ∉ ex) : ∃ sl, h1.get? b = some { ob with slots := sl } := by
 by_cases hb : b ∈ fs
 ·exact u.slot b ob q n hb hx
 ·exact ⟨ob.slots, u.keep b ob q n hb hx⟩
theorem Un.kept (k : ∀ b u, h.get? b = some u -> h'.get? b = some u) : Un fs ex H H h h' :=
 ⟨fun b ob q _ _ _ => k b ob q, fun b ob q _ _ _ => ⟨ob.slots, k b ob q⟩, fun _ _ _ n _ => n, fun b ob q _ => ⟨ob, k b ob q⟩, fun _ _ q => q, fun _ _ _ q => q, fun _ ps q => ⟨#[], by rw [q]; simp⟩⟩
theorem Un.refl : Un fs ex H H h h := Un.kept fun _ _ q => q
theorem Un.laid (k : ∀ b u, h.get? b = some u -> h'.get? b = some u) (hp : h.objs.size <= a) (hn : H a = none) : Un fs ex H (upd H a o) h h' where
 keep := fun b u q _ _ _ => k b u q
 slot := fun b u q _ _ _ => ⟨u.slots, k b u q⟩
 free := fun b u q n _ => by rw [yar (Nat.ne_of_lt (Nat.lt_of_lt_of_le (Heap.lt_size q) hp))]; exact n
 there := fun b u q _ => ⟨u, k b u q⟩
 tups := fun b xs q => by rw [yar (zao q hn)]; exact q
 frzs := fun b u xs q => by rw [yar (zao q hn)]; exact q
 tbls := fun b ps q => ⟨#[], by rw [yar (zao q hn), q]; simp⟩
theorem Un.write (mu : Mut (H x)) (he : e = x \/ H e = some (.own x)) (k : ∀ b u, b ≠ e -> h.get? b = some u -> h'.get? b = some u) (heo : ∃ u, h'.get? e = some u) : Un fs ex H (upd H x o) h h' := by
 have hx : ∀ b, H b = none -> b ≠ x := fun b n z => by subst z; rw [n] at mu; exact mu
 have hb : ∀ b, H b = none -> b ≠ e := fun b n z => by
  subst z
  rcases he with r | r
  ·exact hx b n r
  ·rw [n] at r; cases r
 have hm : ∀ b u, H b = some u -> ¬ Mut (some u) -> b ≠ x := fun b u q nm z => by subst z; rw [q] at mu; exact nm mu
 refine ⟨fun b u q n _ _ => k b u (hb b n) q, fun b u q n _ _ => ⟨u.slots, k b u (hb b n) q⟩, fun b u q n _ => by rw [yar (hx b n)]; exact n, fun b u q _ => ?_,
  fun b xs q => by rw [yar (hm b _ q fun z => z)]; exact q, fun b u xs q => by rw [yar (hm b _ q fun z => z)]; exact q, fun b ps q => ⟨#[], by rw [yar (hm b _ q fun z => z), q]; simp⟩⟩
 by_cases hbe : b = e
 ·subst hbe; exact heo
 ·exact ⟨u, k b u hbe q⟩
end
def trk (h : Heap) (H : Hp) : List Addr := (List.range h.objs.size).filter fun a => (H a).isSome
def hidT (h : Heap) (H : Hp) : Heap := PySem.W.hideAll h (trk h H)
theorem zfP (h : Heap) (H : Hp) : (hidT h H).objs.size = h.objs.size := PySem.W.hideAll_size _ _
theorem zgB {h : Heap} {H : Hp} {b : Addr} {o : Obj} (e : h.get? b = some o) (n : H b = none) : (hidT h H).get? b = some o :=
 PySem.W.hideAll_get _ e fun hm => by
  have q : (H b).isSome = true := (List.mem_filter.mp hm).2
  rw [n] at q; simp at q
theorem zhE {h : Heap} {H : Hp} {b : Addr} {o : Obj} (e : (hidT h H).get? b = some o) : h.get? b = some o /\ H b = none := by
 have e' : h.get? b = some o := PySem.W.of_hideAll (trk h H) e
 refine ⟨e', ?_⟩
 cases q : H b with
 | none => rfl
 | some x =>
  have hm : b ∈ trk h H := List.mem_filter.mpr ⟨List.mem_range.mpr (Heap.lt_size e'), by simp [q]⟩
  have z : (hidT h H).get? b = none := PySem.W.hideAll_none (trk h H) hm
  rw [z] at e; cases e
end L2
namespace L2
open PySem PySem.Spec PyProof.Rows
structure Mod (K : PySem.W.Frag) (mg : Str -> Option Value) (base : Heap) : Prop where
 kin : K.In base
 glob : base.Ns mainGlobals mg
 blt : ∃ mb, base.Ns builtinsNs mb /\ ∀ x : Str, x ≠ "__name__" -> mb x = bootBuiltins x
 nolimit : base.NoLimit
structure Cx where
 prog : Program
 w : World
 K : PySem.W.Frag
 mg : Str -> Option Value
 base : Heap
 A : Around
 N : List Str
 s₀ : Shared
 H₀ : Hp
 env : Env
 outer : List Env
 stack : List Env
 ex : List Addr
 fn : Str -> Bool
 calm : Bool
 pn : List (Addr × Obj)
 xe : Value -> Shared -> Prop
def frs (l : List Env) : List Addr := l.filterMap (·.frame)
abbrev Cx.fs (X : Cx) : List Addr := frs X.outer
def Vis (sc : Scope) (x : Str) : Prop := sc.names.lookup x = some .local \/ sc.names.lookup x = some .cell \/ sc.names.lookup x = some .free
def Loc (sc : Scope) (x : Str) : Prop := sc.names.lookup x = some .local \/ sc.names.lookup x = some .cell
def Look (env : Env) (h : Heap) (m : Str -> Option Value) (x : Str) (u : Value) : Prop :=
 (env.kindOf x = some .local /\ m x = some u) \/ ((env.kindOf x = some .cell \/ env.kindOf x = some .free) /\ ∃ c, env.cells.lookup x = some c /\ h.IsCell c (some u))
structure Cx.Ok (X : Cx) : Prop where
 mod : Mod X.K X.mg X.base
 kind : X.env.scope.kind = .function
 glob : X.env.globals = mainGlobals
 blt : X.env.builtins = builtinsNs
 above : X.s₀.heap.objs.size <= X.env.locals
 inj : ∀ x y c, X.env.cells.lookup x = some c -> X.env.cells.lookup y = some c -> x = y
 has : ∀ x, (X.env.kindOf x = some .cell \/ X.env.kindOf x = some .free) -> ∃ c, X.env.cells.lookup x = some c
 cab : ∀ x c, X.fn x = true -> X.env.cells.lookup x = some c -> X.s₀.heap.objs.size <= c
 hd : X.calm = true -> X.A.handled = none
 frames : X.A.frames = some X.stack
 stk : X.stack = X.outer \/ (X.stack = X.env :: X.outer /\ X.env.frame = some X.env.locals)
 exf : ∀ b ∈ X.ex, b ≠ X.env.locals /\ ∀ x c, X.env.cells.lookup x = some c -> c ≠ b
 bs : ∀ b o, X.base.get? b = some o -> X.s₀.heap.get? b = some o /\ X.H₀ b = none
 bsz : X.base.objs.size <= X.s₀.heap.objs.size
 noex : ∀ b o, X.base.get? b = some o -> b ∉ X.ex
 exfs : ∀ b ∈ X.ex, b ∉ X.fs
 funs : X.s₀.heap.FunFrames X.base X.outer
 frf : ∀ b ∈ X.fs, X.H₀ b = none
structure Inv (X : Cx) (pins : List (Addr × Obj)) (σ : List (Option V)) (H : Hp) (s : Shared) : Prop where
 ok : X.Ok
 os : s.os = X.s₀.os
 bare : AllBare s.gens
 base : Un X.fs X.ex X.H₀ H X.s₀.heap s.heap
 loc : ∃ m, s.heap.Ns X.env.locals m /\ ∀ (i : Nat) (x : Str) (v : V), X.N[i]? = some x -> σ[i]? = some (some v) -> Vis X.env.scope x -> ∃ u, RelV v u /\ Look X.env s.heap m x u
 cell : ∀ x c, X.env.cells.lookup x = some c -> ∃ v, s.heap.IsCell c v
 free : H X.env.locals = none
 freeC : ∀ x c, X.env.cells.lookup x = some c -> H c = none
 pin : ∀ p ∈ X.pn ++ pins, s.heap.get? p.1 = some p.2 /\ H p.1 = none /\ p.1 ≠ X.env.locals /\ p.1 ∉ X.fs /\ ∀ v, p.2.data ≠ .cell v
 hok : HOk X.prog X.w H s.heap
 len : σ.length = X.N.length
section
variable {X : Cx} {pins : List (Addr × Obj)} {σ : List (Option V)} {H H' : Hp} {s : Shared} {h' : Heap}
theorem Cx.Ok.nofr (ok : X.Ok) {b : Addr} {o : Obj} (e : X.base.get? b = some o) : b ∉ X.fs := fun hb => by
 have := (ok.funs.mem hb).1
 rw [e] at this; cases this
theorem Inv.bs (I : Inv X pins σ H s) : ∀ b o, X.base.get? b = some o -> s.heap.get? b = some o /\ H b = none := fun b o e =>
 ⟨I.base.keep b o (I.ok.bs b o e).1 (I.ok.bs b o e).2 (I.ok.nofr e) (I.ok.noex b o e), I.base.free b o (I.ok.bs b o e).1 (I.ok.bs b o e).2 (I.ok.noex b o e)⟩
theorem Inv.bk (I : Inv X pins σ H s) : ∀ b o, X.base.get? b = some o -> s.heap.get? b = some o := fun b o e => (I.bs b o e).1
theorem Inv.mod (I : Inv X pins σ H s) : Mod X.K X.mg X.base := I.ok.mod
theorem Inv.kIn (I : Inv X pins σ H s) : X.K.In s.heap := I.ok.mod.kin.keeps I.bk
theorem Inv.fr (I : Inv X pins σ H s) : ∃ m, Fr X.base X.env.locals s.heap m :=
 let ⟨m, hn, _⟩ := I.loc
 ⟨m, hn, I.bk, Nat.le_trans I.ok.bsz I.ok.above⟩
theorem Inv.lt (I : Inv X pins σ H s) : X.env.locals < s.heap.objs.size := let ⟨_, hn, _⟩ := I.loc; hn.lt
theorem Inv.sz (I : Inv X pins σ H s) : X.s₀.heap.objs.size <= s.heap.objs.size := Nat.le_trans I.ok.above (Nat.le_of_lt I.lt)
theorem Inv.nofs (I : Inv X pins σ H s) {a : Addr} (h : s.heap.objs.size <= a) : a ∉ X.fs := fun hb => by
 obtain ⟨_, o, ho, _⟩ := I.ok.funs.mem hb
 exact absurd (Nat.lt_of_lt_of_le (Heap.lt_size ho) (Nat.le_trans I.sz h)) (Nat.lt_irrefl _)
theorem Inv.cne (I : Inv X pins σ H s) : ∀ x c, X.env.cells.lookup x = some c -> c ≠ X.env.locals := fun x c e z => by
 obtain ⟨v, o, ho, hd⟩ := I.cell x c e
 obtain ⟨m, ⟨o', es, ep, ho', hd', _⟩, _⟩ := I.loc
 rw [z, ho'] at ho; cases ho; rw [hd'] at hd; cases hd
theorem Inv.funs (I : Inv X pins σ H s) : s.heap.FunFrames X.base X.outer := by
 have all : ∀ (l : List Env), (∀ b ∈ frs l, b ∈ X.fs) -> X.s₀.heap.FunFrames X.base l -> s.heap.FunFrames X.base l := by
  intro l
  induction l with
  | nil => intro _ _; trivial
  | cons env r ih =>
   intro hs hl
   obtain ⟨hk, ⟨L, o, hf, hn, ho, hd⟩, hr⟩ := hl
   have hL : L ∈ X.fs := hs L (by unfold frs; rw [List.filterMap_cons, hf]; exact List.mem_cons_self)
   obtain ⟨sl, e⟩ := I.base.slot L o ho (I.ok.frf L hL) hL fun z => I.ok.exfs L z hL
   exact ⟨hk, ⟨L, _, hf, hn, e, hd⟩, ih (fun b hb => hs b (by unfold frs; rw [List.filterMap_cons, hf]; exact List.mem_cons_of_mem _ hb)) hr⟩
 exact all X.outer (fun _ hb => hb) I.ok.funs
theorem Inv.stack (I : Inv X pins σ H s) : s.heap.FunFrames X.base X.stack := by
 rcases I.ok.stk with e | ⟨e, hf⟩
 ·rw [e]; exact I.funs
 ·rw [e]
  obtain ⟨m, hn, _⟩ := I.loc
  refine .cons (by rw [I.ok.kind]; decide) hf hn ?_ I.funs
  exact Heap.get?_none_of_le (Nat.le_trans I.ok.bsz I.ok.above)
theorem Inv.stkSub (I : Inv X pins σ H s) : ∀ b ∈ frs X.stack, b ∈ X.env.locals :: X.fs := fun b hb => by
 rcases I.ok.stk with e | ⟨e, hf⟩
 ·rw [e] at hb; exact List.mem_cons_of_mem _ hb
 ·rw [e] at hb
  unfold frs at hb
  rw [List.filterMap_cons, hf] at hb
  exact hb
theorem Inv.stkFree (I : Inv X pins σ H s) : ∀ b ∈ frs X.stack, H b = none := fun b hb => by
 rcases List.mem_cons.mp (I.stkSub b hb) with e | hb
 ·rw [e]; exact I.free
 ·obtain ⟨_, o, ho, _⟩ := I.ok.funs.mem hb
  exact I.base.free b o ho (I.ok.frf b hb) fun z => I.ok.exfs b z hb
theorem Inv.step {g' : Array GenState} {t' : Nat} {d' : Drawn} {ch : List Addr} (I : Inv X pins σ H s)
  (hch : ∀ b ∈ ch, (b ∈ X.ex \/ X.s₀.heap.objs.size <= b) /\ b ≠ X.env.locals /\ (∀ x c, X.env.cells.lookup x = some c -> c ≠ b) /\ ∀ p ∈ X.pn ++ pins, p.1 ≠ b)
  (keep : ∀ b o, b ≠ X.env.locals -> b ∉ X.fs -> b ∉ ch -> s.heap.get? b = some o -> H b = none -> h'.get? b = some o)
  (slot : ∀ b o, b ≠ X.env.locals -> b ∈ X.fs -> b ∉ ch -> s.heap.get? b = some o -> H b = none -> ∃ sl, h'.get? b = some { o with slots := sl }) (free : ∀ b o, b ∉ ch -> s.heap.get? b = some o -> H b = none -> H' b = none)
  (there : ∀ b o, b ∉ ch -> s.heap.get? b = some o -> ∃ o', h'.get? b = some o')
  (tups : ∀ b xs, H b = some (.tup xs) -> H' b = some (.tup xs)) (frzs : ∀ b o u, H b = some (.frz o u) -> H' b = some (.frz o u)) (tbls : ∀ b ps, H b = some (.tbl ps) -> ∃ more, H' b = some (.tbl (ps ++ more)))
  (ns : ∀ m, s.heap.Ns X.env.locals m -> h'.Ns X.env.locals m) (hok : HOk X.prog X.w H' h') (hg : AllBare g') :
  Inv X pins σ H' { s with heap := h', gens := g', drawn := d', toks := t' } := by
 have neL : ∀ b o, X.s₀.heap.get? b = some o -> b ≠ X.env.locals := fun b o e => Nat.ne_of_lt (Nat.lt_of_lt_of_le (Heap.lt_size e) I.ok.above)
 have neC : ∀ b o, X.s₀.heap.get? b = some o -> b ∉ X.ex -> b ∉ ch := fun b o e hx hb => by
  rcases (hch b hb).1 with z | z
  ·exact hx z
  ·exact absurd (Nat.lt_of_lt_of_le (Heap.lt_size e) z) (Nat.lt_irrefl _)
 have cellK : ∀ x c, X.env.cells.lookup x = some c -> ∀ v, s.heap.IsCell c v -> h'.IsCell c v := fun x c e v ⟨o, ho, hd⟩ => by
  have nch : c ∉ ch := fun z => (hch c z).2.2.1 x c e rfl
  by_cases hc : c ∈ X.fs
  ·obtain ⟨sl, q⟩ := slot c o (I.cne x c e) hc nch ho (I.freeC x c e)
   exact ⟨_, q, hd⟩
  ·exact ⟨o, keep c o (I.cne x c e) hc nch ho (I.freeC x c e), hd⟩
 refine ⟨I.ok, I.os, hg, ⟨fun b o e n hb hx => ?_, fun b o e n hb hx => ?_, fun b o e n hx => ?_, fun b o e hx => ?_, fun b xs e => tups b xs (I.base.tups b xs e), fun b o xs e => frzs b o xs (I.base.frzs b o xs e), fun b ps e => ?_⟩, ?_, fun x c e => ?_, ?_, fun x c e => ?_, fun p hp => ?_, hok, I.len⟩
 ·exact keep b o (neL b o e) hb (neC b o e hx) (I.base.keep b o e n hb hx) (I.base.free b o e n hx)
 ·obtain ⟨sl, e1⟩ := I.base.slot b o e n hb hx
  obtain ⟨sl', e2⟩ := slot b _ (neL b o e) hb (neC b o e hx) e1 (I.base.free b o e n hx)
  exact ⟨sl', e2⟩
 ·obtain ⟨o', e1⟩ := I.base.there b o e hx
  exact free b o' (neC b o e hx) e1 (I.base.free b o e n hx)
 ·obtain ⟨o', e1⟩ := I.base.there b o e hx
  exact there b o' (neC b o e hx) e1
 ·obtain ⟨m1, e1⟩ := I.base.tbls b ps e
  obtain ⟨m2, e2⟩ := tbls b _ e1
  exact ⟨m1 ++ m2, by rw [e2, Array.append_assoc]⟩
 ·obtain ⟨m, hn, hl⟩ := I.loc
  refine ⟨m, ns m hn, fun i x v e1 e2 e3 => ?_⟩
  obtain ⟨u, r, l⟩ := hl i x v e1 e2 e3
  refine ⟨u, r, ?_⟩
  rcases l with l | ⟨k, c, e, z⟩
  ·exact .inl l
  ·exact .inr ⟨k, c, e, cellK x c e _ z⟩
 ·obtain ⟨v, z⟩ := I.cell x c e
  exact ⟨v, cellK x c e v z⟩
 ·obtain ⟨m, ⟨o, _, _, ho, _⟩, _⟩ := I.loc
  exact free _ o (fun z => (hch _ z).2.1 rfl) ho I.free
 ·obtain ⟨v, o, ho, hd⟩ := I.cell x c e
  exact free c o (fun z => (hch c z).2.2.1 x c e rfl) ho (I.freeC x c e)
 ·obtain ⟨e, n, ne, nf, d⟩ := I.pin p hp
  have nch : p.1 ∉ ch := fun z => (hch p.1 z).2.2.2 p hp rfl
  exact ⟨keep p.1 p.2 ne nf nch e n, free p.1 p.2 nch e n, ne, nf, d⟩
theorem Inv.un {t' : Nat} (I : Inv X pins σ H s) (u : Un X.fs [] H H' s.heap h') (hok : HOk X.prog X.w H' h') : Inv X pins σ H' { s with heap := h', toks := t' } := by
 obtain ⟨m, ⟨o, es, ep, ho, r⟩, _⟩ := id I.loc
 obtain ⟨sl, hL⟩ := u.any ho I.free (by simp)
 exact I.step (g' := s.gens) (d' := s.drawn) (ch := []) (fun _ z => nomatch z) (fun b o _ hb _ e n => u.keep b o e n hb (by simp)) (fun b o _ hb _ e n => u.slot b o e n hb (by simp)) (fun b o _ e n => u.free b o e n (by simp)) (fun b o _ e => u.there b o e (by simp)) u.tups u.frzs u.tbls (fun m' hm => by
  obtain ⟨o', es', ep', ho', r'⟩ := hm
  rw [ho] at ho'; cases ho'
  exact ⟨_, es', ep', hL, r'⟩) hok I.bare
theorem Inv.call {g' : Array GenState} {t' : Nat} {d' : Drawn} {ch : List Addr} (I : Inv X pins σ H s) (u : Un (frs X.stack) ch H H' s.heap h') (hok : HOk X.prog X.w H' h') (hg : AllBare g')
  (hch : ∀ b ∈ ch, (b ∈ X.ex \/ X.s₀.heap.objs.size <= b) /\ b ≠ X.env.locals /\ (∀ x c, X.env.cells.lookup x = some c -> c ≠ b) /\ ∀ p ∈ X.pn ++ pins, p.1 ≠ b) :
  Inv X pins σ H' { s with heap := h', gens := g', drawn := d', toks := t' } := by
 obtain ⟨m, ⟨o, es, ep, ho, r⟩, _⟩ := id I.loc
 obtain ⟨sl, hL⟩ := u.any ho I.free fun z => (hch _ z).2.1 rfl
 exact I.step (ch := ch) hch (fun b o hL hb hc e n => u.keep b o e n (fun z => (List.mem_cons.mp (I.stkSub b z)).elim hL hb) hc) (fun b o _ _ hc e n => u.any e n hc) (fun b o hc e n => u.free b o e n hc) (fun b o hc e => u.there b o e hc) u.tups u.frzs u.tbls (fun m' hm => by
  obtain ⟨o', es', ep', ho', r'⟩ := hm
  rw [ho] at ho'; cases ho'
  exact ⟨_, es', ep', hL, r'⟩) hok hg
theorem Inv.turned {t' : Nat} {it : Addr} (I : Inv X pins σ H s) (k : ∀ b o, b ≠ it -> s.heap.get? b = some o -> h'.get? b = some o) (hn : H it = none) (hL : it ≠ X.env.locals)
  (h1 : it ∈ X.ex \/ X.s₀.heap.objs.size <= it) (h2 : ∀ x c, X.env.cells.lookup x = some c -> c ≠ it) (h3 : ∀ p ∈ X.pn ++ pins, p.1 ≠ it) : Inv X pins σ H { s with heap := h', toks := t' } := by
 have nit : ∀ b u, H b = some u -> b ≠ it := fun b u e z => by rw [z, hn] at e; cases e
 refine I.step (g' := s.gens) (d' := s.drawn) (ch := [it]) (fun b hb => ?_) (fun b o _ _ hc e _ => k b o (fun z => hc (by simp [z])) e) (fun b o _ _ hc e _ => ⟨o.slots, k b o (fun z => hc (by simp [z])) e⟩) (fun _ _ _ _ n => n)
  (fun b o hc e => ⟨o, k b o (fun z => hc (by simp [z])) e⟩) (fun _ _ e => e) (fun _ _ _ e => e) (fun b ps e => ⟨#[], by rw [e]; simp⟩) (fun m hm => ?_) (fun b u e => ?_) I.bare
 ·have e : b = it := by simpa using hb
  subst e
  exact ⟨h1, hL, h2, h3⟩
 ·obtain ⟨o, es, ep, ho, r⟩ := hm
  exact ⟨o, es, ep, k _ o (Ne.symm hL) ho, r⟩
 ·refine (I.hok b u e).stay (fun c v hc q => k c v ?_ q) (fun _ q => q) fun _ _ q => q
  rcases hc with z | z
  ·rw [z]; exact nit b u e
  ·exact nit c _ z
theorem Inv.tok (I : Inv X pins σ H s) (t : Nat) : Inv X pins σ H { s with toks := t } := I.un (h' := s.heap) (t' := t) Un.refl I.hok
theorem Inv.kept {t' : Nat} (I : Inv X pins σ H s) (k : ∀ b u, s.heap.get? b = some u -> h'.get? b = some u) : Inv X pins σ H { s with heap := h', toks := t' } := I.un (Un.kept k) (I.hok.kept k)
theorem Inv.laid {a : Addr} {o : HO} {t' : Nat} (I : Inv X pins σ H s) (k : ∀ b u, s.heap.get? b = some u -> h'.get? b = some u) (hp : s.heap.objs.size <= a) (new : ObjOk X.prog X.w (upd H a o) h' a o) :
  Inv X pins σ (upd H a o) { s with heap := h', toks := t' } := I.un (Un.laid k hp (I.hok.fresh hp)) (I.hok.laid k hp new)
theorem Inv.write {x e : Addr} {o : HO} {t' : Nat} (I : Inv X pins σ H s) (mu : Mut (H x)) (he : e = x \/ H e = some (.own x)) (k : ∀ b u, b ≠ e -> s.heap.get? b = some u -> h'.get? b = some u) (heo : ∃ u, h'.get? e = some u)
  (new : ObjOk X.prog X.w (upd H x o) h' x o) : Inv X pins σ (upd H x o) { s with heap := h', toks := t' } := I.un (Un.write mu he k heo) (I.hok.write mu he k heo new)
theorem Inv.weak {σ' : List (Option V)} (I : Inv X pins σ H s) (hl : σ'.length = σ.length) (w : ∀ (i : Nat) v, σ'[i]? = some (some v) -> σ[i]? = some (some v)) : Inv X pins σ' H s :=
 ⟨I.ok, I.os, I.bare, I.base, let ⟨m, hn, hl'⟩ := I.loc; ⟨m, hn, fun i x v e1 e2 e3 => hl' i x v e1 (w i v e2) e3⟩, I.cell, I.free, I.freeC, I.pin, I.hok, hl.trans I.len⟩
theorem Inv.pins_of {pins' : List (Addr × Obj)} (I : Inv X pins σ H s) (h : ∀ p ∈ pins', s.heap.get? p.1 = some p.2 /\ H p.1 = none /\ p.1 ≠ X.env.locals /\ p.1 ∉ X.fs /\ ∀ v, p.2.data ≠ .cell v) : Inv X pins' σ H s :=
 ⟨I.ok, I.os, I.bare, I.base, I.loc, I.cell, I.free, I.freeC, fun p hp => (List.mem_append.mp hp).elim (fun z => I.pin p (List.mem_append_left _ z)) (h p), I.hok, I.len⟩
theorem zco {N : List Str} (hN : N.Nodup) {i j : Nat} {x : Str} (a : N[i]? = some x) (b : N[j]? = some x) : i = j := by
 obtain ⟨h1, e1⟩ := List.getElem?_eq_some_iff.mp a
 obtain ⟨h2, e2⟩ := List.getElem?_eq_some_iff.mp b
 exact (List.getElem_inj hN).mp (e1.trans e2.symm)
theorem zdc {M : Model} {A : Around} {E : Value -> Shared -> Prop} {i : Nat} {x : Str} {v : V} {u : Value} {Q : Unit -> Shared -> Prop} (I : Inv X pins σ H s) (hN : X.N.Nodup) (hi : X.N[i]? = some x) (hx : Loc X.env.scope x) (r : RelV v u)
  (h : ∀ s', Inv X pins (σ.set i (some v)) H s' -> (∃ a, Heap.SameBut a s.heap s'.heap /\ (a = X.env.locals \/ X.env.cells.lookup x = some a)) -> Q () s') (hf : X.fn x = true \/ X.env.scope.names.lookup x = some .local := by first | exact .inl rfl | exact .inr rfl | assumption) : wpAny M A (storeName X.env x u) Q E s := by
 obtain ⟨m, hn, hl⟩ := id I.loc
 have hcls : (X.env.scope.kind == .class || (X.env.scope.kind == .module && X.env.locals != X.env.globals)) = false := by rw [I.ok.kind]; rfl
 have hiσ : i < σ.length := by rw [I.len]; exact (List.getElem?_eq_some_iff.mp hi).1
 have cne := I.cne
 have tracked : ∀ {a : Addr} {h' : Heap}, (∃ o, s.heap.get? a = some o /\ H a = none) -> Heap.SameBut a s.heap h' -> HOk X.prog X.w H h' := fun {a h'} ha hs b ob e => by
  obtain ⟨_, _, hfree⟩ := ha
  refine (I.hok b ob e).stay (fun c w' hc q => (hs.2 c ?_).trans q) (fun _ q => q) fun _ _ q => q
  rintro rfl
  rcases hc with rfl | hc
  ·rw [hfree] at e; cases e
  ·rw [hfree] at hc; cases hc
 rcases hx with hk | hk
 ·refine wpAny_storeName_local hk hn (fun h' hn' hs => ?_) hcls
  obtain ⟨oL, _, _, hoL, _⟩ := id hn
  refine h _ ⟨I.ok, I.os, I.bare, ⟨fun b o e n hb hx => ?_, fun b o e n hb hx => ?_, I.base.free, fun b o e hx => ?_, I.base.tups, I.base.frzs, I.base.tbls⟩, ⟨_, hn', fun j y v' e1 e2 e3 => ?_⟩, fun y c e => ?_, I.free, I.freeC, fun p hp => ?_, tracked ⟨oL, hoL, I.free⟩ hs, by simpa using I.len⟩ ⟨_, hs, .inl rfl⟩
  ·exact (hs.2 b (Nat.ne_of_lt (Nat.lt_of_lt_of_le (Heap.lt_size e) I.ok.above))).trans (I.base.keep b o e n hb hx)
  ·obtain ⟨sl, e1⟩ := I.base.slot b o e n hb hx
   exact ⟨sl, (hs.2 b (Nat.ne_of_lt (Nat.lt_of_lt_of_le (Heap.lt_size e) I.ok.above))).trans e1⟩
  ·obtain ⟨o', e1⟩ := I.base.there b o e hx
   exact ⟨o', (hs.2 b (Nat.ne_of_lt (Nat.lt_of_lt_of_le (Heap.lt_size e) I.ok.above))).trans e1⟩
  ·by_cases hj : j = i
   ·subst hj
    rw [hi] at e1; cases e1
    rw [List.getElem?_set_self hiσ] at e2
    cases e2
    exact ⟨u, r, .inl ⟨hk, by simp⟩⟩
   ·rw [List.getElem?_set_ne (Ne.symm hj)] at e2
    obtain ⟨u', r', q⟩ := hl j y v' e1 e2 e3
    refine ⟨u', r', ?_⟩
    rcases q with ⟨k, e⟩ | ⟨k, c, e, z⟩
    ·refine .inl ⟨k, ?_⟩
     have : y ≠ x := fun e => hj (zco hN e1 (e ▸ hi))
     simp [this, e]
    ·exact .inr ⟨k, c, e, z.sameBut hs (cne y c e)⟩
  ·obtain ⟨w', z⟩ := I.cell y c e
   exact ⟨w', z.sameBut hs (cne y c e)⟩
  ·obtain ⟨e, n, ne, nf, d⟩ := I.pin p hp
   exact ⟨(hs.2 p.1 ne).trans e, n, ne, nf, d⟩
 ·have hfn : X.fn x = true := by
   rcases hf with z | z
   ·exact z
   ·rw [z] at hk; cases hk
  obtain ⟨c, hc⟩ := I.ok.has x (.inl hk)
  obtain ⟨w', z⟩ := I.cell x c hc
  refine wpAny_storeName_cell I.ok.kind hk hc z (fun h' hc' hs => ?_)
  obtain ⟨oc, hoc, hocd⟩ := id z
  refine h { s with heap := h' } ⟨I.ok, I.os, I.bare, ⟨fun b o e n hb hx => ?_, fun b o e n hb hx => ?_, I.base.free, fun b o e hx => ?_, I.base.tups, I.base.frzs, I.base.tbls⟩, ⟨m, hn.sameBut hs (Ne.symm (cne x c hc)), fun j y v' e1 e2 e3 => ?_⟩, fun y c' e => ?_, I.free, I.freeC, fun p hp => ?_, tracked ⟨oc, hoc, I.freeC x c hc⟩ hs, by simpa using I.len⟩ ⟨c, hs, .inr hc⟩
  ·exact (hs.2 b (Nat.ne_of_lt (Nat.lt_of_lt_of_le (Heap.lt_size e) (I.ok.cab x c hfn hc)))).trans (I.base.keep b o e n hb hx)
  ·obtain ⟨sl, e1⟩ := I.base.slot b o e n hb hx
   exact ⟨sl, (hs.2 b (Nat.ne_of_lt (Nat.lt_of_lt_of_le (Heap.lt_size e) (I.ok.cab x c hfn hc)))).trans e1⟩
  ·obtain ⟨o', e1⟩ := I.base.there b o e hx
   exact ⟨o', (hs.2 b (Nat.ne_of_lt (Nat.lt_of_lt_of_le (Heap.lt_size e) (I.ok.cab x c hfn hc)))).trans e1⟩
  ·by_cases hj : j = i
   ·subst hj
    rw [hi] at e1; cases e1
    rw [List.getElem?_set_self hiσ] at e2
    cases e2
    exact ⟨u, r, .inr ⟨.inl hk, c, hc, hc'⟩⟩
   ·rw [List.getElem?_set_ne (Ne.symm hj)] at e2
    obtain ⟨u', r', q⟩ := hl j y v' e1 e2 e3
    refine ⟨u', r', ?_⟩
    rcases q with q | ⟨k, c', e, z'⟩
    ·exact .inl q
    ·refine .inr ⟨k, c', e, z'.sameBut hs ?_⟩
     rintro rfl
     exact hj (zco hN e1 (I.ok.inj _ _ _ e hc ▸ hi))
  ·by_cases hcc : c' = c
   ·subst hcc; exact ⟨_, hc'⟩
   ·obtain ⟨w2, z2⟩ := I.cell y c' e
    exact ⟨w2, z2.sameBut hs hcc⟩
  ·obtain ⟨e, n, ne, nf, d⟩ := I.pin p hp
   refine ⟨(hs.2 p.1 ?_).trans e, n, ne, nf, d⟩
   intro q
   rw [q, hoc] at e
   have q' : oc = p.2 := Option.some.inj e
   exact d w' (by rw [<- q']; exact hocd)
theorem zcp {M : Model} {A : Around} {E : Value -> Shared -> Prop} {i : Nat} {x : Str} {v : V} {u : Value} {Q : Unit -> Shared -> Prop} (I : Inv X pins σ H s) (hN : X.N.Nodup) (hi : X.N[i]? = some x) (hx : Loc X.env.scope x) (r : RelV v u)
  (h : ∀ s', Inv X pins (σ.set i (some v)) H s' -> Q () s') (hf : X.fn x = true \/ X.env.scope.names.lookup x = some .local := by first | exact .inl rfl | exact .inr rfl | assumption) : wpAny M A (storeName X.env x u) Q E s :=
 zdc I hN hi hx r (fun s' I' _ => h s' I') hf
theorem Inv.call' {s' : Shared} {ch : List Addr} (I : Inv X pins σ H s) (ho : s'.os = s.os) (u : Un (frs X.stack) ch H H' s.heap s'.heap) (hok : HOk X.prog X.w H' s'.heap) (hg : AllBare s'.gens)
  (hch : ∀ b ∈ ch, (b ∈ X.ex \/ X.s₀.heap.objs.size <= b) /\ b ≠ X.env.locals /\ (∀ x c, X.env.cells.lookup x = some c -> c ≠ b) /\ ∀ p ∈ X.pn ++ pins, p.1 ≠ b) : Inv X pins σ H' s' := by
 obtain ⟨h', g', d', t', o'⟩ := s'
 have e : o' = s.os := ho
 subst e
 exact I.call (g' := g') (t' := t') (d' := d') u hok hg hch
end
abbrev XK := Value -> Option Addr -> Hp -> Prop
abbrev St := List (Option V)
abbrev VK := V -> Hp -> Prop
abbrev TE := St -> Hp -> VK -> Prop
abbrev TT := St -> Hp -> (Bool -> Hp -> Prop) -> Prop
abbrev TA := St -> Hp -> (List V -> Hp -> Prop) -> Prop
structure Ends where
 nx : St -> Hp -> Prop
 rt : VK
 bk : St -> Hp -> Prop := fun _ _ => False
 ct : St -> Hp -> Prop := fun _ _ => False
abbrev TS := Ends -> St -> Hp -> Prop
def EP (X : Cx) (pins : List (Addr × Obj)) (σ : St) (Q : VK) (u : Value) (s' : Shared) : Prop := ∃ v H', Inv X pins σ H' s' /\ RelV v u /\ Q v H'
def TP (X : Cx) (pins : List (Addr × Obj)) (σ : St) (Q : Bool -> Hp -> Prop) (b : Bool) (s' : Shared) : Prop := ∃ H', Inv X pins σ H' s' /\ Q b H'
def AP (X : Cx) (pins : List (Addr × Obj)) (σ : St) (Q : List V -> Hp -> Prop) (us : List Value) (s' : Shared) : Prop := ∃ vs H', Inv X pins σ H' s' /\ Vals vs us /\ Q vs H'
def SP (X : Cx) (pins : List (Addr × Obj)) (D : Ends) (f : Flow) (s' : Shared) : Prop :=
 match f with
 | .next => ∃ σ' H', Inv X pins σ' H' s' /\ D.nx σ' H'
 | .brk => ∃ σ' H', Inv X pins σ' H' s' /\ D.bk σ' H'
 | .cont => ∃ σ' H', Inv X pins σ' H' s' /\ D.ct σ' H'
 | .ret u => ∃ v σ' H', Inv X pins σ' H' s' /\ RelV v u /\ D.rt v H'
def PE (X : Cx) (e : Expr) (t : TE) : Prop :=
 ∀ (pins : List (Addr × Obj)) (s : Shared) (σ : St) (H : Hp) (Q : VK), Inv X pins σ H s -> t σ H Q -> wpAny (model X.prog X.w) X.A (eval e X.env) (EP X pins σ Q) X.xe s
def PT (X : Cx) (e : Expr) (t : TT) : Prop :=
 ∀ (pins : List (Addr × Obj)) (s : Shared) (σ : St) (H : Hp) (Q : Bool -> Hp -> Prop), Inv X pins σ H s -> t σ H Q -> wpAny (model X.prog X.w) X.A (isTrue e X.env (eval e X.env)) (TP X pins σ Q) X.xe s
def PW (X : Cx) (e : Expr) (t : TT) : Prop :=
 ∀ (whole : Sem Value) (pins : List (Addr × Obj)) (s : Shared) (σ : St) (H : Hp) (Q : Bool -> Hp -> Prop), Inv X pins σ H s -> t σ H Q -> wpAny (model X.prog X.w) X.A (isTrue e X.env whole) (TP X pins σ Q) X.xe s
theorem PW.pt {X : Cx} {e : Expr} {t : TT} (h : PW X e t) : PT X e t := h _
def PA (X : Cx) (es : List Expr) (t : TA) : Prop :=
 ∀ (pos : Pos) (pins : List (Addr × Obj)) (s : Shared) (σ : St) (H : Hp) (Q : List V -> Hp -> Prop), Inv X pins σ H s -> t σ H Q -> wpAny (model X.prog X.w) X.A (spliced (backTo pos (starEach es X.env))) (AP X pins σ Q) X.xe s
def PS (X : Cx) (st : Stmt) (t : TS) : Prop :=
 ∀ (pins : List (Addr × Obj)) (s : Shared) (σ : St) (H : Hp) (D : Ends), Inv X pins σ H s -> t D σ H -> wpAny (model X.prog X.w) X.A (exec st X.env) (SP X pins D) X.xe s
def PSs (X : Cx) (st : List Stmt) (t : TS) : Prop :=
 ∀ (pins : List (Addr × Obj)) (s : Shared) (σ : St) (H : Hp) (D : Ends), Inv X pins σ H s -> t D σ H -> wpAny (model X.prog X.w) X.A (execs st X.env) (SP X pins D) X.xe s
theorem thn {α : Type} {t : Sem α} {Q Q' : α -> Shared -> Prop} {M : Model} {A : Around} {E : Value -> Shared -> Prop} {s : Shared} (h : wpAny M A t Q E s) (hQ : ∀ a s, Q a s -> Q' a s) : wpAny M A t Q' E s := wpAny_mono h hQ fun _ _ x => x
end L2
namespace L2
open PySem PySem.Spec PyProof.Rows
section
variable {X : Cx}
theorem bin {a b : Expr} {ta tb : TE} (ha : PE X a ta) (hb : PE X b tb) {pins : List (Addr × Obj)} {s : Shared} {σ : St} {H : Hp} {R : V -> V -> Hp -> Prop} (I : Inv X pins σ H s) (h : ta σ H fun x H1 => tb σ H1 fun y H2 => R x y H2)
  {α : Type} {Q : α -> Shared -> Prop} {f : Value -> Value -> Sem α}
  (hf : ∀ v u s2 x y H2, Inv X pins σ H2 s2 -> RelV x v -> RelV y u -> R x y H2 -> wpAny (model X.prog X.w) X.A (f v u) Q X.xe s2) :
  wpAny (model X.prog X.w) X.A (eval a X.env) (fun v s₁ => wpAny (model X.prog X.w) X.A (eval b X.env) (fun u s₂ => wpAny (model X.prog X.w) X.A (f v u) Q X.xe s₂) X.xe s₁) X.xe s := by
 refine thn (ha pins s σ H _ I h) fun v s1 ⟨x, H1, I1, r1, q1⟩ => ?_
 refine thn (hb pins s1 σ H1 _ I1 q1) fun u s2 ⟨y, H2, I2, r2, q2⟩ => ?_
 exact hf v u s2 x y H2 I2 r1 r2 q2
def tVar (i : Nat) : TE := fun σ H Q => ∃ v, σ[i]? = some (some v) /\ Q v H
def tC (v : V) : TE := fun _ H Q => Q v H
theorem yfG {i : Nat} {x : Str} {pos : Pos} (hN : X.N[i]? = some x) (hv : Vis X.env.scope x) (hd : (x == ("__debug__" : Str)) = false := by decide) (hcd : (x == ("__classdict__" : Str)) = false := by decide) : PE X (.Name x pos) (tVar i) := by
 intro pins s σ H Q I h
 obtain ⟨v, e, h⟩ := h
 obtain ⟨m, hn, hl⟩ := I.loc
 obtain ⟨u, r, l⟩ := hl i x v hN e hv
 have fin : EP X pins σ Q u s := ⟨v, H, I, r, h⟩
 rcases l with ⟨hk, hm⟩ | ⟨hk, c, hc, hcell⟩
 ·exact wpAny_Name (wpAny_loadName_local I.ok.kind hk hn hm fin) hd
 ·rcases hk with hk | hk
  ·exact wpAny_Name (wpAny_loadName_cell I.ok.kind hk hc hcell fin) hd
  ·exact wpAny_Name (wpAny_loadName_free I.ok.kind hk hc hcell fin hcd) hd
theorem yfH {i j pos} : PE X (.Constant (.int i) j pos) (tC (.int i)) := fun _ _ _ H _ I h => wpAny_Constant_int ⟨.int i, H, I.tok _, ⟨_, rfl⟩, h⟩
theorem ygJ {b j pos} : PE X (.Constant (.bool b) j pos) (tC (.bl b)) := fun _ _ _ H _ I h => Constant_bool ⟨.bl b, H, I, rfl, h⟩
theorem yfI {x j pos} : PE X (.Constant (.str x) j pos) (tC (.str x)) := fun _ _ _ H _ I h => Calls.Constant_str ⟨.str x, H, I.tok _, ⟨_, rfl⟩, h⟩
def Gl (X : Cx) (x : Str) : Prop := X.env.kindOf x = some .globalImplicit
theorem zbX {E : Value -> Shared -> Prop} {pins : List (Addr × Obj)} {s : Shared} {σ : St} {H : Hp} {x : Str} {u : Value} {pos : Pos} {Q : Value -> Shared -> Prop} (I : Inv X pins σ H s) (hg : Gl X x) (hm : X.mg x = some u) (h : Q u s)
  (hd : (x == ("__debug__" : Str)) = false := by decide) : wpAny (model X.prog X.w) X.A (eval (.Name x pos) X.env) Q E s :=
 Calls.Name_function_global I.ok.kind hg (Calls.loadGlobal_global (by rw [I.ok.glob]; exact I.mod.glob.keeps I.bk) hm h) hd
theorem ydz {E : Value -> Shared -> Prop} {pins : List (Addr × Obj)} {s : Shared} {σ : St} {H : Hp} {x : Str} {u : Value} {pos : Pos} {Q : Value -> Shared -> Prop} (I : Inv X pins σ H s) (hg : Gl X x) (hm : X.mg x = none) (hv : bootBuiltins x = some u) (h : Q u s)
  (hn : x ≠ "__name__" := by decide) (hd : (x == ("__debug__" : Str)) = false := by decide) : wpAny (model X.prog X.w) X.A (eval (.Name x pos) X.env) Q E s := by
 obtain ⟨mb, h1, h2⟩ := I.mod.blt
 exact Calls.Name_function_global I.ok.kind hg (Calls.loadGlobal_builtin (by rw [I.ok.glob]; exact I.mod.glob.keeps I.bk) hm (by rw [I.ok.blt]; exact h1.keeps I.bk) ((h2 x hn).trans hv) h) hd
theorem zhF {x : Str} {v : V} {u : Value} {pos : Pos} (hg : Gl X x) (hm : X.mg x = some u) (r : RelV v u) (hd : (x == ("__debug__" : Str)) = false := by decide) : PE X (.Name x pos) (tC v) :=
 fun _ _ _ H _ I h => zbX I hg hm ⟨v, H, I, r, h⟩ hd
theorem zhG {x : Str} {v : V} {u : Value} {pos : Pos} (hg : Gl X x) (hm : X.mg x = none) (hv : bootBuiltins x = some u) (r : RelV v u) (hn : x ≠ "__name__" := by decide) (hd : (x == ("__debug__" : Str)) = false := by decide) : PE X (.Name x pos) (tC v) :=
 fun _ _ _ H _ I h => ydz I hg hm hv ⟨v, H, I, r, h⟩ hn hd
variable {a b : Expr} {ta tb : TE} {pos : Pos}
variable {tA tB' : TT} {rest : List Expr}
def tAnd (t u : TT) : TT := fun σ H Q => t σ H fun c H1 => if c = true then u σ H1 Q else Q false H1
def tOr (t u : TT) : TT := fun σ H Q => t σ H fun c H1 => if c = true then Q true H1 else u σ H1 Q
def tNot (t : TT) : TT := fun σ H Q => t σ H fun c H1 => Q (!c) H1
theorem zhH (ha : PT X a tA) : PW X (.BoolOp .And [a] pos) tA := by
 intro wh pins s σ H Q I h
 refine isTrue_and (thn (ha pins s σ H Q I h) fun c s1 e => ?_)
 cases c with
 | true => exact isTrue_and_nil e
 | false => exact e
theorem yfJ (ha : PT X a tA) : PW X (.BoolOp .Or [a] pos) tA := by
 intro wh pins s σ H Q I h
 refine isTrue_or (thn (ha pins s σ H Q I h) fun c s1 e => ?_)
 cases c with
 | false => exact isTrue_or_nil e
 | true => exact e
theorem yfK (ha : PT X a tA) (hb : PW X (.BoolOp .And (b :: rest) pos) tB') : PW X (.BoolOp .And (a :: b :: rest) pos) (tAnd tA tB') := by
 intro wh pins s σ H Q I h
 refine isTrue_and (thn (ha pins s σ H _ I h) fun c s1 ⟨H1, I1, q1⟩ => ?_)
 cases c with
 | true => exact hb wh pins s1 σ H1 Q I1 q1
 | false => exact ⟨H1, I1, q1⟩
theorem ygK (ha : PT X a tA) (hb : PW X (.BoolOp .Or (b :: rest) pos) tB') : PW X (.BoolOp .Or (a :: b :: rest) pos) (tOr tA tB') := by
 intro wh pins s σ H Q I h
 refine isTrue_or (thn (ha pins s σ H _ I h) fun c s1 ⟨H1, I1, q1⟩ => ?_)
 cases c with
 | true => exact ⟨H1, I1, q1⟩
 | false => exact hb wh pins s1 σ H1 Q I1 q1
theorem yfL (ha : PT X a tA) : PT X (.UnaryOp .Not a pos) (tNot tA) := by
 intro pins s σ H Q I h
 exact isTrue_not (ha pins s σ H (fun c H1 => Q (!c) H1) I h)
def ygL (ta tb : TE) : TE := fun σ H Q => ta σ H fun x H1 => ∃ c, x = .bl c /\ if c = true then tb σ H1 Q else Q (.bl false) H1
def tOrV (ta tb : TE) : TE := fun σ H Q => ta σ H fun x H1 => ∃ c, x = .bl c /\ if c = true then Q (.bl true) H1 else tb σ H1 Q
def ygM (ta : TE) : TE := fun σ H Q => ta σ H fun x H1 => ∃ c, x = .bl c /\ Q (.bl (!c)) H1
theorem yfM {op} {t : TE} (h : PE X a t) : PE X (.BoolOp op [a] pos) t := fun pins s σ H Q I hw => BoolOp_one (h pins s σ H Q I hw)
theorem yfN (ha : PE X a ta) (hb : PE X (.BoolOp .And (b :: rest) pos) tb) : PE X (.BoolOp .And (a :: b :: rest) pos) (ygL ta tb) := by
 intro pins s σ H Q I h
 refine BoolOp_and (thn (ha pins s σ H _ I h) fun v s1 ⟨x, H1, I1, r1, q1⟩ => ?_)
 obtain ⟨c, rfl, q1⟩ := q1
 cases r1
 refine wpAny_truthy_bool ?_
 cases c with
 | true => exact hb pins s1 σ H1 Q I1 q1
 | false => exact ⟨.bl false, H1, I1, rfl, q1⟩
theorem ygN (ha : PE X a ta) (hb : PE X (.BoolOp .Or (b :: rest) pos) tb) : PE X (.BoolOp .Or (a :: b :: rest) pos) (tOrV ta tb) := by
 intro pins s σ H Q I h
 refine BoolOp_or (thn (ha pins s σ H _ I h) fun v s1 ⟨x, H1, I1, r1, q1⟩ => ?_)
 obtain ⟨c, rfl, q1⟩ := q1
 cases r1
 refine wpAny_truthy_bool ?_
 cases c with
 | false => exact hb pins s1 σ H1 Q I1 q1
 | true => exact ⟨.bl true, H1, I1, rfl, q1⟩
theorem yfO (ha : PE X a ta) : PE X (.UnaryOp .Not a pos) (ygM ta) := by
 intro pins s σ H Q I h
 refine UnaryOp_ (thn (ha pins s σ H _ I h) fun v s1 ⟨x, H1, I1, r1, q1⟩ => ?_)
 obtain ⟨c, rfl, q1⟩ := q1
 cases r1
 exact not_of (wpAny_truthy_bool ⟨.bl (!c), H1, I1, rfl, q1⟩)
end
end L2
namespace L2
open PySem PySem.Spec PyProof.Rows
def SqL (K : PySem.W.Frag) (H : Hp) (a : Addr) (xs : List V) : Prop :=
 Rd H a (.lst xs) \/
  ∃ (o : Obj) (its : Array Value) (n : Nat), K.lookup a = some o /\ o.cls = .type "list" /\ o.dict = none /\ o.data = .seq its n /\ its.size <= sizeLine /\ Vals xs its.toList
def SqT (K : PySem.W.Frag) (H : Hp) (a : Addr) (xs : List V) : Prop :=
 Rd H a (.tup xs) \/
  ∃ (o : Obj) (its : Array Value) (n : Nat), K.lookup a = some o /\ o.cls = .type "tuple" /\ o.data = .seq its n /\ its.size <= sizeLine /\ Vals xs its.toList
def absV : Value -> Option V
 | .none => some .non
 | .bool b => some (.bl b)
 | .int i _ => some (.int i)
 | .str x _ => some (.str x)
 | .bytes b _ => some (.byt b)
 | .float b _ => some (.flt b)
 | .ref a => some (.ref a)
 | .type n => some (.ty n)
 | _ => none
theorem RelV.abs {x : V} {u : Value} (r : RelV x u) : absV u = some x := by
 cases x with
 | non => cases r; rfl
 | bl _ => cases r; rfl
 | int _ => obtain ⟨t, rfl⟩ := r; rfl
 | str _ => obtain ⟨t, rfl⟩ := r; rfl
 | byt _ => obtain ⟨t, rfl⟩ := r; rfl
 | flt _ => obtain ⟨t, rfl⟩ := r; rfl
 | ref _ => cases r; rfl
 | ty _ => cases r; rfl
theorem RelV.inj {x y : V} {u : Value} (r : RelV x u) (q : RelV y u) : x = y := Option.some.inj (r.abs.symm.trans q.abs)
theorem Vals.inj : ∀ {xs ys : List V} {us : List Value}, Vals xs us -> Vals ys us -> xs = ys
 | _, _, _, .nil, .nil => rfl
 | _, _, _, .cons r t, .cons r' t' => by rw [r.inj r', Vals.inj t t']
section
variable {X : Cx} {pins : List (Addr × Obj)} {σ : St} {H : Hp} {s : Shared} {a : Addr} {xs ys : List V}
theorem SqL.of {K : PySem.W.Frag} (h : H a = some (.lst xs)) : SqL K H a xs := .inl (.inl h)
theorem SqT.of {K : PySem.W.Frag} (h : H a = some (.tup xs)) : SqT K H a xs := .inl (.inl h)
theorem Inv.list (I : Inv X pins σ H s) (h : SqL X.K H a xs) : ∃ its : List Value, Vals xs its /\ PlainL s.heap a its.toArray /\ xs.length <= sizeLine := by
 rcases h with h | ⟨o, its, n, hk, hc, hd, hs, hz, r⟩
 ·obtain ⟨z, its, n, r, e⟩ := h.ok I.hok
  exact ⟨its, r, ⟨_, n, e, rfl, rfl, rfl⟩, z⟩
 ·refine ⟨its.toList, r, ⟨o, n, I.kIn a o hk, hc, hd, by simpa using hs⟩, ?_⟩
  have e := r.length
  simp only [Array.length_toList] at e
  omega
theorem Inv.tuple (I : Inv X pins σ H s) (h : SqT X.K H a xs) : ∃ its : List Value, Vals xs its /\ IsTup s.heap a its.toArray /\ xs.length <= sizeLine := by
 rcases h with h | ⟨o, its, n, hk, hc, hs, hz, r⟩
 ·obtain ⟨z, its, r, p⟩ := h.ok I.hok
  exact ⟨its, r, p, z⟩
 ·refine ⟨its.toList, r, ⟨o, I.kIn a o hk, hc, n, by simpa using hs⟩, ?_⟩
  have e := r.length
  simp only [Array.length_toList] at e
  omega
theorem Inv.list_inj (I : Inv X pins σ H s) (h : SqL X.K H a xs) (h' : SqL X.K H a ys) : xs = ys := by
 obtain ⟨its, r, ⟨o, n, e, _, _, d⟩, _⟩ := I.list h
 obtain ⟨its', r', ⟨o', n', e', _, _, d'⟩, _⟩ := I.list h'
 rw [e] at e'; cases e'
 rw [d] at d'
 injection d' with d1 _
 have : its = its' := by simpa using congrArg Array.toList d1
 subst this
 exact r.inj r'
theorem Inv.tuple_inj (I : Inv X pins σ H s) (h : SqT X.K H a xs) (h' : SqT X.K H a ys) : xs = ys := by
 obtain ⟨its, r, ⟨o, e, _, n, d⟩, _⟩ := I.tuple h
 obtain ⟨its', r', ⟨o', e', _, n', d'⟩, _⟩ := I.tuple h'
 rw [e] at e'; cases e'
 rw [d] at d'
 injection d' with d1 _
 have : its = its' := by simpa using congrArg Array.toList d1
 subst this
 exact r.inj r'
end
abbrev Cx.wish (X : Cx) (E : Value -> Shared -> Prop) : Cx := { X with xe := E }
abbrev Cx.nox (X : Cx) : Cx := X.wish fun _ _ => False
theorem Cx.Ok.wish {X : Cx} (ok : X.Ok) (E : Value -> Shared -> Prop) : (X.wish E).Ok :=
 ⟨ok.mod, ok.kind, ok.glob, ok.blt, ok.above, ok.inj, ok.has, ok.cab, ok.hd, ok.frames, ok.stk, ok.exf, ok.bs, ok.bsz, ok.noex, ok.exfs, ok.funs, ok.frf⟩
theorem Cx.Ok.unwish {X : Cx} {E : Value -> Shared -> Prop} (ok : (X.wish E).Ok) : X.Ok :=
 ⟨ok.mod, ok.kind, ok.glob, ok.blt, ok.above, ok.inj, ok.has, ok.cab, ok.hd, ok.frames, ok.stk, ok.exf, ok.bs, ok.bsz, ok.noex, ok.exfs, ok.funs, ok.frf⟩
section
variable {X : Cx} {pins : List (Addr × Obj)} {σ : St} {H : Hp} {s : Shared} {E : Value -> Shared -> Prop}
theorem Inv.wish (I : Inv X pins σ H s) (E : Value -> Shared -> Prop) : Inv (X.wish E) pins σ H s := ⟨I.ok.wish E, I.os, I.bare, I.base, I.loc, I.cell, I.free, I.freeC, I.pin, I.hok, I.len⟩
theorem Inv.unwish (I : Inv (X.wish E) pins σ H s) : Inv X pins σ H s := ⟨I.ok.unwish, I.os, I.bare, I.base, I.loc, I.cell, I.free, I.freeC, I.pin, I.hok, I.len⟩
theorem SP.unwish {D : Ends} {f : Flow} {s' : Shared} (h : SP (X.wish E) pins D f s') : SP X pins D f s' := by
 cases f with
 | next => obtain ⟨σ', H', I, q⟩ := h; exact ⟨σ', H', I.unwish, q⟩
 | brk => obtain ⟨σ', H', I, q⟩ := h; exact ⟨σ', H', I.unwish, q⟩
 | cont => obtain ⟨σ', H', I, q⟩ := h; exact ⟨σ', H', I.unwish, q⟩
 | ret u => obtain ⟨v, σ', H', I, r, q⟩ := h; exact ⟨v, σ', H', I.unwish, r, q⟩
end
section
variable {X : Cx} {st : Stmt} {rest : List Stmt} {t u : TS} {e : Expr} {te : TE} {pos : Pos}
def ygO : TS := fun D σ H => D.nx σ H
def tSeq (t u : TS) : TS := fun D σ H => t { D with nx := u D } σ H
theorem zhI : PSs X [] ygO := fun _ _ σ H _ I h => wpAny_execs_nil ⟨σ, H, I, h⟩
theorem zgC (h1 : PS X st t) (h2 : PSs X rest u) : PSs X (st :: rest) (tSeq t u) := by
 intro pins s σ H D I h
 refine wpAny_execs_cons (thn (h1 pins s σ H { D with nx := u D } I h) fun f s1 q => ?_)
 cases f with
 | next =>
  obtain ⟨σ', H', I', q⟩ := q
  exact h2 pins s1 σ' H' D I' q
 | ret v => exact q
 | brk => exact q
 | cont => exact q
theorem zhJ (h1 : PS X st t) : PSs X [st] t := by
 intro pins s σ H D I h
 refine wpAny_execs_cons (thn (h1 pins s σ H D I h) fun f s1 q => ?_)
 cases f with
 | next => exact wpAny_execs_nil q
 | ret v => exact q
 | brk => exact q
 | cont => exact q
theorem Inv.quiet {pins : List (Addr × Obj)} {σ : St} {H : Hp} {s : Shared} (I : Inv X pins σ H s) : interactive X.env = false := by simp [interactive, I.ok.kind]
def ygP (te : TE) : TS := fun D σ H => te σ H fun _ H1 => D.nx σ H1
theorem zhK (he : PE X e te) (hs : swapsWith e none pos.line X.env = pure false := by rfl) : PS X (.Expr e pos) (ygP te) := by
 intro pins s σ H D I h
 exact wpAny_Expr_any (thn (he pins s σ H _ I h) fun v s1 ⟨x, H1, I1, r1, q1⟩ => ⟨σ, H1, I1, q1⟩) I.quiet hs
def tRet (te : TE) : TS := fun D σ H => te σ H D.rt
theorem yfP (he : PE X e te) : PS X (.Return (some e) pos) (tRet te) := by
 intro pins s σ H D I h
 exact wpAny_Return_some (thn (he pins s σ H _ I h) fun v s1 ⟨x, H1, I1, r1, q1⟩ => ⟨x, σ, H1, I1, r1, q1⟩)
def tIfS (c : TT) (t u : TS) : TS := fun D σ H => c σ H fun b H1 => if b = true then t D σ H1 else u D σ H1
theorem ygQ {c : Expr} {a b : List Stmt} {tc : TT} (hc : PT X c tc) (ha : PSs X a t) (hb : PSs X b u) : PS X (.If c a b pos) (tIfS tc t u) := by
 intro pins s σ H D I h
 refine wpAny_If (thn (hc pins s σ H _ I h) fun d s1 ⟨H1, I1, q1⟩ => ?_)
 cases d with
 | true => exact ha pins s1 σ H1 D I1 q1
 | false => exact hb pins s1 σ H1 D I1 q1
end
abbrev TG := V -> St -> Hp -> (St -> Hp -> Prop) -> Prop
abbrev TGs := List V -> St -> Hp -> (St -> Hp -> Prop) -> Prop
def PG (X : Cx) (target : Expr) (t : TG) : Prop :=
 ∀ (pins : List (Addr × Obj)) (s : Shared) (σ : St) (H : Hp) (v : V) (u : Value) (Q : St -> Hp -> Prop), Inv X pins σ H s -> RelV v u -> t v σ H Q ->
  wpAny (model X.prog X.w) X.A (assign target X.env u) (fun _ s' => ∃ σ' H', Inv X pins σ' H' s' /\ Q σ' H') X.xe s
def PGs (X : Cx) (ts : List Expr) (t : TGs) : Prop :=
 ∀ (pins : List (Addr × Obj)) (s : Shared) (σ : St) (H : Hp) (vs : List V) (us : List Value) (Q : St -> Hp -> Prop), Inv X pins σ H s -> Vals vs us -> t vs σ H Q ->
  wpAny (model X.prog X.w) X.A (assignInOrder ((assignEach ts X.env).map (·.2)) us) (fun _ s' => ∃ σ' H', Inv X pins σ' H' s' /\ Q σ' H') X.xe s
abbrev TSet := V -> V -> V -> Hp -> (Hp -> Prop) -> Prop
def PSet (X : Cx) (t : TSet) : Prop :=
 ∀ (pins : List (Addr × Obj)) (s : Shared) (σ : St) (H : Hp) (o i v : V) (ov iv u : Value) (Q : Hp -> Prop), Inv X pins σ H s -> RelV o ov -> RelV i iv -> RelV v u -> t o i v H Q ->
  wpAny (model X.prog X.w) X.A (setItem ov iv u) (fun _ s' => ∃ H', Inv X pins σ H' s' /\ Q H') X.xe s
section
variable {X : Cx} {pos : Pos}
def ydI (i : Nat) : TG := fun v σ H Q => Q (σ.set i (some v)) H
theorem zbY {i : Nat} {x : Str} (hN : X.N.Nodup) (hi : X.N[i]? = some x) (hx : Loc X.env.scope x) (hf : X.fn x = true \/ X.env.scope.names.lookup x = some .local := by first | exact .inl rfl | exact .inr rfl | assumption) : PG X (.Name x pos) (ydI i) := by
 intro pins s σ H v u Q I r h
 exact wpAny_assign_Name (zcp I hN hi hx r (fun s' I' => ⟨_, H, I', h⟩) hf)
def gNil : TGs := fun vs σ H Q => vs = [] /\ Q σ H
def yeA (t : TG) (u : TGs) : TGs := fun vs σ H Q => ∃ v r, vs = v :: r /\ t v σ H fun σ' H' => u r σ' H' Q
theorem zet : PGs X [] gNil := by
 intro pins s σ H vs us Q I r h
 obtain ⟨e, h⟩ := h
 subst e
 cases r
 exact assignInOrder_nil ⟨σ, H, I, h⟩
theorem zcq {e : Expr} {es : List Expr} {t : TG} {u : TGs} (h1 : PG X e t) (h2 : PGs X es u)
  (hs : (assignEach (e :: es) X.env).map (·.2) = assign e X.env :: (assignEach es X.env).map (·.2) := by rfl) : PGs X (e :: es) (yeA t u) := by
 intro pins s σ H vs us Q I r h
 obtain ⟨v, vr, e1, h⟩ := h
 subst e1
 cases r with
 | cons r rr =>
  rw [hs]
  refine assignInOrder_cons (thn (h1 pins s σ H _ _ _ I r h) fun _ s1 ⟨σ1, H1, I1, q1⟩ => ?_)
  exact h2 pins s1 σ1 H1 _ _ Q I1 rr q1
def gTup (K : PySem.W.Frag) (n : Nat) (t : TGs) : TG := fun v σ H Q => ∃ a xs, v = .ref a /\ SqT K H a xs /\ xs.length = n /\ t xs σ H Q
theorem yeM {es : List Expr} {k : Nat} {t : TGs} {n : Nat} (hc : X.calm = true) (h : PGs X es t)
  (hn : (assignEach es X.env).length = n := by rfl) (hst : (assignEach es X.env).findIdx? (·.1) = none := by rfl) : PG X (.Tuple es k pos) (gTup X.K n t) := by
 intro pins s σ H v u Q I r hw
 obtain ⟨a, xs, e1, hq, hl, hw⟩ := hw
 subst e1
 cases r
 obtain ⟨its, rv, ht, hz⟩ := I.tuple hq
 refine assign_Tuple_tuple (I.ok.hd hc) ht (by simp [hn, <- hl, rv.length]) hst fun h' hx => ?_
 have I1 : Inv X pins σ H { s with heap := h' } := I.kept (t' := s.toks) fun b o e => hx b o (Nat.ne_of_lt (Heap.lt_size e)) e
 exact h pins _ σ H xs _ Q I1 (by simpa using rv) hw
def gSub (to ti : TE) (t : TSet) : TG := fun v σ H Q => to σ H fun o H1 => ti σ H1 fun i H2 => t o i v H2 fun H3 => Q σ H3
theorem yfQ {o i : Expr} {to ti : TE} {t : TSet} (ho : PE X o to) (hi : PE X i ti) (hs : PSet X t)
  (ha : ∀ v, assign (.Subscript o i pos) X.env v = (do
   let ov <- holding [v] (eval o X.env)
   let iv <- holding [v, ov] (eval i X.env)
   standAt pos
   holding [v, ov, iv] (setItem ov iv v)
   release [v, ov, iv] []) := by intro _; rfl) : PG X (.Subscript o i pos) (gSub to ti t) := by
 intro pins s σ H v u Q I r h
 rw [ha]
 refine wpAny_bind (wpAny_holding (thn (ho pins s σ H _ I h) fun ov s1 ⟨x, H1, I1, r1, q1⟩ => ?_))
 refine wpAny_bind (wpAny_holding (thn (hi pins s1 σ H1 _ I1 q1) fun iv s2 ⟨y, H2, I2, r2, q2⟩ => ?_))
 refine wpAny_bind (wpAny_standAt (wpAny_bind (wpAny_holding (thn (hs pins s2 σ H2 x y v ov iv u _ I2 r1 r2 r q2) fun _ s3 ⟨H3, I3, q3⟩ => ?_))))
 exact wpAny_release ⟨σ, H3, I3, q3⟩
def tAsg (te : TE) (g : TG) : TS := fun D σ H => te σ H fun x H1 => g x σ H1 D.nx
theorem yeN {tg e : Expr} {te : TE} {g : TG} (he : PE X e te) (hg : PG X tg g) (hs : swapsWithSole [tg] e pos.line X.env = pure false := by rfl) (hw : swappedStores [tg] e X.env = pure none := by rfl)
  (h1 : (assignEach [tg] X.env).map (·.2) = [assign tg X.env] := by rfl) : PS X (.Assign [tg] e pos) (tAsg te g) := by
 intro pins s σ H D I h
 refine wpAny_Assign_stores (thn (he pins s σ H _ I h) fun v s1 ⟨x, H1, I1, r1, q1⟩ => ?_) hs hw
 rw [h1]
 exact thn (hg pins s1 σ H1 x v _ I1 r1 q1) fun _ s2 q => q
theorem yfR {i : Nat} {x : Str} {e : Expr} {te : TE} {pos' : Pos} (hN : X.N.Nodup) (hi : X.N[i]? = some x) (hx : Loc X.env.scope x) (he : PE X e te) (hs : swapsWith e (some (.Name x pos')) pos.line X.env = pure false := by rfl) (hf : X.fn x = true \/ X.env.scope.names.lookup x = some .local := by first | exact .inl rfl | exact .inr rfl | assumption) :
  PS X (.Assign [.Name x pos'] e pos) (tAsg te (ydI i)) := by
 intro pins s σ H D I h
 refine wpAny_Assign_Name (thn (he pins s σ H _ I h) fun v s1 ⟨y, H1, I1, r1, q1⟩ => ?_) hs
 exact zcp I1 hN hi hx r1 (fun s2 I2 => ⟨_, H1, I2, q1⟩) hf
end
section
variable {X : Cx} {pos : Pos}
def yfS (c : TT) (tb : TS) : TS := fun D σ H => ∃ W : Nat -> St -> Hp -> Prop, (∃ m, W m σ H) /\ ∀ m σ H, W m σ H ->
 c σ H fun b H1 => if b = true then ∃ N : St -> Hp -> Prop, (∀ σ' H', N σ' H' -> ∃ m', m' < m /\ W m' σ' H') /\ tb { D with nx := N, ct := N, bk := D.nx } σ H1 else D.nx σ H1
theorem zgD {c : Expr} {body : List Stmt} {tc : TT} {tb : TS} (hp : PassesOwn (model X.prog X.w) X.A X.env X.xe) (hc : PT X c tc) (hb : PSs X body tb) : PS X (.While c body [] pos) (yfS tc tb) := by
 intro pins s σ H D I h
 obtain ⟨W, ⟨m0, w0⟩, turn⟩ := h
 refine wpAny_While (codeAny_whileLoop (fun n s' => ∃ σ' H', Inv X pins σ' H' s' /\ W n σ' H') ?_ m0 ⟨σ, H, I, w0⟩)
 rintro n s1 ⟨σ1, H1, I1, w1⟩
 refine wpAny_passesOwn hp (thn (hc pins s1 σ1 H1 _ I1 (turn n σ1 H1 w1)) fun b s2 ⟨H2, I2, q2⟩ => ?_)
 cases b with
 | true =>
  obtain ⟨N, hN, q2⟩ := q2
  rw [if_pos rfl]
  refine wpAny_passesOwn hp (thn (hb pins s2 σ1 H2 _ I2 q2) fun f s3 q3 => ?_)
  cases f with
  | next =>
   obtain ⟨σ3, H3, I3, n3⟩ := q3
   obtain ⟨m', hm, w3⟩ := hN σ3 H3 n3
   exact ⟨m', hm, σ3, H3, I3, w3⟩
  | cont =>
   obtain ⟨σ3, H3, I3, n3⟩ := q3
   obtain ⟨m', hm, w3⟩ := hN σ3 H3 n3
   exact ⟨m', hm, σ3, H3, I3, w3⟩
  | brk => exact q3
  | ret v => exact q3
 | false =>
  rw [if_neg Bool.false_ne_true]
  exact wpAny_execs_nil ⟨σ1, H2, I2, q2⟩
end
structure It where
 go : Nat -> Hp -> Prop
 yld : Nat -> Hp -> V -> Hp -> Prop
 stop : Nat -> Hp -> Prop
def FpOk (X : Cx) (pins : List (Addr × Obj)) (H : Hp) (b : Addr) : Prop :=
 H b = none /\ b ≠ X.env.locals /\ b ∉ X.fs /\ (b ∈ X.ex \/ X.s₀.heap.objs.size <= b) /\ (∀ x c, X.env.cells.lookup x = some c -> c ≠ b) /\ ∀ p ∈ X.pn ++ pins, p.1 ≠ b
theorem Inv.fpOk {X : Cx} {pins : List (Addr × Obj)} {σ : St} {H H' : Hp} {s : Shared} {b : Addr} (I : Inv X pins σ H s) (hb : s.heap.objs.size <= b) (hn : H' b = none) : FpOk X pins H' b := by
 refine ⟨hn, Nat.ne_of_gt (Nat.lt_of_lt_of_le I.lt hb), I.nofs hb, .inr (Nat.le_trans I.sz hb), fun x c e z => ?_, fun p hp z => ?_⟩
 ·obtain ⟨v, q⟩ := I.cell x c e
  exact absurd (Nat.lt_of_lt_of_le q.lt (by rw [z]; exact hb)) (Nat.lt_irrefl _)
 ·exact absurd (Nat.lt_of_lt_of_le (Heap.lt_size (I.pin p hp).1) (by rw [z]; exact hb)) (Nat.lt_irrefl _)
structure Turn (P : Program) (w : World) (K : PySem.W.Frag) (tg : Expr) (J : It) (fp : List Addr) (it : Addr) (tn : Nat -> Heap -> Prop) : Prop where
 mem : it ∈ fp
 obj : ∀ i h, tn i h -> ∀ b ∈ fp, ∃ o, h.get? b = some o /\ ∀ v, o.data ≠ .cell v
 keep : ∀ i h h', tn i h -> (∀ b ∈ fp, ∀ o, h.get? b = some o -> h'.get? b = some o) -> tn i h'
 item : ∀ (X : Cx), X.prog = P -> X.w = w -> X.K = K -> X.calm = true -> ∀ (i : Nat) (pins : List (Addr × Obj)) (s : Shared) (σ : St) (H : Hp) (E : Value -> Shared -> Prop), Inv X pins σ H s -> (∀ b ∈ fp, FpOk X pins H b) -> tn i s.heap -> J.go i H ->
  wpAny (model P w) X.A (pyNext (.ref it)) (fun r s1 => ∃ u, r = some u /\
   wpAny (model P w) X.A (letOwnedTupleGo tg (.ref it) u) (fun _ s2 => ∃ x H', Inv X pins σ H' s2 /\ RelV x u /\ J.yld i H x H' /\ tn (i + 1) s2.heap /\ ∀ b ∈ fp, H' b = none) E s1) E s
 done : ∀ (X : Cx), X.prog = P -> X.w = w -> X.K = K -> X.calm = true -> ∀ (i : Nat) (pins : List (Addr × Obj)) (s : Shared) (σ : St) (H : Hp) (E : Value -> Shared -> Prop), Inv X pins σ H s -> (∀ b ∈ fp, FpOk X pins H b) -> tn i s.heap -> J.stop i H ->
  wpAny (model P w) X.A (pyNext (.ref it)) (fun r s1 => r = none /\ Inv X pins σ H s1) E s
 self : ∀ (A : Around) (i : Nat) (s : Shared) (Q : Value -> Shared -> Prop) (E : Value -> Shared -> Prop), tn i s.heap -> Q (.ref it) s -> wpAny (model P w) A (pyIter (.ref it)) Q E s
abbrev TI := St -> Hp -> (It -> Hp -> Prop) -> Prop
def PIE (X : Cx) (pins : List (Addr × Obj)) (σ : St) (tg : Expr) (R : It -> Hp -> Prop) (itv : Value) (s2 : Shared) : Prop :=
 ∃ (it : Addr) (fp : List Addr) (tn : Nat -> Heap -> Prop) (J : It) (H' : Hp), itv = .ref it /\ Inv X pins σ H' s2 /\ Turn X.prog X.w X.K tg J fp it tn /\ tn 0 s2.heap /\ (∀ b ∈ fp, FpOk X pins H' b) /\ R J H'
def PI (X : Cx) (tg iter : Expr) (wi : TI) : Prop :=
 ∀ (pins : List (Addr × Obj)) (s : Shared) (σ : St) (H : Hp) (R : It -> Hp -> Prop), Inv X pins σ H s -> wi σ H R ->
  wpAny (model X.prog X.w) X.A (eval iter X.env) (fun v s1 => wpAny (model X.prog X.w) X.A (pyIter v) (PIE X pins σ tg R) X.xe s1) X.xe s
theorem yee {M : Model} {A : Around} {E : Value -> Shared -> Prop} {s : Shared} {tg : Expr} {it : Addr} {u : Value} {o : Obj} {n : String} {vs : Array Value} {Q : Unit -> Shared -> Prop} (ho : s.heap.get? it = some o) (hc : o.cls = .type n) (hd : o.data = .fields vs)
  (hn : ["enumerate", "zip", "dict_itemiterator", "dict_reverseitemiterator", "odict_iterator", "itertools.zip_longest", "itertools.pairwise"].contains n = false) (hQ : Q () s) : wpAny M A (letOwnedTupleGo tg (.ref it) u) Q E s := by
 unfold letOwnedTupleGo
 cases tg <;> first
  | exact wpAny_pure hQ
  | (cases u <;> first
    | exact wpAny_pure hQ
    | (refine wpAny_bind (wpAny_load ho ?_)
       rw [hc, hd]
       show wpAny M A (if (["enumerate", "zip", "dict_itemiterator", "dict_reverseitemiterator", "odict_iterator", "itertools.zip_longest", "itertools.pairwise"].contains n && vs[0]? == some (rawInt _)) = true then _ else _) Q E s
       rw [if_neg (by intro h; rw [hn, Bool.false_and] at h; cases h)]
       exact wpAny_pure hQ))
def Itl (K : PySem.W.Frag) (a : Addr) : It :=
 ⟨fun i H => ∃ xs x, SqL K H a xs /\ xs[i]? = some x, fun i H x H' => H' = H /\ ∀ xs, SqL K H a xs -> xs[i]? = some x, fun i H => ∃ xs, SqL K H a xs /\ xs.length <= i⟩
def Itt (K : PySem.W.Frag) (a : Addr) : It :=
 ⟨fun i H => ∃ xs x, SqT K H a xs /\ xs[i]? = some x, fun i H x H' => H' = H /\ ∀ xs, SqT K H a xs -> xs[i]? = some x, fun i H => ∃ xs, SqT K H a xs /\ xs.length <= i⟩
def Itr (lo : Int) (n : Nat) : It := ⟨fun i _ => i < n, fun i H x H' => H' = H /\ x = .int (lo + i), fun i _ => n <= i⟩
theorem zfQ {P : Program} {w : World} {K : PySem.W.Frag} {tg : Expr} (a it : Addr) : Turn P w K tg (Itl K a) [it] it (fun i h => h.IsListIter it a i) where
 mem := by simp
 obj := fun i h st b hb => by
  have e : b = it := by simpa using hb
  subst e
  obtain ⟨o, e, c, d⟩ := st
  exact ⟨o, e, fun v z => by rw [d] at z; cases z⟩
 keep := fun i h h' st k => st.at fun o e => k it (by simp) o e
 item := by
  intro X hP hw hK hc i pins s σ H E I hf st hg
  subst hP hw hK
  obtain ⟨xs, x, hq, hx⟩ := hg
  obtain ⟨its, rv, p, hz⟩ := I.list hq
  obtain ⟨u, hu, ru⟩ := rv.get hx
  obtain ⟨f0, f1, f2, f3, f4, f5⟩ := hf it (by simp)
  refine wpAny_pyNext_list_item st p.isList (x := u) (by simpa using hu) fun h' st' sb => ?_
  have I1 : Inv X pins σ H { s with heap := h' } := I.turned (t' := s.toks) (fun b o hb e => (sb.2 b hb).trans e) f0 f1 f3 f4 f5
  obtain ⟨o, e, c, d⟩ := id st'
  exact ⟨u, rfl, yee (s := { s with heap := h' }) e c d (by decide) ⟨x, H, I1, ru, ⟨rfl, fun ys hy => by rw [I.list_inj hy hq]; exact hx⟩, st', fun b hb => (hf b hb).1⟩⟩
 done := by
  intro X hP hw hK hc i pins s σ H E I hf st hg
  subst hP hw hK
  obtain ⟨xs, hq, hx⟩ := hg
  obtain ⟨its, rv, p, hz⟩ := I.list hq
  obtain ⟨f0, f1, f2, f3, f4, f5⟩ := hf it (by simp)
  have hl := rv.length
  exact wpAny_pyNext_list_end (I.ok.hd hc) st p.isList (by simp; omega) fun h' eb => ⟨rfl, I.turned (t' := s.toks) (fun b o hb e => eb b o hb e) f0 f1 f3 f4 f5⟩
 self := fun _ _ _ _ _ st h => wpAny_pyIter_listiter st h
theorem zfj {P : Program} {w : World} {K : PySem.W.Frag} {tg : Expr} (a it : Addr) : Turn P w K tg (Itt K a) [it] it (fun i h => h.IsTupleIter it a i) where
 mem := by simp
 obj := fun i h st b hb => by
  have e : b = it := by simpa using hb
  subst e
  obtain ⟨o, e, c, d⟩ := st
  exact ⟨o, e, fun v z => by rw [d] at z; cases z⟩
 keep := fun i h h' st k => st.at fun o e => k it (by simp) o e
 item := by
  intro X hP hw hK hc i pins s σ H E I hf st hg
  subst hP hw hK
  obtain ⟨xs, x, hq, hx⟩ := hg
  obtain ⟨its, rv, p, hz⟩ := I.tuple hq
  obtain ⟨u, hu, ru⟩ := rv.get hx
  obtain ⟨f0, f1, f2, f3, f4, f5⟩ := hf it (by simp)
  refine wpAny_pyNext_tuple_item st (show s.heap.IsTuple a its.toArray from p) (x := u) (by simpa using hu) fun h' st' sb => ?_
  have I1 : Inv X pins σ H { s with heap := h' } := I.turned (t' := s.toks) (fun b o hb e => (sb.2 b hb).trans e) f0 f1 f3 f4 f5
  obtain ⟨o, e, c, d⟩ := id st'
  exact ⟨u, rfl, yee (s := { s with heap := h' }) e c d (by decide) ⟨x, H, I1, ru, ⟨rfl, fun ys hy => by rw [I.tuple_inj hy hq]; exact hx⟩, st', fun b hb => (hf b hb).1⟩⟩
 done := by
  intro X hP hw hK hc i pins s σ H E I hf st hg
  subst hP hw hK
  obtain ⟨xs, hq, hx⟩ := hg
  obtain ⟨its, rv, p, hz⟩ := I.tuple hq
  obtain ⟨f0, f1, f2, f3, f4, f5⟩ := hf it (by simp)
  have hl := rv.length
  exact wpAny_pyNext_tuple_end (I.ok.hd hc) st (show s.heap.IsTuple a its.toArray from p) (by simp; omega) fun h' eb => ⟨rfl, I.turned (t' := s.toks) (fun b o hb e => eb b o hb e) f0 f1 f3 f4 f5⟩
 self := fun _ _ _ _ _ st h => wpAny_pyIter_tupleiter st h
theorem zfk {P : Program} {w : World} {K : PySem.W.Frag} {tg : Expr} (it : Addr) (lo : Int) (n : Nat) : Turn P w K tg (Itr lo n) [it] it (fun i h => IsRangeIter h it (lo + (i : Nat) * 1) ((n : Int) - (i : Nat)) 1) where
 mem := by simp
 obj := fun i h st b hb => by
  have e : b = it := by simpa using hb
  subst e
  exact ⟨_, st, fun v z => by
   have z' : Data.fields _ = Data.cell v := z
   cases z'⟩
 keep := fun i h h' st k => k it (by simp) _ st
 item := by
  intro X hP hw hK hc i pins s σ H E I hf st hg
  subst hP hw hK
  obtain ⟨f0, f1, f2, f3, f4, f5⟩ := hf it (by simp)
  have W := Walks.range (prog := X.prog) (w := X.w) (I.ok.hd hc) it lo 1 n
  refine W.item i s _ _ hg st fun v h' tk hv st' kk => ?_
  obtain ⟨t, rfl⟩ := hv
  have I1 : Inv X pins σ H { s with heap := h', toks := tk } := I.turned (fun b o hb e => kk b o (by simpa using hb) e) f0 f1 f3 f4 f5
  refine ⟨_, rfl, yee (s := { s with heap := h', toks := tk }) (n := "range_iterator") st' rfl rfl (by decide) ⟨.int (lo + i), H, I1, ⟨t, ?_⟩, ⟨rfl, rfl⟩, st', fun b hb => (hf b hb).1⟩⟩
  rw [Int.mul_one]
 done := by
  intro X hP hw hK hc i pins s σ H E I hf st hg
  subst hP hw hK
  obtain ⟨f0, f1, f2, f3, f4, f5⟩ := hf it (by simp)
  exact wpAny_pyNext_range_end (I.ok.hd hc) st (by have : n <= i := hg; omega) fun h' eb => ⟨rfl, I.turned (t' := s.toks) (fun b o hb e => eb b o hb e) f0 f1 f3 f4 f5⟩
 self := fun _ _ _ _ _ st h => wpAny_pyIter_rangeiter st h
end L2
namespace L2
open PySem PySem.Spec PyProof.Rows
section
variable {X : Cx} {tg : Expr}
def yfm (K : PySem.W.Frag) (tl : TE) : TI := fun σ H R => tl σ H fun x H1 => ∃ a, x = .ref a /\ (∃ xs, SqL K H1 a xs) /\ R (Itl K a) H1
def iTup (K : PySem.W.Frag) (tl : TE) : TI := fun σ H R => tl σ H fun x H1 => ∃ a, x = .ref a /\ (∃ xs, SqT K H1 a xs) /\ R (Itt K a) H1
theorem zeu {l : Expr} {tl : TE} (hl : PE X l tl) : PI X tg l (yfm X.K tl) := by
 intro pins s σ H R I h
 refine thn (hl pins s σ H _ I h) fun v s1 ⟨x, H1, I1, r1, q1⟩ => ?_
 obtain ⟨a, e, ⟨xs, hq⟩, q⟩ := q1
 subst e
 cases r1
 obtain ⟨its, rv, p, hz⟩ := I1.list hq
 refine wpAny_pyIter_list p.isList ?_
 refine ⟨s1.heap.objs.size, [s1.heap.objs.size], _, _, H1, rfl, I1.kept (t' := s1.toks) fun b o e => Heap.get?_push_of_some _ e, zfQ a _, ⟨_, Heap.get?_push_size _ rfl, rfl, rfl⟩, fun b hb => ?_, q⟩
 have e : b = s1.heap.objs.size := by simpa using hb
 subst e
 exact I1.fpOk (Nat.le_refl _) (I1.hok.fresh (Nat.le_refl _))
theorem yeO {l : Expr} {tl : TE} (hl : PE X l tl) : PI X tg l (iTup X.K tl) := by
 intro pins s σ H R I h
 refine thn (hl pins s σ H _ I h) fun v s1 ⟨x, H1, I1, r1, q1⟩ => ?_
 obtain ⟨a, e, ⟨xs, hq⟩, q⟩ := q1
 subst e
 cases r1
 obtain ⟨its, rv, p, hz⟩ := I1.tuple hq
 refine wpAny_pyIter_tuple (show s1.heap.IsTuple a its.toArray from p) ?_
 refine ⟨s1.heap.objs.size, [s1.heap.objs.size], _, _, H1, rfl, I1.kept (t' := s1.toks) fun b o e => Heap.get?_push_of_some _ e, zfj a _, ⟨_, Heap.get?_push_size _ rfl, rfl, rfl⟩, fun b hb => ?_, q⟩
 have e : b = s1.heap.objs.size := by simpa using hb
 subst e
 exact I1.fpOk (Nat.le_refl _) (I1.hok.fresh (Nat.le_refl _))
theorem zgE {pins : List (Addr × Obj)} {σ : St} {H : Hp} {s : Shared} {R : It -> Hp -> Prop} {E : Value -> Shared -> Prop} {lo hi : Int} {t u v : Tok} {tk : Nat} (I : Inv X pins σ H s) (h1 : -(2 ^ 62) <= lo) (h2 : lo < 2 ^ 62) (h3 : -(2 ^ 62) <= hi) (h4 : hi < 2 ^ 62)
  (q : R (Itr lo (hi - lo).toNat) H) : wpAny (model X.prog X.w) X.A (pyIter (.ref s.heap.objs.size)) (PIE X pins σ tg R) E { s with heap := s.heap.push { cls := .type "range", data := .fields #[.int lo t, .int hi u, .int 1 v] }, toks := tk } := by
 refine wpAny_pyIter_range (IsRange.new ..) (small_one h1 h2 h3 h4) ?_
 have I1 : Inv X pins σ H { s with heap := s.heap.push { cls := .type "range", data := .fields #[.int lo t, .int hi u, .int 1 v] }, toks := tk } := I.kept fun b o e => Heap.get?_push_of_some _ e
 refine ⟨(s.heap.push { cls := .type "range", data := .fields #[.int lo t, .int hi u, .int 1 v] }).objs.size, [(s.heap.push { cls := .type "range", data := .fields #[.int lo t, .int hi u, .int 1 v] }).objs.size], _, _, H, rfl,
  I1.kept (t' := tk) fun b o e => Heap.get?_push_of_some _ e, zfk _ lo (hi - lo).toNat, ?_, fun b hb => ?_, q⟩
 ·have e1 : lo + ((0 : Nat) : Int) * 1 = lo := by simp
  have e2 : (((hi - lo).toNat : Nat) : Int) - ((0 : Nat) : Int) = Builtin.Range.rangeSize lo hi 1 := by rw [rangeSize_one]; split <;> omega
  show IsRangeIter _ _ (lo + ((0 : Nat) : Int) * 1) ((((hi - lo).toNat : Nat) : Int) - ((0 : Nat) : Int)) 1
  rw [e1, e2]
  exact Heap.get?_push_size _ rfl
 ·have e : b = (s.heap.push { cls := .type "range", data := .fields #[.int lo t, .int hi u, .int 1 v] }).objs.size := by simpa using hb
  subst e
  exact I1.fpOk (Nat.le_refl _) (I1.hok.fresh (Nat.le_refl _))
def ygR (ta : TA) : TI := fun σ H R => ta σ H fun vs H1 => ∃ j : Int, vs = [.int j] /\ -(2 ^ 62) <= j /\ j < 2 ^ 62 /\ R (Itr 0 j.toNat) H1
theorem zfR {a : Expr} {ta : TA} {p pos : Pos} (hg : Gl X "range") (hm : X.mg "range" = none) (ha : PA X [a] ta) (hs : starEach [a] X.env = [(false, eval a X.env)] := by rfl) : PI X tg (.Call (.Name "range" p) [a] [] pos) (ygR ta) := by
 intro pins s σ H R I h
 refine Call_ (ydz I hg hm boot_range (PyProof.Rows.callWith_type1 (thn (ha pos pins s σ H _ I h) fun us s1 ⟨vs, H1, I1, r1, q1⟩ => ?_) hs rfl))
 obtain ⟨j, e, q1, q2, q⟩ := q1
 subst e
 cases r1 with
 | cons r rr =>
  cases rr
  obtain ⟨t, rfl⟩ := r
  exact call_range_1 (zgE I1 (by omega) (by omega) q1 q2 (by simpa using q))
def tFor (wi : TI) (g : TG) (tb : TS) : TS := fun D σ H => wi σ H fun J H1 => ∃ W : Nat -> Nat -> St -> Hp -> Prop, (∃ m, W 0 m σ H1) /\ ∀ i m σ H, W i m σ H ->
 (J.stop i H /\ D.nx σ H) \/ (J.go i H /\ ∃ N : St -> Hp -> Prop, (∀ σ' H', N σ' H' -> ∃ m', m' < m /\ W (i + 1) m' σ' H') /\ ∀ x H', J.yld i H x H' -> g x σ H' fun σ2 H2 => tb { D with nx := N, ct := N, bk := D.nx } σ2 H2)
def ybr (fp : List Addr) (h : Heap) : List (Addr × Obj) := fp.filterMap fun b => (h.get? b).map fun o => (b, o)
theorem zaG {fp : List Addr} {h : Heap} {b : Addr} {o : Obj} (hb : b ∈ fp) (e : h.get? b = some o) : (b, o) ∈ ybr fp h := List.mem_filterMap.mpr ⟨b, hb, by rw [e]; rfl⟩
theorem zfS {fp : List Addr} {h : Heap} {p : Addr × Obj} (hp : p ∈ ybr fp h) : p.1 ∈ fp /\ h.get? p.1 = some p.2 := by
 obtain ⟨b, hb, e⟩ := List.mem_filterMap.mp hp
 cases q : h.get? b with
 | none => rw [q] at e; cases e
 | some o =>
  rw [q] at e
  have e' : (b, o) = p := Option.some.inj e
  subst e'
  exact ⟨hb, q⟩
theorem Inv.pinned {pins : List (Addr × Obj)} {σ : St} {H : Hp} {s : Shared} {fp : List Addr} (I : Inv X pins σ H s) (hf : ∀ b ∈ fp, FpOk X pins H b) (ho : ∀ b ∈ fp, ∃ o, s.heap.get? b = some o /\ ∀ v, o.data ≠ .cell v) : Inv X (pins ++ ybr fp s.heap) σ H s :=
 I.pins_of fun p hp => (List.mem_append.mp hp).elim (fun z => I.pin p (List.mem_append_right _ z)) fun z => by
  obtain ⟨hb, e⟩ := zfS z
  obtain ⟨f0, f1, f2, _⟩ := hf p.1 hb
  obtain ⟨o, e', d⟩ := ho p.1 hb
  rw [e] at e'; cases e'
  exact ⟨e, f0, f1, f2, d⟩
theorem Inv.unpinned {pins pl : List (Addr × Obj)} {σ : St} {H : Hp} {s : Shared} (I : Inv X (pins ++ pl) σ H s) : Inv X pins σ H s := I.pins_of fun p hp => I.pin p (List.mem_append_right _ (List.mem_append_left _ hp))
theorem yfT {iter : Expr} {body : List Stmt} {wi : TI} {g : TG} {tb : TS} {pos : Pos} (hp : PassesOwn (model X.prog X.w) X.A X.env X.xe) (hc : X.calm = true) (hi : PI X tg iter wi) (hg : PG X tg g) (hb : PSs X body tb)
  (hs : ∀ x, foldedSetIterable iter X.env x = pure x := by intro _; rfl) : PS X (.For tg iter body [] pos) (tFor wi g tb) := by
 intro pins s σ H D I h
 refine wpAny_For (thn (hi pins s σ H _ I h) fun v s1 h1 => thn h1 fun itv s2 h2 => ?_) hs
 obtain ⟨it, fp, tn, J, H2, e, I2, T, st2, f2, W, ⟨m0, w0⟩, turn⟩ := h2
 subst e
 have stat : ∀ {H' : Hp}, (∀ b ∈ fp, H' b = none) -> ∀ b ∈ fp, FpOk X pins H' b := fun hn b hb => ⟨hn b hb, (f2 b hb).2⟩
 refine codeAny_forLoop_any (fun n s' => ∃ i σ' H', Inv X pins σ' H' s' /\ tn i s'.heap /\ (∀ b ∈ fp, H' b = none) /\ W i n σ' H') ?_ m0 ⟨0, σ, H2, I2, st2, fun b hb => (f2 b hb).1, w0⟩
 rintro n s3 ⟨i, σ3, H3, I3, st3, fr3, w3⟩
 rcases turn i n σ3 H3 w3 with ⟨stop, qn⟩ | ⟨go, N, hN, step⟩
 ·refine wpAny_passesOwn hp (thn (T.done X rfl rfl rfl hc i pins s3 σ3 H3 X.xe I3 (stat fr3) st3 stop) fun r s4 ⟨hr, I4⟩ => ?_)
  subst hr
  exact wpAny_execs_nil ⟨σ3, H3, I4, qn⟩
 ·refine wpAny_passesOwn hp (thn (T.item X rfl rfl rfl hc i pins s3 σ3 H3 X.xe I3 (stat fr3) st3 go) fun r s4 ⟨u, hr, h4⟩ => ?_)
  subst hr
  refine wpAny_passesOwn hp (thn h4 fun _ s5 ⟨x, H5, I5, r5, y5, st5, fr5⟩ => ?_)
  have I5' := I5.pinned (stat fr5) (T.obj _ _ st5)
  refine wpAny_passesOwn hp (thn (hg _ s5 σ3 H5 x u _ I5' r5 (step x H5 y5)) fun _ s6 ⟨σ6, H6, I6, q6⟩ => ?_)
  refine wpAny_passesOwn hp (thn (hb _ s6 σ6 H6 _ I6 q6) fun f s7 q7 => ?_)
  have again : ∀ {σ7 : St} {H7 : Hp}, Inv X (pins ++ ybr fp s5.heap) σ7 H7 s7 -> N σ7 H7 -> ∃ m, m < n /\ ∃ i σ' H', Inv X pins σ' H' s7 /\ tn i s7.heap /\ (∀ b ∈ fp, H' b = none) /\ W i m σ' H' := fun {σ7 H7} I7 n7 => by
   obtain ⟨m', hm, w7⟩ := hN σ7 H7 n7
   refine ⟨m', hm, i + 1, σ7, H7, I7.unpinned, T.keep _ _ _ st5 fun b hb o e => (I7.pin (b, o) (List.mem_append_right _ (List.mem_append_right _ (zaG hb e)))).1, fun b hb => ?_, w7⟩
   obtain ⟨o, e, d⟩ := T.obj _ _ st5 b hb
   exact (I7.pin (b, o) (List.mem_append_right _ (List.mem_append_right _ (zaG hb e)))).2.1
  cases f with
  | next => obtain ⟨σ7, H7, I7, n7⟩ := q7; exact again I7 n7
  | cont => obtain ⟨σ7, H7, I7, n7⟩ := q7; exact again I7 n7
  | brk => obtain ⟨σ7, H7, I7, q7⟩ := q7; exact ⟨σ7, H7, I7.unpinned, q7⟩
  | ret v => obtain ⟨x7, σ7, H7, I7, r7, q7⟩ := q7; exact ⟨x7, σ7, H7, I7.unpinned, r7, q7⟩
end
end L2
namespace L2
open PySem PySem.Spec PyProof.Rows
abbrev R2 := V -> V -> Hp -> VK -> Prop
def OpR (X : Cx) (f : Value -> Value -> Sem Value) (r : R2) : Prop :=
 ∀ (pins : List (Addr × Obj)) (s : Shared) (σ : St) (H : Hp) (x y : V) (v u : Value) (Q : VK), Inv X pins σ H s -> RelV x v -> RelV y u -> r x y H Q ->
  wpAny (model X.prog X.w) X.A (f v u) (EP X pins σ Q) X.xe s
def UnR (X : Cx) (f : Value -> Sem Value) (r : V -> Hp -> VK -> Prop) : Prop :=
 ∀ (pins : List (Addr × Obj)) (s : Shared) (σ : St) (H : Hp) (x : V) (v : Value) (Q : VK), Inv X pins σ H s -> RelV x v -> r x H Q ->
  wpAny (model X.prog X.w) X.A (f v) (EP X pins σ Q) X.xe s
def CallR (X : Cx) (f : Value) (r : List V -> Hp -> VK -> Prop) : Prop :=
 ∀ (pins : List (Addr × Obj)) (s : Shared) (σ : St) (H : Hp) (xs : List V) (us : List Value) (Q : VK), Inv X pins σ H s -> Vals xs us -> r xs H Q ->
  wpAny (model X.prog X.w) X.A (call f us) (EP X pins σ Q) X.xe s
def TruR (X : Cx) (r : V -> Hp -> (Bool -> Hp -> Prop) -> Prop) : Prop :=
 ∀ (pins : List (Addr × Obj)) (s : Shared) (σ : St) (H : Hp) (x : V) (v : Value) (Q : Bool -> Hp -> Prop), Inv X pins σ H s -> RelV x v -> r x H Q ->
  wpAny (model X.prog X.w) X.A (truthy v) (TP X pins σ Q) X.xe s
def tOp (r : R2) (ta tb : TE) : TE := fun σ H Q => ta σ H fun x H1 => tb σ H1 fun y H2 => r x y H2 Q
def tUn (r : V -> Hp -> VK -> Prop) (ta : TE) : TE := fun σ H Q => ta σ H fun x H1 => r x H1 Q
def rI (C : Int -> Int -> Prop) (g : Int -> Int -> V) : R2 := fun x y H Q => ∃ i j, x = .int i /\ y = .int j /\ C i j /\ Q (g i j) H
def rI0 (g : Int -> Int -> V) : R2 := fun x y H Q => ∃ i j, x = .int i /\ y = .int j /\ Q (g i j) H
def rU (g : Int -> V) : V -> Hp -> VK -> Prop := fun x H Q => ∃ i, x = .int i /\ Q (g i) H
section
variable {X : Cx} {a b c : Expr} {ta tb tc : TE} {pos : Pos}
theorem binT (ha : PE X a ta) (hb : PE X b tb) {pins : List (Addr × Obj)} {s : Shared} {σ : St} {H : Hp} {R : V -> V -> Hp -> Prop} (I : Inv X pins σ H s)
  (h : ta σ H fun x H1 => tb σ H1 fun y H2 => R x y H2) {Q : Value -> Shared -> Prop} {f : Value -> Value -> Sem Value}
  (hf : ∀ v u s2 x y H2, Inv X pins σ H2 s2 -> RelV x v -> RelV y u -> R x y H2 -> wpAny (model X.prog X.w) X.A (f v u) Q X.xe s2) :
  wpAny (model X.prog X.w) X.A (eval a X.env) (fun v s₁ => wpAny (model X.prog X.w) X.A (eval b X.env) (fun u s₂ => wpAny (model X.prog X.w) X.A (f v u) Q X.xe s₂) X.xe s₁) X.xe s := by
 refine thn (ha pins s σ H _ I h) fun v s1 ⟨x, H1, I1, r1, q1⟩ => ?_
 refine thn (hb pins s1 σ H1 _ I1 q1) fun u s2 ⟨y, H2, I2, r2, q2⟩ => ?_
 exact hf v u s2 x y H2 I2 r1 r2 q2
theorem ygS {op : Operator} {r : R2} (ho : OpR X (binaryOp op) r) (ha : PE X a ta) (hb : PE X b tb) : PE X (.BinOp a op b pos) (tOp r ta tb) := by
 intro pins s σ H Q I h
 exact wpAny_BinOp (binT ha hb I h fun v u s2 x y H2 I2 rx ry q => ho pins s2 σ H2 x y v u Q I2 rx ry q)
theorem ygT {op : UnaryOp} {r : V -> Hp -> VK -> Prop} (ho : UnR X (unaryOp op) r) (ha : PE X a ta) : PE X (.UnaryOp op a pos) (tUn r ta) := by
 intro pins s σ H Q I h
 exact UnaryOp_ (thn (ha pins s σ H _ I h) fun v s1 ⟨x, H1, I1, r1, q1⟩ => ho pins s1 σ H1 x v Q I1 r1 q1)
theorem opI {f : Value -> Value -> Sem Value} {C : Int -> Int -> Prop} {g : Int -> Int -> Int}
  (rule : ∀ (i j : Int) (t u : Tok) (s : Shared) (Q : Value -> Shared -> Prop) (E : Value -> Shared -> Prop), C i j -> Q (.int (g i j) s.toks) { s with toks := s.toks + 1 } -> wpAny (model X.prog X.w) X.A (f (.int i t) (.int j u)) Q E s) :
  OpR X f (rI C fun i j => .int (g i j)) := by
 intro pins s σ H x y v u Q I rx ry h
 obtain ⟨i, j, rfl, rfl, hc, q⟩ := h
 obtain ⟨t, rfl⟩ := rx
 obtain ⟨t', rfl⟩ := ry
 exact rule i j t t' s _ _ hc ⟨.int (g i j), H, I.tok _, ⟨_, rfl⟩, q⟩
theorem opI0 {f : Value -> Value -> Sem Value} {g : Int -> Int -> Int}
  (rule : ∀ (i j : Int) (t u : Tok) (s : Shared) (Q : Value -> Shared -> Prop) (E : Value -> Shared -> Prop), Q (.int (g i j) s.toks) { s with toks := s.toks + 1 } -> wpAny (model X.prog X.w) X.A (f (.int i t) (.int j u)) Q E s) :
  OpR X f (rI0 fun i j => .int (g i j)) := by
 intro pins s σ H x y v u Q I rx ry h
 obtain ⟨i, j, rfl, rfl, q⟩ := h
 obtain ⟨t, rfl⟩ := rx
 obtain ⟨t', rfl⟩ := ry
 exact rule i j t t' s _ _ ⟨.int (g i j), H, I.tok _, ⟨_, rfl⟩, q⟩
theorem opB0 {f : Value -> Value -> Sem Value} {g : Int -> Int -> Bool}
  (rule : ∀ (i j : Int) (t u : Tok) (s : Shared) (Q : Value -> Shared -> Prop) (E : Value -> Shared -> Prop), Q (.bool (g i j)) s -> wpAny (model X.prog X.w) X.A (f (.int i t) (.int j u)) Q E s) :
  OpR X f (rI0 fun i j => .bl (g i j)) := by
 intro pins s σ H x y v u Q I rx ry h
 obtain ⟨i, j, rfl, rfl, q⟩ := h
 obtain ⟨t, rfl⟩ := rx
 obtain ⟨t', rfl⟩ := ry
 exact rule i j t t' s _ _ ⟨.bl (g i j), H, I, rfl, q⟩
def CPow (i j : Int) : Prop := 0 <= j /\ j <= 1000000 /\ i.natAbs < 2 ^ 64
def CMul (i j : Int) : Prop := (-(2 ^ 64) < i /\ i < 2 ^ 64) \/ (-(2 ^ 64) < j /\ j < 2 ^ 64)
theorem CMul.ok {i j : Int} (h : CMul i j) : IntMulOk i j := by
 rcases h with ⟨h1, h2⟩ | ⟨h1, h2⟩
 ·exact .of_left (intBits_le_64 h1 h2)
 ·exact .of_right (intBits_le_64 h1 h2)
theorem op_add : OpR X (binaryOp .Add) (rI0 fun i j => .int (i + j)) := opI0 fun _ _ _ _ _ _ _ q => add_int q
theorem yfU : OpR X (binaryOp .Sub) (rI0 fun i j => .int (i - j)) := opI0 fun _ _ _ _ _ _ _ q => sub_int q
theorem yfV : OpR X (binaryOp .Mod) (rI (fun _ j => 0 < j) fun i j => .int (i % j)) := opI fun i j _ _ _ _ _ hc q => by
 have h1 : (0 : Int) < j := hc
 exact mod_int' (by omega) (by rw [Int.fmod_eq_emod_of_nonneg i (by omega)]; exact q)
theorem yfW : OpR X (binaryOp .Pow) (rI CPow fun i j => .int (i ^ j.toNat)) := opI fun _ _ _ _ _ _ _ hc q => pow_int_small hc.1 hc.2.1 hc.2.2 q
theorem unI {f : Value -> Sem Value} {g : Int -> Int}
  (rule : ∀ (i : Int) (t : Tok) (s : Shared) (Q : Value -> Shared -> Prop) (E : Value -> Shared -> Prop), Q (.int (g i) s.toks) { s with toks := s.toks + 1 } -> wpAny (model X.prog X.w) X.A (f (.int i t)) Q E s) :
  UnR X f (rU fun i => .int (g i)) := by
 intro pins s σ H x v Q I rx h
 obtain ⟨i, rfl, q⟩ := h
 obtain ⟨t, rfl⟩ := rx
 exact rule i t s _ _ ⟨.int (g i), H, I.tok _, ⟨_, rfl⟩, q⟩
theorem yfX : UnR X (unaryOp .USub) (rU fun i => .int (-i)) := unI fun _ _ _ _ _ q => neg_int q
end
def scal : V -> V -> Bool
 | .non, .non => true | .non, .int _ => true | .int _, .non => true | .non, .bl _ => true | .bl _, .non => true | .non, .str _ => true | .str _, .non => true
 | .int _, .int _ => true | .bl _, .bl _ => true | .str _, .str _ => true | .byt _, .byt _ => true
 | .int _, .str _ => true | .str _, .int _ => true | .bl _, .str _ => true | .str _, .bl _ => true
 | _, _ => false
def rEq : R2 := fun x y H Q => scal x y = true /\ Q (.bl (decide (x = y))) H
def rNe : R2 := fun x y H Q => scal x y = true /\ Q (.bl (!decide (x = y))) H
theorem zev {i j : Int} : decide (V.int i = V.int j) = (i == j) := by
 rw [Bool.eq_iff_iff]
 simp
theorem yeP {i j : Bool} : decide (V.bl i = V.bl j) = (i == j) := by
 rw [Bool.eq_iff_iff]
 simp
theorem zew {i j : Str} : decide (V.str i = V.str j) = (i == j) := by
 rw [Bool.eq_iff_iff]
 simp
theorem zex {i j : Array UInt8} : decide (V.byt i = V.byt j) = (i.toList == j.toList) := by
 rw [Bool.eq_iff_iff]
 cases i
 cases j
 simp
section
variable {X : Cx} {a b c : Expr} {ta tb tc : TE} {pos : Pos}
theorem yaE {pins : List (Addr × Obj)} {σ : St} {H : Hp} {s : Shared} {Q : VK} {k k' : Bool} (I : Inv X pins σ H s) (q : Q (.bl k) H) (e : k = k') : EP X pins σ Q (.bool k') s := by
 subst e
 exact ⟨.bl k, H, I, rfl, q⟩
theorem op_eq : OpR X (compareOp .Eq) rEq := by
 intro pins s σ H x y v u Q I rx ry h
 obtain ⟨hs, q⟩ := h
 cases x with
 | non =>
  cases rx
  cases y with
  | non => cases ry; exact PySem.EqNone.eq_none_none (yaE I q (by simp))
  | bl j => cases ry; exact PySem.EqNone.eq_none_bool (yaE I q (by simp))
  | int j => obtain ⟨t', rfl⟩ := ry; exact PySem.EqNone.eq_none_int (yaE I q (by simp))
  | str j => obtain ⟨t', rfl⟩ := ry; exact PySem.EqNone.eq_none_str (yaE I q (by simp))
  | _ => exact absurd (show false = true from hs) Bool.false_ne_true
 | bl i =>
  cases rx
  cases y with
  | non => cases ry; exact PySem.EqNone.eq_bool_none (yaE I q (by simp))
  | bl j => cases ry; exact eq_bool (yaE I q yeP)
  | str j => obtain ⟨t', rfl⟩ := ry; exact PySem.EqMixed.eq_bool_str (yaE I q (by simp))
  | _ => exact absurd (show false = true from hs) Bool.false_ne_true
 | int i =>
  obtain ⟨t, rfl⟩ := rx
  cases y with
  | non => cases ry; exact PySem.EqNone.eq_int_none (yaE I q (by simp))
  | int j => obtain ⟨t', rfl⟩ := ry; exact eq_int (yaE I q zev)
  | str j => obtain ⟨t', rfl⟩ := ry; exact PySem.EqMixed.eq_int_str (yaE I q (by simp))
  | _ => exact absurd (show false = true from hs) Bool.false_ne_true
 | str i =>
  obtain ⟨t, rfl⟩ := rx
  cases y with
  | non => cases ry; exact PySem.EqNone.eq_str_none (yaE I q (by simp))
  | bl j => cases ry; exact PySem.EqMixed.eq_str_bool (yaE I q (by simp))
  | int j => obtain ⟨t', rfl⟩ := ry; exact PySem.EqMixed.eq_str_int (yaE I q (by simp))
  | str j => obtain ⟨t', rfl⟩ := ry; exact eq_str (yaE I q zew)
  | _ => exact absurd (show false = true from hs) Bool.false_ne_true
 | byt i =>
  obtain ⟨t, rfl⟩ := rx
  cases y with
  | byt j => obtain ⟨t', rfl⟩ := ry; exact PySem.W.eq_bytes (yaE I q zex)
  | _ => exact absurd (show false = true from hs) Bool.false_ne_true
 | _ => cases y <;> exact absurd (show false = true from hs) Bool.false_ne_true
theorem op_ne : OpR X (compareOp .NotEq) rNe := by
 intro pins s σ H x y v u Q I rx ry h
 obtain ⟨hs, q⟩ := h
 cases x with
 | non =>
  cases rx
  cases y with
  | non => cases ry; exact PySem.EqNone.ne_none_none (yaE I q (by simp))
  | bl j => cases ry; exact PySem.EqNone.ne_none_bool (yaE I q (by simp))
  | int j => obtain ⟨t', rfl⟩ := ry; exact PySem.EqNone.ne_none_int (yaE I q (by simp))
  | str j => obtain ⟨t', rfl⟩ := ry; exact PySem.EqNone.ne_none_str (yaE I q (by simp))
  | _ => exact absurd (show false = true from hs) Bool.false_ne_true
 | bl i =>
  cases rx
  cases y with
  | non => cases ry; exact PySem.EqNone.ne_bool_none (yaE I q (by simp))
  | bl j => cases ry; exact ne_bool (yaE I q (congrArg not yeP))
  | str j => obtain ⟨t', rfl⟩ := ry; exact PySem.EqMixed.ne_bool_str (yaE I q (by simp))
  | _ => exact absurd (show false = true from hs) Bool.false_ne_true
 | int i =>
  obtain ⟨t, rfl⟩ := rx
  cases y with
  | non => cases ry; exact PySem.EqNone.ne_int_none (yaE I q (by simp))
  | int j => obtain ⟨t', rfl⟩ := ry; exact ne_int (yaE I q (congrArg not zev))
  | str j => obtain ⟨t', rfl⟩ := ry; exact PySem.EqMixed.ne_int_str (yaE I q (by simp))
  | _ => exact absurd (show false = true from hs) Bool.false_ne_true
 | str i =>
  obtain ⟨t, rfl⟩ := rx
  cases y with
  | non => cases ry; exact PySem.EqNone.ne_str_none (yaE I q (by simp))
  | bl j => cases ry; exact PySem.EqMixed.ne_str_bool (yaE I q (by simp))
  | int j => obtain ⟨t', rfl⟩ := ry; exact PySem.EqMixed.ne_str_int (yaE I q (by simp))
  | str j => obtain ⟨t', rfl⟩ := ry; exact ne_str (yaE I q (congrArg not zew))
  | _ => exact absurd (show false = true from hs) Bool.false_ne_true
 | byt i =>
  obtain ⟨t, rfl⟩ := rx
  cases y with
  | byt j => obtain ⟨t', rfl⟩ := ry; exact PySem.W.ne_bytes (yaE I q (congrArg not zex))
  | _ => exact absurd (show false = true from hs) Bool.false_ne_true
 | _ => cases y <;> exact absurd (show false = true from hs) Bool.false_ne_true
theorem op_lt : OpR X (compareOp .Lt) (rI0 fun i j => .bl (decide (i < j))) := opB0 fun _ _ _ _ _ _ _ q => lt_int q
theorem op_le : OpR X (compareOp .LtE) (rI0 fun i j => .bl (decide (i <= j))) := opB0 fun _ _ _ _ _ _ _ q => le_int q
theorem ygU : OpR X (compareOp .Gt) (rI0 fun i j => .bl (decide (j < i))) := opB0 fun _ _ _ _ _ _ _ q => gt_int q
theorem ygV : OpR X (compareOp .GtE) (rI0 fun i j => .bl (decide (j <= i))) := opB0 fun _ _ _ _ _ _ _ q => ge_int q
theorem zfT : OpR X (compareOp .Lt) (fun x y H Q => ∃ i j, x = .str i /\ y = .str j /\ Q (.bl (decide (i.cps.toList < j.cps.toList))) H) := by
 intro pins s σ H x y v u Q I rx ry h
 obtain ⟨i, j, rfl, rfl, q⟩ := h
 obtain ⟨t, rfl⟩ := rx
 obtain ⟨t', rfl⟩ := ry
 exact lt_str (yaE I q rfl)
theorem zfU : OpR X (compareOp .In) (fun x y H Q => ∃ i j, x = .str i /\ y = .str j /\ Q (.bl (!(Builtin.Str.occurrences j i 0 j.length 1).isEmpty)) H) := by
 intro pins s σ H x y v u Q I rx ry h
 obtain ⟨i, j, rfl, rfl, q⟩ := h
 obtain ⟨t, rfl⟩ := rx
 obtain ⟨t', rfl⟩ := ry
 exact in_str (yaE I q rfl)
theorem OpR.or {f : Value -> Value -> Sem Value} {r r' : R2} (h : OpR X f r) (h' : OpR X f r') : OpR X f (fun x y H Q => r x y H Q \/ r' x y H Q) := by
 intro pins s σ H x y v u Q I rx ry q
 rcases q with q | q
 ·exact h pins s σ H x y v u Q I rx ry q
 ·exact h' pins s σ H x y v u Q I rx ry q
theorem yaq (b : Expr) {op : CmpOp} (h : op ≠ .In := by decide) (h2 : op ≠ .NotIn := by decide) : behindInMarks op b = false := by
 have e1 : (op == CmpOp.In) = false := by cases op <;> first | rfl | exact absurd rfl h
 have e2 : (op == CmpOp.NotIn) = false := by cases op <;> first | rfl | exact absurd rfl h2
 cases b <;> simp [behindInMarks, e1, e2]
theorem zhL {op : CmpOp} {r : R2} (ho : OpR X (compareOp op) r) (ha : PE X a ta) (hb : PE X b tb) (hm : behindInMarks op b = false) : PE X (.Compare a [op] [b] pos) (tOp r ta tb) := by
 intro pins s σ H Q I h
 exact wpAny_Compare1 (binT ha hb I h fun v u s2 x y H2 I2 rx ry q => ho pins s2 σ H2 x y v u Q I2 rx ry q) hm
def yfn (t : TE) : TT := fun σ H Q => t σ H fun x H' => ∃ k, x = .bl k /\ Q k H'
theorem zhM {op : CmpOp} {r : R2} (ho : OpR X (compareOp op) r) (ha : PE X a ta) (hb : PE X b tb) (hm : behindInMarks op b = false) : PT X (.Compare a [op] [b] pos) (yfn (tOp r ta tb)) := by
 intro pins s σ H Q I h
 refine wpAny_isTrue_Compare1 (thn (ha pins s σ H _ I h) fun v s1 ⟨x, H1, I1, r1, q1⟩ => thn (hb pins s1 σ H1 _ I1 q1) fun u s2 ⟨y, H2, I2, r2, q2⟩ =>
  thn (ho pins s2 σ H2 x y v u _ I2 r1 r2 q2) fun c s3 ⟨z, H3, I3, r3, k, e, q3⟩ => ?_) hm
 subst e
 cases r3
 exact wpAny_truthy_bool ⟨H3, I3, q3⟩
def yeo (r r' : R2) (ta tb tc : TE) : TE := fun σ H Q => ta σ H fun x H1 => tb σ H1 fun y H2 => r x y H2 fun z H3 => ∃ k, z = .bl k /\
 (if k = true then tc σ H3 fun w' H4 => r' y w' H4 Q else Q (.bl false) H3)
theorem zgF {op op' : CmpOp} {r r' : R2} (ho : OpR X (compareOp op) r) (ho' : OpR X (compareOp op') r') (ha : PE X a ta) (hb : PE X b tb) (hc : PE X c tc)
  (hm : lastMarks [op, op'] [b, c] = false := by with_unfolding_all rfl) : PE X (.Compare a [op, op'] [b, c] pos) (yeo r r' ta tb tc) := by
 intro pins s σ H Q I h
 refine Compare_chain (thn (ha pins s σ H _ I h) fun v s1 ⟨x, H1, I1, r1, q1⟩ => chain_link (thn (hb pins s1 σ H1 _ I1 q1) fun u s2 ⟨y, H2, I2, r2, q2⟩ =>
  thn (ho pins s2 σ H2 x y v u _ I2 r1 r2 q2) fun d s3 ⟨z, H3, I3, r3, k, e, q3⟩ => ?_)) hm
 subst e
 cases r3
 refine wpAny_truthy_bool ?_
 cases k with
 | false => exact ite_ff ⟨.bl false, H3, I3, rfl, q3⟩
 | true => exact ite_tt (chain_last (thn (hc pins s3 σ H3 _ I3 q3) fun w' s4 ⟨z', H4, I4, r4, q4⟩ => ho' pins s4 σ H4 y z' u w' Q I4 r2 r4 q4))
theorem zgG {op op' : CmpOp} {r r' : R2} (ho : OpR X (compareOp op) r) (ho' : OpR X (compareOp op') r') (ha : PE X a ta) (hb : PE X b tb) (hc : PE X c tc)
  (hm : lastMarks [op, op'] [b, c] = false := by with_unfolding_all rfl) : PT X (.Compare a [op, op'] [b, c] pos) (yfn (yeo r r' ta tb tc)) := by
 intro pins s σ H Q I h
 refine isTrue_chain (thn (ha pins s σ H _ I h) fun v s1 ⟨x, H1, I1, r1, q1⟩ => test_link (thn (hb pins s1 σ H1 _ I1 q1) fun u s2 ⟨y, H2, I2, r2, q2⟩ =>
  thn (ho pins s2 σ H2 x y v u _ I2 r1 r2 q2) fun d s3 ⟨z, H3, I3, r3, k, e, q3⟩ => ?_)) hm
 subst e
 cases r3
 refine wpAny_truthy_bool ?_
 cases k with
 | false =>
  obtain ⟨k', e', q'⟩ := q3
  cases e'
  exact ite_ff ⟨H3, I3, q'⟩
 | true =>
  refine ite_tt (test_last (thn (hc pins s3 σ H3 _ I3 q3) fun w' s4 ⟨z', H4, I4, r4, q4⟩ => thn (ho' pins s4 σ H4 y z' u w' _ I4 r2 r4 q4) fun d' s5 ⟨z2, H5, I5, r5, k2, e2, q5⟩ => ?_))
  subst e2
  cases r5
  exact wpAny_truthy_bool ⟨H5, I5, q5⟩
def TruV (K : PySem.W.Frag) (x : V) (H : Hp) (k : Bool) : Prop :=
 match x with
 | .non => k = false
 | .bl b => k = b
 | .int i => k = (i != 0)
 | .str y => y.length <= sizeLine /\ k = ((y.length : Int) != 0)
 | .byt y => y.size <= sizeLine /\ k = ((y.size : Int) != 0)
 | .ref p => (∃ xs, SqL K H p xs /\ k = !xs.isEmpty) \/ (∃ xs, SqT K H p xs /\ k = !xs.isEmpty) \/ ∃ kvs, H p = some (.dK kvs) /\ k = !kvs.isEmpty
 | _ => False
theorem zfl {κ : Type} {kvs : List (κ × V)} {vs : List (κ × Value)} (r : KV kvs vs) : (!vs.isEmpty) = !kvs.isEmpty := by
 cases r <;> rfl
theorem zcD {xs : List V} {its : List Value} (r : Vals xs its) : (!its.toArray.isEmpty) = !xs.isEmpty := by
 cases r <;> simp
theorem ycT : (sizeLine : Nat) < 2 ^ 63 := by rw [sizeLine_eq]; decide
theorem yfY : TruR X (fun x H Q => ∃ k, TruV X.K x H k /\ Q k H) := by
 intro pins s σ H x v Q I rx h
 obtain ⟨k, e, q⟩ := h
 have hl := ycT
 have hs : sizeLine = 16777216 := sizeLine_eq
 cases x with
 | non =>
  cases rx
  have e' : k = false := e
  subst e'
  exact truthy_none ⟨H, I, q⟩
 | bl b =>
  cases rx
  have e' : k = b := e
  subst e'
  exact wpAny_truthy_bool ⟨H, I, q⟩
 | int i =>
  obtain ⟨t, rfl⟩ := rx
  have e' : k = (i != 0) := e
  subst e'
  exact PySem.P.truthy_int ⟨H, I, q⟩
 | str y =>
  obtain ⟨t, rfl⟩ := rx
  obtain ⟨hy, e'⟩ : y.length <= sizeLine /\ k = ((y.length : Int) != 0) := e
  subst e'
  exact PySem.P.truthy_str (by omega) ⟨H, I.tok _, q⟩
 | byt y =>
  obtain ⟨t, rfl⟩ := rx
  obtain ⟨hy, e'⟩ : y.size <= sizeLine /\ k = ((y.size : Int) != 0) := e
  subst e'
  exact PySem.W.truthy_bytes (by omega) ⟨H, I.tok _, q⟩
 | ref p =>
  cases rx
  have e' : (∃ xs, SqL X.K H p xs /\ k = !xs.isEmpty) \/ (∃ xs, SqT X.K H p xs /\ k = !xs.isEmpty) \/ ∃ kvs, H p = some (.dK kvs) /\ k = !kvs.isEmpty := e
  rcases e' with ⟨xs, hx, e'⟩ | ⟨xs, hx, e'⟩ | ⟨kvs, hx, e'⟩
  ·subst e'
   obtain ⟨its, r, pl, hz⟩ := I.list hx
   have hlen := r.length
   exact wpAny_truthy_list pl.isList (by simp only [List.size_toArray]; omega) ⟨H, I.tok _, by rw [zcD r]; exact q⟩
  ·subst e'
   obtain ⟨its, r, pl, hz⟩ := I.tuple hx
   have hlen := r.length
   exact truthy_tuple pl (by simp only [List.size_toArray]; omega) ⟨H, I.tok _, by rw [zcD r]; exact q⟩
  ·subst e'
   obtain ⟨hz, hS, vs, r, m⟩ : kvs.length <= sizeLine /\ (p == sysModules) = false /\ ∃ vs, KV kvs vs /\ s.heap.DictOf (ybb X.prog X.w) p vs := I.hok p _ hx
   have hlen : kvs.length = vs.length := Paired.length r
   exact wpAny_truthy_dict hS m (by omega) ⟨H, I.tok _, by rw [zfl r]; exact q⟩
 | _ => exact (show False from e).elim
theorem zgH (ha : PE X a ta) (he : ∀ whole, isTrue a X.env whole = (do let v <- whole; standAt a.pos; holding [v] (truthy v))) :
  PT X a (fun σ H Q => ta σ H fun x H' => ∃ k, TruV X.K x H' k /\ Q k H') := by
 intro pins s σ H Q I h
 exact isTrue_plain (thn (ha pins s σ H _ I h) fun v s1 ⟨x, H1, I1, r1, q1⟩ => yfY pins s1 σ H1 x v Q I1 r1 q1) (he _)
theorem zfm : OpR X (binaryOp .Add) (fun x y H Q => ∃ i j, x = .str i /\ y = .str j /\ i.length + j.length <= sizeLine /\ Q (.str (i ++ j)) H) := by
 intro pins s σ H x y v u Q I rx ry h
 obtain ⟨i, j, rfl, rfl, hz, q⟩ := h
 obtain ⟨t, rfl⟩ := rx
 obtain ⟨t', rfl⟩ := ry
 exact add_str (fun t' tk => ⟨.str (i ++ j), H, I.tok _, ⟨_, rfl⟩, q⟩) hz
theorem ydl {x : V} {us : List Value} (r : Vals [x] us) : ∃ u, us = [u] /\ RelV x u := by
 cases r with
 | cons r1 r2 => cases r2; exact ⟨_, rfl, r1⟩
theorem yeB {x y : V} {us : List Value} (r : Vals [x, y] us) : ∃ u w', us = [u, w'] /\ RelV x u /\ RelV y w' := by
 cases r with
 | cons r1 r2 =>
  cases r2 with
  | cons r3 r4 => cases r4; exact ⟨_, _, rfl, r1, r3⟩
theorem zgI : CallR X (.builtin "abs") (fun xs H Q => ∃ i, xs = [.int i] /\ Q (.int (if i < 0 then -i else i)) H) := by
 intro pins s σ H xs us Q I r h
 obtain ⟨i, rfl, q⟩ := h
 obtain ⟨u, rfl, t, rfl⟩ := ydl r
 exact call_abs_int fun u tk => ⟨.int (if i < 0 then -i else i), H, I.tok _, ⟨_, rfl⟩, q⟩
theorem zfV (hc : X.calm = true) : CallR X (.builtin "max") (fun xs H Q => ∃ i j, xs = [.int i, .int j] /\ Q (.int (if j > i then j else i)) H) := by
 intro pins s σ H xs us Q I r h
 obtain ⟨i, j, rfl, q⟩ := h
 obtain ⟨u, w', rfl, ⟨t, rfl⟩, ⟨t', rfl⟩⟩ := yeB r
 refine max_two_ints (I.ok.hd hc) fun h' tk k => ⟨_, H, I.kept k, ?_, q⟩
 by_cases hj : j > i
 ·rw [if_pos hj, if_pos hj]; exact ⟨_, rfl⟩
 ·rw [if_neg hj, if_neg hj]; exact ⟨_, rfl⟩
end
end L2
namespace L2
open PySem PySem.Spec PyProof.Rows
structure ObjM (h : Heap) (x dx C : Addr) (mA : Str -> Option Value) : Prop where
 obj : h.get? x = some (PySem.W.instObj C dx)
 ns : h.Ns1 dx mA
 ne : dx ≠ x
theorem zfW {h : Heap} {dx : Addr} {mA : Str -> Option Value} (n : h.Ns1 dx mA) : ∃ od, h.get? dx = some od /\ ∀ name, PySem.W.lookIn name od = some (mA name) := by
 obtain ⟨o, es, ep, ho, hd, hk, _, hm⟩ := n
 refine ⟨o, ho, fun name => ?_⟩
 have e := hm name
 unfold nsFind findBy at e
 rw [<- Array.find?_toList] at e
 unfold PySem.W.lookIn
 rw [hd]
 dsimp only
 split
 ·rename_i y q
  rw [q] at e
  exact congrArg some e
 ·rename_i q
  rw [q] at e
  have a : es.toList.any (·.refKey) = false := by
   rw [List.any_eq_false]
   intro y hy
   obtain ⟨z, t, hkey⟩ := hk y (Array.mem_toList_iff.mp hy)
   simp [DictEntry.refKey, hkey]
  have a' : ¬ es.toList.any (·.refKey) = true := by rw [a]; exact Bool.false_ne_true
  rw [if_neg a']
  exact congrArg some e
theorem ObjM.look {h : Heap} {x dx C : Addr} {mA : Str -> Option Value} (I : ObjM h x dx C mA) : ∃ od, PySem.W.InstAt h x (PySem.W.instObj C dx) C (some od) /\ ∀ name, PySem.W.lookIn name od = some (mA name) :=
 let ⟨od, ho, hl⟩ := zfW I.ns
 ⟨od, ⟨I.obj, rfl, rfl, ho⟩, hl⟩
section
variable {prog : Program} {w : World} {A : Around} {E : Value -> Shared -> Prop} {s : Shared} {K : PySem.W.Frag} {x dx C f : Addr} {mA : Str -> Option Value} {name : Str} {v : Value}
theorem zhN {expr : Bool} {Q : Value -> Shared -> Prop} (X : K.In s.heap) (I : ObjM s.heap x dx C mA) (hg : PySem.W.plainGet K C name = true) (hh : PySem.W.hasDictIn K C = true)
  (ha : PySem.W.findIn K (.ref C) name = some none) (hv : mA name = some v) (hv' : PySem.W.handedIn v = true) (h : Q v { s with toks := s.toks + 1 }) :
  wpAny (model prog w) A (getAttr (.ref x) name expr) Q E s := by
 obtain ⟨od, J, hl⟩ := I.look
 exact PySem.W.get_value X J (PySem.W.plainGet_of hg).1 (PySem.W.findObj_own hh ha rfl (by rw [hl, hv])) hv' h
theorem zgJ {pl : Sem Bool} {Q : Value × List Value -> Shared -> Prop} (X : K.In s.heap) (I : ObjM s.heap x dx C mA) (hg : PySem.W.plainGet K C name = true)
  (hf : PySem.W.findIn K (.ref C) name = some (some (.ref f))) (ht : PySem.W.isFn K (.ref f) = true) (hv : mA name = none) (h : Q (.ref f, [.ref x]) s) :
  wpAny (model prog w) A (getMethod (.ref x) name pl) Q E s := by
 obtain ⟨od, J, hl⟩ := I.look
 exact PySem.W.method_fn X J (PySem.W.plainGet_of hg).1 (PySem.W.plainGet_of hg).2 hf (beq_iff_eq.mp ht) (by show (PySem.W.lookIn name od).map (·.isSome) = some false; rw [hl, hv]; rfl) h
theorem zhO {ns : List Str} {Q : Unit -> Shared -> Prop} (X : K.In s.heap) (I : ObjM s.heap x dx C mA)
  (hs : PySem.W.findIn K (.ref C) "__setattr__" = some (some (.builtin "object.__setattr__"))) (hp : PySem.W.plainOver K C = true) (ht : PySem.W.takerIn K C name = some none) (hh : PySem.W.hasDictIn K C = true)
  (hw : PySem.Within mA ns) (hsz : ns.length <= sizeLine)
  (h : ∀ h', ObjM h' x dx C (fun y => if y = name then some v else mA y) -> Heap.SameBut dx s.heap h' -> Q () { s with heap := h', toks := s.toks + 2 }) :
  wpAny (model prog w) A (setAttr (.ref x) name v) Q E s := by
 obtain ⟨od, J, hl⟩ := I.look
 refine PySem.W.set_plain X J hs (PySem.W.osa_open (s := { s with toks := s.toks + 1 }) (r := none) X J hp ht fun b => ?_)
 obtain ⟨cd, hc, hd'⟩ := PySem.W.any_some hh
 have hx : s.heap.get? x = some ⟨.ref C, some dx, .plain, #[]⟩ := I.obj
 refine wpAny_bind (wpAny_pure (wpAny_bind (wpAny_bind (wpAny_loadPart hx (wpAny_bind (PySem.W.Looks.here (s := { s with toks := s.toks + 1 }) (PySem.W.looks_clsIn X hc) ?_))))))
 rw [hd']
 refine wpAny_pure (a := some dx) (wpAny_bind (wpAny_pure (wpAny_bind ?_)))
 refine wpAny_nsSet1 (s := { s with toks := s.toks + 1 }) I.ns fun h' hn2 hs2 => ?_
 obtain ⟨oD, esD, epD, hoD, hdD, hcD⟩ := hn2.count (PySem.Within.cons name v hw)
 refine wpAny_bind (wpAny_lookBehind hoD (by rw [hdD]; exact pastItsLine_dict (Nat.le_trans hcD (by rw [List.length_cons]; omega))) ?_)
 exact wpAny_pure (h _ ⟨(hs2.2 _ (Ne.symm I.ne)).trans I.obj, hn2, I.ne⟩ hs2)
theorem zgK {R : Result -> Shared -> Prop} {vs : List Value} {kw : List (Str × Value)} (X : K.In s.heap) (hm : PySem.W.makesIn K C = true)
  (hi : PySem.W.findIn K (.ref C) "__init__" = some (some (.ref f))) (hf : PySem.W.typeIn K (.ref f) = some (.type "function"))
  (h : codeAny (model prog w) (A.under (.builtin "type.__call__" ⟨.ref C :: vs, kw⟩)) (.call (.ref f) ⟨.ref (s.heap.objs.size + 1) :: vs, kw⟩) (PySem.W.InitBack (s.heap.objs.size + 1) R)
   { s with heap := (s.heap.push PySem.W.emptyDict).push (PySem.W.instObj C s.heap.objs.size) }) :
  codeAny (model prog w) A (.call (.ref C) ⟨vs, kw⟩) R s := by
 obtain ⟨hh, g, d, t, os⟩ := s
 exact PySem.W.make_core (PySem.W.makes_of X hm) (PySem.W.looks_findIn X hi) (fun self => PySem.W.bind_fn X self hf) (.inl rfl) h
end
def putF (f : Str) (v : V) : List (Str × V) -> List (Str × V)
 | [] => [(f, v)]
 | (g, x) :: r => if g = f then (g, v) :: r else (g, x) :: putF f v r
theorem zaW (f g : Str) (v : V) : ∀ fs : List (Str × V), (putF f v fs).lookup g = if g = f then some v else fs.lookup g
 | [] => by
  show List.lookup g [(f, v)] = _
  by_cases h : g = f
  ·have hb : (g == f) = true := beq_iff_eq.mpr h
   simp only [List.lookup, hb, if_pos h]
  ·have hb : (g == f) = false := beq_eq_false_iff_ne.mpr h
   simp only [List.lookup, hb, if_neg h]
 | (k, x) :: r => by
  have ih := zaW f g v r
  rw [show putF f v ((k, x) :: r) = (if k = f then (k, v) :: r else (k, x) :: putF f v r) from rfl]
  by_cases hk : k = f
  ·rw [if_pos hk]
   by_cases h : g = k
   ·have hb : (g == k) = true := beq_iff_eq.mpr h
    simp only [List.lookup, hb, if_pos (h.trans hk)]
   ·have hb : (g == k) = false := beq_eq_false_iff_ne.mpr h
    simp only [List.lookup, hb, if_neg (fun e : g = f => h (e.trans hk.symm))]
  ·rw [if_neg hk]
   by_cases h : g = k
   ·have hb : (g == k) = true := beq_iff_eq.mpr h
    simp only [List.lookup, hb, if_neg (fun e : g = f => hk (h.symm.trans e))]
   ·have hb : (g == k) = false := beq_eq_false_iff_ne.mpr h
    simp only [List.lookup, hb]
    exact ih
theorem zbJ (f : Str) (v : V) : ∀ fs : List (Str × V), f ∈ (putF f v fs).map (·.1) /\ ∀ g, g ∈ fs.map (·.1) -> g ∈ (putF f v fs).map (·.1)
 | [] => ⟨by simp [putF], fun g h => by simp at h⟩
 | (k, x) :: r => by
  obtain ⟨i1, i2⟩ := zbJ f v r
  rw [show putF f v ((k, x) :: r) = (if k = f then (k, v) :: r else (k, x) :: putF f v r) from rfl]
  by_cases hk : k = f
  ·rw [if_pos hk]
   subst hk
   exact ⟨by simp, fun g h => by simpa using h⟩
  ·rw [if_neg hk]
   refine ⟨?_, fun g h => ?_⟩
   ·rw [List.map_cons]
    exact List.mem_cons_of_mem _ i1
   ·rw [List.map_cons] at h ⊢
    rcases List.mem_cons.mp h with e | e
    ·exact List.mem_cons.mpr (.inl e)
    ·exact List.mem_cons_of_mem _ (i2 g e)
theorem zce (f : Str) (v : V) : ∀ fs : List (Str × V), (putF f v fs).length <= fs.length + 1
 | [] => by simp [putF]
 | (k, x) :: r => by
  have ih := zce f v r
  rw [show putF f v ((k, x) :: r) = (if k = f then (k, v) :: r else (k, x) :: putF f v r) from rfl]
  by_cases hk : k = f
  ·rw [if_pos hk, List.length_cons, List.length_cons]; omega
  ·rw [if_neg hk, List.length_cons, List.length_cons]; omega
theorem RelO.some_of {v : V} {o : Option Value} (r : RelO (some v) o) : ∃ u, o = some u /\ RelV v u := by
 cases o with
 | none => exact (show False from r).elim
 | some u => exact ⟨u, rfl, r⟩
theorem RelO.none_of {o : Option Value} (r : RelO none o) : o = none := by
 cases o with
 | none => rfl
 | some u => exact (show False from r).elim
theorem zfX {v : V} {u : Value} (r : RelV v u) : PySem.W.handedIn u = true := by
 cases v with
 | non => cases (show u = Value.none from r); rfl
 | bl b => cases (show u = Value.bool b from r); rfl
 | int i => obtain ⟨t, e⟩ := (show ∃ t, u = Value.int i t from r); cases e; rfl
 | str x => obtain ⟨t, e⟩ := (show ∃ t, u = Value.str x t from r); cases e; rfl
 | byt b => obtain ⟨t, e⟩ := (show ∃ t, u = Value.bytes b t from r); cases e; rfl
 | flt b => obtain ⟨t, e⟩ := (show ∃ t, u = Value.float b t from r); cases e; rfl
 | ref a => cases (show u = Value.ref a from r); rfl
 | ty n => cases (show u = Value.type n from r); rfl
section
variable {P : Program} {w : World} {H H' : Hp} {h h' : Heap} {a C dx : Addr} {fs fs' : List (Str × V)}
theorem zbZ (hok : HOk P w H h) (e : H a = some (.ins C dx fs)) : ∃ mA, ObjM h a dx C mA /\ (∀ f, RelO (fs.lookup f) (mA f)) /\ PySem.Within mA (fs.map (·.1)) /\ fs.length <= 1000 /\ H dx = some (.own a) := by
 obtain ⟨d, z, ne, ob, mA, n, r, q⟩ := (show ObjOk P w H h a (.ins C dx fs) from hok a _ e)
 exact ⟨mA, ⟨ob, n, ne⟩, r, q, z, d⟩
end
structure Cls (K : PySem.W.Frag) (C : Addr) : Prop where
 pg : PySem.W.plainGet K C Str.empty = true
 hd : PySem.W.hasDictIn K C = true
 po : PySem.W.plainOver K C = true
 sa : PySem.W.findIn K (.ref C) "__setattr__" = some (some (.builtin "object.__setattr__"))
theorem Cls.get {K : PySem.W.Frag} {C : Addr} (c : Cls K C) (f : Str) : PySem.W.plainGet K C f = true := c.pg
def NoAttr (K : PySem.W.Frag) (C : Addr) (f : Str) : Prop := PySem.W.findIn K (.ref C) f = some none
theorem NoAttr.taker {K : PySem.W.Frag} {C : Addr} {f : Str} (n : NoAttr K C f) : PySem.W.takerIn K C f = some none := by
 unfold PySem.W.takerIn
 rw [show PySem.W.findIn K (.ref C) f = some none from n]
 rfl
structure Meth (K : PySem.W.Frag) (C : Addr) (m : Str) (f : Addr) : Prop where
 at_ : PySem.W.findIn K (.ref C) m = some (some (.ref f))
 fn : PySem.W.isFn K (.ref f) = true
 kp : PySem.W.keepIn K (.ref f) = true
section
variable {X : Cx} {pins : List (Addr × Obj)} {σ : St} {H : Hp} {s : Shared} {a C dx : Addr} {fs : List (Str × V)} {f : Str} {v : V} {A : Around} {E : Value -> Shared -> Prop}
theorem zfn {b : Bool} {Q : Value -> Shared -> Prop} (I : Inv X pins σ H s) (e : H a = some (.ins C dx fs)) (c : Cls X.K C) (n : NoAttr X.K C f) (l : fs.lookup f = some v)
  (h : ∀ u s', Inv X pins σ H s' -> RelV v u -> Q u s') : wpAny (model X.prog X.w) A (getAttr (.ref a) f b) Q E s := by
 obtain ⟨mA, O, r, _, _, _⟩ := zbZ I.hok e
 obtain ⟨u, hu, ru⟩ := RelO.some_of (v := v) (o := mA f) (by rw [<- l]; exact r f)
 exact zhN I.kIn O (c.get f) c.hd n hu (zfX ru) (h u _ (I.tok _) ru)
theorem zcE {m : Str} {g : Addr} {pl : Sem Bool} {Q : Value × List Value -> Shared -> Prop} (I : Inv X pins σ H s) (e : H a = some (.ins C dx fs)) (c : Cls X.K C) (k : Meth X.K C m g) (l : fs.lookup m = none)
  (h : Q (.ref g, [.ref a]) s) : wpAny (model X.prog X.w) A (getMethod (.ref a) m pl) Q E s := by
 obtain ⟨mA, O, r, _, _, _⟩ := zbZ I.hok e
 have hn : mA m = none := RelO.none_of (by rw [<- l]; exact r m)
 exact zgJ I.kIn O (c.get m) k.at_ k.fn hn h
theorem zfo {y : V} {u : Value} {Q : Unit -> Shared -> Prop} (I : Inv X pins σ H s) (e : H a = some (.ins C dx fs)) (c : Cls X.K C) (n : NoAttr X.K C f) (hl : fs.length < 1000) (ry : RelV y u)
  (h : ∀ s', Inv X pins σ (upd H a (.ins C dx (putF f y fs))) s' -> Q () s') : wpAny (model X.prog X.w) A (setAttr (.ref a) f u) Q E s := by
 obtain ⟨mA, O, r, wi, _, ho⟩ := zbZ I.hok e
 have hz : (fs.map (·.1)).length <= sizeLine := by rw [List.length_map, sizeLine_eq]; omega
 refine zhO I.kIn O c.sa c.po n.taker c.hd wi hz fun h' O' sb => h _ ?_
 have hd : ∃ o, h'.get? dx = some o := let ⟨o, _, _, e', _⟩ := O'.ns; ⟨o, e'⟩
 refine I.write (x := a) (e := dx) (by rw [e]; exact True.intro) (.inr ho) (fun b q hb z => (sb.2 b hb).trans z) hd ?_
 refine ⟨by rw [yar O.ne]; exact ho, ?_, O.ne, O'.obj, _, O'.ns, fun g => ?_, fun g hg => ?_⟩
 ·have := zce f y fs; omega
 ·show RelO ((putF f y fs).lookup g) (if g = f then some u else mA g)
  rw [zaW]
  by_cases q : g = f
  ·rw [if_pos q, if_pos q]; exact ry
  ·rw [if_neg q, if_neg q]; exact r g
 ·by_cases q : g = f
  ·rw [q]; exact (zbJ f y fs).1
  ·refine (zbJ f y fs).2 g (wi g fun z => hg ?_)
   show (if g = f then some u else mA g) = none
   rw [if_neg q]; exact z
theorem Inv.made (I : Inv X pins σ H s) : Inv X pins σ (upd (upd H s.heap.objs.size (.own (s.heap.objs.size + 1))) (s.heap.objs.size + 1) (.ins C s.heap.objs.size []))
  { s with heap := (s.heap.push PySem.W.emptyDict).push (PySem.W.instObj C s.heap.objs.size) } := by
 have e1 : (s.heap.push PySem.W.emptyDict).get? s.heap.objs.size = some PySem.W.emptyDict := Heap.get?_push_size s.heap rfl
 have e2 : ((s.heap.push PySem.W.emptyDict).push (PySem.W.instObj C s.heap.objs.size)).get? (s.heap.objs.size + 1) = some (PySem.W.instObj C s.heap.objs.size) := by
  have := Heap.get?_push_size (s.heap.push PySem.W.emptyDict) (o := PySem.W.instObj C s.heap.objs.size) rfl
  rwa [Heap.size_push] at this
 have e3 : (s.heap.push PySem.W.emptyDict).Ns s.heap.objs.size (fun _ => none) := ⟨PySem.W.emptyDict, #[], _, e1, rfl, (fun e he => absurd he (by simp)), fun _ => rfl⟩
 have I1 := I.laid (a := s.heap.objs.size) (o := .own (s.heap.objs.size + 1)) (h' := s.heap.push PySem.W.emptyDict) (t' := s.toks) (fun b u q => Heap.get?_push_of_some _ q) (Nat.le_refl _) ⟨_, e1⟩
 refine I1.laid (a := s.heap.objs.size + 1) (o := .ins C s.heap.objs.size []) (t' := s.toks) (fun b u q => Heap.get?_push_of_some _ q) (Nat.le_of_eq (Heap.size_push _ _)) ?_
 have ne : s.heap.objs.size ≠ s.heap.objs.size + 1 := Nat.ne_of_lt (Nat.lt_succ_self _)
 refine ⟨by rw [yar ne, zam], Nat.zero_le _, ne, e2, fun _ => none, (Heap.Ns1.of_empty e3).at fun o q => Heap.get?_push_of_some _ q, fun _ => True.intro, fun y hy => absurd rfl hy⟩
theorem zhP {prog : Program} {w : World} {env : Env} {e : Expr} {f : Str} {pos : Pos} {s : Shared} {Q : Value -> Shared -> Prop} (hb : attributeBase e f env (eval e env) = eval e env)
  (h : wpAny (model prog w) A (eval e env) (fun o s₁ => wpAny (model prog w) A (getAttr o f true) Q E s₁) E s) : wpAny (model prog w) A (eval (.Attribute e f pos) env) Q E s :=
 Attribute_any_ h (by rw [arm_eval_Attribute, hb])
end
def tFld (K : PySem.W.Frag) (ta : TE) (f : Str) : TE := fun σ H Q => ta σ H fun x H1 => ∃ a C dx fs v, x = .ref a /\ H1 a = some (.ins C dx fs) /\ Cls K C /\ NoAttr K C f /\ fs.lookup f = some v /\ Q v H1
def sFld (K : PySem.W.Frag) (ta tv : TE) (f : Str) : TS := fun D σ H => tv σ H fun y H1 => ta σ H1 fun x H2 => ∃ a C dx fs, x = .ref a /\ H2 a = some (.ins C dx fs) /\ Cls K C /\ NoAttr K C f /\ fs.length < 1000 /\
 D.nx σ (upd H2 a (.ins C dx (putF f y fs)))
section
variable {X : Cx} {o e value : Expr} {f : Str} {pos pos' tpos : Pos} {ta tv : TE}
theorem yfZ (he : PE X e ta) (hb : attributeBase e f X.env (eval e X.env) = eval e X.env) : PE X (.Attribute e f pos) (tFld X.K ta f) := by
 intro pins s σ H Q I h
 refine zhP hb (thn (he pins s σ H _ I h) fun u s1 ⟨x, H1, I1, rx, a, C, dx, fs, v, ex, ea, c, n, l, q⟩ => ?_)
 subst ex
 obtain rfl : u = Value.ref a := rx
 exact zfn I1 ea c n l fun u' s2 I2 ru => ⟨v, H1, I2, ru, q⟩
theorem yf0 (ha : PE X o ta) (hv : PE X value tv) (hs : swapsWith value (some (.Attribute o f pos')) pos.line X.env = pure false) : PS X (.Assign [.Attribute o f pos'] value pos) (sFld X.K ta tv f) := by
 intro pins s σ H D I h
 refine plainObj_wpAny_Assign_Attribute (thn (hv pins s σ H _ I h) fun u s1 ⟨y, H1, I1, ry, q⟩ => thn (ha pins s1 σ H1 _ I1 q) fun ov s2 ⟨x, H2, I2, rx, a, C, dx, fs, ex, ea, c, n, l, q2⟩ => ?_) hs
 subst ex
 obtain rfl : ov = Value.ref a := rx
 exact zfo I2 ea c n l ry fun s3 I3 => ⟨σ, _, I3, q2⟩
end
section
variable {X : Cx} {pins : List (Addr × Obj)} {σ : St} {H : Hp} {s : Shared} {A : Around} {E : Value -> Shared -> Prop} {Q : Value -> Shared -> Prop} {c : Value} {b : Bool}
inductive TyOf (K : PySem.W.Frag) (H : Hp) : V -> Value -> Prop where
 | non : TyOf K H .non (.type "NoneType")
 | bl (x : Bool) : TyOf K H (.bl x) (.type "bool")
 | int (i : Int) : TyOf K H (.int i) (.type "int")
 | str (x : Str) : TyOf K H (.str x) (.type "str")
 | flt (x : UInt64) : TyOf K H (.flt x) (.type "float")
 | lst {a : Addr} {xs : List V} (e : H a = some (.lst xs)) : TyOf K H (.ref a) (.type "list")
 | frz {a : Addr} {o : Obj} {xs : List V} (e : H a = some (.frz o (.lst xs))) : TyOf K H (.ref a) (.type "list")
 | tup {a : Addr} {xs : List V} (e : H a = some (.tup xs)) : TyOf K H (.ref a) (.type "tuple")
 | dK {a : Addr} {kvs : List (Key × V)} (e : H a = some (.dK kvs)) : TyOf K H (.ref a) (.type "dict")
 | dT {a : Addr} {kvs : List (List Key × V)} (e : H a = some (.dT kvs)) : TyOf K H (.ref a) (.type "dict")
 | ins {a C dx : Addr} {fs : List (Str × V)} (e : H a = some (.ins C dx fs)) (cl : Cls K C) (ha : PySem.W.findIn K (.ref C) "__class__" = some (some (.builtin "object.__class__")))
   (hn : PySem.W.specialIn K (.builtin "object.__class__") "__get__" = some (some (.builtin "getset_descriptor.__get__"))) (htk : PySem.W.takesIn K (.builtin "object.__class__") = some true)
   (hm : PySem.W.mroIn K C (.type "object") = some true) : TyOf K H (.ref a) (.ref C)
theorem zfY {x : V} {u t : Value} (I : Inv X pins σ H s) (rx : RelV x u) (ty : TyOf X.K H x t) (e : PySem.W.kitOne X.K t c = some b) (h : ∀ tk, Q (.bool b) { s with toks := tk }) :
  wpAny (model X.prog X.w) A (call (.builtin "isinstance") [u, c]) Q E s := by
 cases ty with
 | non => cases (show u = Value.none from rx); exact PySem.W.kia_one PySem.W.kitx_none I.kIn True.intro e (fun z => nomatch z) h
 | bl y => cases (show u = Value.bool y from rx); exact PySem.W.kia_one PySem.W.kitx_bool I.kIn True.intro e (fun z => nomatch z) h
 | int i => obtain ⟨t, q⟩ := (show ∃ t, u = Value.int i t from rx); cases q; exact PySem.W.kia_one PySem.W.kitx_int I.kIn True.intro e (fun z => nomatch z) h
 | str y => obtain ⟨t, q⟩ := (show ∃ t, u = Value.str y t from rx); cases q; exact PySem.W.kia_one PySem.W.kitx_str I.kIn True.intro e (fun z => nomatch z) h
 | flt y => obtain ⟨t, q⟩ := (show ∃ t, u = Value.float y t from rx); cases q; exact PySem.W.kia_one PySem.W.kitx_float I.kIn True.intro e (fun z => nomatch z) h
 | @lst a xs ea =>
  cases (show u = Value.ref a from rx)
  obtain ⟨_, _, n, _, h1⟩ := (show ObjOk X.prog X.w H s.heap a (.lst xs) from I.hok a _ ea)
  exact PySem.W.kia_one PySem.W.kitx_list I.kIn ⟨_, h1, rfl⟩ e (fun z => nomatch z) h
 | @frz a ob xs ea =>
  cases (show u = Value.ref a from rx)
  obtain ⟨_, _, _, n, _, h1⟩ := (show ObjOk X.prog X.w H s.heap a (.frz ob (.lst xs)) from I.hok a _ ea)
  exact PySem.W.kia_one PySem.W.kitx_list I.kIn ⟨_, h1, rfl⟩ e (fun z => nomatch z) h
 | @tup a xs ea =>
  cases (show u = Value.ref a from rx)
  obtain ⟨_, _, _, p⟩ := (show ObjOk X.prog X.w H s.heap a (.tup xs) from I.hok a _ ea)
  obtain ⟨o, h1, h2, _⟩ := p
  exact PySem.W.kia_one PySem.W.kitx_tuple I.kIn ⟨o, h1, h2⟩ e (fun z => nomatch z) h
 | @dK a kvs ea =>
  cases (show u = Value.ref a from rx)
  obtain ⟨_, _, vs, _, p⟩ := (show ObjOk X.prog X.w H s.heap a (.dK kvs) from I.hok a _ ea)
  obtain ⟨o, es, ep, h1, h2, _⟩ := p
  exact PySem.W.kia_one PySem.W.kitx_dict I.kIn ⟨o, h1, h2.1⟩ e (fun z => nomatch z) h
 | @dT a kvs ea =>
  cases (show u = Value.ref a from rx)
  obtain ⟨_, _, xs, _, o, es, ep, h1, h2, _⟩ := (show ObjOk X.prog X.w H s.heap a (.dT kvs) from I.hok a _ ea)
  exact PySem.W.kia_one PySem.W.kitx_dict I.kIn ⟨o, h1, h2.1⟩ e (fun z => nomatch z) h
 | @ins a C dx fs ea cl ha hn htk hm =>
  cases (show u = Value.ref a from rx)
  obtain ⟨mA, O, _⟩ := zbZ I.hok ea
  obtain ⟨od, J, _⟩ := O.look
  exact PySem.W.kia_one (PySem.W.kitx_own (cl.get _) cl.hd ha hn htk hm) I.kIn J e (fun z => nomatch z) h
end
end L2
namespace L2
open PySem PySem.Spec PyProof.Rows
structure Room (k : Nat) (A : Around) : Prop where
 hd : A.handled = none
 dp : A.depth + 3 * k + 5 < recursionLimit
 un : A.units + 16 * k + 200 < cLine
theorem Room.mono {j k : Nat} {A : Around} (r : Room k A) (h : j <= k) : Room j A := ⟨r.hd, by have := r.dp; omega, by have := r.un; omega⟩
theorem Room.deeper {k : Nat} {A : Around} (r : Room (k + 1) A) (env : Env) : Room k (A.deeper env) :=
 ⟨r.hd, by have := r.dp; show A.depth + 1 + 3 * k + 5 < _; omega, by have := r.un; show A.units + 3 + 16 * k + 200 < _; omega⟩
theorem zfp {A : Around} {C : Addr} {us : List Value} {kw : List (Str × Value)} : (A.under (.builtin "type.__call__" ⟨.ref C :: us, kw⟩)).depth = A.depth + 1 := by
 first | rfl | simp [Around.under, Code.weight, Code.isCreation, Code.isGuard, Code.isCaller, Code.frames, Code.isFrame, guardIds]
theorem zfq {A : Around} {C : Addr} {us : List Value} {kw : List (Str × Value)} : (A.under (.builtin "type.__call__" ⟨.ref C :: us, kw⟩)).units = A.units + 1 := by
 first | rfl | simp [Around.under, Code.cUnits, Code.frames, Code.isFrame]
theorem Room.make {k : Nat} {A : Around} (r : Room (k + 1) A) (C : Addr) (us : List Value) (kw : List (Str × Value)) : Room k (A.under (.builtin "type.__call__" ⟨.ref C :: us, kw⟩)) :=
 ⟨r.hd, by have := r.dp; rw [zfp]; omega, by have := r.un; rw [zfq]; omega⟩
theorem Room.depth {k : Nat} {A : Around} (r : Room k A) : A.depth < recursionLimit := by have := r.dp; omega
def tNil : TA := fun _ H Q => Q [] H
def ygW (ta : TE) (tr : TA) : TA := fun σ H Q => ta σ H fun x H1 => tr σ H1 fun xs H2 => Q (x :: xs) H2
section
variable {X : Cx} {e : Expr} {es : List Expr} {te : TE} {t : TA} {pos : Pos}
theorem yeQ : PA X [] tNil := fun _ _ _ _ H Q I h => Calls.spliced_nil ⟨[], H, I, .nil, h⟩
theorem zcU (ha : PE X e te) (hr : PA X es t) (hs : starEach (e :: es) X.env = (false, eval e X.env) :: starEach es X.env := by rfl) : PA X (e :: es) (ygW te t) := by
 intro pos pins s σ H Q I h
 rw [hs]
 show wpAny _ _ (spliced ((false, eval e X.env) :: backTo pos (starEach es X.env))) _ _ s
 refine Calls.spliced_cons (thn (ha pins s σ H _ I h) fun u s1 ⟨x, H1, I1, r1, q1⟩ => ?_)
 exact thn (hr pos pins s1 σ H1 _ I1 q1) fun us s2 ⟨xs, H2, I2, r2, q2⟩ => ⟨x :: xs, H2, I2, .cons r1 r2, q2⟩
def tTup (t : TA) : TE := fun σ H Q => t σ H fun xs H1 => xs.length <= sizeLine /\ ∀ p, H1 p = none -> Q (.ref p) (upd H1 p (.tup xs))
def tLst (t : TA) : TE := fun σ H Q => t σ H fun xs H1 => xs.length <= sizeLine /\ ∀ p, H1 p = none -> Q (.ref p) (upd H1 p (.lst xs))
theorem yf1 {x1} (h : PA X es t) : PE X (.Tuple es x1 pos) (tTup t) := by
 intro pins s σ H Q I hq
 refine wpAny_Tuple_spliced (thn (h pos pins s σ H _ I hq) fun us s1 ⟨xs, H1, I1, r, z, q⟩ => ⟨by rw [<- r.length]; exact z, ?_⟩)
 have hf : H1 s1.heap.objs.size = none := I1.hok.fresh (Nat.le_refl _)
 refine ⟨.ref s1.heap.objs.size, upd H1 s1.heap.objs.size (.tup xs), I1.laid (t' := s1.toks) (fun b u e => Heap.get?_push_of_some _ e) (Nat.le_refl _) ?_, rfl, q _ hf⟩
 exact ⟨z, us, r, ⟨_, Heap.get?_push_size _ rfl, rfl, _, rfl⟩⟩
theorem yeR (h : PA X es t) : PE X (.List es pos) (tLst t) := by
 intro pins s σ H Q I hq
 refine wpAny_List_spliced (thn (h pos pins s σ H _ I hq) fun us s1 ⟨xs, H1, I1, r, z, q⟩ => ⟨by rw [<- r.length]; exact z, ?_⟩)
 have hf : H1 s1.heap.objs.size = none := I1.hok.fresh (Nat.le_refl _)
 refine ⟨.ref s1.heap.objs.size, upd H1 s1.heap.objs.size (.lst xs), I1.laid (t' := s1.toks) (fun b u e => Heap.get?_push_of_some _ e) (Nat.le_refl _) ?_, rfl, q _ hf⟩
 exact ⟨z, us, 0, r, Heap.get?_push_size _ rfl⟩
end
abbrev Sp := List V -> Hp -> VK -> XK -> Prop
abbrev CXT := List Env -> Hp -> Shared -> XK -> Value -> Shared -> Prop
structure Env0 (P : Program) (w : World) (K : PySem.W.Frag) (mg : Str -> Option Value) (base : Heap) (A : Around) (outer : List Env) (s : Shared) (H : Hp) : Prop where
 frames : A.frames = some outer
 mod : Mod K mg base
 bs : ∀ b o, base.get? b = some o -> s.heap.get? b = some o /\ H b = none
 bsz : base.objs.size <= s.heap.objs.size
 funs : s.heap.FunFrames base outer
 frf : ∀ b ∈ frs outer, H b = none
 hok : HOk P w H s.heap
 bare : AllBare s.gens
def CE (outer : List Env) (P : Program) (w : World) (H : Hp) (s : Shared) (Q : VK) (u : Value) (s' : Shared) : Prop :=
 ∃ v H', s'.os = s.os /\ AllBare s'.gens /\ Un (frs outer) [] H H' s.heap s'.heap /\ HOk P w H' s'.heap /\ RelV v u /\ Q v H'
def CR (CX : CXT) (outer : List Env) (P : Program) (w : World) (H : Hp) (s : Shared) (Q : VK) (E : XK) (r : Result) (s' : Shared) : Prop :=
 match r with
 | .ok (.ret u) => CE outer P w H s Q u s'
 | .ok _ => False
 | .error e => CX outer H s E e s'
structure FnOk (P : Program) (w : World) (K : PySem.W.Frag) (mg : Str -> Option Value) (base : Heap) (CX : CXT) (k : Nat) (f : Addr) (fd : FuncData) (ps : List Str) (sp : Sp) : Prop where
 len : ∀ vs H Q E, sp vs H Q E -> vs.length = ps.length
 run : ∀ (A : Around) (outer : List Env) (s : Shared) (H : Hp) (args : Args) (us : List Value) (vs : List V) (Q : VK) (E : XK), Room k A -> Env0 P w K mg base A outer s H -> BindsTo s fd args (ps.zip us) -> Vals vs us -> sp vs H Q E ->
  codeAny (model P w) A (.call (.ref f) args) (CR CX outer P w H s Q E) s
theorem FnOk.imp {P : Program} {w : World} {K : PySem.W.Frag} {mg : Str -> Option Value} {base : Heap} {CX : CXT} {k : Nat} {f : Addr} {fd : FuncData} {ps : List Str} {sp sp' : Sp} (F : FnOk P w K mg base CX k f fd ps sp)
  (h : ∀ vs H Q E, sp' vs H Q E -> sp vs H Q E) : FnOk P w K mg base CX k f fd ps sp' :=
 ⟨fun vs H Q E q => F.len vs H Q E (h _ _ _ _ q), fun A outer s H args us vs Q E hr he hb hv hs => F.run A outer s H args us vs Q E hr he hb hv (h _ _ _ _ hs)⟩
theorem Env0.make {P : Program} {w : World} {K : PySem.W.Frag} {mg : Str -> Option Value} {base : Heap} {A : Around} {outer : List Env} {s : Shared} {H : Hp} (e : Env0 P w K mg base A outer s H) (C : Addr) (us : List Value) (kw : List (Str × Value)) :
  Env0 P w K mg base (A.under (.builtin "type.__call__" ⟨.ref C :: us, kw⟩)) outer s H := ⟨by first | exact e.frames | (simpa [Around.under, Code.envs, Code.isFrame, pushEnvs] using e.frames), e.mod, e.bs, e.bsz, e.funs, e.frf, e.hok, e.bare⟩
section
variable {X : Cx} {pins : List (Addr × Obj)} {σ : St} {H : Hp} {s s' : Shared}
theorem Inv.env0 (I : Inv X pins σ H s) : Env0 X.prog X.w X.K X.mg X.base X.A X.stack s H :=
 ⟨I.ok.frames, I.ok.mod, I.bs, Nat.le_trans I.ok.bsz I.sz, I.stack, I.stkFree, I.hok, I.bare⟩
theorem Inv.after {Q : VK} {u : Value} (I : Inv X pins σ H s) (h : CE X.stack X.prog X.w H s Q u s') : EP X pins σ Q u s' := by
 obtain ⟨v, H', os, bare, un, hok, r, q⟩ := h
 obtain ⟨hh, g, d, t, os'⟩ := s'
 obtain rfl : os' = s.os := os
 exact ⟨v, H', I.call (h' := hh) (g' := g) (d' := d) (t' := t) (ch := []) un hok bare (fun b z => absurd z (by simp)), r, q⟩
end
def Binds (K : PySem.W.Frag) (fd : FuncData) (ps : List Str) (ds : List Value) : Prop :=
 ∀ (s : Shared) (us : List Value), K.In s.heap -> (us ++ ds).length = ps.length -> BindsTo s fd ⟨us, []⟩ (ps.zip (us ++ ds))
theorem Binds.all {K : PySem.W.Frag} {fd : FuncData} {ps : List Str} (h : ∀ us : List Value, us.length = ps.length -> bindArgs fd ⟨us, []⟩ = pure (ps.zip us)) : Binds K fd ps [] := fun s us _ hl => by
 rw [List.append_nil] at hl ⊢
 exact .of_eq (h us hl)
def yf2 (CX : CXT) (X : Cx) (E : XK) : Prop := ∀ (pins : List (Addr × Obj)) (σ : St) (H : Hp) (s : Shared) (e : Value) (s' : Shared), Inv X pins σ H s -> CX X.stack H s E e s' -> X.xe e s'
section
variable {X : Cx} {CX : CXT} {k : Nat} {f C : Addr} {fd : FuncData} {ps : List Str} {sp : Sp} {dvs : List V} {ds : List Value} {E : XK} {x m : Str} {p pos apos : Pos} {e o : Expr} {es : List Expr} {ta : TE} {t : TA}
structure Mk (K : PySem.W.Frag) (C f : Addr) : Prop where
 makes : PySem.W.makesIn K C = true
 init : PySem.W.findIn K (.ref C) "__init__" = some (some (.ref f))
 fn : PySem.W.isFn K (.ref f) = true
 kp : PySem.W.keepIn K (.ref C) = true
end
section
variable {X : Cx} {CX : CXT} {k : Nat} {f C : Addr} {fd : FuncData} {ps ks : List Str} {sp : Sp} {E : XK} {x m : Str} {p pos apos kpos : Pos} {e o : Expr} {es : List Expr} {kws : List Keyword} {te ta : TE} {t tk : TA} {nm : Option Str}
variable {g : List Value -> List Value -> List Value} {gV : List V -> List V -> List V}
end
structure FnScope (N P : List Str) (sc : Scope) : Prop where
 kind : sc.kind = .function
 co : sc.isCoroutine = false
 gen : sc.isGenerator = false
 nd : N.Nodup
 pre : N.take P.length = P
 par : ∀ x ∈ P, sc.names.lookup x = some .local \/ sc.names.lookup x = some .cell
 nofree : ∀ y ∈ sc.names, y.2 ≠ .free
theorem zdd {kindOf : Str -> Option NameKind} {x : Str} : ∀ {binds : List (Str × Value)} {m : Str -> Option Value}, (∀ v, (x, v) ∉ binds) -> bindL kindOf binds m x = m x
 | [], _, _ => rfl
 | (n, v) :: r, m, h => by
  unfold bindL
  rw [zdd fun w hw => h w (List.mem_cons_of_mem _ hw)]
  split
  ·have : x ≠ n := by rintro rfl; exact h v List.mem_cons_self
   simp [this]
  ·rfl
theorem zde {kindOf : Str -> Option NameKind} {x : Str} : ∀ {binds : List (Str × Value)} {m : Str -> Option Value}, (∀ v, (x, v) ∉ binds) -> bindC kindOf binds m x = m x
 | [], _, _ => rfl
 | (n, v) :: r, m, h => by
  unfold bindC
  rw [zde fun w hw => h w (List.mem_cons_of_mem _ hw)]
  split
  ·rfl
  ·have : x ≠ n := by rintro rfl; exact h v List.mem_cons_self
   simp [this]
theorem zdf {kindOf : Str -> Option NameKind} {x : Str} {v : Value} : ∀ {P : List Str} {vs : List Value} {i : Nat} {m : Str -> Option Value}, P.Nodup -> P[i]? = some x -> vs[i]? = some v -> kindOf x = some .local ->
  bindL kindOf (P.zip vs) m x = some v
 | [], _, _, _, _, h, _, _ => by simp at h
 | _ :: _, [], _, _, _, _, h, _ => by simp at h
 | p :: P, w :: vs, 0, m, nd, h1, h2, hk => by
  simp at h1 h2; subst h1; subst h2
  show bindL kindOf ((p, w) :: P.zip vs) m p = _
  unfold bindL
  rw [zdd fun v hv => (List.nodup_cons.mp nd).1 (List.of_mem_zip hv).1, if_pos hk]
  simp
 | p :: P, w :: vs, i + 1, m, nd, h1, h2, hk => by
  show bindL kindOf ((p, w) :: P.zip vs) m x = _
  unfold bindL
  exact zdf (i := i) (List.nodup_cons.mp nd).2 (by simpa using h1) (by simpa using h2) hk
theorem zdg {kindOf : Str -> Option NameKind} {x : Str} {v : Value} : ∀ {P : List Str} {vs : List Value} {i : Nat} {m : Str -> Option Value}, P.Nodup -> P[i]? = some x -> vs[i]? = some v -> kindOf x ≠ some .local ->
  bindC kindOf (P.zip vs) m x = some v
 | [], _, _, _, _, h, _, _ => by simp at h
 | _ :: _, [], _, _, _, _, h, _ => by simp at h
 | p :: P, w :: vs, 0, m, nd, h1, h2, hk => by
  simp at h1 h2; subst h1; subst h2
  show bindC kindOf ((p, w) :: P.zip vs) m p = _
  unfold bindC
  rw [zde fun v hv => (List.nodup_cons.mp nd).1 (List.of_mem_zip hv).1, if_neg hk]
  simp
 | p :: P, w :: vs, i + 1, m, nd, h1, h2, hk => by
  show bindC kindOf ((p, w) :: P.zip vs) m x = _
  unfold bindC
  exact zdg (i := i) (List.nodup_cons.mp nd).2 (by simpa using h1) (by simpa using h2) hk
def start (N : List Str) (vs : List V) : St := vs.map some ++ List.replicate (N.length - vs.length) none
def cxOf (CX : CXT) (P : Program) (w : World) (K : PySem.W.Frag) (mg : Str -> Option Value) (base : Heap) (N : List Str) (qual : Str) (scope : Scope) (f : Addr) (cd : Value) (A : Around) (outer : List Env) (s : Shared) (H : Hp) (E : XK) : Cx where
 prog := P
 w := w
 K := K
 mg := mg
 base := base
 A := A.deeper (envOfC qual scope s.heap.objs.size f cd)
 N := N
 s₀ := s
 H₀ := H
 env := envOfC qual scope s.heap.objs.size f cd
 outer := outer
 stack := envOfC qual scope s.heap.objs.size f cd :: outer
 ex := []
 calm := true
 fn := fun _ => true
 pn := []
 xe := fun e s' => wpAny (model P w) (A.deeper (envOfC qual scope s.heap.objs.size f cd)) (leaving (envOfC qual scope s.heap.objs.size f cd) e) (fun _ s'' => CX outer H s E e s'') (fun e' s'' => CX outer H s E e' s'') s'
theorem zdE {sc : Scope} {n : Nat} {x : Str} (h : sc.names.lookup x = some .cell) : ∃ c, (cellsFrom n sc.names []).lookup x = some c := by
 have q := PySem.W.cellsFrom_some sc.names n [] (.inl h)
 exact Option.isSome_iff_exists.mp q
theorem zfZ {CX : CXT} {P : Program} {w : World} {K : PySem.W.Frag} {mg : Str -> Option Value} {base : Heap} {N ps : List Str} {qual : Str} {scope : Scope} {f : Addr} {cd : Value} {A : Around} {outer : List Env} {s s1 : Shared} {H : Hp} {E : XK} {us : List Value} {vs : List V}
  (S : FnScope N ps scope) (hd : A.handled = none) (e0 : Env0 P w K mg base A outer s H) (hl : vs.length = ps.length) (r : Vals vs us)
  (x : InCallC s s.heap.objs.size (bindL (envOfC qual scope s.heap.objs.size f cd).kindOf (ps.zip us) fun _ => none) (cellsFrom (s.heap.objs.size + 1) scope.names []) (bindC (envOfC qual scope s.heap.objs.size f cd).kindOf (ps.zip us) fun _ => none) s1) :
  Inv (cxOf CX P w K mg base N qual scope f cd A outer s H E) [] (start N vs) H s1 := by
 have hpl : ps.length <= N.length := by have := congrArg List.length S.pre; rw [List.length_take] at this; omega
 obtain ⟨h1, tk, rfl, hk⟩ := x.done
 have noA : ∀ b : Addr, b ∉ (cxOf CX P w K mg base N qual scope f cd A outer s H E).ex := fun b z => absurd (show b ∈ ([] : List Addr) from z) (by simp)
 refine ⟨⟨e0.mod, S.kind, rfl, rfl, Nat.le_refl _, fun y z c h1 h2 => ?_, fun y hy => ?_, fun y c _ h => ?_, fun _ => hd, Around.frames_deeper e0.frames, .inr ⟨rfl, rfl⟩, fun b z => absurd z (noA b), e0.bs, e0.bsz, fun b _ _ => noA b, fun b z => absurd z (noA b), e0.funs, e0.frf⟩,
  rfl, e0.bare, Un.kept hk, ⟨_, x.toInCall.ns, fun i y v h1 h2 h3 => ?_⟩, fun y c h => ⟨_, x.cell y c h⟩, e0.hok.fresh (Nat.le_refl _), fun y c h => ?_, fun p hp => absurd (show p ∈ ([] : List (Addr × Obj)) from hp) (by simp), e0.hok.kept hk, ?_⟩
 ·exact name_of_addr x.apart (PySem.mem_of_lookup h1) (PySem.mem_of_lookup h2)
 ·have hy : scope.names.lookup y = some .cell \/ scope.names.lookup y = some .free := hy
  rcases hy with hy | hy
  ·exact zdE hy
  ·exact absurd rfl (S.nofree _ (PySem.mem_of_lookup hy))
 ·exact Nat.le_of_lt (x.above y c (PySem.mem_of_lookup h))
 ·have hi : i < vs.length := by
   unfold start at h2
   by_cases hi : i < vs.length
   ·exact hi
   ·rw [List.getElem?_append_right (by simpa using hi)] at h2
    rw [List.getElem?_replicate] at h2
    split at h2 <;> cases h2
  have ha : vs[i]? = some v := by
   unfold start at h2
   rw [List.getElem?_append_left (by simpa using hi), List.getElem?_map] at h2
   cases e : vs[i]? with
   | none => rw [e] at h2; cases h2
   | some a => rw [e] at h2; cases h2; rfl
  obtain ⟨u, hu, rv⟩ := r.get ha
  have hp : ps[i]? = some y := by
   rw [<- S.pre, List.getElem?_take_of_lt (by omega)]; exact h1
  have ndP : ps.Nodup := by rw [<- S.pre]; exact S.nd.sublist (List.take_sublist _ _)
  refine ⟨u, rv, ?_⟩
  rcases S.par y (List.mem_of_getElem? hp) with k | k
  ·exact .inl ⟨k, zdf ndP hp hu k⟩
  ·obtain ⟨c, e⟩ := zdE (n := s.heap.objs.size + 1) k
   refine .inr ⟨.inl k, c, e, ?_⟩
   have q := x.cell y c e
   rw [zdg ndP hp hu (by show scope.names.lookup y ≠ _; rw [k]; decide)] at q
   exact q
 ·exact e0.hok.fresh (Nat.le_of_lt (x.above y c (PySem.mem_of_lookup h)))
 ·unfold start
  show _ = N.length
  rw [List.length_append, List.length_map, List.length_replicate]
  omega
theorem ygX {CX : CXT} {P : Program} {w : World} {K : PySem.W.Frag} {mg : Str -> Option Value} {base : Heap} {k : Nat} {f : Addr} {name qual : Str} {params : Arguments} {body : List Stmt} {scope : Scope} {dV kV doc pm cdv ct oc : Value} {an od : Option Addr}
  {osl : Array (Option Value)} {N ps : List Str} {sp : Sp} (lk : K.lookup f = some ⟨oc, od, .func (PySem.W.fnOf name qual params body scope dV kV doc pm an cdv ct), osl⟩) (hcd : PySem.W.codeIn K cdv qual = true) (S : FnScope N ps scope)
  (len : ∀ vs H Q E, sp vs H Q E -> vs.length = ps.length)
  (hbody : ∀ (A : Around) (outer : List Env) (s : Shared) (H : Hp) (vs : List V) (Q : VK) (E : XK), Room k (A.deeper (envOfC qual scope s.heap.objs.size f cdv)) -> sp vs H Q E ->
   ∃ t, PSs (cxOf CX P w K mg base N qual scope f cdv A outer s H E) body t /\ t { nx := fun _ H' => Q .non H', rt := Q } (start N vs) H) :
  FnOk P w K mg base CX (k + 1) f (PySem.W.fnOf name qual params body scope dV kV doc pm an cdv ct) ps sp := by
 refine ⟨len, fun A outer s H args us vs Q E hr e0 hb r hsp => ?_⟩
 have hl := len _ _ _ _ hsp
 have KX : K.In s.heap := e0.mod.kin.keeps fun b o e => (e0.bs b o e).1
 have lim : s.heap.NoLimit := e0.mod.nolimit.keeps fun b o e => (e0.bs b o e).1
 have hkind : ∀ y ∈ ps.zip us, scope.names.lookup y.1 = some .local \/ (scope.names.lookup y.1 = some .cell /\ ((cellsFrom (s.heap.objs.size + 1) scope.names []).lookup y.1).isSome = true) := fun ⟨n, v⟩ hy => by
  rcases S.par n (List.of_mem_zip hy).1 with q | q
  ·exact .inl q
  ·exact .inr ⟨q, PySem.W.cellsFrom_some _ _ _ (.inl q)⟩
 refine codeAny_call_function hr.depth (KX _ _ lk) rfl S.co S.gen rfl (PySem.W.codeRec_of KX hcd) (hb _ _ _ _ ?_)
 refine wpAny_newFunctionEnv_cells S.kind hkind fun env he s1 x => ?_
 subst he
 refine ⟨lim.keeps x.toInCall.keep, codeAny_func ?_⟩
 obtain ⟨t, ht, hq⟩ := hbody A outer s H vs Q E (hr.deeper _) hsp
 have I : Inv (cxOf CX P w K mg base N qual scope f cdv A outer s H E) [] (start N vs) H s1 := zfZ S hr.hd e0 hl r x
 refine wpAny_mono (ht [] s1 (start N vs) H _ I hq) (fun fl s' hs => ?_) fun e s' hs => hs
 have fin : ∀ {σ' : St} {H' : Hp} {v : V} {u : Value}, Inv (cxOf CX P w K mg base N qual scope f cdv A outer s H E) [] σ' H' s' -> RelV v u -> Q v H' -> CE outer P w H s Q u s' :=
  fun {σ' H' v u} J rv q => ⟨v, H', J.os, J.bare, J.base, J.hok, rv, q⟩
 cases fl with
 | ret u =>
  obtain ⟨v, σ', H', J, rv, q⟩ := hs
  exact fin J rv q
 | next =>
  obtain ⟨σ', H', J, q⟩ := hs
  exact fin (v := V.non) (u := Value.none) J rfl q
 | brk =>
  obtain ⟨_, _, _, q⟩ := hs
  exact False.elim q
 | cont =>
  obtain ⟨_, _, _, q⟩ := hs
  exact False.elim q
end L2
namespace L2
open PySem PySem.Spec PyProof.Rows
section
variable {X : Cx} {x : Str} {p pos : Pos} {e : Expr} {es : List Expr} {t : TA} {id T : String} {r : List V -> Hp -> VK -> Prop}
def tCB (r : List V -> Hp -> VK -> Prop) (t : TA) : TE := fun σ H Q => t σ H fun vs H1 => r vs H1 Q
theorem zdF (hc : CallR X (.builtin id) r) (hg : Gl X x) (hm : X.mg x = none) (hv : bootBuiltins x = some (.builtin id)) (ha : PA X (e :: es) t) (hn : x ≠ "__name__" := by decide) (hdb : (x == ("__debug__" : Str)) = false := by decide)
  (he : starEach (e :: es) X.env = (false, eval e X.env) :: starEach es X.env := by rfl) (hpl : (backTo pos (starEach es X.env)).any (·.1) = false := by rfl) : PE X (.Call (.Name x p) (e :: es) [] pos) (tCB r t) := by
 intro pins s σ H Q I h
 refine wpAny_Call_Name_kw (ydz I hg hm hv ?_ hn hdb)
 exact PyProof.Rows.callWith_builtin1 (thn (ha pos pins s σ H _ I h) fun us s1 ⟨vs, H1, I1, r1, q1⟩ => hc pins s1 σ H1 vs us Q I1 r1 q1) he hpl
end
end L2
namespace HT
open PySem PyProof.Rows
section
open PySem.SeqAt
open PySem.AutoSeq1 (wpAny_loadPart')
open PySem.MeetsSeq PySem.MeetsSeq2 PySem.MeetsSeq3
end
section
variable {prog : Program} {w : World} {A : Around} {E : Value -> Shared -> Prop} {s : Shared}
theorem cat_tup {t b : Addr} {vs ws : List Value} {Q : Value -> Shared -> Prop} (ht : IsTup s.heap t vs.toArray) (hb : IsTup s.heap b ws.toArray) (hv : vs ≠ [])
  (h1 : ws = [] -> Q (.ref t) s) (h2 : ws ≠ [] -> Q (.ref s.heap.objs.size) { s with heap := s.heap.push { cls := .type "tuple", data := .seq (vs ++ ws).toArray } })
  (hsz : vs.length + ws.length <= sizeLine) : wpAny (model prog w) A (binaryOp .Add (.ref t) (.ref b)) Q E s := by
 obtain ⟨⟨cls, dd, data, sl⟩, ho, hc, n, hd⟩ := id ht
 obtain ⟨⟨cls2, dd2, data2, sl2⟩, ho2, hc2, n2, hd2⟩ := id hb
 simp only at hc hd hc2 hd2
 subst hc hd hc2 hd2
 have e : vs.toArray ++ ws.toArray = (vs ++ ws).toArray := by simp
 by_cases hw : ws = []
 ·exact concat_meets ⟨_, ho, rfl⟩ ⟨_, ho2, rfl⟩ noFill_tuple_add seq_tuple_add PySem.F.slot_tuple_add PySem.F.entry_tuple_add (PySem.F.args_tuple_add_2 _ _)
   (tuple_addW1 t b vs.toArray ws.toArray n n2 dd dd2 sl sl2 (by simpa using hv) (by simp [hw])) ⟨ho, ho2, h1 hw⟩
 ·refine concat_meets ⟨_, ho, rfl⟩ ⟨_, ho2, rfl⟩ noFill_tuple_add seq_tuple_add PySem.F.slot_tuple_add PySem.F.entry_tuple_add (PySem.F.args_tuple_add_2 _ _)
   (tuple_addW2 t b vs.toArray ws.toArray n n2 dd dd2 sl sl2 (by simpa using hv) (by simpa using hw) (by rw [List.size_toArray, List.size_toArray]; exact hsz)) ⟨ho, ho2, ?_⟩
  rw [e]
  exact h2 hw
def sIx (n d : Nat) : Option Int -> Nat
 | none => d
 | some v => if v < 0 then (v + (n : Int)).toNat else min v.toNat n
theorem sIx_none (n d : Nat) : sIx n d none = d := rfl
theorem sIx_nat (n d k : Nat) : sIx n d (some (k : Int)) = min k n := by
 show (if (k : Int) < 0 then ((k : Int) + (n : Int)).toNat else min (k : Int).toNat n) = min k n
 rw [if_neg (by omega), Int.toNat_natCast]
theorem sIx_le (n d : Nat) (hd : d <= n) (o : Option Int) : sIx n d o <= n := by
 cases o with
 | none => exact hd
 | some v =>
  show (if v < 0 then (v + (n : Int)).toNat else min v.toNat n) <= n
  by_cases hv : v < 0
  ·rw [if_pos hv]; omega
  ·rw [if_neg hv]; exact Nat.min_le_right _ _
theorem zey (v : Int) (n d : Nat) : (if v < 0 then max (v + (n : Int)) 0 else min v (n : Int)) = ((sIx n d (some v) : Nat) : Int) := by
 show (if v < 0 then max (v + (n : Int)) 0 else min v (n : Int)) = (((if v < 0 then (v + (n : Int)).toNat else min v.toNat n) : Nat) : Int)
 by_cases hv : v < 0
 ·simp only [if_pos hv]; omega
 ·simp only [if_neg hv]; omega
theorem zfr (lo hi : Option Int) (n : Nat) : Builtin.Slice.sliceAdjust lo hi 1 (n : Int) = (((sIx n 0 lo : Nat) : Int), ((sIx n n hi : Nat) : Int)) := by
 have h1 : ¬ ((1 : Int) < 0) := by omega
 unfold Builtin.Slice.sliceAdjust
 simp only [h1, if_false]
 refine Prod.ext ?_ ?_
 ·cases lo with
  | none => rfl
  | some v => exact zey v n 0
 ·cases hi with
  | none => rfl
  | some v => exact zey v n n
theorem zfs (i j : Nat) : Builtin.Slice.slicePlaces (i : Int) (j : Int) 1 = j - i := by
 unfold Builtin.Slice.slicePlaces
 have h1 : (1 : Int) > 0 := by omega
 simp only [h1, if_true, Int.ediv_one]
 split <;> omega
theorem zcF {v : Value} {o : Option Int} {Q : Option Int -> Shared -> Prop} (p : IsPart v o) (h : Q o s) : wpAny (model prog w) A (Builtin.Slice.slicePartIndex v) Q E s := by
 cases p with
 | none => exact slicePart_none h
 | int i t => exact slicePart_int h
theorem zcr {sl : Addr} {vl vu : Value} {lo hi : Option Int} {n : Nat} {Q : Int × Int × Nat -> Shared -> Prop} (hs : s.heap.IsSliceOf sl vl vu .none) (pl : IsPart vl lo) (pu : IsPart vu hi)
  (h : Q (((sIx n 0 lo : Nat) : Int), 1, sIx n n hi - sIx n 0 lo) s) : wpAny (model prog w) A (Builtin.Slice.sliceApplied (.ref sl) (pure (n : Int))) Q E s := by
 obtain ⟨os, hos, hcs, hds⟩ := id hs
 unfold Builtin.Slice.sliceApplied Builtin.Slice.sliceFields
 refine wpAny_bind (wpAny_bind (wpAny_field hos hds (x := vl) rfl (wpAny_bind (wpAny_field hos hds (x := vu) rfl (wpAny_bind (wpAny_field hos hds (x := .none) rfl (wpAny_pure ?_)))))))
 refine wpAny_bind (slicePart_none ?_)
 show wpAny _ _ (if ((1 : Int) == 0) = true then _ else _) _ _ s
 rw [if_neg (by decide)]
 refine wpAny_bind (zcF pl (wpAny_bind (zcF pu (wpAny_bind (wpAny_pure ?_)))))
 show wpAny _ _ (match Builtin.Slice.sliceAdjust lo hi 1 (n : Int) with | (lo, hi) => pure (lo, (1 : Int), Builtin.Slice.slicePlaces lo hi 1)) _ _ s
 rw [zfr lo hi n]
 show wpAny _ _ (pure (((sIx n 0 lo : Nat) : Int), (1 : Int), Builtin.Slice.slicePlaces ((sIx n 0 lo : Nat) : Int) ((sIx n n hi : Nat) : Int) 1)) _ _ s
 rw [zfs]
 exact wpAny_pure h
theorem zgL (xs : Array Value) (i k : Nat) : ((List.range k).filterMap fun (m : Nat) => xs[((i : Int) + (m : Int) * 1).toNat]?).toArray = ((xs.toList.drop i).take k).toArray := by
 have e : (fun (m : Nat) => xs[((i : Int) + (m : Int) * 1).toNat]?) = fun m => xs[i + m]? := by
  funext m
  have : ((i : Int) + (m : Int) * 1).toNat = i + m := by omega
  rw [this]
 rw [e]
 have := pick_run xs i k
 rw [List.filterMap_map] at this
 have e2 : ((fun x => xs[x]?) ∘ fun x => i + x) = fun m => xs[i + m]? := rfl
 rw [e2] at this
 rw [this]
theorem getItem_tuple_cut {t sl : Addr} {items : Array Value} {vl vu : Value} {lo hi : Option Int} {Q : Value -> Shared -> Prop} (ht : IsTup s.heap t items) (hs : s.heap.IsSliceOf sl vl vu .none) (pl : IsPart vl lo) (pu : IsPart vu hi)
  (hw : ¬ (sIx items.size 0 lo = 0 /\ sIx items.size items.size hi = items.size))
  (h : Q (.ref s.heap.objs.size) { s with heap := s.heap.push { cls := .type "tuple", data := .seq ((items.toList.drop (sIx items.size 0 lo)).take (sIx items.size items.size hi - sIx items.size 0 lo)).toArray } })
  (hsz : items.size <= sizeLine) : wpAny (model prog w) A (getItem (.ref t) (.ref sl)) Q E s := by
 have htake : sizeOk (.seq ((items.toList.drop (sIx items.size 0 lo)).take (sIx items.size items.size hi - sIx items.size 0 lo)).toArray) := by
  show ((items.toList.drop (sIx items.size 0 lo)).take (sIx items.size items.size hi - sIx items.size 0 lo)).toArray.size <= sizeLine
  rw [List.size_toArray, List.length_take, List.length_drop, Array.length_toList]
  omega
 have hj : sIx items.size items.size hi <= items.size := sIx_le _ _ (Nat.le_refl _) hi
 obtain ⟨os, hos, hcs, hds⟩ := id hs
 have hTs : s.TypeIs (.ref sl) "slice" := ⟨os, hos, hcs⟩
 unfold getItem
 try with_reducible refine wpAny_holding ?_
 first | refine wpAny_bind (wpAny_pure ?_) | skip
 refine wpAny_bind (wpAny_sequenceKey ht.typeIs (by decide) ?_)
 refine wpAny_bind (wpAny_callSpecial?_slot (name := Str.ofString "__getitem__") ht.typeIs PyProof.Rows.slot_tuple_getitem
  (wpAny_call_entry PyProof.Rows.slot_tuple_getitem ht.typeIs entry_tuple_getitem ?_ (args_tuple_getitem _ _)))
 show wpAny _ _ (Builtin.Tuple.tupleItemsOf (.ref t) >>= _) _ _ s
 refine wpAny_bind (tupleItemsOf_ ht ?_)
 refine wpAny_bind (wpAny_typeOf hTs ?_)
 rw [if_pos (by decide)]
 refine wpAny_bind (zcr hs pl pu ?_)
 have hno : ¬ ((((sIx items.size 0 lo : Nat) : Int) == 0 && (1 : Int) == 1 && (sIx items.size items.size hi - sIx items.size 0 lo) == items.size) = true) := by
  intro q
  rw [Bool.and_eq_true, Bool.and_eq_true] at q
  have q1 : ((sIx items.size 0 lo : Nat) : Int) = 0 := eq_of_beq q.1.1
  have q2 : sIx items.size items.size hi - sIx items.size 0 lo = items.size := eq_of_beq q.2
  exact hw ⟨by omega, by omega⟩
 show wpAny _ _ (if (((sIx items.size 0 lo : Nat) : Int) == 0 && (1 : Int) == 1 && (sIx items.size items.size hi - sIx items.size 0 lo) == items.size) = true then _ else _) _ _ s
 rw [if_neg hno, zgL]
 first
  | exact wpAny_bind (m := Builtin.Tuple.tupleExact _) (wpAny_newObj_type (wpAny_pure ⟨_, rfl, wpAny_pure h⟩) htake)
  | exact wpAny_bind (m := Builtin.Tuple.tupleExact _) (wpAny_newObj_type (wpAny_bind (wpAny_pure (wpAny_pure ⟨_, rfl, wpAny_pure h⟩))) htake)
  | exact wpAny_bind (wpAny_bind (m := Builtin.Tuple.tupleExact _) (wpAny_newObj_type (wpAny_pure (wpAny_pure ⟨_, rfl, wpAny_pure h⟩)) htake))
  | exact wpAny_bind (wpAny_bind (m := Builtin.Tuple.tupleExact _) (wpAny_newObj_type (wpAny_pure ⟨_, rfl, wpAny_pure h⟩) htake))
end
end HT
namespace L2
open PySem PySem.Spec PyProof.Rows
abbrev TO := St -> Hp -> (Option Int -> Hp -> Prop) -> Prop
def PO (X : Cx) (e : Option Expr) (t : TO) : Prop :=
 ∀ (pins : List (Addr × Obj)) (s : Shared) (σ : St) (H : Hp) (Q : Option Int -> Hp -> Prop), Inv X pins σ H s -> t σ H Q ->
  wpAny (model X.prog X.w) X.A (evalPart e X.env) (fun u s' => ∃ o H', Inv X pins σ H' s' /\ IsPart u o /\ Q o H') X.xe s
def yey : TO := fun _ H Q => Q none H
def yfo (t : TE) : TO := fun σ H Q => t σ H fun x H1 => ∃ i, x = .int i /\ Q (some i) H1
section
variable {X : Cx} {e : Expr} {te : TE} {lo hi : Option Expr} {tl th : TO} {pos p2 : Pos}
theorem zhQ : PO X none yey := by
 intro pins s σ H Q I h
 rw [evalPart_none]
 exact wpAny_pure ⟨none, H, I, .none, h⟩
theorem zhR (h : PE X e te) : PO X (some e) (yfo te) := by
 intro pins s σ H Q I hw
 rw [evalPart_some]
 refine thn (h pins s σ H _ I hw) fun u s1 ⟨x, H1, I1, r1, q1⟩ => ?_
 obtain ⟨i, rfl, q⟩ := q1
 obtain ⟨t, rfl⟩ := r1
 exact ⟨some i, H1, I1, .int i t, q⟩
def SlR (X : Cx) (r : V -> Option Int -> Option Int -> Hp -> VK -> Prop) : Prop :=
 ∀ (pins : List (Addr × Obj)) (s : Shared) (σ : St) (H : Hp) (x : V) (v vl vu : Value) (lo hi : Option Int) (sl : Addr) (Q : VK), Inv X pins σ H s -> RelV x v -> s.heap.IsSliceOf sl vl vu .none -> IsPart vl lo -> IsPart vu hi -> r x lo hi H Q ->
  ∃ T id, typeLookup (.type T) "__getitem__" = pure (some (.builtin id)) /\ s.TypeIs v T /\ wpAny (model X.prog X.w) X.A (getItem v (.ref sl)) (EP X pins σ Q) X.xe s
theorem SlR.or {r r' : V -> Option Int -> Option Int -> Hp -> VK -> Prop} (h : SlR X r) (h' : SlR X r') : SlR X (fun x lo hi H Q => r x lo hi H Q \/ r' x lo hi H Q) := by
 intro pins s σ H x v vl vu lo hi sl Q I rx hs pl pu q
 rcases q with q | q
 ·exact h pins s σ H x v vl vu lo hi sl Q I rx hs pl pu q
 ·exact h' pins s σ H x v vl vu lo hi sl Q I rx hs pl pu q
def tSl (r : V -> Option Int -> Option Int -> Hp -> VK -> Prop) (te : TE) (tl th : TO) : TE := fun σ H Q => te σ H fun x H1 => tl σ H1 fun l H2 => th σ H2 fun u H3 => r x l u H3 Q
theorem zgM {r : V -> Option Int -> Option Int -> Hp -> VK -> Prop} (hr : SlR X r) (he : PE X e te) (hl : PO X lo tl) (hu : PO X hi th) : PE X (.Subscript e (.Slice lo hi none p2) pos) (tSl r te tl th) := by
 intro pins s σ H Q I h
 refine Subscript_ (thn (he pins s σ H _ I h) fun v s1 ⟨x, H1, I1, r1, q1⟩ => ?_)
 refine wpAny_Slice (thn (hl pins s1 σ H1 _ I1 q1) fun vl s2 ⟨l, H2, I2, pl, q2⟩ => thn (hu pins s2 σ H2 _ I2 q2) fun vu s3 ⟨u, H3, I3, pu, q3⟩ => ?_)
 rw [evalPart_none]
 refine wpAny_pure ?_
 have I4 : Inv X pins σ H3 { s3 with heap := s3.heap.push { cls := .type "slice", data := .fields #[vl, vu, .none] } } := I3.kept (t' := s3.toks) fun b ob q => Heap.get?_push_of_some _ q
 obtain ⟨T, id, hT, ht, hg⟩ := hr pins { s3 with heap := s3.heap.push { cls := .type "slice", data := .fields #[vl, vu, .none] } } σ H3 x v vl vu l u s3.heap.objs.size Q I4 r1 (Heap.IsSliceOf.new ..) pl pu q3
 show wpAny (model X.prog X.w) X.A (subscriptTail e (.Slice lo hi none p2) v (.ref s3.heap.objs.size)) (EP X pins σ Q) X.xe { s3 with heap := s3.heap.push { cls := .type "slice", data := .fields #[vl, vu, .none] } }
 exact tail_any (ops := [.ref s3.heap.objs.size, v]) ht hT hg (by with_unfolding_all rfl)
def cutV (xs : List V) (lo hi : Option Int) : List V := (xs.drop (HT.sIx xs.length 0 lo)).take (HT.sIx xs.length xs.length hi - HT.sIx xs.length 0 lo)
theorem zcf (xs : List V) (lo hi : Option Int) : (cutV xs lo hi).length <= xs.length := by
 unfold cutV
 rw [List.length_take, List.length_drop]
 omega
def rSlT (K : PySem.W.Frag) : V -> Option Int -> Option Int -> Hp -> VK -> Prop := fun x lo hi H Q => ∃ a xs, x = .ref a /\ SqT K H a xs /\
 ¬ (HT.sIx xs.length 0 lo = 0 /\ HT.sIx xs.length xs.length hi = xs.length) /\ ∀ p, H p = none -> Q (.ref p) (upd H p (.tup (cutV xs lo hi)))
theorem sl_tup : SlR X (rSlT X.K) := by
 intro pins s σ H x v vl vu lo hi sl Q I rx hs pl pu h
 obtain ⟨a, xs, rfl, hx, hw, q⟩ := h
 cases rx
 obtain ⟨its, r, ht, hz⟩ := I.tuple hx
 have hlen : its.toArray.size = xs.length := by rw [List.size_toArray]; exact r.length.symm
 refine ⟨"tuple", _, PyProof.Rows.slot_tuple_getitem.lookup, ht.typeIs, ?_⟩
 refine HT.getItem_tuple_cut ht hs pl pu (by rw [hlen]; exact hw) ?_ (by rw [hlen]; exact hz)
 rw [hlen]
 refine ⟨.ref s.heap.objs.size, _, I.laid (t' := s.toks) (o := .tup (cutV xs lo hi)) (fun b ob q => Heap.get?_push_of_some _ q) (Nat.le_refl _) ?_, rfl, q _ (I.hok.fresh (Nat.le_refl _))⟩
 exact ⟨Nat.le_trans (zcf xs lo hi) hz, _, (r.drop (HT.sIx xs.length 0 lo)).take (HT.sIx xs.length xs.length hi - HT.sIx xs.length 0 lo), IsTup.new _ _⟩
def ygY (K : PySem.W.Frag) : R2 := fun x y H Q => ∃ a b xs ys, x = .ref a /\ y = .ref b /\ SqT K H a xs /\ SqT K H b ys /\ xs ≠ [] /\ xs.length + ys.length <= sizeLine /\
 (ys = [] -> Q (.ref a) H) /\ (ys ≠ [] -> ∀ p, H p = none -> Q (.ref p) (upd H p (.tup (xs ++ ys))))
theorem Vals.nil_iff {xs : List V} {us : List Value} (r : Vals xs us) : us = [] ↔ xs = [] := by
 cases r with
 | nil => simp
 | cons _ _ => simp
theorem zhS : OpR X (binaryOp .Add) (ygY X.K) := by
 intro pins s σ H x y v u Q I rx ry h
 obtain ⟨a, b, xs, ys, rfl, rfl, ha, hb, hx, hz, q1, q2⟩ := h
 cases rx
 cases ry
 obtain ⟨its, r1, p1, _⟩ := I.tuple ha
 obtain ⟨its2, r2, p2, _⟩ := I.tuple hb
 refine HT.cat_tup p1 p2 (fun z => hx (r1.nil_iff.mp z)) (fun z => ⟨.ref a, H, I, rfl, q1 (r2.nil_iff.mp z)⟩) (fun z => ?_) (by rw [<- r1.length, <- r2.length]; exact hz)
 refine ⟨.ref s.heap.objs.size, _, I.laid (t' := s.toks) (o := .tup (xs ++ ys)) (fun b ob q => Heap.get?_push_of_some _ q) (Nat.le_refl _) ?_, rfl, q2 (fun w => z (r2.nil_iff.mpr w)) _ (I.hok.fresh (Nat.le_refl _))⟩
 exact ⟨by rw [List.length_append]; exact hz, _, r1.append r2, IsTup.new _ _⟩
end
end L2
namespace L2
open PySem PySem.Spec PyProof.Rows
def ixN (n : Nat) (i : Int) : Option Nat := if 0 <= i then (if i < n then some i.toNat else none) else if -(n : Int) <= i then some (i + n).toNat else none
def atI {α : Type} (xs : List α) (i : Int) : Option α := (ixN xs.length i).bind fun j => xs[j]?
theorem zez {n : Nat} {i : Int} {j : Nat} (h : ixN n i = some j) : seqIndex? i n = some j /\ j < n /\ -(n : Int) <= i /\ i < n := by
 unfold ixN at h
 by_cases h0 : 0 <= i
 ·rw [if_pos h0] at h
  by_cases h1 : i < n
  ·rw [if_pos h1] at h
   have e : i.toNat = j := Option.some.inj h
   exact ⟨by rw [seqIndex_of h0 h1, e], by omega, by omega, h1⟩
  ·rw [if_neg h1] at h; cases h
 ·rw [if_neg h0] at h
  by_cases h1 : -(n : Int) <= i
  ·rw [if_pos h1] at h
   have e : (i + n).toNat = j := Option.some.inj h
   exact ⟨by rw [seqIndex_neg (by omega) h1, e], by omega, h1, by omega⟩
  ·rw [if_neg h1] at h; cases h
theorem zb0 {α : Type} {xs : List α} {i : Int} {v : α} (h : atI xs i = some v) : ∃ j, seqIndex? i xs.length = some j /\ xs[j]? = some v /\ j < xs.length /\ -(xs.length : Int) <= i /\ i < xs.length := by
 unfold atI at h
 cases e : ixN xs.length i with
 | none => rw [e] at h; cases h
 | some j =>
  rw [e] at h
  obtain ⟨h1, h2, h3, h4⟩ := zez e
  exact ⟨j, h1, h, h2, h3, h4⟩
theorem zb1 {α : Type} {xs : List α} {j : Nat} {v : α} (h : xs[j]? = some v) : atI xs (j : Int) = some v := by
 have hj : j < xs.length := (List.getElem?_eq_some_iff.mp h).1
 have e : ixN xs.length (j : Int) = some j := by
  unfold ixN
  rw [if_pos (by omega), if_pos (by omega)]; simp
 unfold atI; rw [e]; exact h
def yez (b : Expr) : Prop := ∀ o i, subscripted b false o i = operate [o, i] (getItem o i)
def IxR (X : Cx) (r : R2) : Prop :=
 ∀ (value slice : Expr) (pins : List (Addr × Obj)) (s : Shared) (σ : St) (H : Hp) (x y : V) (v u : Value) (Q : VK), Inv X pins σ H s -> RelV x v -> RelV y u -> r x y H Q ->
  subscripted slice false v u = operate [v, u] (getItem v u) -> wpAny (model X.prog X.w) X.A (subscriptTail value slice v u) (EP X pins σ Q) X.xe s
def MtR (X : Cx) (id : String) (r : V -> List V -> Hp -> VK -> Prop) : Prop :=
 ∀ (pins : List (Addr × Obj)) (s : Shared) (σ : St) (H : Hp) (x : V) (xs : List V) (v : Value) (us : List Value) (Q : VK), Inv X pins σ H s -> RelV x v -> Vals xs us -> r x xs H Q ->
  wpAny (model X.prog X.w) X.A (call (.builtin id) (v :: us)) (EP X pins σ Q) X.xe s
section
variable {X : Cx} {a b : Expr} {ta tb : TE} {pos : Pos}
theorem IxR.or {r r' : R2} (h : IxR X r) (h' : IxR X r') : IxR X (fun x y H Q => r x y H Q \/ r' x y H Q) := by
 intro value slice pins s σ H x y v u Q I rx ry q hs
 rcases q with q | q
 ·exact h value slice pins s σ H x y v u Q I rx ry q hs
 ·exact h' value slice pins s σ H x y v u Q I rx ry q hs
theorem ygZ {r : R2} (hr : IxR X r) (ha : PE X a ta) (hb : PE X b tb) (hs : yez b) : PE X (.Subscript a b pos) (tOp r ta tb) := by
 intro pins s σ H Q I h
 exact Subscript_ (binT ha hb I h fun v u s2 x y H2 I2 rx ry q => hr a b pins s2 σ H2 x y v u Q I2 rx ry q (hs _ _))
def rIxL (K : PySem.W.Frag) : R2 := fun x y H Q => ∃ p xs i v, x = .ref p /\ y = .int i /\ SqL K H p xs /\ atI xs i = some v /\ Q v H
def rIxT (K : PySem.W.Frag) : R2 := fun x y H Q => ∃ p xs i v, x = .ref p /\ y = .int i /\ SqT K H p xs /\ atI xs i = some v /\ Q v H
def rIxS : R2 := fun x y H Q => ∃ z i c, x = .str z /\ y = .int i /\ z.length <= sizeLine /\ atI z.cps.toList i = some c /\ Q (.str ⟨#[c]⟩) H
theorem zhT : IxR X (rIxL X.K) := by
 intro value slice pins s σ H x y v u Q I rx ry h hs
 obtain ⟨p, xs, i, z, rfl, rfl, hq, he, q⟩ := h
 cases rx
 obtain ⟨t, rfl⟩ := ry
 obtain ⟨its, r, pl, hz⟩ := I.list hq
 obtain ⟨j, h1, h2, h3, h4, h5⟩ := zb0 he
 obtain ⟨w, ew, rw'⟩ := r.get h2
 have hl := r.length
 have hn := ycT
 have fin : EP X pins σ Q w s := ⟨z, H, I, rw', q⟩
 by_cases h0 : 0 <= i
 ·have hj : i.toNat = j := by
   rw [seqIndex_of h0 h5] at h1
   exact Option.some.inj h1
  exact item_listR pl.isList h0 (by omega) (by rw [hj]; simpa using ew) fin hs
 ·have hj : (i + (its.toArray.size : Int)).toNat = j := by
   rw [seqIndex_neg (by omega) h4] at h1
   rw [List.size_toArray, <- hl]
   exact Option.some.inj h1
  exact subscriptTail_builtinR (x := w) pl.isList.typeIs slot_list_getitem.lookup
   (wpAny_getItem_list_neg (Q := fun r s' => r = w /\ EP X pins σ Q r s') pl.isList (by omega) (by rw [List.size_toArray] <;> omega) (by omega) (by rw [hj]; simpa using ew) ⟨rfl, fin⟩) hs
theorem ix_tup : IxR X (rIxT X.K) := by
 intro value slice pins s σ H x y v u Q I rx ry h hs
 obtain ⟨p, xs, i, z, rfl, rfl, hq, he, q⟩ := h
 cases rx
 obtain ⟨t, rfl⟩ := ry
 obtain ⟨its, r, pl, hz⟩ := I.tuple hq
 obtain ⟨j, h1, h2, h3, h4, h5⟩ := zb0 he
 obtain ⟨w, ew, rw'⟩ := r.get h2
 have hl := r.length
 have hn := ycT
 have fin : EP X pins σ Q w s := ⟨z, H, I, rw', q⟩
 exact subscriptTail_builtinR (x := w) pl.typeIs slot_tuple_getitem.lookup
  (getItem_tuple (j := j) (Q := fun r s' => r = w /\ EP X pins σ Q r s') pl (by omega) (by omega) (by rw [List.size_toArray, <- hl]; exact h1) (by simpa using ew) ⟨rfl, fin⟩) hs
theorem yf3 : IxR X rIxS := by
 intro value slice pins s σ H x y v u Q I rx ry h hs
 obtain ⟨z, i, c, rfl, rfl, hz, he, q⟩ := h
 obtain ⟨t, rfl⟩ := rx
 obtain ⟨t', rfl⟩ := ry
 obtain ⟨j, h1, h2, h3, h4, h5⟩ := zb0 he
 have hl : z.cps.toList.length = z.length := by simp [Str.length]
 rw [hl] at h1 h4 h5
 have hn := ycT
 exact tail_any (typeIs_str s z t) slot_str_getitem.lookup (getItem_str (c := c) (by
  have e1 : decide (i < -(2 ^ 63 : Int)) = false := decide_eq_false (by omega)
  have e2 : decide (i ≥ 2 ^ 63) = false := decide_eq_false (by omega)
  rw [e1, e2, Bool.or_false]) (by rw [h1]; simpa using h2) ⟨.str ⟨#[c]⟩, H, I.tok _, ⟨_, rfl⟩, q⟩) hs
def rIx (K : PySem.W.Frag) : R2 := fun x y H Q => rIxL K x y H Q \/ rIxT K x y H Q \/ rIxS x y H Q
theorem yf4 : IxR X (rIx X.K) := zhT.or (ix_tup.or yf3)
theorem zft (its : List Value) (n j : Nat) (u : Value) : Obj.mapSeq (·.setIfInBounds j u) { cls := .type "list", data := .seq its.toArray n } = { cls := .type "list", data := .seq (its.set j u).toArray n } := by
 simp [Obj.mapSeq]
theorem Inv.lst {pins : List (Addr × Obj)} {σ : St} {H : Hp} {s : Shared} {p : Addr} {xs : List V} (I : Inv X pins σ H s) (h : H p = some (.lst xs)) :
  ∃ (its : List Value) (n : Nat), Vals xs its /\ s.heap.get? p = some { cls := .type "list", data := .seq its.toArray n } /\ xs.length <= sizeLine := by
 obtain ⟨z, its, n, r, e⟩ := I.hok p _ h
 exact ⟨its, n, r, e, z⟩
theorem Inv.lstUpd {pins : List (Addr × Obj)} {σ : St} {H : Hp} {s : Shared} {p : Addr} {xs ys : List V} {its its' : List Value} {n n' : Nat} {f : Obj -> Obj} (I : Inv X pins σ H s) (h : H p = some (.lst xs))
  (ho : s.heap.get? p = some { cls := .type "list", data := .seq its.toArray n }) (hf : f { cls := .type "list", data := .seq its.toArray n } = { cls := .type "list", data := .seq its'.toArray n' }) (r : Vals ys its') (hz : ys.length <= sizeLine) (t : Nat) :
  Inv X pins σ (upd H p (.lst ys)) { s with heap := s.heap.update p f, toks := t } := by
 have e : (s.heap.update p f).get? p = some { cls := .type "list", data := .seq its'.toArray n' } := by
  rw [Heap.get?_update_self f ho (by rw [hf] <;> rfl), hf]
 refine I.write (x := p) (e := p) (by rw [h]; trivial) (.inl rfl) (fun b u hb q => (Heap.get?_update_other _ _ (Ne.symm hb)).trans q) ⟨_, e⟩ ?_
 exact ⟨hz, its', n', r, e⟩
def yg0 : V -> V -> V -> Hp -> (Hp -> Prop) -> Prop := fun o i v H Q => ∃ p xs k j, o = .ref p /\ i = .int k /\ H p = some (.lst xs) /\ ixN xs.length k = some j /\ Q (upd H p (.lst (xs.set j v)))
theorem zgN : PSet X yg0 := by
 intro pins s σ H o i v ov iv u Q I ro ri rv h
 obtain ⟨p, xs, k, j, rfl, rfl, hp, hj, q⟩ := h
 cases ro
 obtain ⟨t, rfl⟩ := ri
 obtain ⟨its, n, r, ho, hz⟩ := I.lst hp
 obtain ⟨h1, h2, h3, h4⟩ := zez hj
 have hl := r.length
 have hn := ycT
 have I' : Inv X pins σ (upd H p (.lst (xs.set j v))) { s with heap := s.heap.update p (Obj.mapSeq (·.setIfInBounds j u)) } :=
  I.lstUpd hp ho (zft its n j u) (r.set rv j) (by rw [List.length_set]; exact hz) s.toks
 by_cases h0 : 0 <= k
 ·have hk : k.toNat = j := by
   rw [seqIndex_of h0 h4] at h1
   exact Option.some.inj h1
  exact PySem.W.ki_setAt ho h0 (by omega) (by rw [List.size_toArray, <- hl]; exact h4) (by rw [hk]; exact ⟨_, I', q⟩)
 ·have hk : (k + (its.toArray.size : Int)).toNat = j := by
   rw [seqIndex_neg (by omega) h3] at h1
   rw [List.size_toArray, <- hl]
   exact Option.some.inj h1
  exact PySem.W.ki_setBack ho (by omega) (by rw [List.size_toArray, <- hl]; exact h3) (by omega) (by rw [hk]; exact ⟨_, I', q⟩)
theorem zdG (lo hi : Option Int) (n : Nat) : (sliceBounds lo hi none n).1 = ((HT.sIx n 0 lo : Nat) : Int) /\ (sliceBounds lo hi none n).2.1 = ((HT.sIx n n hi : Nat) : Int) /\ (sliceBounds lo hi none n).2.2 = 1 := by
 refine ⟨?_, ?_, rfl⟩
 ·cases lo with
  | none => simp [sliceBounds, HT.sIx]
  | some i =>
   simp only [sliceBounds, HT.sIx, Option.getD_none, show (1 : Int) > 0 by decide, if_true]
   by_cases h : i < 0
   ·simp only [h, if_true] <;> omega
   ·simp only [h, if_false] <;> omega
 ·cases hi with
  | none => simp [sliceBounds, HT.sIx]
  | some i =>
   simp only [sliceBounds, HT.sIx, Option.getD_none, show (1 : Int) > 0 by decide, if_true]
   by_cases h : i < 0
   ·simp only [h, if_true] <;> omega
   ·simp only [h, if_false] <;> omega
theorem zdw (its : List Value) (lo hi : Option Int) : slicePick its.toArray lo hi none = ((its.drop (HT.sIx its.length 0 lo)).take (HT.sIx its.length its.length hi - HT.sIx its.length 0 lo)).toArray := by
 obtain ⟨h1, h2, h3⟩ := zdG lo hi its.toArray.size
 unfold slicePick
 rw [h1, h2, h3]
 simp only [sliceRange_one, pick_run, List.size_toArray] <;> rfl
def rSlL (K : PySem.W.Frag) : V -> Option Int -> Option Int -> Hp -> VK -> Prop := fun x lo hi H Q => ∃ a xs, x = .ref a /\ SqL K H a xs /\ ∀ p, H p = none -> Q (.ref p) (upd H p (.lst (cutV xs lo hi)))
theorem zhU : SlR X (rSlL X.K) := by
 intro pins s σ H x v vl vu lo hi sl Q I rx hs pl pu h
 obtain ⟨a, xs, rfl, hx, q⟩ := h
 cases rx
 obtain ⟨its, r, ht, hz⟩ := I.list hx
 have hlen := r.length
 refine ⟨"list", _, slot_list_getitem.lookup, ht.isList.typeIs, ?_⟩
 refine wpAny_getItem_list_slice ht.isList hs pl pu .none (by simp) ?_ (by rw [List.size_toArray] <;> omega)
 rw [zdw, <- hlen]
 refine ⟨.ref s.heap.objs.size, _, I.laid (t' := s.toks) (o := .lst (cutV xs lo hi)) (fun b ob q => Heap.get?_push_of_some _ q) (Nat.le_refl _) ?_, rfl, q _ (I.hok.fresh (Nat.le_refl _))⟩
 exact ⟨Nat.le_trans (zcf xs lo hi) hz, _, 0, (r.drop (HT.sIx xs.length 0 lo)).take (HT.sIx xs.length xs.length hi - HT.sIx xs.length 0 lo), Heap.get?_push_size _ rfl⟩
theorem zdH : OpR X (compareOp .NotIn) (fun x y H Q => ∃ i j, x = .str i /\ y = .str j /\ Q (.bl (!(!(Builtin.Str.occurrences j i 0 j.length 1).isEmpty))) H) := by
 intro pins s σ H x y v u Q I rx ry h
 obtain ⟨i, j, rfl, rfl, q⟩ := h
 obtain ⟨t, rfl⟩ := rx
 obtain ⟨t', rfl⟩ := ry
 exact notIn_str ⟨.bl _, H, I, rfl, q⟩
theorem zdI : CallR X (.builtin "len") (fun xs H Q => ∃ p ys, xs = [.ref p] /\ (SqL X.K H p ys \/ SqT X.K H p ys) /\ Q (.int ys.length) H) := by
 intro pins s σ H xs us Q I r h
 obtain ⟨p, ys, rfl, hq, q⟩ := h
 obtain ⟨u, rfl, rx⟩ := ydl r
 cases rx
 have hn := ycT
 rcases hq with hq | hq
 ·obtain ⟨its, r', pl, hz⟩ := I.list hq
  have hlen := r'.length
  exact Calls.call_len_list pl.isList (by simp only [List.size_toArray] <;> omega) ⟨.int ys.length, H, I.tok _, ⟨s.toks + 1, by rw [List.size_toArray, hlen]⟩, q⟩
 ·obtain ⟨its, r', pl, hz⟩ := I.tuple hq
  have hlen := r'.length
  exact len_tuple pl (by simp only [List.size_toArray] <;> omega) ⟨.int ys.length, H, I.tok _, ⟨s.toks + 1, by rw [List.size_toArray, hlen]⟩, q⟩
theorem zdJ : CallR X (.builtin "len") (fun xs H Q => ∃ z, xs = [.str z] /\ z.length <= sizeLine /\ Q (.int z.length) H) := by
 intro pins s σ H xs us Q I r h
 obtain ⟨z, rfl, hz, q⟩ := h
 obtain ⟨u, rfl, t, rfl⟩ := ydl r
 have hn := ycT
 exact len_str (by omega) ⟨.int z.length, H, I.tok _, ⟨_, rfl⟩, q⟩
theorem CallR.or {f : Value} {r r' : List V -> Hp -> VK -> Prop} (h : CallR X f r) (h' : CallR X f r') : CallR X f (fun xs H Q => r xs H Q \/ r' xs H Q) := by
 intro pins s σ H xs us Q I rs q
 rcases q with q | q
 ·exact h pins s σ H xs us Q I rs q
 ·exact h' pins s σ H xs us Q I rs q
def tyV (K : PySem.W.Frag) (T : String) (x : V) (H : Hp) : Prop := match x with
 | .str _ => T = "str"
 | .int _ => T = "int"
 | .ref p => (T = "list" /\ ∃ xs, SqL K H p xs) \/ (T = "tuple" /\ ∃ o, K.lookup p = some o /\ o.cls = .type "tuple" /\ o.dict = none) \/
   (T = "dict" /\ ((∃ kvs, H p = some (.dK kvs)) \/ ∃ kvs, H p = some (.dT kvs))) \/ (T = "set" /\ ∃ S n, H p = some (.set S n))
 | _ => False
theorem yeS {pins : List (Addr × Obj)} {σ : St} {H : Hp} {s : Shared} {T : String} {x : V} {v : Value} (I : Inv X pins σ H s) (r : RelV x v) (ty : tyV X.K T x H) :
  s.TypeIs v T /\ ∀ a, v = .ref a -> ∃ ob, s.heap.get? a = some ob /\ ob.dict = none := by
 cases x with
 | str z =>
  obtain ⟨t, rfl⟩ := r
  cases (show T = "str" from ty)
  exact ⟨typeIs_str s z t, fun _ e => nomatch e⟩
 | int i =>
  obtain ⟨t, rfl⟩ := r
  cases (show T = "int" from ty)
  exact ⟨typeIs_int s i t, fun _ e => nomatch e⟩
 | ref p =>
  cases r
  rcases ty with ⟨rfl, xs, hq⟩ | ⟨rfl, o, hk, hc, hd⟩ | ⟨rfl, hk⟩ | ⟨rfl, S, n, hk⟩
  ·obtain ⟨its, _, pl, _⟩ := I.list hq
   refine ⟨pl.isList.typeIs, fun a e => ?_⟩
   cases e
   obtain ⟨o, n, e, c, hd, _⟩ := pl
   exact ⟨o, e, hd⟩
  ·refine ⟨⟨o, I.kIn p o hk, hc⟩, fun a e => ?_⟩
   cases e
   exact ⟨o, I.kIn _ o hk, hd⟩
  ·have z : ∃ o, s.heap.get? p = some o /\ o.ExactDict := by
    rcases hk with ⟨kvs, hk⟩ | ⟨kvs, hk⟩
    ·obtain ⟨_, _, _, _, o, _, _, e, ex, _⟩ := I.hok p _ hk
     exact ⟨o, e, ex⟩
    ·obtain ⟨_, _, _, _, o, _, _, e, ex, _⟩ := I.hok p _ hk
     exact ⟨o, e, ex⟩
   obtain ⟨o, e, ex⟩ := z
   refine ⟨⟨o, e, ex.1⟩, fun a e2 => ?_⟩
   cases e2
   exact ⟨o, e, ex.2.1⟩
  ·obtain ⟨o, _, _, _, e, ex, _⟩ := I.hok p _ hk
   refine ⟨⟨o, e, ex.1⟩, fun a e2 => ?_⟩
   cases e2
   exact ⟨o, e, ex.2.1⟩
 | _ => exact False.elim ty
def tBM0 (K : PySem.W.Frag) (T : String) (r : V -> List V -> Hp -> VK -> Prop) (to : TE) : TE := fun σ H Q => to σ H fun x H1 => tyV K T x H1 /\ r x [] H1 Q
def tBM (K : PySem.W.Frag) (T : String) (r : V -> List V -> Hp -> VK -> Prop) (to : TE) (t : TA) : TE := fun σ H Q => to σ H fun x H1 => tyV K T x H1 /\ t σ H1 fun xs H2 => r x xs H2 Q
variable {o e : Expr} {es : List Expr} {to : TE} {t : TA} {name : Str} {apos cpos : Pos} {T id : String} {r : V -> List V -> Hp -> VK -> Prop}
theorem yf5 (pa : PlainAttrs T) (slot : Slot T name id) (hty : typeOf (.builtin id) = pure (.type "method_descriptor")) (hm : MtR X id r) (ho : PE X o to)
  (hbase : attributeBase o name X.env (eval o X.env) = eval o X.env := by rfl) (hline : (apos.endLine == cpos.line) = true := by rfl) : PE X (.Call (.Attribute o name apos) [] [] cpos) (tBM0 X.K T r to) := by
 intro pins s σ H Q I h
 refine wpAny_Call_method0_late hbase hline (thn (ho pins s σ H _ I h) fun v s1 ⟨x, H1, I1, r1, ty, q1⟩ => ?_)
 obtain ⟨h1, h2⟩ := yeS I1 r1 ty
 exact ⟨T, id, pa, slot, hty, h1, h2, Calls.callWith_builtin rfl (PySem.evalArgs_none (hm pins s1 σ H1 x [] v [] Q I1 r1 .nil q1))⟩
theorem yg1 (pa : PlainAttrs T) (slot : Slot T name id) (hty : typeOf (.builtin id) = pure (.type "method_descriptor")) (hm : MtR X id r) (ho : PE X o to) (ha : PA X (e :: es) t)
  (hbase : attributeBase o name X.env (eval o X.env) = eval o X.env := by rfl)
  (hfew : ((backTo cpos (starEach (e :: es) X.env)).all (fun x => !x.1) && (backToKw cpos (keywordEach [] X.env)).all (fun x => x.1.isSome)
   && decide ((e :: es).length + ([] : List Keyword).length + (if ([] : List Keyword).isEmpty then 0 else 1) < 30)) = true := by rfl)
  (hline : (apos.endLine == cpos.line) = true := by rfl) (hs : starEach (e :: es) X.env = (false, eval e X.env) :: starEach es X.env := by rfl) (hplain : (backTo cpos (starEach es X.env)).any (·.1) = false := by rfl) :
  PE X (.Call (.Attribute o name apos) (e :: es) [] cpos) (tBM X.K T r to t) := by
 intro pins s σ H Q I h
 refine wpAny_Call_method_late hbase hfew hline rfl (thn (ho pins s σ H _ I h) fun v s1 ⟨x, H1, I1, r1, ty, q1⟩ => ?_)
 obtain ⟨h1, h2⟩ := yeS I1 r1 ty
 refine ⟨T, id, pa, slot, hty, h1, h2, ?_⟩
 have hA := ha cpos pins s1 σ H1 _ I1 q1
 rw [hs] at hA ⊢
 refine Calls.callWith_builtin (by show (false || (backTo cpos (starEach es X.env)).any (·.1)) = false; rw [hplain] <;> rfl) (Calls.evalArgs_plain ?_)
 exact thn hA fun us s2 ⟨vs, H2, I2, r2, q2⟩ => hm pins s2 σ H2 x vs v us Q I2 r1 r2 q2
end
end L2
namespace L2
open PySem PySem.Spec PyProof.Rows
def MtM (X : Cx) (id : String) (r : V -> List V -> Hp -> VK -> Prop) : Prop :=
 ∀ (pins : List (Addr × Obj)) (s : Shared) (σ : St) (H : Hp) (x : V) (xs : List V) (v : Value) (us : List Value) (Q : VK), Inv X pins σ H s -> RelV x v -> Vals xs us -> r x xs H Q ->
  wpAny (model X.prog X.w) X.A (call (.builtin id) (v :: us)) (EP X pins σ Q) X.xe s
theorem Vals.one : ∀ {x : V} {us : List Value}, Vals [x] us -> ∃ u, us = [u] /\ RelV x u
 | _, _, .cons r .nil => ⟨_, rfl, r⟩
theorem Vals.zero : ∀ {us : List Value}, Vals [] us -> us = []
 | _, .nil => rfl
theorem Vals.dropLast {xs : List V} {us : List Value} (h : Vals xs us) : Vals xs.dropLast us.dropLast := by
 induction h with
 | nil => exact .nil
 | cons r t ih =>
  cases t with
  | nil => exact .nil
  | cons q t' => exact .cons r ih
theorem Vals.reverse {xs : List V} {us : List Value} (h : Vals xs us) : Vals xs.reverse us.reverse := by
 induction h with
 | nil => exact .nil
 | cons r t ih => rw [List.reverse_cons, List.reverse_cons]; exact Vals.append ih (.cons r .nil)
theorem zfu {α : Type} (l : List α) : l.eraseIdx (l.length - 1) = l.dropLast := by
 induction l with
 | nil => rfl
 | cons a r ih =>
  cases r with
  | nil => rfl
  | cons b r =>
   have e : (a :: b :: r).length - 1 = ((b :: r).length - 1) + 1 := by
    have h1 : (a :: b :: r).length = r.length + 2 := rfl
    have h2 : (b :: r).length = r.length + 1 := rfl
    omega
   rw [e, List.eraseIdx_cons_succ, ih]
   all_goals rfl
section
variable {X : Cx} {pins : List (Addr × Obj)} {σ : St} {H : Hp} {s : Shared} {l b : Addr} {xs ys zs : List V}
theorem Inv.lset {its its' : List Value} {n : Nat} {f : Array Value -> Array Value} {t' : Nat} (I : Inv X pins σ H s) (hH : H l = some (.lst xs))
  (e : s.heap.get? l = some { cls := .type "list", data := .seq its.toArray n }) (hf : f its.toArray = its'.toArray) (hv : Vals ys its') (hz : ys.length <= sizeLine) :
  Inv X pins σ (upd H l (.lst ys)) { s with heap := s.heap.update l (Obj.mapSeq f), toks := t' } := by
 have q := PySem.IsL.update e f
 rw [hf] at q
 refine I.write (x := l) (e := l) (by rw [hH]; exact trivial) (.inl rfl) (fun b' u hb hu => (Heap.get?_update_other s.heap (Obj.mapSeq f) (Ne.symm hb)).trans hu) ⟨_, q⟩ ?_
 exact ⟨hz, its', _, hv, q⟩
theorem Inv.lnew {its : List Value} {t' : Nat} (I : Inv X pins σ H s) (hv : Vals ys its) (hz : ys.length <= sizeLine) :
  Inv X pins σ (upd H s.heap.objs.size (.lst ys)) { s with heap := s.heap.push { cls := .type "list", data := .seq its.toArray }, toks := t' } :=
 I.laid (fun _ _ q => Heap.get?_push_of_some _ q) (Nat.le_refl _) ⟨hz, its, 0, hv, Heap.get?_push_size _ rfl⟩
theorem Inv.fresh (I : Inv X pins σ H s) : H s.heap.objs.size = none := I.hok.fresh (Nat.le_refl _)
theorem Inv.lstM (I : Inv X pins σ H s) (hH : H l = some (.lst xs)) : xs.length <= sizeLine /\ ∃ (its : List Value) (n : Nat), Vals xs its /\ xs.length = its.length /\ s.heap.get? l = some { cls := .type "list", data := .seq its.toArray n } := by
 obtain ⟨z, its, n, r, e⟩ := I.hok l _ hH
 exact ⟨z, its, n, r, r.length, e⟩
theorem zgO {n : Nat} (h : n <= sizeLine) : Builtin.List.listTooLong n = false := by
 unfold Builtin.List.listTooLong
 exact decide_eq_false (by omega)
end
section
variable {X : Cx}
def yfA : V -> List V -> Hp -> VK -> Prop := fun x vs H Q => ∃ l xs y, x = .ref l /\ vs = [y] /\ H l = some (.lst xs) /\ xs.length < sizeLine /\ Q .non (upd H l (.lst (xs ++ [y])))
theorem zbK : MtM X "list.append" yfA := by
 intro pins s σ H x vs v us Q I rx rv h
 obtain ⟨l, xs, y, rfl, rfl, hH, hz, q⟩ := h
 cases rx
 obtain ⟨u, rfl, ru⟩ := rv.one
 obtain ⟨z, its, n, r, hl, e⟩ := I.lstM hH
 refine call_meets F.slot_list_append ⟨_, e, rfl⟩ F.entry_list_append (F.args_list_append_2 _ _) (PySem.list_append l its.toArray n u (by rw [List.size_toArray]; omega)) ⟨e, ?_⟩
 refine ⟨.non, _, I.lset (its' := its ++ [u]) hH e (by simp) (r.append (.cons ru .nil)) ?_, rfl, q⟩
 rw [List.length_append, List.length_singleton]
 omega
def yfB : V -> List V -> Hp -> VK -> Prop := fun x vs H Q => ∃ l b xs zs, x = .ref l /\ vs = [.ref b] /\ H l = some (.lst xs) /\ H b = some (.lst zs) /\ xs.length + zs.length <= sizeLine /\ Q .non (upd H l (.lst (xs ++ zs)))
theorem zf0 : MtM X "list.extend" yfB := by
 intro pins s σ H x vs v us Q I rx rv h
 obtain ⟨l, b, xs, zs, rfl, rfl, hH, hB, hz, q⟩ := h
 cases rx
 obtain ⟨u, rfl, ru⟩ := rv.one
 cases ru
 obtain ⟨z, its, n, r, hl, e⟩ := I.lstM hH
 obtain ⟨z2, its2, n2, r2, hl2, e2⟩ := I.lstM hB
 have hsz : its.toArray.size + its2.toArray.size <= sizeLine := by rw [List.size_toArray, List.size_toArray]; omega
 have hlong : ¬ (!its.toArray.isEmpty && Builtin.List.listTooLong (its.toArray.size + its2.toArray.size)) = true := by
  rw [zgO hsz, Bool.and_false]
  exact Bool.false_ne_true
 refine call_meets F.slot_list_extend ⟨_, e, rfl⟩ F.entry_list_extend (F.args_list_extend_2 _ _)
  (AutoSeq1.list_extend_list_list_0 l its.toArray n b its2.toArray n2 hlong (by rw [List.size_toArray]; omega) (by omega)) ⟨e, e2, ?_⟩
 refine ⟨.non, _, I.lset (its' := its ++ its2) hH e (by simp) (r.append r2) ?_, rfl, q⟩
 rw [List.length_append]
 omega
def rPop : V -> List V -> Hp -> VK -> Prop := fun x vs H Q => ∃ l xs y, x = .ref l /\ vs = [] /\ H l = some (.lst xs) /\ xs[xs.length - 1]? = some y /\ Q y (upd H l (.lst xs.dropLast))
theorem yhw : MtM X "list.pop" rPop := by
 intro pins s σ H x vs v us Q I rx rv h
 obtain ⟨l, xs, y, rfl, rfl, hH, hy, q⟩ := h
 cases rx
 have hus := rv.zero
 subst hus
 obtain ⟨z, its, n, r, hl, e⟩ := I.lstM hH
 obtain ⟨u, hu, ru⟩ := r.get hy
 have hy' : its.toArray[its.toArray.size - 1]? = some u := by
  show its.toArray[its.length - 1]? = some u
  rw [<- Array.getElem?_toList, <- hl]
  exact hu
 refine call_meets F.slot_list_pop ⟨_, e, rfl⟩ F.entry_list_pop (F.args_list_pop_1 _) (MeetsSeq.list_pop_last l its.toArray n u hy' (by rw [List.size_toArray]; omega)) ⟨e, ?_⟩
 refine ⟨y, _, I.lset (its' := its.dropLast) hH e ?_ r.dropLast ?_, ru, q⟩
 ·show its.toArray.eraseIdxIfInBounds (its.toArray.size - 1) = its.dropLast.toArray
  rw [List.size_toArray, List.eraseIdxIfInBounds_toArray, zfu]
 ·rw [List.length_dropLast]
  omega
def yfj : V -> List V -> Hp -> VK -> Prop := fun x vs H Q => ∃ l xs, x = .ref l /\ vs = [] /\ H l = some (.lst xs) /\ Q .non (upd H l (.lst xs.reverse))
theorem zfv : MtM X "list.reverse" yfj := by
 intro pins s σ H x vs v us Q I rx rv h
 obtain ⟨l, xs, rfl, rfl, hH, q⟩ := h
 cases rx
 have hus := rv.zero
 subst hus
 obtain ⟨z, its, n, r, hl, e⟩ := I.lstM hH
 refine call_meets F.slot_list_reverse ⟨_, e, rfl⟩ F.entry_list_reverse (F.args_list_reverse_1 _) (AutoSeq1.list_reverse_list_0 l its.toArray n (by rw [List.size_toArray]; omega)) ⟨e, ?_⟩
 refine ⟨.non, _, I.lset (its' := its.reverse) hH e (by simp) r.reverse ?_, rfl, q⟩
 rw [List.length_reverse]
 omega
end
section
variable {prog : Program} {w : World} {A : Around} {E : Value -> Shared -> Prop} {s : Shared}
end
section
variable {X : Cx}
end
end L2
namespace L2
open PySem PySem.Spec PyProof.Rows
section
variable {κ : Type} [DecidableEq κ]
def valV (kvs : List (κ × V)) (k : κ) : Option V := (kvs.find? fun kv => decide (kv.1 = k)).map (·.2)
def putK (kvs : List (κ × V)) (k : κ) (v : V) : List (κ × V) :=
 if (kvs.any fun kv => decide (kv.1 = k)) = true then kvs.map (fun kv => if kv.1 = k then (kv.1, v) else kv) else kvs ++ [(k, v)]
theorem zbs {p : κ × V} {r : List (κ × V)} {k : κ} (e : p.1 = k) : valV (p :: r) k = some p.2 := by simp [valV, List.find?_cons, e]
theorem za6 {p : κ × V} {r : List (κ × V)} {k : κ} (e : ¬ p.1 = k) : valV (p :: r) k = valV r k := by simp [valV, List.find?_cons, e]
theorem zcs (k : κ) : ∀ kvs : List (κ × V), (kvs.any fun kv => decide (kv.1 = k)) = (valV kvs k).isSome
 | [] => rfl
 | p :: r => by
  rw [List.any_cons]
  by_cases e : p.1 = k
  ·simp only [zbs e, decide_eq_true e, Bool.true_or, Option.isSome_some]
  ·rw [za6 e, decide_eq_false e, Bool.false_or]; exact zcs k r
theorem zcg (kvs : List (κ × V)) (k : κ) (v : V) : (putK kvs k v).length <= kvs.length + 1 := by
 unfold putK
 split
 ·rw [List.length_map]; omega
 ·rw [List.length_append, List.length_cons, List.length_nil]; omega
theorem RelO.isSome_eq {o : Option V} {u : Option Value} (r : RelO o u) : o.isSome = u.isSome := by
 cases o with
 | none => cases u with
  | none => rfl
  | some _ => exact (show False from r).elim
 | some _ => cases u with
  | none => exact (show False from r).elim
  | some _ => rfl
theorem KV.val {kvs : List (κ × V)} {vs : List (κ × Value)} (r : KV kvs vs) (k : κ) : RelO (valV kvs k) (valueAt vs k) := by
 unfold KV at r
 induction r with
 | nil => exact True.intro
 | @cons p q ps qs h t ih =>
  obtain ⟨h1, h2⟩ := h
  by_cases e : p.1 = k
  ·have e' : q.1 = k := h1.symm.trans e
   have b : valueAt (q :: qs) k = some q.2 := by simp [valueAt, List.find?_cons, e']
   rw [zbs e, b]; exact h2
  ·have e' : ¬ q.1 = k := fun z => e (h1.trans z)
   have b : valueAt (q :: qs) k = valueAt qs k := by simp [valueAt, List.find?_cons, e']
   rw [za6 e, b]; exact ih
theorem KV.any {kvs : List (κ × V)} {vs : List (κ × Value)} (r : KV kvs vs) (k : κ) : (kvs.any fun kv => decide (kv.1 = k)) = vs.any fun kv => decide (kv.1 = k) := by
 unfold KV at r
 induction r with
 | nil => rfl
 | cons h t ih => rw [List.any_cons, List.any_cons, ih, h.1]
theorem KV.repl {kvs : List (κ × V)} {vs : List (κ × Value)} (r : KV kvs vs) (k : κ) {y : V} {u : Value} (ry : RelV y u) :
  KV (kvs.map fun kv => if kv.1 = k then (kv.1, y) else kv) (vs.map fun kv => if kv.1 = k then (kv.1, u) else kv) := by
 unfold KV at r ⊢
 induction r with
 | nil => exact .nil
 | @cons p q ps qs h t ih =>
  rw [List.map_cons, List.map_cons]
  refine .cons ?_ ih
  obtain ⟨h1, h2⟩ := h
  by_cases e : p.1 = k
  ·rw [if_pos e, if_pos (h1.symm.trans e)]; exact ⟨h1, ry⟩
  ·rw [if_neg e, if_neg (fun z => e (h1.trans z))]; exact ⟨h1, h2⟩
theorem KV.put {kvs : List (κ × V)} {vs : List (κ × Value)} (r : KV kvs vs) (k : κ) {y : V} {u : Value} (ry : RelV y u) : KV (putK kvs k y) (stored vs k u) := by
 unfold putK stored
 rw [r.any k]
 by_cases e : (vs.any fun kv => decide (kv.1 = k)) = true
 ·rw [if_pos e, if_pos e]; exact r.repl k ry
 ·rw [if_neg e, if_neg e]; exact Paired.snoc r ⟨rfl, ry⟩
theorem KV.length {kvs : List (κ × V)} {vs : List (κ × Value)} (r : KV kvs vs) : kvs.length = vs.length := Paired.length r
end
theorem yef {P : Program} {w : World} {k : Key} {u : Value} (r : RelV (kV k) u) : (ybb P w).is k u = true := by
 cases k with
 | inl i => obtain ⟨t, e⟩ := (show ∃ t, u = Value.int i t from r); subst e; exact zcc P w i t
 | inr x => obtain ⟨t, e⟩ := (show ∃ t, u = Value.str x t from r); subst e; exact zcd P w x t
theorem yf6 {P : Program} {w : World} {y : V} {k : Key} {u : Value} (e : kOf y = some k) (r : RelV y u) : (ybb P w).is k u = true := by
 cases y with
 | int i => cases e; obtain ⟨t, e⟩ := (show ∃ t, u = Value.int i t from r); subst e; exact zcc P w i t
 | str x => cases e; obtain ⟨t, e⟩ := (show ∃ t, u = Value.str x t from r); subst e; exact zcd P w x t
 | bl b => cases e; cases (show u = Value.bool b from r); exact decide_eq_true rfl
 | _ => cases e
theorem zdh {P : Program} {w : World} : ∀ {ys : List V} {ks : List Key} {us : List Value}, ys.map kOf = ks.map some -> Vals ys us -> ItemsAre (ybb P w) ks us
 | [], [], _, _, r => by cases r; exact .nil
 | [], _ :: _, _, e, _ => by simp at e
 | _ :: _, [], _, e, _ => by simp at e
 | y :: ys, k :: ks, _, e, r => by
  rw [List.map_cons, List.map_cons] at e
  injection e with e1 e2
  cases r with
  | cons h t => exact .cons (yf6 e1 h) (zdh e2 t)
def KTup (H : Hp) (b : Addr) (k : List Key) : Prop := ∃ ys, H b = some (.tup ys) /\ ys.map kOf = k.map some
theorem KTup.of {H : Hp} {b : Addr} {k : List Key} (e : H b = some (.tup (k.map kV))) : KTup H b k := ⟨_, e, by rw [List.map_map]; exact List.map_congr_left fun x _ => yfF x⟩
abbrev KT (H : Hp) : List (List Key × V) -> List (List Key × Addr × Value) -> Prop := Paired fun p q => p.1 = q.1 /\ (∃ ys, H q.2.1 = some (.tup ys) /\ ys.map kOf = p.1.map some) /\ RelV p.2 q.2.2
theorem KT.val {H : Hp} {kvs : List (List Key × V)} {xs : List (List Key × Addr × Value)} (r : KT H kvs xs) (k : List Key) : RelO (valV kvs k) ((atKey xs k).map (·.2)) := by
 induction r with
 | nil => exact True.intro
 | @cons p q ps qs h t ih =>
  obtain ⟨h1, _, h2⟩ := h
  by_cases e : p.1 = k
  ·have e' : q.1 = k := h1.symm.trans e
   have b : atKey (q :: qs) k = some q.2 := by simp [atKey, List.find?_cons, e']
   rw [zbs e, b]; exact h2
  ·have e' : ¬ q.1 = k := fun z => e (h1.trans z)
   have b : atKey (q :: qs) k = atKey qs k := by simp [atKey, List.find?_cons, e']
   rw [za6 e, b]; exact ih
theorem KT.repl {H : Hp} {kvs : List (List Key × V)} {xs : List (List Key × Addr × Value)} (r : KT H kvs xs) (k : List Key) {y : V} {u : Value} (ry : RelV y u) :
  KT H (kvs.map fun kv => if kv.1 = k then (kv.1, y) else kv) (xs.map (putAt k u)) := by
 induction r with
 | nil => exact .nil
 | @cons p q ps qs h t ih =>
  rw [List.map_cons, List.map_cons]
  refine .cons ?_ ih
  obtain ⟨h1, h2, h3⟩ := h
  unfold putAt
  by_cases e : p.1 = k
  ·rw [if_pos e, if_pos (h1.symm.trans e)]; exact ⟨h1, h2, ry⟩
  ·rw [if_neg e, if_neg (fun z => e (h1.trans z))]; exact ⟨h1, h2, h3⟩
theorem KT.put {H : Hp} {kvs : List (List Key × V)} {xs : List (List Key × Addr × Value)} (r : KT H kvs xs) (k : List Key) {b : Addr} {y : V} {u : Value} (hb : KTup H b k) (ry : RelV y u) :
  KT H (putK kvs k y) (storedH xs k b u) := by
 have e : (kvs.any fun kv => decide (kv.1 = k)) = (atKey xs k).isSome := by
  rw [zcs, (r.val k).isSome_eq, Option.isSome_map]
 unfold putK storedH
 rw [e]
 by_cases q : (atKey xs k).isSome = true
 ·rw [if_pos q, if_pos q]; exact r.repl k ry
 ·rw [if_neg q, if_neg q]; exact Paired.snoc r ⟨rfl, hb, ry⟩
theorem KT.keeps {H H' : Hp} {kvs : List (List Key × V)} {xs : List (List Key × Addr × Value)} (r : KT H kvs xs) (ht : ∀ b ys, H b = some (.tup ys) -> H' b = some (.tup ys)) : KT H' kvs xs :=
 Paired.mapP r fun _ _ z => ⟨z.1, z.2.1.imp fun _ e => ⟨ht _ _ e.1, e.2⟩, z.2.2⟩
section
variable {P : Program} {w : World} {H : Hp} {h : Heap} {a : Addr}
theorem yfp {u : HO} (ok : HOk P w H h) (e : Rd H a u) : ObjOk P w H h a u := e.ok ok
theorem ydJ {kvs : List (Key × V)} (ok : HOk P w H h) (e : Rd H a (.dK kvs)) : kvs.length <= sizeLine /\ (a == sysModules) = false /\ ∃ vs, KV kvs vs /\ h.DictOf (ybb P w) a vs :=
 show ObjOk P w H h a (.dK kvs) from yfp ok e
theorem yg2 {kvs : List (Key × V)} (ok : HOk P w H h) (e : H a = some (.dK kvs)) : kvs.length <= sizeLine /\ (a == sysModules) = false /\ ∃ vs, KV kvs vs /\ h.DictOf (ybb P w) a vs := ydJ ok (.inl e)
theorem ydA {ks : List Key} (ok : HOk P w H h) (e : KTup H a ks) : (tupleKind (ybb P w)).is h ks a := by
 obtain ⟨ys, e, ek⟩ := e
 obtain ⟨_, its, r, o, h1, h2, n, h3⟩ := (show ObjOk P w H h a (.tup ys) from ok a _ e)
 exact ⟨o, its.toArray, n, h1, h2, h3, by simpa using zdh ek r⟩
theorem ydW {kvs : List (List Key × V)} (ok : HOk P w H h) (e : Rd H a (.dT kvs)) : kvs.length <= sizeLine /\ (a == sysModules) = false /\
  ∃ xs, KT H kvs xs /\ h.DictOfH (tupleKind (ybb P w)) a xs := by
 obtain ⟨z, y, xs, r, o, es, ep, h1, h2, h3, h4, h5⟩ := (show ObjOk P w H h a (.dT kvs) from yfp ok e)
 refine ⟨z, y, xs, r, o, es, ep, h1, h2, h3, h4, fun x hx => ?_, h5⟩
 have all : ∀ {l : List (List Key × V)} {m : List (List Key × Addr × Value)}, KT H l m -> ∀ x ∈ m, (tupleKind (ybb P w)).is h x.1 x.2.1 := by
  intro l m q
  induction q with
  | nil => intro x hx; exact nomatch hx
  | @cons p q ps qs hq t ih =>
   intro x hx
   rcases List.mem_cons.mp hx with e | hx
   ·subst e
    exact ydA ok (by rw [<- hq.1]; exact hq.2.1)
   ·exact ih x hx
 exact all r x hx
theorem yg3 {kvs : List (List Key × V)} (ok : HOk P w H h) (e : H a = some (.dT kvs)) : kvs.length <= sizeLine /\ (a == sysModules) = false /\
  ∃ xs, KT H kvs xs /\ h.DictOfH (tupleKind (ybb P w)) a xs := ydW ok (.inl e)
end
def DGet (H : Hp) (a : Addr) (y : V) (r : Option V) : Prop :=
 (∃ kvs k, Rd H a (.dK kvs) /\ y = kV k /\ r = valV kvs k) \/ ∃ kvs k b, Rd H a (.dT kvs) /\ y = .ref b /\ KTup H b k /\ r = valV kvs k
def DPut (H : Hp) (a : Addr) (y v : V) (H' : Hp) : Prop :=
 (∃ kvs k, H a = some (.dK kvs) /\ y = kV k /\ kvs.length < sizeLine /\ H' = upd H a (.dK (putK kvs k v))) \/
 ∃ kvs k b, H a = some (.dT kvs) /\ y = .ref b /\ KTup H b k /\ kvs.length < sizeLine /\ H' = upd H a (.dT (putK kvs k v))
theorem DGet.k {H : Hp} {a : Addr} {kvs : List (Key × V)} {k : Key} (e : H a = some (.dK kvs)) : DGet H a (kV k) (valV kvs k) := .inl ⟨kvs, k, .inl e, rfl, rfl⟩
theorem DGet.t {H : Hp} {a b : Addr} {kvs : List (List Key × V)} {k : List Key} (e : H a = some (.dT kvs)) (eb : KTup H b k) : DGet H a (.ref b) (valV kvs k) := .inr ⟨kvs, k, b, .inl e, rfl, eb, rfl⟩
theorem DPut.k {H : Hp} {a : Addr} {kvs : List (Key × V)} {k : Key} {v : V} (e : H a = some (.dK kvs)) (hl : kvs.length < sizeLine) : DPut H a (kV k) v (upd H a (.dK (putK kvs k v))) := .inl ⟨kvs, k, e, rfl, hl, rfl⟩
theorem DPut.t {H : Hp} {a b : Addr} {kvs : List (List Key × V)} {k : List Key} {v : V} (e : H a = some (.dT kvs)) (eb : KTup H b k) (hl : kvs.length < sizeLine) :
  DPut H a (.ref b) v (upd H a (.dT (putK kvs k v))) := .inr ⟨kvs, k, b, e, rfl, eb, hl, rfl⟩
section
variable {X : Cx} {pins : List (Addr × Obj)} {σ : St} {H : Hp} {s : Shared} {a : Addr} {y v : V} {u r : Value} {o : Option V} {A : Around} {E : Value -> Shared -> Prop}
theorem Inv.big (I : Inv X pins σ H s) : sysModules < s.heap.objs.size := by
 have h : mainGlobals < s.heap.objs.size := (I.mod.glob.keeps I.bk).lt
 exact Nat.lt_trans (by decide) h
theorem zf1 {Q : Value -> Shared -> Prop} (hu : A.units + 1 < cLine) (I : Inv X pins σ H s) (g : DGet H a y (some v)) (ry : RelV y u) (h : ∀ w' s', Inv X pins σ H s' -> RelV v w' -> Q w' s') :
  wpAny (model X.prog X.w) A (getItem (.ref a) u) Q E s := by
 rcases g with ⟨kvs, k, e, ey, l⟩ | ⟨kvs, k, b, e, ey, eb, l⟩
 ·subst ey
  obtain ⟨z, hd, vs, rel, dd⟩ := ydJ I.hok e
  obtain ⟨w', hw, rw'⟩ := RelO.some_of (v := v) (o := valueAt vs k) (by rw [l]; exact rel.val k)
  exact wpAny_getItem_of (yef ry) dd.mapOf hw (h w' _ (I.tok _) rw')
 ·subst ey
  cases (show u = Value.ref b from ry)
  obtain ⟨z, hd, xs, rel, dd⟩ := ydW I.hok e
  obtain ⟨w', hw, rw'⟩ := RelO.some_of (v := v) (o := (atKey xs k).map (·.2)) (by rw [l]; exact rel.val k)
  obtain ⟨p, hp, hp2⟩ := Option.map_eq_some_iff.mp hw
  refine wpAny_getItem_heap (tupleKind_room_in1 hu) (ydA I.hok eb) dd hp ?_
  rw [hp2]
  exact h w' _ (I.tok _) rw'
theorem d_in {Q : Value -> Shared -> Prop} (hu : A.units + 1 < cLine) (I : Inv X pins σ H s) (g : DGet H a y o) (ry : RelV y u) (h : ∀ s', Inv X pins σ H s' -> Q (.bool o.isSome) s') :
  wpAny (model X.prog X.w) A (compareOp .In u (.ref a)) Q E s := by
 rcases g with ⟨kvs, k, e, ey, l⟩ | ⟨kvs, k, b, e, ey, eb, l⟩
 ·subst ey
  obtain ⟨z, hd, vs, rel, dd⟩ := ydJ I.hok e
  refine wpAny_in_of (yef ry) hd dd.mapOf ?_
  rw [<- (rel.val k).isSome_eq, <- l]
  exact h _ (I.tok _)
 ·subst ey
  cases (show u = Value.ref b from ry)
  obtain ⟨z, hd, xs, rel, dd⟩ := ydW I.hok e
  refine wpAny_in_heap (tupleKind_room_in1 hu) (ydA I.hok eb) hd dd ?_
  have q := (rel.val k).isSome_eq
  rw [Option.isSome_map] at q
  rw [<- q, <- l]
  exact h _ (I.tok _)
theorem zhV {Q : Value -> Shared -> Prop} (hu : A.units + 1 < cLine) (I : Inv X pins σ H s) (g : DGet H a y o) (ry : RelV y u) (h : ∀ s', Inv X pins σ H s' -> Q (.bool (!o.isSome)) s') :
  wpAny (model X.prog X.w) A (compareOp .NotIn u (.ref a)) Q E s := by
 rcases g with ⟨kvs, k, e, ey, l⟩ | ⟨kvs, k, b, e, ey, eb, l⟩
 ·subst ey
  obtain ⟨z, hd, vs, rel, dd⟩ := ydJ I.hok e
  refine wpAny_notIn_of (yef ry) hd dd.mapOf ?_
  rw [<- (rel.val k).isSome_eq, <- l]
  exact h _ (I.tok _)
 ·subst ey
  cases (show u = Value.ref b from ry)
  obtain ⟨z, hd, xs, rel, dd⟩ := ydW I.hok e
  refine wpAny_notIn_heap (tupleKind_room_in1 hu) (ydA I.hok eb) hd dd ?_
  have q := (rel.val k).isSome_eq
  rw [Option.isSome_map] at q
  rw [<- q, <- l]
  exact h _ (I.tok _)
theorem zeA {h' : Heap} {t' : Nat} {ob : HO} (I : Inv X pins σ H s) (mu : Mut (H a)) (hs : Heap.SameBut a s.heap h') (he : ∃ q, h'.get? a = some q) (new : ObjOk X.prog X.w (upd H a ob) h' a ob) :
  Inv X pins σ (upd H a ob) { s with heap := h', toks := t' } :=
 I.write (x := a) (e := a) mu (.inl rfl) (fun b q hb z => (hs.2 b hb).trans z) he new
theorem yf7 {P : Program} {w : World} {H' : Hp} {h' : Heap} {kvs : List (Key × V)} {vs : List (Key × Value)} (z : kvs.length <= sizeLine) (hd : (a == sysModules) = false) (rel : KV kvs vs) (dd : h'.DictOf (ybb P w) a vs) :
  ObjOk P w H' h' a (.dK kvs) := ⟨z, hd, vs, rel, dd⟩
theorem zf2 {H' : Hp} {Q : Unit -> Shared -> Prop} (hu : A.units + 1 < cLine) (I : Inv X pins σ H s) (g : DPut H a y v H') (ry : RelV y u) (rv : RelV v r) (h : ∀ s', Inv X pins σ H' s' -> Q () s') :
  wpAny (model X.prog X.w) A (setItem (.ref a) u r) Q E s := by
 rcases g with ⟨kvs, k, e, ey, l, eH⟩ | ⟨kvs, k, b, e, ey, eb, l, eH⟩
 ·subst ey eH
  obtain ⟨z, hd, vs, rel, dd⟩ := yg2 I.hok e
  have hz : vs.length <= sizeLine := by rw [<- rel.length]; exact z
  have hl : (putK kvs k v).length <= sizeLine := by have := zcg kvs k v; omega
  refine wpAny_setItem_pairs (hsz := hz) (yef ry) dd fun h' dd' hs => h _ ?_
  have he : ∃ q, h'.get? a = some q := let ⟨q, _, _, hq, _⟩ := dd'; ⟨q, hq⟩
  exact zeA I (by rw [e]; exact True.intro) hs he (yf7 hl hd (rel.put k rv) dd')
 ·subst ey eH
  cases (show u = Value.ref b from ry)
  obtain ⟨z, hd, xs, rel, dd⟩ := yg3 I.hok e
  have hz : xs.length <= sizeLine := by rw [<- Paired.length rel]; exact z
  have hl : (putK kvs k v).length <= sizeLine := by have := zcg kvs k v; omega
  refine wpAny_setItem_heap (hsz := hz) (tupleKind_room_in1 hu) (ydA I.hok eb) dd fun h' dd' hs => h _ ?_
  obtain ⟨q, es, ep, hq, h2, h3, h4, _, h5⟩ := dd'
  refine zeA I (by rw [e]; exact True.intro) hs ⟨q, hq⟩ ⟨hl, hd, _, (rel.put k eb rv).keeps fun c ys ec => ?_, q, es, ep, hq, h2, h3, h4, h5⟩
  rw [yar (ygI ec e (fun z => nomatch z))]
  exact ec
end
section
variable {X : Cx} {pins : List (Addr × Obj)} {σ : St} {H : Hp} {s : Shared} {a : Addr} {kvs : List (Key × V)} {k : Key} {u : Value} {A : Around} {E : Value -> Shared -> Prop}
theorem yg4 {Q : Value -> Shared -> Prop} (I : Inv X pins σ H s) (e : Rd H a (.dK kvs)) (h : ∀ t s', Inv X pins σ H s' -> Q (.int kvs.length t) s') : wpAny (model X.prog X.w) A (call (.builtin "len") [.ref a]) Q E s := by
 obtain ⟨z, hd, vs, rel, dd⟩ := ydJ I.hok e
 refine call_len_dict hd dd (by rw [<- rel.length]; rw [sizeLine_eq] at z; omega) ?_
 rw [<- rel.length]
 exact h _ _ (I.tok _)
end
def NoSl (i : Expr) : Prop := ∀ ov iv, subscripted i false ov iv = operate [ov, iv] (getItem ov iv)
theorem zhW {prog : Program} {w : World} {A : Around} {E : Value -> Shared -> Prop} {s : Shared} {env : Env} {value slice : Expr} {pos : Pos} {T id : String} {Q : Value -> Shared -> Prop}
  (hl : typeLookup (.type T) "__getitem__" = pure (some (.builtin id))) (hs : NoSl slice)
  (h : wpAny (model prog w) A (eval value env) (fun o s₁ => wpAny (model prog w) A (eval slice env) (fun i s₂ => s₂.TypeIs o T /\ wpAny (model prog w) A (getItem o i) Q E s₂) E s₁) E s) :
  wpAny (model prog w) A (eval (.Subscript value slice pos) env) Q E s := by
 refine Subscript_ (wpAny_mono h (fun o s₁ h₁ => wpAny_mono h₁ (fun i s₂ h₂ => ?_) fun _ _ x => x) fun _ _ x => x)
 obtain ⟨hT, h₂⟩ := h₂
 unfold subscriptTail
 refine wpAny_bind ?_
 rw [getitemInPython_of_ne hT.not_modules]
 refine wpAny_bind (wpAny_specialOf hT hl ?_)
 have fin : wpAny (model prog w) A (subscripted slice false o i) (fun r s₃ => wpAny (model prog w) A (letTemporaryGo value o r >>= fun _ => pure r) Q E s₃) E s₂ := by
  rw [hs o i]
  exact wpAny_operating (wpAny_mono h₂ (fun r s₃ h₃ => wpAny_bind (wpAny_letTemporaryGo (wpAny_pure h₃))) fun _ _ x => x)
 first
  | exact wpAny_pure (wpAny_bind fin)
  | exact wpAny_bind (wpAny_pure (wpAny_bind fin))
  | exact wpAny_bind fin
theorem zea {X : Cx} {pins : List (Addr × Obj)} {σ : St} {H : Hp} {s : Shared} {a : Addr} {y : V} {o : Option V} (I : Inv X pins σ H s) (g : DGet H a y o) : s.TypeIs (.ref a) "dict" := by
 rcases g with ⟨kvs, k, e, _, _⟩ | ⟨kvs, k, b, e, _, _, _⟩
 ·obtain ⟨_, _, vs, _, dd⟩ := ydJ I.hok e
  exact dd.typeIs
 ·obtain ⟨_, _, xs, _, dd⟩ := ydW I.hok e
  exact dd.typeIs
def yg5 (td ty : TE) : TE := fun σ H Q => td σ H fun x H1 => ty σ H1 fun y H2 => ∃ a v, x = .ref a /\ DGet H2 a y (some v) /\ Q v H2
def yg6 (td ty tv : TE) : TS := fun D σ H => tv σ H fun v H1 => td σ H1 fun x H2 => ty σ H2 fun y H3 => ∃ a H4, x = .ref a /\ DPut H3 a y v H4 /\ D.nx σ H4
section
variable {X : Cx} {o i e value : Expr} {pos pos' tpos : Pos} {td ty tv : TE}
theorem zhX (hu : X.A.units + 1 < cLine) (ho : PE X o td) (hi : PE X i ty) (hs : NoSl i) : PE X (.Subscript o i pos) (yg5 td ty) := by
 intro pins s σ H Q I h
 refine zhW PySem.F.slot_dict_getitem.lookup hs (thn (ho pins s σ H _ I h) fun u s1 ⟨x, H1, I1, rx, q1⟩ => thn (hi pins s1 σ H1 _ I1 q1) fun iv s2 ⟨y, H2, I2, ry, a, v, ex, g, q2⟩ => ?_)
 subst ex
 obtain rfl : u = Value.ref a := rx
 exact ⟨zea I2 g, zf1 hu I2 g ry fun w' s3 I3 rw' => ⟨v, H2, I3, rw', q2⟩⟩
theorem zhY (hu : X.A.units + 1 < cLine) (ho : PE X o td) (hi : PE X i ty) (hv : PE X value tv) (hs : swapsWith value (some (.Subscript o i pos')) pos.line X.env = pure false) :
  PS X (.Assign [.Subscript o i pos'] value pos) (yg6 td ty tv) := by
 intro pins s σ H D I h
 refine wpAny_Assign_Subscript (thn (hv pins s σ H _ I h) fun r s1 ⟨v, H1, I1, rv, q1⟩ => thn (ho pins s1 σ H1 _ I1 q1) fun u s2 ⟨x, H2, I2, rx, q2⟩ => thn (hi pins s2 σ H2 _ I2 q2) fun iv s3 ⟨y, H3, I3, ry, a, H4, ex, g, q3⟩ => ?_) hs
 subst ex
 obtain rfl : u = Value.ref a := rx
 exact zf2 hu I3 g ry rv fun s4 I4 => ⟨σ, H4, I4, q3⟩
end
theorem zgP {P : Program} {w : World} {H : Hp} (h : Heap) (hb : sysModules < h.objs.size) : ObjOk P w H (h.push { cls := .type "dict", data := .dict #[] }) h.objs.size (.dK []) :=
 ⟨Nat.zero_le _, beq_eq_false_iff_ne.mpr (Ne.symm (Nat.ne_of_lt hb)), [], .nil, Heap.DictOf.new h⟩
theorem zgQ {P : Program} {w : World} {H : Hp} (h : Heap) (hb : sysModules < h.objs.size) : ObjOk P w H (h.push { cls := .type "dict", data := .dict #[] }) h.objs.size (.dT []) :=
 ⟨Nat.zero_le _, beq_eq_false_iff_ne.mpr (Ne.symm (Nat.ne_of_lt hb)), [], .nil, _, #[], 0, Heap.get?_push_size _ rfl, ⟨rfl, rfl, rfl⟩, rfl, rfl, List.nodup_nil⟩
def yf8 : TE := fun _ H Q => ∀ p, H p = none -> Q (.ref p) (upd H p (.dK []))
def yf9 : TE := fun _ H Q => ∀ p, H p = none -> Q (.ref p) (upd H p (.dT []))
section
variable {X : Cx} {pos : Pos}
theorem zgR : PE X (.Dict [] [] pos) yf8 := fun pins s σ H Q I h =>
 wpAny_Dict_empty ⟨.ref s.heap.objs.size, _, I.laid (a := s.heap.objs.size) (o := .dK []) (t' := s.toks) (fun _ _ q => Heap.get?_push_of_some _ q) (Nat.le_refl _) (zgP s.heap I.big), rfl, h _ (I.hok.fresh (Nat.le_refl _))⟩
theorem zgS : PE X (.Dict [] [] pos) yf9 := fun pins s σ H Q I h =>
 wpAny_Dict_empty ⟨.ref s.heap.objs.size, _, I.laid (a := s.heap.objs.size) (o := .dT []) (t' := s.toks) (fun _ _ q => Heap.get?_push_of_some _ q) (Nat.le_refl _) (zgQ s.heap I.big), rfl, h _ (I.hok.fresh (Nat.le_refl _))⟩
end
section
variable {X : Cx} {pins : List (Addr × Obj)} {σ : St} {H : Hp} {s : Shared} {a : Addr} {y d : V} {u r : Value} {o : Option V} {A : Around} {E : Value -> Shared -> Prop}
end
section
variable {X : Cx} {o e f : Expr} {apos cpos : Pos} {td ty tx : TE}
end
section
variable {X : Cx} {pins : List (Addr × Obj)} {σ : St} {H : Hp} {s : Shared} {a : Addr} {kvs : List (Key × V)} {A : Around} {E : Value -> Shared -> Prop}
end
section
variable {X : Cx} {pins : List (Addr × Obj)} {σ : St} {H : Hp} {s : Shared} {a : Addr} {y : V} {u : Value} {A : Around} {E : Value -> Shared -> Prop}
end
end L2
namespace Att
open PySem PySem.W PySem.Calls PyProof.Rows
theorem zcG {P : Params} {h : Heap} : ∀ (ns : List Int) (vs : List Value), WellAll P h vs (ns.map WData.int) -> IntsAre vs ns := by
 intro ns
 induction ns with
 | nil =>
  intro vs w
  rw [List.map_nil] at w
  cases w
  exact .nil
 | cons n ns ih =>
  intro vs w
  rw [List.map_cons] at w
  cases w with
  | cons a b =>
   cases a
   exact .cons _ _ (ih _ b)
theorem zf3 {l : OpenLaw} {n : Nat} (hn : l.most = some n) {P : Params} {h : Heap} {args : List WData} {vals : List Value}
  (hpre : l.row.toRowW.claim.pre args = true) (hwl : WellAll P h vals args) :
  ∃ a vs ns, vals = [Value.ref a] /\ args = [WData.list (ns.map WData.int)] /\ h.get? a = some { cls := .type "list", data := .seq vs.toArray } /\ IntsAre vs ns /\ ns.length <= n := by
 have hsh : WShape.hasAll [] args [.list .int] = true := (pre_splitW hpre).1
 have hc : l.pre.holds [] { args := args } = true := (pre_splitW hpre).2
 obtain ⟨d, r, rfl, h1, h2⟩ := hasAllW_cons hsh
 obtain rfl := hasAllW_nil h2
 obtain ⟨xs, rfl, h3⟩ := hasW_list h1
 obtain ⟨ns, rfl⟩ := items_int h3
 have hlen : ns.length <= n := by
  unfold OpenLaw.pre at hc
  have h4 : (WTm.not (.lt (.lit (.int (n : Int))) (.len (.arg 0)))).holds [] { args := [.list (ns.map .int)] } = true := by
   have h4 := (holds_andW hc).1
   rw [hn] at h4
   exact h4
  have h5 := condW_of h4 (w_not (w_lt w_lit (w_len_list (w_arg rfl))))
  rw [List.length_map] at h5
  refine Nat.le_of_not_lt fun q => ?_
  have q' : (n : Int) < ((ns.length : Nat) : Int) := by omega
  first
   | (rw [decide_eq_true q'] at h5; exact absurd h5 (by decide))
   | (simp at h5; omega)
 cases hwl with
 | cons w1 w2 =>
  cases w2
  cases w1 with
  | list ho hall => exact ⟨_, _, ns, rfl, rfl, ho, zcG ns _ hall, hlen⟩
theorem zf4 (l : OpenLaw) (args : List WData) : l.row.toRowW.claim.post args (.bool true) args = true :=
 postW_of (r := l.row.toRowW) (X := (true == true))
  (show WShape.has [] (.bool true) .bool = true by first | rfl | decide | simp [WShape.has, WShape.arms, WShape.armsAll])
  (show (WTm.eq .res (.lit (.bool true))).value [] { args := args, res := some (.bool true), after := args } = some (.bool (true == true)) from w_eq_bool (w_res rfl) w_lit) rfl
theorem attach_call {l : OpenLaw} {n : Nat} {q : Program} {loose : List Str} {XP : (Str -> Option Value) -> Heap -> Prop} {YP : World -> Heap -> Prop} {d : DefRec}
  (hn : l.most = some n) (hdf : d.params.defaults = [])
  (call : ∀ (w : World) (s₀ s₁ : Shared) (mg mb : Str -> Option Value) (fa : Addr) (o : Obj) (pm cd doc : Value) (a : Addr) (vs : List Value) (ns : List Int),
   Ground q loose [] XP w s₀ mg mb s₁.heap -> YP w s₁.heap ->
   s₁.heap.get? fa = some o -> o.data = .func (docDef d.name d.params d.body d.scope pm cd doc) -> s₁.heap.CodeRec cd d.name -> mg d.name = some (.ref fa) ->
   s₁.heap.get? a = some { cls := .type "list", data := .seq vs.toArray } -> IntsAre vs ns -> ns.length <= n -> s₁.gens = #[] ->
   codeAny (model l.prog w) callerA (.call (.ref fa) ⟨[.ref a], []⟩) (fun r s' => r = .ok (.ret (.bool true)) /\ OldK s₁.heap s'.heap /\ s'.os = s₁.os /\ AllBare s'.gens) s₁) :
  WalkO q loose XP YP l.row.toRowW d [] (fun f vs => PySem.call f vs) := by
 intro w s₀ s₁ mg mb G Y fa o pm cd doc dV kV ho hd hcd hD hmg hg args vals as hpre hlay hrd hwl hlo
 obtain rfl : dV = .none := Dflts.none hD hdf
 obtain rfl : kV = .none := Dflts.noKw hD
 obtain ⟨a, vs, ns, rfl, rfl, hobj, hints, hlen⟩ := zf3 hn hpre hwl
 refine enter_call (codeAny_mono (call w s₀ s₁ mg mb fa o pm cd doc a vs ns G Y ho (fd_plain hd) hcd hmg hobj hints hlen hg) fun r s' hq => ?_)
 obtain ⟨rfl, h2, h3, h4⟩ := hq
 exact ⟨.inl ⟨.bool true, .bool true, [], rfl, fun _ => rfl, .bool true, zf4 l _, fun _ => ⟨List.Pairwise.nil, fun _ hm => (nomatch hm)⟩⟩, h2, h3, h4⟩
section
variable {prog : Program} {w : World} {A : Around} {E : Value -> Shared -> Prop} {s : Shared} {K : Frag}
end
end Att
namespace L2
open PySem PySem.Spec PyProof.Rows
theorem zdi : ∀ {vs : List Value} {ns : List Int}, IntsAre vs ns -> Vals (ns.map V.int) vs
 | _, _, .nil => .nil
 | _, _, .cons n t h => .cons ⟨t, rfl⟩ (zdi h)
def Only (H : Hp) : Prop := ∀ b, H b = none \/ ∃ o xs, H b = some (.frz o (.lst xs))
theorem zgT {P : Program} {w : World} {K : PySem.W.Frag} {mg mb : Str -> Option Value} {CX : CXT} {k : Nat} {fa a : Addr} {fd : FuncData} {x : Str} {sp : Sp} {s₁ : Shared} {vs : List Value} {ns : List Int}
  (KX : K.In s₁.heap) (hns : s₁.heap.Ns mainGlobals mg) (hb : s₁.heap.Ns builtinsNs mb) (hbb : ∀ x : Str, x ≠ "__name__" -> mb x = bootBuiltins x) (hlim : s₁.heap.NoLimit) (hg : s₁.gens = #[])
  (ha : s₁.heap.get? a = some { cls := .type "list", data := .seq vs.toArray }) (hi : IntsAre vs ns) (hl : ns.length <= sizeLine) (hr : Room k callerA)
  (F : ∀ base : Heap, K.In base -> base.Ns mainGlobals mg -> FnOk P w K mg base CX k fa fd [x] sp) (hbind : ∀ (s : Shared) (u : Value), BindsTo s fd ⟨[u], []⟩ [(x, u)])
  (hsp : ∀ H : Hp, Only H -> SqL K H a (ns.map V.int) -> sp [.ref a] H (fun v _ => v = .bl true) fun _ _ _ => False)
  (hCX : ∀ H e s', CX [] H s₁ (fun _ _ _ => False) e s' -> False) :
  codeAny (model P w) callerA (.call (.ref fa) ⟨[.ref a], []⟩) (fun r s' => r = .ok (.ret (.bool true)) /\ OldK s₁.heap s'.heap /\ s'.os = s₁.os /\ AllBare s'.gens) s₁ := by
 have rv := zdi hi
 have lenV := hi.length
 have core : ∀ H : Hp, Only H -> SqL K H a (ns.map V.int) -> HOk P w H s₁.heap -> (∀ b, H b ≠ none -> b = a) -> (H a ≠ none -> K.lookup a = none) ->
   codeAny (model P w) callerA (.call (.ref fa) ⟨[.ref a], []⟩) (fun r s' => r = .ok (.ret (.bool true)) /\ OldK s₁.heap s'.heap /\ s'.os = s₁.os /\ AllBare s'.gens) s₁ := by
  intro H hO hS hok hA hK
  have base_of : ∀ {b : Addr} {o : Obj}, s₁.heap.get? b = some o -> H b = none -> (hidT s₁.heap H).get? b = some o := fun e n => zgB e n
  have noA : ∀ {b : Addr} {o : Obj} {es : Array DictEntry} {ep : Nat}, s₁.heap.get? b = some o -> o.data = .dict es ep -> H b = none := fun {b o es ep} e d => by
   cases q : H b with
   | none => rfl
   | some u =>
    have e' : b = a := hA b (by rw [q]; simp)
    subst e'
    rw [ha] at e; cases e
    have d' : Data.seq vs.toArray _ = Data.dict es ep := d
    cases d'
  have nsK : ∀ {b : Addr} {m : Str -> Option Value}, s₁.heap.Ns b m -> (hidT s₁.heap H).Ns b m := fun {b m} ⟨o, es, ep, e, d, r⟩ => ⟨o, es, ep, base_of e (noA e d), d, r⟩
  have hKb : K.In (hidT s₁.heap H) := fun b o e => base_of (KX b o e) (by
   cases q : H b with
   | none => rfl
   | some u =>
    have e' : b = a := hA b (by rw [q]; simp)
    subst e'
    rw [hK (by rw [q]; simp)] at e; cases e)
  have hM : Mod K mg (hidT s₁.heap H) := ⟨hKb, nsK hns, ⟨mb, nsK hb, hbb⟩, let ⟨mc, h1, h2⟩ := hlim; ⟨mc, nsK h1, h2⟩⟩
  have e0 : Env0 P w K mg (hidT s₁.heap H) callerA [] s₁ H := ⟨rfl, hM, fun b o e => zhE e, Nat.le_of_eq (zfP _ _), trivial, fun b hb => absurd (show b ∈ ([] : List Addr) from hb) (by simp), hok, .of_eq hg⟩
  refine codeAny_mono ((F _ hKb (nsK hns)).run callerA [] s₁ H ⟨[.ref a], []⟩ [.ref a] [.ref a] _ _ hr e0 (hbind s₁ (.ref a)) (.cons rfl .nil) (hsp H hO hS)) fun r s' h => ?_
  cases r with
  | error e => exact (hCX H e s' h).elim
  | ok fl =>
   cases fl with
   | next => exact False.elim h
   | brk => exact False.elim h
   | cont => exact False.elim h
   | ret u =>
    obtain ⟨v, H', os, bare, un, hok', r', q⟩ := h
    have q' : v = .bl true := q
    subst q'
    obtain rfl : u = Value.bool true := r'
    refine ⟨rfl, OldK.of_keep fun b o e => ?_, os, bare⟩
    cases q : H b with
    | none => exact un.keep b o e q (by intro z; exact absurd (show b ∈ ([] : List Addr) from z) (by simp)) (by simp)
    | some u =>
     rcases hO b with z | ⟨ob, xs, z⟩
     ·rw [q] at z; cases z
     ·have z2 := un.frzs b ob _ z
      obtain ⟨e1, _⟩ := hok b _ z
      obtain ⟨e2, _⟩ := hok' b _ z2
      rw [e] at e1; cases e1
      exact e2
 cases hk : K.lookup a with
 | some o =>
  have e := KX a o hk
  rw [ha] at e
  cases e
  refine core (fun _ => none) (fun _ => .inl rfl) (.inr ⟨_, vs.toArray, _, hk, rfl, rfl, rfl, by rw [List.size_toArray, lenV]; exact hl, by simpa using rv⟩) (fun b u z => by have z' : (none : Option HO) = some u := z; cases z') (fun b z => absurd rfl z) fun z => absurd rfl z
 | none =>
  refine core (fun b => if b = a then some (.frz { cls := .type "list", data := .seq vs.toArray } (.lst (ns.map V.int))) else none) (fun b => ?_) (.inl (.inr ⟨{ cls := .type "list", data := .seq vs.toArray }, if_pos rfl⟩)) (fun b u z => ?_) (fun b z => ?_) fun _ => hk
  ·by_cases hb : b = a
   ·exact .inr ⟨_, _, if_pos hb⟩
   ·exact .inl (if_neg hb)
  ·by_cases hb : b = a
   ·have z' := (if_pos hb).symm.trans z
    cases z'
    subst hb
    exact ⟨ha, by rw [List.length_map]; exact hl, vs, _, rv, ha⟩
   ·have z' := (if_neg hb).symm.trans z
    cases z'
  ·by_cases hb : b = a
   ·exact hb
   ·exact absurd (if_neg hb) z
end L2
namespace L2
open PySem PySem.Spec PyProof.Rows
theorem walk_of {l : PySem.W.OpenLaw} {n k : Nat} {q : Program} {loose : List Str} {XP : (Str -> Option Value) -> Heap -> Prop} {YP : World -> Heap -> Prop} {d : DefRec} {K : Params -> PySem.W.Frag} {CX : World -> CXT} {sp : World -> Sp} {x : Str}
  (hn : l.most = some n) (hn2 : n <= sizeLine) (hdf : d.params.defaults = []) (hr : Room k callerA)
  (hY : ∀ (w : World) (h : Heap), YP w h -> (K w.params).In h)
  (F : ∀ (w : World) (mg : Str -> Option Value) (fa : Addr) (h : Heap), (K w.params).In h -> h.Ns mainGlobals mg -> mg d.name = some (.ref fa) ->
   ∃ fd : FuncData, (∀ (s : Shared) (u : Value), BindsTo s fd ⟨[u], []⟩ [(x, u)]) /\
    ∀ base : Heap, (K w.params).In base -> base.Ns mainGlobals mg -> FnOk l.prog w (K w.params) mg base (CX w) k fa fd [x] (sp w))
  (hsp : ∀ (w : World) (H : Hp) (a : Addr) (ns : List Int), ns.length <= n -> Only H -> SqL (K w.params) H a (ns.map V.int) -> sp w [.ref a] H (fun v _ => v = .bl true) fun _ _ _ => False)
  (hCX : ∀ (w : World) (H : Hp) (s : Shared) (e : Value) (s' : Shared), CX w [] H s (fun _ _ _ => False) e s' -> False) :
  PySem.W.WalkO q loose XP YP l.row.toRowW d [] (fun f vs => PySem.call f vs) := by
 refine Att.attach_call hn hdf fun w s₀ s₁ mg mb fa o pm cd doc a vs ns G Y ho hd hcd hmg hobj hints hlen hg => ?_
 have KX := hY w _ Y
 obtain ⟨fd, hb, hF⟩ := F w mg fa _ KX G.T.g hmg
 exact zgT KX G.T.g G.T.b G.T.builtins G.T.nolimit hg hobj hints (Nat.le_trans hlen hn2) hr hF hb (fun H hO hS => hsp w H a ns hlen hO hS) fun H e s' => hCX w H s₁ e s'
end L2
namespace L2
open PySem PySem.Spec PyProof.Rows
def ya4 (s : Stmt) (j : Nat) : Stmt := match s with
 | .ClassDef _ _ _ body _ _ _ _ _ _ _ => body.getD j (.Pass ⟨0, 0, 0, 0⟩)
 | _ => .Pass ⟨0, 0, 0, 0⟩
def ycq (s : Stmt) : Arguments := match s with
 | .FunctionDef _ a _ _ _ _ _ _ _ _ => a
 | _ => { posonlyargs := [], args := [], vararg := none, kwonlyargs := [], kw_defaults := [], kwarg := none, defaults := [] }
def ybL (s : Stmt) : List Stmt := match s with
 | .FunctionDef _ _ b _ _ _ _ _ _ _ => b
 | _ => []
def yaf (s : Stmt) : Scope := match s with
 | .FunctionDef _ _ _ _ _ _ sc _ _ _ => sc
 | _ => { kind := .function, names := [], isGenerator := false, isCoroutine := false }
abbrev E0 : XK := fun _ _ _ => False
structure Fun (K : PySem.W.Frag) (x qual : Str) (st : Stmt) (f : Addr) (fd : FuncData) : Prop where
 ex : ∃ (oc : Value) (od : Option Addr) (kV doc pm : Value) (an : Option Addr) (cdv ct : Value) (osl : Array (Option Value)),
  fd = PySem.W.fnOf x qual (ycq st) (ybL st) (yaf st) .none kV doc pm an cdv ct /\ K.lookup f = some ⟨oc, od, .func fd, osl⟩ /\ PySem.W.codeIn K cdv qual = true
 kp : PySem.W.keepIn K (.ref f) = true
section
variable {P : Program} {w : World} {K : PySem.W.Frag} {mg : Str -> Option Value} {base : Heap}
theorem Fun.binds {x qual : Str} {st : Stmt} {f : Addr} {fd : FuncData} {ps : List Str} (F : Fun K x qual st f fd)
  (h : ∀ (kV doc pm : Value) (an : Option Addr) (cdv ct : Value) (us : List Value), us.length = ps.length -> bindArgs (PySem.W.fnOf x qual (ycq st) (ybL st) (yaf st) .none kV doc pm an cdv ct) ⟨us, []⟩ = pure (ps.zip us)) : Binds K fd ps [] := by
 obtain ⟨oc, od, kV, doc, pm, an, cdv, ct, osl, rfl, lk, hcd⟩ := F.ex
 exact .all (h kV doc pm an cdv ct)
theorem yeT {x qual : Str} {st : Stmt} {f : Addr} {oc : Value} {od an : Option Addr} {osl : Array (Option Value)} {kV doc pm cdv ct : Value} (l : K.lookup f = some ⟨oc, od, .func (PySem.W.fnOf x qual (ycq st) (ybL st) (yaf st) .none kV doc pm an cdv ct), osl⟩)
  (c : PySem.W.codeIn K cdv qual = true) (k : PySem.W.keepIn K (.ref f) = true) : Fun K x qual st f (PySem.W.fnOf x qual (ycq st) (ybL st) (yaf st) .none kV doc pm an cdv ct) := ⟨⟨oc, od, kV, doc, pm, an, cdv, ct, osl, rfl, l, c⟩, k⟩
end
section
variable {X : Cx}
theorem pv (i : Nat) {x : Str} {pos : Pos} (hN : X.N[i]? = some x := by rfl) (hv : Vis X.env.scope x := by first | exact Or.inl rfl | exact Or.inr (Or.inl rfl) | exact Or.inr (Or.inr rfl)) (hd : (x == ("__debug__" : Str)) = false := by decide)
  (hcd : (x == ("__classdict__" : Str)) = false := by decide) : PE X (.Name x pos) (tVar i) := yfG hN hv hd hcd
theorem zf5 : CallR X (.builtin "len") (fun xs H Q => ∃ a kvs, xs = [V.ref a] /\ H a = some (.dK kvs) /\ Q (.int kvs.length) H) := by
 intro pins s σ H xs us Q I r h
 obtain ⟨a, kvs, rfl, ha, q⟩ := h
 obtain ⟨u, rfl, ru⟩ := ydl r
 cases ru
 exact yg4 I (.inl ha) fun t s' I' => ⟨.int kvs.length, H, I', ⟨t, rfl⟩, q⟩
end
section
variable {κ : Type} [DecidableEq κ]
end
end L2
set_option maxHeartbeats 4000000
namespace L2
open PySem PySem.Spec PyProof.Rows
section
variable {X : Cx} {pins : List (Addr × Obj)} {σ : St} {H : Hp} {s : Shared} {h' : Heap}
theorem Inv.turnedL {t' : Nat} {fp : List Addr} (I : Inv X pins σ H s) (k : ∀ b o, b ∉ fp -> s.heap.get? b = some o -> h'.get? b = some o) (hf : ∀ b ∈ fp, FpOk X pins H b) :
  Inv X pins σ H { s with heap := h', toks := t' } := by
 have nit : ∀ b u, H b = some u -> b ∉ fp := fun b u e z => by
  have q := (hf b z).1
  rw [q] at e
  cases e
 refine I.step (g' := s.gens) (d' := s.drawn) (ch := fp) (fun b hb => ?_) (fun b o _ _ hc e _ => k b o hc e) (fun b o _ _ hc e _ => ⟨o.slots, k b o hc e⟩) (fun _ _ _ _ n => n)
  (fun b o hc e => ⟨o, k b o hc e⟩) (fun _ _ e => e) (fun _ _ _ e => e) (fun b ps e => ⟨#[], by rw [e]; simp⟩) (fun m hm => ?_) (fun b u e => ?_) I.bare
 ·obtain ⟨_, f1, _, f3, f4, f5⟩ := hf b hb
  exact ⟨f3, f1, f4, f5⟩
 ·obtain ⟨o, es, ep, ho, r⟩ := hm
  exact ⟨o, es, ep, k _ o (fun z => (hf _ z).2.1 rfl) ho, r⟩
 ·refine (I.hok b u e).stay (fun c v hc q => k c v ?_ q) (fun _ q => q) fun _ _ q => q
  rcases hc with z | z
  ·rw [z]; exact nit b u e
  ·exact nit c _ z
theorem Inv.adopt {T : Addr} {ob : HO} (I : Inv X pins σ H s) (hn : H T = none) (hT : X.s₀.heap.objs.size <= T) (hL : T ≠ X.env.locals) (hc : ∀ x c, X.env.cells.lookup x = some c -> c ≠ T)
  (hp : ∀ p ∈ X.pn ++ pins, p.1 ≠ T) (new : ObjOk X.prog X.w (upd H T ob) s.heap T ob) : Inv X pins σ (upd H T ob) s := by
 have hne : ∀ b u, H b = some u -> b ≠ T := fun b u e => zao e hn
 refine I.step (h' := s.heap) (g' := s.gens) (d' := s.drawn) (t' := s.toks) (ch := [T]) (fun b hb => ?_) (fun b o _ _ _ e _ => e) (fun b o _ _ _ e _ => ⟨o.slots, e⟩) (fun b o hb e n => ?_) (fun b o _ e => ⟨o, e⟩)
  (fun b xs e => by rw [yar (hne b _ e)]; exact e) (fun b o u e => by rw [yar (hne b _ e)]; exact e) (fun b ps e => ⟨#[], by rw [yar (hne b _ e), e]; simp⟩) (fun m hm => hm) (fun b u e => ?_) I.bare
 ·have e : b = T := by simpa using hb
  subst e
  exact ⟨.inr hT, hL, hc, hp⟩
 ·rw [yar (fun z => hb (by simp [z]))]; exact n
 ·by_cases hb : b = T
  ·subst hb; rw [zam] at e; cases e; exact new
  ·rw [yar hb] at e
   exact (I.hok b u e).stay (fun c v _ q => q) (fun c q => by rw [yar (hne c _ q)]; exact q) fun c xs q => by rw [yar (hne c _ q)]; exact q
end
def Ite (K : PySem.W.Frag) (a : Addr) : It :=
 ⟨fun i H => ∃ xs x, SqL K H a xs /\ xs[i]? = some x, fun i H x H' => ∃ (T : Addr) (y : V), x = .ref T /\ H T = none /\ H' = upd H T (.tup [.int i, y]) /\ ∀ xs, SqL K H a xs -> xs[i]? = some y, fun i H => ∃ xs, SqL K H a xs /\ xs.length <= i⟩
theorem zf6 {P : Program} {w : World} {K : PySem.W.Frag} {es : List Expr} {k : Nat} {tp : Pos} (a it e : Addr) (hei : e ≠ it) :
  Turn P w K (.Tuple es k tp) (Ite K a) [e, it] e (fun i h => (∃ old, IsEnum h e it i old) /\ h.IsListIter it a i) where
 mem := by simp
 obj := fun i h st b hb => by
  obtain ⟨⟨old, he⟩, o, ho, hc, hd⟩ := st
  have hb' : b = e \/ b = it := by simpa using hb
  rcases hb' with rfl | rfl
  ·exact ⟨_, he, fun v z => by
    have z' : Data.fields _ = Data.cell v := z
    cases z'⟩
  ·exact ⟨o, ho, fun v z => by rw [hd] at z; cases z⟩
 keep := fun i h h' st k => by
  obtain ⟨⟨old, he⟩, hit⟩ := st
  exact ⟨⟨old, k e (by simp) _ he⟩, hit.at fun o q => k it (by simp) o q⟩
 item := by
  intro X hP hw hK hc i pins s σ H E I hf st hg
  subst hP hw hK
  obtain ⟨xs, x, hq, hx⟩ := hg
  obtain ⟨its, rv, p, hz⟩ := I.list hq
  obtain ⟨u, hu, ru⟩ := rv.get hx
  obtain ⟨⟨old, he⟩, hit⟩ := st
  refine wpAny_pyNext_enum_item he hit p.isList (x := u) (by simpa using hu) hei fun h1 ho hit1 hT hsz hk => ?_
  refine ⟨.ref s.heap.objs.size, rfl, wpAny_letOwnedTupleGo_enum ho fun h2 he2 hs2 => ?_⟩
  replace hs2 : Heap.SameBut e h1 h2 := hs2
  have helt : e < s.heap.objs.size := Heap.lt_size he
  have I1 : Inv X pins σ H { s with heap := h2, toks := s.toks + 1 } := I.turnedL (fp := [e, it]) (fun b o hb q => by
   have n1 : b ≠ e := fun z => hb (by simp [z])
   have n2 : b ≠ it := fun z => hb (by simp [z])
   exact (hs2.2 b n1).trans (hk b o n1 n2 q)) hf
  have hT2 : h2.get? s.heap.objs.size = some { cls := .type "tuple", data := .seq #[.int i s.toks, u] } := (hs2.2 _ (Nat.ne_of_gt helt)).trans hT
  have fp := I.fpOk (H' := H) (Nat.le_refl s.heap.objs.size) (I.hok.fresh (Nat.le_refl _))
  obtain ⟨f0, f1, f2, f3, f4, f5⟩ := fp
  have I2 : Inv X pins σ (upd H s.heap.objs.size (.tup [.int i, x])) { s with heap := h2, toks := s.toks + 1 } :=
   I1.adopt (T := s.heap.objs.size) f0 (I.sz) f1 f4 f5 ⟨by show 2 <= sizeLine; decide, [.int i s.toks, u], .cons ⟨_, rfl⟩ (.cons ru .nil), ⟨_, hT2, rfl, _, rfl⟩⟩
  refine ⟨.ref s.heap.objs.size, _, I2, rfl, ⟨s.heap.objs.size, x, rfl, f0, rfl, fun ys hy => by rw [I.list_inj hy hq]; exact hx⟩, ⟨⟨u, by simpa using he2⟩, hit1.extBut hs2.extBut (Ne.symm hei)⟩, fun b hb => ?_⟩
  obtain ⟨g0, _⟩ := hf b hb
  obtain ⟨o, hob, _⟩ : ∃ o, s.heap.get? b = some o /\ True := by
   have hb' : b = e \/ b = it := by simpa using hb
   rcases hb' with rfl | rfl
   ·exact ⟨_, he, trivial⟩
   ·obtain ⟨o, q, _⟩ := hit
    exact ⟨o, q, trivial⟩
  rw [yar (Nat.ne_of_lt (Heap.lt_size hob))]
  exact g0
 done := by
  intro X hP hw hK hc i pins s σ H E I hf st hg
  subst hP hw hK
  obtain ⟨xs, hq, hx⟩ := hg
  obtain ⟨its, rv, p, hz⟩ := I.list hq
  obtain ⟨⟨old, he⟩, hit⟩ := st
  have hl := rv.length
  exact wpAny_pyNext_enum_end (I.ok.hd hc) he hit p.isList (by simp; omega) fun h' eb => ⟨rfl, I.turnedL (fp := [e, it]) (t' := s.toks) (fun b o hb q => eb b o (fun z => hb (by simp [z])) q) hf⟩
 self := fun _ _ _ _ _ st h => by
  obtain ⟨⟨old, he⟩, _⟩ := st
  exact wpAny_pyIter_enum he h
section
variable {X : Cx}
def iEnum (K : PySem.W.Frag) (ta : TA) : TI := fun σ H R => ta σ H fun vs H1 => ∃ a, vs = [.ref a] /\ (∃ xs, SqL K H1 a xs) /\ R (Ite K a) H1
theorem zhZ {l : Expr} {ta : TA} {p pos tp : Pos} {es : List Expr} {k : Nat} (hg : Gl X "enumerate") (hm : X.mg "enumerate" = none) (ha : PA X [l] ta) (hs : starEach [l] X.env = [(false, eval l X.env)] := by rfl) :
  PI X (.Tuple es k tp) (.Call (.Name "enumerate" p) [l] [] pos) (iEnum X.K ta) := by
 intro pins s σ H R I h
 refine Call_ (ydz I hg hm boot_enumerate (PyProof.Rows.callWith_type1 (thn (ha pos pins s σ H _ I h) fun us s1 ⟨vs, H1, I1, r1, q1⟩ => ?_) hs rfl))
 obtain ⟨a, e, ⟨xs, hq⟩, q⟩ := q1
 subst e
 cases r1 with
 | cons r rr =>
  cases rr
  cases r
  obtain ⟨its, rv, pl, hz⟩ := I1.list hq
  refine call_enumerate_list pl.isList fun h' he hit hsz hk => wpAny_pyIter_enum he ?_
  refine ⟨s1.heap.objs.size + 1, [s1.heap.objs.size + 1, s1.heap.objs.size], _, _, H1, rfl, I1.kept (t' := s1.toks) fun b o e => hk b o e, zf6 a _ _ (Nat.succ_ne_self _), ⟨⟨_, he⟩, hit⟩, fun b hb => ?_, q⟩
  have hb' : b = s1.heap.objs.size + 1 \/ b = s1.heap.objs.size := by simpa using hb
  rcases hb' with rfl | rfl
  ·exact I1.fpOk (Nat.le_succ _) (I1.hok.fresh (Nat.le_succ _))
  ·exact I1.fpOk (Nat.le_refl _) (I1.hok.fresh (Nat.le_refl _))
end
def Its (x : Str) : It := ⟨fun i _ => i < x.cps.size, fun i H v H' => H' = H /\ ∃ c, x.cps[i]? = some c /\ v = .str ⟨#[c]⟩, fun i _ => x.cps.size <= i⟩
theorem zf7 {P : Program} {w : World} {A : Around} (hh : A.handled = none) (it : Addr) (x : Str) (t : Tok) :
  Walks P w A it [it] [it] x.cps.size (SignAt x) (fun i h => h.IsStrIter it (strIterType x) x t i) := by
 cases ha : x.cps.all (· < 128) with
 | false =>
  have e : strIterType x = "str_iterator" := by simp [strIterType, ha]
  rw [e]
  exact Walks.strWide hh it x t
 | true =>
  have e : strIterType x = "str_ascii_iterator" := by simp [strIterType, ha]
  rw [e]
  exact Walks.strAscii hh it x t
theorem zgU {P : Program} {w : World} {K : PySem.W.Frag} {y : Str} {py : Pos} (it : Addr) (x : Str) (t : Tok) : Turn P w K (.Name y py) (Its x) [it] it (fun i h => h.IsStrIter it (strIterType x) x t i) where
 mem := by simp
 obj := fun i h st b hb => by
  have e : b = it := by simpa using hb
  subst e
  obtain ⟨o, e, c, d⟩ := st
  exact ⟨o, e, fun v z => by rw [d] at z; cases z⟩
 keep := fun i h h' st k => by
  obtain ⟨o, e, r⟩ := st
  exact ⟨o, k it (by simp) o e, r⟩
 item := by
  intro X hP hw hK hc i pins s σ H E I hf st hg
  subst hP hw hK
  refine (zf7 (I.ok.hd hc) it x t).item i s _ _ hg st fun v h1 tk hv st1 kk => ?_
  obtain ⟨c, u, hcp, rfl⟩ := hv
  have I1 : Inv X pins σ H { s with heap := h1, toks := tk } := I.turnedL (fp := [it]) kk hf
  exact ⟨_, rfl, wpAny_pure ⟨.str ⟨#[c]⟩, H, I1, ⟨u, rfl⟩, ⟨rfl, c, hcp, rfl⟩, st1, fun b hb => (hf b hb).1⟩⟩
 done := by
  intro X hP hw hK hc i pins s σ H E I hf st hg
  subst hP hw hK
  have hx : x.cps[i]? = none := Array.getElem?_eq_none hg
  cases ha : x.cps.all (· < 128) with
  | false =>
   have e : strIterType x = "str_iterator" := by simp [strIterType, ha]
   rw [e] at st
   exact wpAny_pyNext_wide_end (I.ok.hd hc) st hx fun h' eb => ⟨rfl, I.turnedL (fp := [it]) (t' := s.toks) (fun b o hb q => eb b o (fun z => hb (by simp [z])) q) hf⟩
  | true =>
   have e : strIterType x = "str_ascii_iterator" := by simp [strIterType, ha]
   rw [e] at st
   exact wpAny_pyNext_ascii_end (I.ok.hd hc) st hx fun h' eb => ⟨rfl, I.turnedL (fp := [it]) (t' := s.toks) (fun b o hb q => eb b o (fun z => hb (by simp [z])) q) hf⟩
 self := fun A i s Q E st h => by
  cases ha : x.cps.all (· < 128) with
  | false =>
   have e : strIterType x = "str_iterator" := by simp [strIterType, ha]
   rw [e] at st
   exact wpAny_pyIter_striter_wide st h
  | true =>
   have e : strIterType x = "str_ascii_iterator" := by simp [strIterType, ha]
   rw [e] at st
   exact wpAny_pyIter_striter_ascii st h
section
variable {X : Cx}
def iStr (tl : TE) : TI := fun σ H R => tl σ H fun x H1 => ∃ t, x = .str t /\ R (Its t) H1
theorem yga {l : Expr} {tl : TE} {y : Str} {py : Pos} (hl : PE X l tl) : PI X (.Name y py) l (iStr tl) := by
 intro pins s σ H R I h
 refine thn (hl pins s σ H _ I h) fun v s1 ⟨x, H1, I1, r1, q1⟩ => ?_
 obtain ⟨t, e, q⟩ := q1
 subst e
 obtain ⟨tk, rfl⟩ := r1
 refine wpAny_pyIter_strU ?_
 refine ⟨s1.heap.objs.size, [s1.heap.objs.size], _, _, H1, rfl, I1.kept (t' := s1.toks) fun b o e => Heap.get?_push_of_some _ e, zgU _ t tk, ⟨_, Heap.get?_push_size _ rfl, rfl, rfl⟩, fun b hb => ?_, q⟩
 have e : b = s1.heap.objs.size := by simpa using hb
 subst e
 exact I1.fpOk (Nat.le_refl _) (I1.hok.fresh (Nat.le_refl _))
end
def yao (env : Env) : List (Str × NameKind) -> List (Str × Addr) -> List (Str × Addr)
 | [], acc => acc
 | (n, k) :: r, acc => yao env r (if k = .free then (n, (env.cells.lookup n).getD 0) :: acc else acc)
theorem zcH {env : Env} {scope : Scope} (h : ∀ y ∈ scope.names, y.2 = .free -> (env.cells.lookup y.1).isSome = true) : closureFor scope env = pure (yao env scope.names []) := by
 have all : ∀ (l : List (Str × NameKind)) (acc : List (Str × Addr)), (∀ y ∈ l, y.2 = .free -> (env.cells.lookup y.1).isSome = true) ->
   (forIn l acc fun (x : Str × NameKind) (cs : List (Str × Addr)) => if (x.2 == NameKind.free) = true then (do let a <- cellOf env x.1; pure (ForInStep.yield ((x.1, a) :: cs))) else (pure (ForInStep.yield cs) : Sem _)) = pure (yao env l acc) := by
  intro l
  induction l with
  | nil => intro acc _; rfl
  | cons y r ih =>
   intro acc hl
   obtain ⟨n, k⟩ := y
   rw [List.forIn_cons]
   have hr := fun z hz => hl z (List.mem_cons_of_mem _ hz)
   by_cases hk : k = .free
   ·subst hk
    obtain ⟨c, hc⟩ := Option.isSome_iff_exists.mp (hl (n, .free) List.mem_cons_self rfl)
    have e1 : cellOf env n = pure c := by
     simp only [cellOf]
     have hc' : env.cells.lookup n = some c := hc
     rw [hc']
    simp only [beq_self_eq_true, if_true, e1, pure_bind, yao]
    have hc' : env.cells.lookup n = some c := hc
    rw [hc']
    exact ih _ hr
   ·have hb : (k == NameKind.free) = false := by simpa using hk
    simp only [hb, Bool.false_eq_true, if_false, pure_bind, yao, hk]
    exact ih _ hr
 unfold closureFor
 have q := all scope.names [] h
 first
  | exact q
  | (simp only [bind_pure]; exact q)
  | (rw [<- q]; simp)
theorem za7 {env : Env} : ∀ {l : List (Str × NameKind)} {acc : List (Str × Addr)}, (∀ y ∈ l, y.2 = .free -> (env.cells.lookup y.1).isSome = true) -> (∀ y c, acc.lookup y = some c -> env.cells.lookup y = some c) ->
  ∀ y c, (yao env l acc).lookup y = some c -> env.cells.lookup y = some c
 | [], _, _, h, y, c, e => h y c e
 | (n, k) :: r, acc, hl, h, y, c, e => by
  refine za7 (l := r) (fun z hz => hl z (List.mem_cons_of_mem _ hz)) ?_ y c e
  intro y c e
  by_cases hk : k = .free
  ·rw [if_pos hk] at e
   rw [List.lookup_cons] at e
   cases hy : y == n with
   | true =>
    rw [hy] at e
    have e' : y = n := by simpa using hy
    obtain ⟨c', hc'⟩ := Option.isSome_iff_exists.mp (hl (n, k) List.mem_cons_self hk)
    have hc'' : env.cells.lookup n = some c' := hc'
    rw [hc''] at e
    rw [e', hc'']
    exact e
   | false =>
    rw [hy] at e
    exact h y c e
  ·rw [if_neg hk] at e
   exact h y c e
theorem za8 {env : Env} : ∀ {l : List (Str × NameKind)} {acc : List (Str × Addr)} {y : Str}, (y, NameKind.free) ∈ l \/ (acc.lookup y).isSome = true -> ((yao env l acc).lookup y).isSome = true
 | [], _, _, h => by
  rcases h with h | h
  ·cases h
  ·exact h
 | (n, k) :: r, acc, y, h => by
  refine za8 (l := r) ?_
  rcases h with h | h
  ·rcases List.mem_cons.mp h with e | e
   ·right
    cases e
    rw [if_pos rfl, List.lookup_cons]
    simp
   ·exact .inl e
  ·right
   by_cases hk : k = .free
   ·rw [if_pos hk, List.lookup_cons]
    cases hy : y == n with
    | true => rfl
    | false => exact h
   ·rw [if_neg hk]; exact h
theorem zak {names : List (Str × NameKind)} {x : Str} {k : NameKind} (h : names.lookup x = some k) : (x, k) ∈ names := PySem.mem_of_lookup h
theorem zau {env : Env} {x : Str} {k : NameKind} : ∀ {names : List (Str × NameKind)}, (names.map fun (n, k) => if (k == NameKind.free && env.scope.kind == .function && env.kindOf n == some .cell) then (n, NameKind.cell) else (n, k)).lookup x = some k ->
  names.lookup x = some k \/ (k = .cell /\ names.lookup x = some .free)
 | [], h => by simp at h
 | (n, kk) :: r, h => by
  have ih := @zau env x k r
  by_cases hc : (kk == NameKind.free && env.scope.kind == .function && env.kindOf n == some .cell) = true
  ·have hf : kk = .free := by
    have q := (Bool.and_eq_true _ _).mp ((Bool.and_eq_true _ _).mp hc).1
    simpa using q.1
   subst hf
   have h' : List.lookup x ((n, NameKind.cell) :: (r.map fun (n, k) => if (k == NameKind.free && env.scope.kind == .function && env.kindOf n == some .cell) then (n, NameKind.cell) else (n, k))) = some k := by
    have e : (fun (p : Str × NameKind) => match p with | (n, k) => if (k == NameKind.free && env.scope.kind == .function && env.kindOf n == some .cell) = true then (n, NameKind.cell) else (n, k)) (n, NameKind.free) = (n, NameKind.cell) := by
     show (if _ then _ else _) = _
     rw [if_pos hc]
    rw [List.map_cons] at h
    rw [<- e]
    exact h
   rw [List.lookup_cons] at h' ⊢
   cases hx : x == n with
   | true =>
    rw [hx] at h'
    right
    exact ⟨(Option.some.inj h').symm, rfl⟩
   | false =>
    rw [hx] at h'
    exact ih h'
  ·have h' : List.lookup x ((n, kk) :: (r.map fun (n, k) => if (k == NameKind.free && env.scope.kind == .function && env.kindOf n == some .cell) then (n, NameKind.cell) else (n, k))) = some k := by
    have e : (fun (p : Str × NameKind) => match p with | (n, k) => if (k == NameKind.free && env.scope.kind == .function && env.kindOf n == some .cell) = true then (n, NameKind.cell) else (n, k)) (n, kk) = (n, kk) := by
     show (if _ then _ else _) = _
     rw [if_neg hc]
    rw [List.map_cons] at h
    rw [<- e]
    exact h
   rw [List.lookup_cons] at h' ⊢
   cases hx : x == n with
   | true =>
    rw [hx] at h'
    exact .inl h'
   | false =>
    rw [hx] at h'
    exact ih h'
def yaR (X : Cx) (pins : List (Addr × Obj)) (x₁ : Str) (jf : List (Nat × Str)) (scope : Scope) (cl : List (Str × Addr)) (s : Shared) (H : Hp) (fp : List Addr) : Cx where
 prog := X.prog
 w := X.w
 K := X.K
 mg := X.mg
 base := X.base
 A := X.A
 N := x₁ :: jf.map (·.2)
 s₀ := s
 H₀ := H
 env := compEnvC scope cl s.heap.objs.size X.env
 outer := X.stack
 stack := X.stack
 ex := fp
 fn := fun _ => false
 calm := X.calm
 pn := X.pn ++ pins
 xe := fun _ _ => False
def ybl (v : Option V) (js : List (Nat × Str)) (σ : St) : St := v :: js.map fun j => (σ[j.1]?).join
def PTs (X : Cx) (ifs : List Expr) (t : TT) : Prop :=
 ∀ (pins : List (Addr × Obj)) (s : Shared) (σ : St) (H : Hp) (Q : Bool -> Hp -> Prop), Inv X pins σ H s -> t σ H Q ->
  wpAny (model X.prog X.w) X.A (forIn ifs true fun c r => if r = true then do let ok <- isTrue c X.env (eval c X.env); pure (ForInStep.yield ok) else pure (ForInStep.yield r)) (TP X pins σ Q) X.xe s
def tYes : TT := fun _ H Q => Q true H
theorem zh0 {X : Cx} : PTs X [] tYes := fun pins s σ H Q I h => wpAny_tests_nil ⟨H, I, h⟩
theorem zh1 {X : Cx} {c : Expr} {t : TT} (hc : PT X c t) : PTs X [c] t := fun pins s σ H Q I h => wpAny_tests_one (hc pins s σ H Q I h)
def ydK (jf : List (Nat × Str)) (wi : TI) (tc : TT) (te : TE) : TE := fun σ H Q => wi σ H fun J H1 => ∀ D, H1 D = none -> ∃ W : Nat -> Nat -> List V -> Hp -> Prop, (∃ m, W 0 m [] (upd H1 D (.lst []))) /\
 ∀ i m ys H2, W i m ys H2 -> H2 D = some (.lst ys) /\ ((J.stop i H2 /\ Q (.ref D) H2) \/ (J.go i H2 /\ ys.length < sizeLine /\ ∀ x H3, J.yld i H2 x H3 -> tc (ybl (some x) jf σ) H3 fun b H5 =>
  if b = true then te (ybl (some x) jf σ) H5 fun v H6 => H6 D = some (.lst ys) /\ ∃ m', m' < m /\ W (i + 1) m' (ys ++ [v]) (upd H6 D (.lst (ys ++ [v]))) else ∃ m', m' < m /\ W (i + 1) m' ys H5))
section
variable {X : Cx} {pins : List (Addr × Obj)} {σ : St} {H : Hp} {s : Shared} {x₁ : Str} {jf : List (Nat × Str)} {scope : Scope} {fp : List Addr}
theorem Inv.block {h1 : Heap} {tk : Nat} (I : Inv X pins σ H s) (hf : ∀ b ∈ fp, FpOk X pins H b) (hlt : ∀ b ∈ fp, b < s.heap.objs.size) (hjf : ∀ p ∈ jf, X.N[p.1]? = some p.2) (hjl : ∀ p ∈ jf, scope.names.lookup p.2 = some .free) (hkind : scope.kind = .function)
  (hcell : ∀ y ∈ scope.names, y.2 ≠ .cell) (hfr : ∀ y ∈ scope.names, y.2 = .free -> X.env.kindOf y.1 = some .cell \/ X.env.kindOf y.1 = some .free)
  (hn : h1.Ns s.heap.objs.size (fun _ => none)) (hk : ∀ b o, s.heap.get? b = some o -> h1.get? b = some o) :
  Inv (yaR X pins x₁ jf scope (yao X.env scope.names []) s H fp) [] (ybl none jf σ) H { s with heap := h1, toks := tk } := by
 have hsome : ∀ y ∈ scope.names, y.2 = .free -> (X.env.cells.lookup y.1).isSome = true := fun y hy hyf => Option.isSome_iff_exists.mpr (I.ok.has y.1 (hfr y hy hyf))
 have sub : ∀ y c, (yao X.env scope.names []).lookup y = some c -> X.env.cells.lookup y = some c := za7 hsome (fun y c e => by simp at e)
 have hsz := I.sz
 have inE : ∀ b, b ∈ (yaR X pins x₁ jf scope (yao X.env scope.names []) s H fp).ex -> b ∈ fp := fun b z => z
 have stk : ∀ b ∈ frs X.stack, b < s.heap.objs.size := fun b hb => by
  obtain ⟨_, o, ho, _⟩ := I.stack.mem hb
  exact Heap.lt_size ho
 refine ⟨⟨I.ok.mod, hkind, I.ok.glob, I.ok.blt, Nat.le_refl _, fun y z c e1 e2 => I.ok.inj y z c (sub y c e1) (sub z c e2), fun y hy => ?_, fun y c hfn _ => (by cases hfn), I.ok.hd, I.ok.frames, .inl rfl, fun b hb => ?_, fun b o e => I.bs b o e, Nat.le_trans I.ok.bsz hsz, fun b o e z => ?_, fun b hb z => ?_, I.stack, I.stkFree⟩,
  rfl, I.bare, Un.kept hk, ⟨_, hn, fun i y v e1 e2 e3 => ?_⟩, fun y c e => ?_, I.hok.fresh (Nat.le_refl _), fun y c e => I.freeC y c (sub y c e), fun p hp => ?_, I.hok.kept hk, ?_⟩
 ·have hy' : (relabel scope X.env).names.lookup y = some .cell \/ (relabel scope X.env).names.lookup y = some .free := hy
  have mem : (y, NameKind.free) ∈ scope.names := by
   rcases hy' with q | q
   ·rcases zau (env := X.env) q with z | z
    ·exact absurd rfl (hcell _ (zak z))
    ·exact zak z.2
   ·rcases zau (env := X.env) q with z | z
    ·exact zak z
    ·exact zak z.2
  exact Option.isSome_iff_exists.mp (za8 (.inl mem))
 ·exact ⟨Nat.ne_of_lt (hlt b hb), fun y c e => (hf b hb).2.2.2.2.1 y c (sub y c e)⟩
 ·rcases (hf b z).2.2.2.1 with q | q
  ·exact I.ok.noex b o e q
  ·exact absurd (Nat.lt_of_lt_of_le (Heap.lt_size e) (Nat.le_trans I.ok.bsz q)) (Nat.lt_irrefl _)
 ·rcases List.mem_cons.mp (I.stkSub b z) with q | q
  ·exact (hf b hb).2.1 q
  ·exact (hf b hb).2.2.1 q
 ·have e1' : (x₁ :: jf.map (·.2))[i]? = some y := e1
  unfold ybl at e2
  cases i with
  | zero => cases e2
  | succ i =>
   rw [List.getElem?_cons_succ, List.getElem?_map] at e1' e2
   cases q : jf[i]? with
   | none => rw [q] at e2; cases e2
   | some p =>
    rw [q] at e1' e2
    have ey : p.2 = y := Option.some.inj e1'
    have ev : (σ[p.1]?).join = some v := Option.some.inj e2
    have hp : p ∈ jf := List.mem_of_getElem? q
    have eσ : σ[p.1]? = some (some v) := by
     cases z : σ[p.1]? with
     | none => rw [z] at ev; cases ev
     | some r => rw [z] at ev; rw [show r = some v from ev]
    have hfree : scope.names.lookup y = some .free := by rw [<- ey]; exact hjl p hp
    have mem := zak hfree
    have kX := hfr _ mem rfl
    obtain ⟨m, hnX, hl⟩ := I.loc
    obtain ⟨u, ru, lk⟩ := hl p.1 y v (by rw [<- ey]; exact hjf p hp) eσ (by
     rcases kX with z | z
     ·exact .inr (.inl z)
     ·exact .inr (.inr z))
    refine ⟨u, ru, .inr ⟨?_, ?_⟩⟩
    ·have e3' : Vis (relabel scope X.env) y := e3
     rcases e3' with z | z | z
     ·exfalso
      rcases zau (env := X.env) z with q | q
      ·rw [hfree] at q; cases q
      ·cases q.1
     ·exact .inl z
     ·exact .inr z
    ·rcases lk with ⟨z, _⟩ | ⟨_, c, hc, hcell'⟩
     ·exfalso
      rcases kX with q | q
      ·rw [show X.env.kindOf y = some .cell from q] at z; cases z
      ·rw [show X.env.kindOf y = some .free from q] at z; cases z
     ·obtain ⟨c', hc'⟩ := Option.isSome_iff_exists.mp (za8 (env := X.env) (acc := []) (.inl mem))
      have e := sub y c' hc'
      rw [hc] at e
      cases e
      obtain ⟨o, ho, hd⟩ := hcell'
      exact ⟨c, hc', o, hk c o ho, hd⟩
 ·obtain ⟨v, o, ho, hd⟩ := I.cell y c (sub y c e)
  exact ⟨v, o, hk c o ho, hd⟩
 ·have hp' : p ∈ X.pn ++ pins := by simpa [yaR] using hp
  obtain ⟨e, n, ne, nf, d⟩ := I.pin p hp'
  refine ⟨hk _ _ e, n, Nat.ne_of_lt (Heap.lt_size e), fun z => ?_, d⟩
  rcases List.mem_cons.mp (I.stkSub p.1 z) with q | q
  ·exact ne q
  ·exact nf q
 ·unfold ybl
  show _ = (x₁ :: jf.map (·.2)).length
  rw [List.length_cons, List.length_cons, List.length_map, List.length_map]
end
theorem zbL {prog : Program} {w : World} {A : Around} {R : Result -> Shared -> Prop} {s : Shared} {elt target iter : Expr} {ifs : List Expr} {scope : Scope} {pos : Pos} {it acc : Value} {env : Env} (I : Nat -> Shared -> Prop)
  (turn : ∀ n s, I n s -> wpAny (model prog w) A (pyNext it) (fun r s₁ => match r with
   | none => R (.ok .next) s₁
   | some v => wpAny (model prog w) A (letOwnedTupleGo target it v) (fun _ s₂ => wpAny (model prog w) A (assign target env v) (fun _ s₃ =>
     wpAny (model prog w) A (forIn ifs true fun c r => if r = true then do let ok <- isTrue c env (eval c env); pure (ForInStep.yield ok) else pure (ForInStep.yield r)) (fun ok s₄ =>
      if ok = true then wpAny (model prog w) A (eval elt env) (fun x s₅ => wpAny (model prog w) A (call (.builtin "list.append") [acc, x]) (fun _ s₆ => ∃ m, m < n /\ I m s₆) (fun _ _ => False) s₅) (fun _ _ => False) s₄
      else ∃ m, m < n /\ I m s₄) (fun _ _ => False) s₃) (fun _ _ => False) s₂) (fun _ _ => False) s₁) (fun _ _ => False) s)
  (n : Nat) (h : I n s) : codeAny (model prog w) A (.compLoop (.ListComp elt [⟨target, iter, ifs, 0⟩] scope pos) 0 it acc env) R s := by
 refine codeAny_loop rfl I (fun n s hI => ?_) n h
 show wpAny _ A ((compTurn (.ListComp elt [⟨target, iter, ifs, 0⟩] scope pos) 0 it acc env).onRaise (fun x => do noteFrame x env; theTreesLotGoes x)) _ _ s
 refine wpAny_noted ?_
 rw [compTurn_list]
 refine wpAny_bind (wpAny_standAt (wpAny_bind (wpAny_mono (turn n s hI) (fun r s₁ h₁ => ?_) fun _ _ z => z.elim)))
 cases r with
 | none => exact wpAny_pure h₁
 | some v =>
  refine wpAny_bind (wpAny_mono h₁ (fun _ s₂ h₂ => ?_) fun _ _ z => z.elim)
  refine wpAny_bind (wpAny_mono h₂ (fun _ s₃ h₃ => wpAny_bind (wpAny_mono h₃ (fun ok s₄ h₄ => ?_) fun _ _ z => z.elim)) fun _ _ z => z.elim)
  cases ok with
  | false => exact wpAny_pure ⟨rfl, h₄⟩
  | true =>
   exact wpAny_bind (wpAny_bind (wpAny_mono h₄ (fun x s₅ h₅ => wpAny_bind (wpAny_mono h₅ (fun _ s₆ h₆ => wpAny_pure (wpAny_pure ⟨rfl, h₆⟩)) fun _ _ z => z.elim)) fun _ _ z => z.elim))
section
variable {X : Cx} {x₁ : Str} {px : Pos} {jf : List (Nat × Str)} {scope : Scope} {iter elt : Expr} {ifs : List Expr} {pos : Pos} {wi : TI} {tc : TT} {te : TE}
theorem zdK (hcalm : X.calm = true) (hi : PI X (.Name x₁ px) iter wi) (hc : ∀ pins cl s H fp, PTs (yaR X pins x₁ jf scope cl s H fp) ifs tc) (he : ∀ pins cl s H fp, PE (yaR X pins x₁ jf scope cl s H fp) elt te)
  (hN : (x₁ :: jf.map (·.2)).Nodup) (hx : scope.names.lookup x₁ = some .local) (hjf : ∀ p ∈ jf, X.N[p.1]? = some p.2) (hjl : ∀ p ∈ jf, scope.names.lookup p.2 = some .free) (hkind : scope.kind = .function)
  (hcell : ∀ y ∈ scope.names, y.2 ≠ .cell) (hfr : ∀ y ∈ scope.names, y.2 = .free -> X.env.kindOf y.1 = some .cell \/ X.env.kindOf y.1 = some .free)
  (hnames : ∀ y ∈ scope.names, y.2 = .local -> scope.names.lookup y.1 = some .local) {use : Option (Value -> Sem Unit)} {Qf : Value -> Shared -> Prop} {cpos : Pos}
  {pins : List (Addr × Obj)} {σ : St} {H : Hp} {s : Shared} {Q : VK} (I : Inv X pins σ H s) (h : ydK jf wi tc te σ H Q)
  (fin : ∀ D C s6 H6 m6, Inv X pins σ H6 s6 -> Q (.ref D) H6 -> FpOk X pins H6 C -> s6.heap.Ns C m6 -> compPost (model X.prog X.w) X.A X.xe use Qf (.ref D) C (.ok .next) s6) (hs : ∀ x, foldedSetIterable iter X.env x = pure x) :
  wpAny (model X.prog X.w) X.A (comprehension (.ListComp elt [⟨.Name x₁ px, iter, ifs, 0⟩] scope pos) scope X.env cpos (newList []) false (eval iter X.env) use) Qf X.xe s := by
 have hsome : ∀ y ∈ scope.names, y.2 = .free -> (X.env.cells.lookup y.1).isSome = true := fun y hy hyf => Option.isSome_iff_exists.mpr (I.ok.has y.1 (hfr y hy hyf))
 refine wpAny_comprehension_free (use := use) rfl hs (zcH hsome) hkind hnames (thn (hi pins s σ H _ I h) fun xv s1 h1 => thn h1 fun itv s2 h2 => ?_)
 obtain ⟨it, fp, tn, J, H2, e, I2, T, st2, f2, h⟩ := h2
 subst e
 refine wpAny_newObj_type (wpAny_newFunctionEnv hcell (by intro y hy; simp at hy) (fun h₁ hns₁ hsb₁ => ?_) hkind)
 have hD0 : H2 s2.heap.objs.size = none := I2.hok.fresh (Nat.le_refl _)
 obtain ⟨W, ⟨m0, w0⟩, step⟩ := h s2.heap.objs.size hD0
 dsimp only at hns₁ hsb₁ ⊢
 have I3 : Inv X pins σ (upd H2 s2.heap.objs.size (.lst [])) { s2 with heap := s2.heap.push { cls := .type "list", dict := none, data := .seq ([] : List Value).toArray } } :=
  I2.laid (t' := s2.toks) (fun b u q => Heap.get?_push_of_some _ q) (Nat.le_refl _) ⟨Nat.zero_le _, [], 0, .nil, Heap.get?_push_size _ rfl⟩
 generalize hH3 : s2.heap.push { cls := .type "list", dict := none, data := .seq ([] : List Value).toArray } = hp3 at hns₁ hsb₁ I3 ⊢
 have hsz3 : hp3.objs.size = s2.heap.objs.size + 1 := by rw [<- hH3, Heap.size_push]
 have k23 : ∀ b o, s2.heap.get? b = some o -> hp3.get? b = some o := fun b o q => by rw [<- hH3]; exact Heap.get?_push_of_some _ q
 have flt : ∀ b ∈ fp, b < s2.heap.objs.size := fun b hb => by
  obtain ⟨o, q, _⟩ := T.obj 0 _ st2 b hb
  exact Heap.lt_size q
 have f3 : ∀ b ∈ fp, FpOk X pins (upd H2 s2.heap.objs.size (.lst [])) b := fun b hb => by
  obtain ⟨g0, g⟩ := f2 b hb
  exact ⟨by rw [yar (Nat.ne_of_lt (flt b hb))]; exact g0, g⟩
 have kC : ∀ b o, hp3.get? b = some o -> h₁.get? b = some o := fun b o q => (hsb₁.2 b (Nat.ne_of_lt (Heap.lt_size q))).trans (Heap.get?_push_of_some _ q)
 have B0 := I3.block (x₁ := x₁) (jf := jf) (scope := scope) (fp := fp) (h1 := h₁) (tk := s2.toks + ([] : List (Str × Value)).length) f3 (fun b hb => by show b < hp3.objs.size; rw [hsz3]; exact Nat.lt_succ_of_lt (flt b hb)) hjf hjl hkind hcell hfr (by simpa using hns₁) kC
 have st4 : tn 0 h₁ := T.keep _ _ _ st2 fun b _ o q => kC b o (k23 b o q)
 have w0' := w0
 have stat : ∀ {H' : Hp}, (∀ b ∈ fp, H' b = none) -> ∀ b ∈ fp, FpOk (yaR X pins x₁ jf scope (yao X.env scope.names []) { s2 with heap := hp3 } (upd H2 s2.heap.objs.size (.lst [])) fp) [] H' b := fun hn b hb => by
  obtain ⟨_, g1, g2, g3, g4, g5⟩ := f2 b hb
  refine ⟨hn b hb, Nat.ne_of_lt (by show b < hp3.objs.size; rw [hsz3]; exact Nat.lt_succ_of_lt (flt b hb)), fun z => ?_, .inl hb, fun y c q => g4 y c (za7 hsome (fun y c e => by simp at e) y c q), fun p hp => g5 p (by simpa [yaR] using hp)⟩
  rcases List.mem_cons.mp (I2.stkSub b z) with q | q
  ·exact g1 q
  ·exact g2 q
 have loop : codeAny (model X.prog X.w) X.A (.compLoop (.ListComp elt [⟨.Name x₁ px, iter, ifs, 0⟩] scope pos) 0 (.ref it) (.ref s2.heap.objs.size) (compEnvC scope (yao X.env scope.names []) hp3.objs.size X.env))
   (compPost (model X.prog X.w) X.A X.xe use Qf (.ref s2.heap.objs.size) hp3.objs.size) { s2 with heap := h₁, toks := s2.toks + ([] : List (Str × Value)).length } := by
  refine zbL (fun n s' => ∃ i ys H', Inv (yaR X pins x₁ jf scope (yao X.env scope.names []) { s2 with heap := hp3 } (upd H2 s2.heap.objs.size (.lst [])) fp) [] (ybl none jf σ) H' s' /\ tn i s'.heap /\ (∀ b ∈ fp, H' b = none) /\ W i n ys H') ?_ m0
   ⟨0, [], _, B0, st4, fun b hb => (f3 b hb).1, w0⟩
  rintro n s5 ⟨i, ys, H5, I5, st5, fr5, w5⟩
  obtain ⟨hD5, alt⟩ := step i n ys H5 w5
  rcases alt with ⟨stop, q5⟩ | ⟨go, hlen, next⟩
  ·refine wpAny_mono (T.done (yaR X pins x₁ jf scope (yao X.env scope.names []) { s2 with heap := hp3 } (upd H2 s2.heap.objs.size (.lst [])) fp) rfl rfl rfl hcalm i [] s5 _ H5 (fun _ _ => False) I5 (stat fr5) st5 stop) (fun r s6 ⟨hr, I6⟩ => ?_) fun _ _ z => z
   subst hr
   obtain ⟨m6, hn6, _⟩ := id I6.loc
   refine fin _ _ s6 H5 m6 ?_ q5 (I3.fpOk (Nat.le_refl _) I6.free) hn6
   refine I3.call' (ch := fp) I6.os I6.base I6.hok I6.bare (fun b hb => ?_)
   obtain ⟨_, g1, g2, g3, g4, g5⟩ := f2 b hb
   exact ⟨g3, g1, g4, g5⟩
  ·refine wpAny_mono (T.item (yaR X pins x₁ jf scope (yao X.env scope.names []) { s2 with heap := hp3 } (upd H2 s2.heap.objs.size (.lst [])) fp) rfl rfl rfl hcalm i [] s5 _ H5 (fun _ _ => False) I5 (stat fr5) st5 go) (fun r s6 ⟨u, hr, h6⟩ => ?_) fun _ _ z => z
   subst hr
   refine wpAny_mono h6 (fun _ s7 ⟨x, H7, I7, r7, y7, st7, fr7⟩ => ?_) fun _ _ z => z
   have I7' := I7.pinned (stat fr7) (T.obj _ _ st7)
   have hloc : Loc (yaR X pins x₁ jf scope (yao X.env scope.names []) { s2 with heap := hp3 } (upd H2 s2.heap.objs.size (.lst [])) fp).env.scope x₁ := .inl (lookup_relabel_local hx)
   refine wpAny_assign_Name (zcp (i := 0) I7' hN rfl hloc r7 (fun s8 I8 => ?_) (.inr (lookup_relabel_local hx)))
   have q8 := next x H7 y7
   have I8' : Inv (yaR X pins x₁ jf scope (yao X.env scope.names []) { s2 with heap := hp3 } (upd H2 s2.heap.objs.size (.lst [])) fp) ([] ++ ybr fp s7.heap) (ybl (some x) jf σ) H7 s8 := I8
   have again : ∀ {s9 : Shared} {H9 : Hp} {zs : List V} {m' : Nat}, Inv (yaR X pins x₁ jf scope (yao X.env scope.names []) { s2 with heap := hp3 } (upd H2 s2.heap.objs.size (.lst [])) fp) ([] ++ ybr fp s7.heap) (ybl (some x) jf σ) H9 s9 -> m' < n -> W (i + 1) m' zs H9 ->
     ∃ m, m < n /\ ∃ i ys H', Inv (yaR X pins x₁ jf scope (yao X.env scope.names []) { s2 with heap := hp3 } (upd H2 s2.heap.objs.size (.lst [])) fp) [] (ybl none jf σ) H' s9 /\ tn i s9.heap /\ (∀ b ∈ fp, H' b = none) /\ W i m ys H' := fun {s9 H9 zs m'} I9 hm w9 => by
    refine ⟨m', hm, i + 1, zs, H9, I9.unpinned.weak (by simp [ybl]) (fun j v e => ?_), T.keep _ _ _ st7 fun b hb o e => (I9.pin (b, o) (List.mem_append_right _ (List.mem_append_right _ (zaG hb e)))).1, fun b hb => ?_, w9⟩
    ·cases j with
     | zero => simp [ybl] at e
     | succ j => simpa [ybl] using e
    ·obtain ⟨o, e, d⟩ := T.obj _ _ st7 b hb
     exact (I9.pin (b, o) (List.mem_append_right _ (List.mem_append_right _ (zaG hb e)))).2.1
   refine wpAny_mono (hc pins _ _ _ fp ([] ++ ybr fp s7.heap) s8 _ H7 _ I8' q8) (fun ok s9 ⟨H9, I9, q9⟩ => ?_) fun _ _ z => z
   cases ok with
   | false =>
    rw [if_neg Bool.false_ne_true] at q9 ⊢
    obtain ⟨m', hm, w9⟩ := q9
    exact again I9 hm w9
   | true =>
    rw [if_pos rfl] at q9 ⊢
    refine wpAny_mono (he pins _ _ _ fp ([] ++ ybr fp s7.heap) s9 _ H9 _ I9 q9) (fun y s10 ⟨v, H10, I10, r10, hD10, m', hm, w10⟩ => ?_) fun _ _ z => z
    refine wpAny_mono (zbK (X := (yaR X pins x₁ jf scope (yao X.env scope.names []) { s2 with heap := hp3 } (upd H2 s2.heap.objs.size (.lst [])) fp)) ([] ++ ybr fp s7.heap) s10 (ybl (some x) jf σ) H10 (.ref s2.heap.objs.size) [v] (.ref s2.heap.objs.size) [y] (fun _ H' => H' = upd H10 s2.heap.objs.size (.lst (ys ++ [v]))) I10 rfl (.cons r10 .nil) ⟨_, ys, v, rfl, rfl, hD10, hlen, rfl⟩)
     (fun _ s11 ⟨_, H11, I11, _, e11⟩ => ?_) fun _ _ z => z
    subst e11
    exact again I11 hm w10
 exact codeAny_compStart_list loop (T.self _ 0 _ _ _ st4 loop)
theorem zeB (hcalm : X.calm = true) (hi : PI X (.Name x₁ px) iter wi) (hc : ∀ pins cl s H fp, PTs (yaR X pins x₁ jf scope cl s H fp) ifs tc) (he : ∀ pins cl s H fp, PE (yaR X pins x₁ jf scope cl s H fp) elt te)
  (hN : (x₁ :: jf.map (·.2)).Nodup) (hx : scope.names.lookup x₁ = some .local) (hjf : ∀ p ∈ jf, X.N[p.1]? = some p.2) (hjl : ∀ p ∈ jf, scope.names.lookup p.2 = some .free) (hkind : scope.kind = .function)
  (hcell : ∀ y ∈ scope.names, y.2 ≠ .cell) (hfr : ∀ y ∈ scope.names, y.2 = .free -> X.env.kindOf y.1 = some .cell \/ X.env.kindOf y.1 = some .free)
  (hnames : ∀ y ∈ scope.names, y.2 = .local -> scope.names.lookup y.1 = some .local) (hs : ∀ x, foldedSetIterable iter X.env x = pure x := by intro _; rfl) :
  PE X (.ListComp elt [⟨.Name x₁ px, iter, ifs, 0⟩] scope pos) (ydK jf wi tc te) := by
 intro pins s σ H Q I h
 rw [eval_ListComp]
 refine zdK hcalm hi hc he hN hx hjf hjl hkind hcell hfr hnames (use := none) (Qf := EP X pins σ Q) I h (fun D C s6 H6 m6 I6 q6 f6 n6 => ?_) hs
 refine ⟨m6, n6, fun h' hs' => ⟨.ref D, H6, ?_, rfl, q6⟩⟩
 exact I6.turnedL (fp := [C]) (t' := s6.toks) (fun b o hb q => (hs'.2 b (fun z => hb (by simp [z]))).trans q) (fun b hb => by
  have e : b = C := by simpa using hb
  subst e
  exact f6)
theorem zh2 {y : Str} {py spos : Pos} {i : Nat} (hcalm : X.calm = true) (hi : PI X (.Name x₁ px) iter wi) (hc : ∀ pins cl s H fp, PTs (yaR X pins x₁ jf scope cl s H fp) ifs tc) (he : ∀ pins cl s H fp, PE (yaR X pins x₁ jf scope cl s H fp) elt te)
  (hN : (x₁ :: jf.map (·.2)).Nodup) (hx : scope.names.lookup x₁ = some .local) (hjf : ∀ p ∈ jf, X.N[p.1]? = some p.2) (hjl : ∀ p ∈ jf, scope.names.lookup p.2 = some .free) (hkind : scope.kind = .function)
  (hcell : ∀ y ∈ scope.names, y.2 ≠ .cell) (hfr : ∀ y ∈ scope.names, y.2 = .free -> X.env.kindOf y.1 = some .cell \/ X.env.kindOf y.1 = some .free)
  (hnames : ∀ y ∈ scope.names, y.2 = .local -> scope.names.lookup y.1 = some .local) (hNX : X.N.Nodup) (hi' : X.N[i]? = some y) (hy : X.env.scope.names.lookup y = some .local)
  (hsw : swapsWith (.ListComp elt [⟨.Name x₁ px, iter, ifs, 0⟩] scope pos) (some (.Name y py)) spos.line X.env = pure true) (hs : ∀ x, foldedSetIterable iter X.env x = pure x := by intro _; rfl) :
  PS X (.Assign [.Name y py] (.ListComp elt [⟨.Name x₁ px, iter, ifs, 0⟩] scope pos) spos) (tAsg (ydK jf wi tc te) (ydI i)) := by
 intro pins s σ H D I h
 rw [exec_Assign_Name_used _ _ _ _ hsw]
 refine wpAny_bind (wpAny_standAt (wpAny_bind ?_))
 show wpAny _ X.A (do let _ <- comprehension (.ListComp elt [⟨.Name x₁ px, iter, ifs, 0⟩] scope pos) scope X.env _ (newList []) false (eval iter X.env) (some (assign (.Name y py) X.env))) _ _ s
 refine wpAny_bind (wpAny_mono (zdK (Qf := fun _ s' => SP X pins D .next s') hcalm hi hc he hN hx hjf hjl hkind hcell hfr hnames (use := some (assign (.Name y py) X.env)) I h (fun D' C s6 H6 m6 I6 q6 f6 n6 => ?_) hs) (fun _ s' hq => wpAny_pure (wpAny_pure hq)) fun _ _ e => e)
 refine wpAny_assign_Name (zdc I6 hNX hi' (.inl hy) (v := .ref D') rfl (fun s7 I7 ⟨a, hsa, ha⟩ => ?_) (.inr hy))
 have ne : C ≠ a := by
  rcases ha with z | z
  ·rw [z]; exact f6.2.1
  ·exact fun q => f6.2.2.2.2.1 y a z q.symm
 refine ⟨m6, n6.sameBut hsa ne, fun h' hs' => ⟨_, H6, ?_, q6⟩⟩
 exact I7.turnedL (fp := [C]) (t' := s7.toks) (fun b o hb q => (hs'.2 b (fun z => hb (by simp [z]))).trans q) (fun b hb => by
  have e : b = C := by simpa using hb
  subst e
  exact f6)
end
end L2
namespace L2
open PySem PySem.Spec PyProof.Rows
section
variable {X : Cx} {a b e : Expr} {ta tb : TE} {p p2 pos : Pos}
theorem zgV {c : V} {cv : Value} (rc : ∀ u, RelV c u -> u = cv) :
  CallR X (.builtin "isinstance") (fun xs H Q => ∃ x t r, xs = [x, c] /\ TyOf X.K H x t /\ PySem.W.kitOne X.K t cv = some r /\ Q (.bl r) H) := by
 intro pins s σ H xs us Q I r h
 obtain ⟨x, t, k, rfl, ty, hk, q⟩ := h
 obtain ⟨u, w', rfl, rx, ry⟩ := yeB r
 obtain rfl := rc _ ry
 exact zfY I rx ty hk fun tk => ⟨.bl k, H, I.tok _, rfl, q⟩
theorem yfq (n : String) : ∀ u, RelV (.ty n) u -> u = Value.type n := fun _ r => r
theorem zf8 : OpR X (compareOp .LtE) (fun x y H Q => ∃ i j, x = .str i /\ y = .str j /\ Q (.bl (!decide (j.cps.toList < i.cps.toList))) H) := by
 intro pins s σ H x y v u Q I rx ry h
 obtain ⟨i, j, rfl, rfl, q⟩ := h
 obtain ⟨t, rfl⟩ := rx
 obtain ⟨t', rfl⟩ := ry
 exact PySem.P.le_str (yaE I q rfl)
theorem zdL : MtR X "str.count" (fun x vs H Q => ∃ z y, x = .str z /\ vs = [.str y] /\ Q (.int ((Builtin.Str.occurrences z y 0 z.length (z.length + 1)).length : Nat)) H) := by
 intro pins s σ H x vs v us Q I rx rv h
 obtain ⟨z, y, rfl, rfl, q⟩ := h
 obtain ⟨t, rfl⟩ := rx
 obtain ⟨u, rfl, t', rfl⟩ := ydl rv
 exact call_gives F.slot_str_count (typeIs_str s z t) F.entry_str_count (F.args_str_count_2 _ _) (gives_str_count z y t t') ⟨.int _, H, I.tok _, ⟨_, rfl⟩, q⟩
theorem zf9 (l : List (Array Nat)) : ∀ acc : Array Nat, (l.foldl (· ++ ·) acc).toList = acc.toList ++ (l.map Array.toList).flatten := by
 induction l with
 | nil => intro acc; simp
 | cons x r ih => intro acc; rw [List.foldl_cons, ih]; simp
theorem zfw : OpR X (binaryOp .Mult) (fun x y H Q => ∃ z k, x = .str z /\ y = .int k /\ (1 <= k /\ k <= 1000 /\ 1 <= z.length /\ z.length <= 1000) /\ ∀ r : Str, r.cps.toList = (List.replicate k.toNat z.cps.toList).flatten -> Q (.str r) H) := by
 intro pins s σ H x y v u Q I rx ry h
 obtain ⟨z, k, rfl, rfl, ⟨h1, h2, h3, h4⟩, q⟩ := h
 obtain ⟨t, rfl⟩ := rx
 obtain ⟨t', rfl⟩ := ry
 obtain ⟨n, rfl⟩ := Int.eq_ofNat_of_zero_le (show 0 <= k by omega)
 rw [Int.toNat_natCast] at q
 have hn : n <= 1000 := by omega
 have hm : z.length * n <= 1000 * 1000 := Nat.mul_le_mul h4 hn
 refine PySem.P.mul_str (by
   have a1 : ¬ ((n : Nat) : Int) < -(2 ^ 63 : Int) := by omega
   have a2 : ¬ ((n : Nat) : Int) ≥ 2 ^ 63 := by omega
   rw [decide_eq_false a1, decide_eq_false a2]; rfl) (fun _ _ => ?_) (fun _ _ => ?_) ?_
 ·have e : ((2 ^ 63 - 1) / ((n : Nat) : Int)) ≥ 1000 := by
   have : (1000 : Int) * n <= 2 ^ 63 - 1 := by omega
   exact (Int.le_ediv_iff_mul_le (by omega)).mpr this
  omega
 ·rw [Int.toNat_natCast]
  unfold Builtin.Str.tooLong
  exact decide_eq_false (Nat.not_lt.mpr (Nat.le_trans hm (by decide)))
 ·rw [if_neg (by omega)]
  by_cases hk : ((((n : Nat) : Int) == 1) || z.length == 0) = true
  ·rw [if_pos hk]
   have e1 : n = 1 := by
    rcases Bool.or_eq_true_iff.mp hk with w | w
    ·have := beq_iff_eq.mp w; omega
    ·have := beq_iff_eq.mp w; omega
   subst e1
   exact ⟨.str z, H, I, ⟨_, rfl⟩, q z (by simp)⟩
  ·rw [if_neg hk, Int.toNat_natCast]
   have e : ((List.replicate n z.cps).foldl (· ++ ·) #[]).toList = (List.replicate n z.cps.toList).flatten := by rw [zf9]; simp
   refine ⟨?_, .str _, H, I.tok _, ⟨_, rfl⟩, q _ e⟩
   show ((List.replicate n z.cps).foldl (· ++ ·) #[]).size <= sizeLine
   rw [<- Array.length_toList, e, List.length_flatten, List.map_replicate, List.sum_replicate_nat]
   have : z.cps.toList.length = z.length := by simp [Str.length]
   rw [this, Nat.mul_comm]
   exact Nat.le_trans hm (by decide)
theorem zgW (hc : X.calm = true) : CallR X (.builtin "all") (fun xs H Q => ∃ (a : Addr) (bs : List Bool), xs = [.ref a] /\ SqL X.K H a (bs.map V.bl) /\ Q (.bl (bs.all id)) H) := by
 intro pins s σ H xs us Q I r h
 obtain ⟨l, bs, rfl, hq, q⟩ := h
 obtain ⟨u, rfl, rx⟩ := ydl r
 cases rx
 obtain ⟨its, rv, pl, hz⟩ := I.list hq
 have hlt : l < s.heap.objs.size := by obtain ⟨_, _, e, _⟩ := pl; exact Heap.lt_size e
 have hlen : its.length = bs.length := by rw [<- rv.length, List.length_map]
 refine call_all_walk (wpAny_pyIter_list pl.isList ?_)
 refine ⟨s.heap.objs.size, [s.heap.objs.size, l], [s.heap.objs.size], its.toArray.size, _, _, fun i => (bs[i]?).getD true, rfl, Walks.list (A := X.A.in1) (I.ok.hd hc) _ l (Nat.ne_of_lt hlt) its.toArray,
  ⟨⟨_, Heap.get?_push_size _ rfl, rfl, rfl⟩, pl.isList.push _⟩, fun i v s' Q' E' hP hQ => ?_, fun h' tk hk => ?_⟩
 ·have hP' : its[i]? = some v := by simpa using hP
  have hi : i < its.length := (List.getElem?_eq_some_iff.mp hP').1
  have hb : (bs.map V.bl)[i]? = some (V.bl (bs[i]'(by omega))) := by rw [List.getElem?_map, List.getElem?_eq_getElem (by omega)]; rfl
  obtain ⟨u, hu, ru⟩ := rv.get hb
  rw [hP'] at hu
  cases hu
  cases ru
  have e : (bs[i]?).getD true = bs[i]'(by omega) := by rw [List.getElem?_eq_getElem (by omega)]; rfl
  have hQ2 : Q' ((bs[i]?).getD true) s' := hQ
  rw [e] at hQ2
  exact wpAny_truthy_bool hQ2
 ·have e : ((List.range its.toArray.size).all fun i => (bs[i]?).getD true) = bs.all id := by
   rw [List.size_toArray, hlen, Bool.eq_iff_iff, List.all_eq_true, List.all_eq_true]
   constructor
   ·intro z c hc'
    obtain ⟨i, hi, rfl⟩ := List.getElem_of_mem hc'
    have := z i (List.mem_range.mpr hi)
    rw [List.getElem?_eq_getElem hi] at this
    exact this
   ·intro z i hi
    have hi' := List.mem_range.mp hi
    rw [List.getElem?_eq_getElem hi']
    exact z _ (List.getElem_mem hi')
  rw [e]
  refine ⟨.bl _, H, I.kept (t' := tk) fun b o q => ?_, rfl, q⟩
  exact hk b o (fun hm => by rw [List.mem_singleton.mp hm] at q; exact Nat.lt_irrefl _ (Heap.lt_size q)) (Heap.get?_push_of_some _ q)
end
end L2
namespace L2
open PySem PySem.Spec PyProof.Rows
section
variable {X : Cx}
theorem zgX : OpR X (binaryOp .FloorDiv) (rI (fun _ j => 0 < j /\ j < 2 ^ 200) fun i j => .int (i / j)) := opI fun i j _ _ _ _ _ hc q => by
 obtain ⟨h1, h2⟩ := hc
 refine floordiv_int (by omega) (by rw [Int.fdiv_eq_ediv_of_nonneg i (by omega)]; exact q) (.inl (PyProof.noPylong_of_log2 ?_))
 have h3 : j.natAbs < 2 ^ 200 := by omega
 have h4 : j.natAbs.log2 < 200 := (Nat.log2_lt (by omega)).mpr h3
 omega
theorem zgY : OpR X (binaryOp .Mult) (rI IntMulOk fun i j => .int (i * j)) := opI fun _ _ _ _ _ _ _ hc q => mul_int q hc
end
end L2
namespace L2
open PySem PySem.Spec PyProof.Rows
theorem ygb : bootBuiltins "int" = some (.type "int") := by decide +kernel
theorem zh3 : bootBuiltins "bool" = some (.type "bool") := by decide +kernel
theorem yeU : bootBuiltins "str" = some (.type "str") := by decide +kernel
end L2
namespace L2
open PySem PySem.Spec PyProof.Rows
theorem ObjOk.some {P : Program} {w : World} {H : Hp} {h : Heap} {a : Addr} {o : HO} (x : ObjOk P w H h a o) : ∃ ob, h.get? a = Option.some ob := by
 cases o with
 | lst xs => obtain ⟨_, _, _, _, e⟩ := x; exact ⟨_, e⟩
 | tup xs => obtain ⟨_, _, _, o, e, _⟩ := x; exact ⟨o, e⟩
 | dK kvs => obtain ⟨_, _, _, _, o, _, _, e, _⟩ := x; exact ⟨_, e⟩
 | dT kvs => obtain ⟨_, _, _, _, o, _, _, e, _⟩ := x; exact ⟨_, e⟩
 | set S n => obtain ⟨o, _, _, _, e, _⟩ := x; exact ⟨_, e⟩
 | ins C dx fs => obtain ⟨_, _, _, e, _⟩ := x; exact ⟨_, e⟩
 | own y => obtain ⟨_, e⟩ := x; exact ⟨_, e⟩
 | xd fs => obtain ⟨_, ⟨_, _, _, e, _⟩, _⟩ := x; exact ⟨_, e⟩
 | rng lo hi => obtain ⟨_, _, _, e⟩ := x; exact ⟨_, e⟩
 | frz ob u => obtain ⟨e, _⟩ := x; exact ⟨_, e⟩
 | tbl ps => exact ⟨_, (show h.get? a = Option.some _ from x)⟩
 | met f y => exact ⟨_, (show h.get? a = Option.some _ from x)⟩
 | ext φ => obtain ⟨_, ⟨_, e⟩, _⟩ := x; exact ⟨_, e⟩
def Firm (X : Cx) (pins : List (Addr × Obj)) (H : Hp) (h B : Heap) : Prop :=
 ∀ b o, h.get? b = some o -> b ∉ frs X.stack -> ((∃ u, H b = some u) \/ (∃ o', X.s₀.heap.get? b = some o') \/ ∃ p ∈ X.pn ++ pins, p.1 = b) -> B.get? b = some o
section
variable {X : Cx} {pins : List (Addr × Obj)} {σ : St} {H : Hp} {s : Shared}
theorem Inv.nofr (I : Inv X pins σ H s) {b : Addr} {o : Obj} (e : X.s₀.heap.get? b = some o) (hb : b ∉ X.fs) : b ∉ frs X.stack := fun z => by
 rcases List.mem_cons.mp (I.stkSub b z) with q | q
 ·exact Nat.ne_of_lt (Nat.lt_of_lt_of_le (Heap.lt_size e) I.ok.above) q
 ·exact hb q
theorem Inv.nofrT (I : Inv X pins σ H s) {b : Addr} {u : HO} (e : H b = some u) : b ∉ frs X.stack := fun z => by
 have q := I.stkFree b z
 rw [q] at e
 cases e
theorem Inv.nofrP (I : Inv X pins σ H s) {p : Addr × Obj} (hp : p ∈ X.pn ++ pins) : p.1 ∉ frs X.stack := fun z => by
 obtain ⟨_, _, ne, nf, _⟩ := I.pin p hp
 rcases List.mem_cons.mp (I.stkSub p.1 z) with q | q
 ·exact ne q
 ·exact nf q
theorem Inv.flown {B h' : Heap} {t' : Nat} (I : Inv X pins σ H s) (hex : X.ex = []) (F : Firm X pins H s.heap B) (st : B.StaysIn h') (sm : s.heap.UpToSlots h') : Inv X pins σ H { s with heap := h', toks := t' } := by
 have nx : ∀ b, b ∉ X.ex := fun b z => by rw [hex] at z; cases z
 refine ⟨I.ok, I.os, I.bare, ⟨fun b o e n hb hx => ?_, fun b o e n hb hx => ?_, I.base.free, fun b o e hx => ?_, I.base.tups, I.base.frzs, I.base.tbls⟩, ?_, fun x c e => ?_, I.free, I.freeC, fun p hp => ?_, fun b u e => ?_, I.len⟩
 ·exact st b o (F b o (I.base.keep b o e n hb hx) (I.nofr e hb) (.inr (.inl ⟨o, e⟩)))
 ·obtain ⟨sl, q⟩ := I.base.slot b o e n hb hx
  obtain ⟨_, o', ho', hd⟩ := I.funs.mem hb
  rw [q] at ho'
  cases ho'
  obtain ⟨sl', q'⟩ := sm b _ q hd
  exact ⟨sl', q'⟩
 ·obtain ⟨o', q⟩ := I.base.there b o e hx
  by_cases hb : b ∈ X.fs
  ·obtain ⟨_, o'', ho'', hd⟩ := I.funs.mem hb
   rw [q] at ho''
   cases ho''
   obtain ⟨sl', q'⟩ := sm b _ q hd
   exact ⟨_, q'⟩
  ·exact ⟨o', st b o' (F b o' q (I.nofr e hb) (.inr (.inl ⟨o, e⟩)))⟩
 ·obtain ⟨m, hn, hl⟩ := I.loc
  refine ⟨m, sm.ns hn, fun i x v e1 e2 e3 => ?_⟩
  obtain ⟨u, r, l⟩ := hl i x v e1 e2 e3
  refine ⟨u, r, ?_⟩
  rcases l with l | ⟨k, c, e, o, ho, hd⟩
  ·exact .inl l
  ·obtain ⟨sl, q⟩ := sm c o ho fun vs z => by rw [hd] at z; cases z
   exact .inr ⟨k, c, e, _, q, hd⟩
 ·obtain ⟨v, o, ho, hd⟩ := I.cell x c e
  obtain ⟨sl, q⟩ := sm c o ho fun vs z => by rw [hd] at z; cases z
  exact ⟨v, _, q, hd⟩
 ·obtain ⟨e, n, ne, nf, d⟩ := I.pin p hp
  exact ⟨st _ _ (F _ _ e (I.nofrP hp) (.inr (.inr ⟨p, hp, rfl⟩))), n, ne, nf, d⟩
 ·refine (I.hok b u e).stay (fun c v hc q => ?_) (fun _ q => q) fun _ _ q => q
  rcases hc with z | z
  ·subst z
   exact st _ _ (F _ _ q (I.nofrT e) (.inl ⟨_, e⟩))
  ·exact st _ _ (F _ _ q (I.nofrT z) (.inl ⟨_, z⟩))
end
structure Arr (X : Cx) (pins : List (Addr × Obj)) (σ : St) (H : Hp) (a : Addr) (cls : Value) (s : Shared) : Prop where
 inv : Inv X pins σ H s
 un : H a = none
 new : X.s₀.heap.get? a = none
 nl : a ≠ X.env.locals
 nc : ∀ x c, X.env.cells.lookup x = some c -> c ≠ a
 np : ∀ p ∈ X.pn ++ pins, p.1 ≠ a
 fly : ∃ B a0, Firm X pins H s.heap B /\ B.StaysIn s.heap /\ B.get? a = none /\ s.heap.FunFrames B X.stack /\
  ((∃ oe vs, s.heap.get? a = some oe /\ oe.cls = cls /\ oe.data = .fields vs /\ vs[0]? = some a0 /\ vs[1]? = some .none) \/ s.heap.TracedW B a cls a0)
def CXE (P : Program) (w : World) : CXT := fun outer H s E e s' => ∃ (a : Addr) (cls a0 : Value) (H' : Hp) (B : Heap), e = .ref a /\ s'.os = s.os /\ AllBare s'.gens /\ Un (frs outer) [] H H' s.heap s'.heap /\ HOk P w H' s'.heap /\
 Heap.FlyingW B outer a cls a0 s'.heap /\ (∀ b o, s'.heap.get? b = some o -> b ∉ frs outer -> ((∃ u, H' b = some u) \/ ∃ o', s.heap.get? b = some o') -> B.get? b = some o) /\ H' a = none /\ s.heap.get? a = none /\ E cls none H'
section
variable {X : Cx} {pins : List (Addr × Obj)} {σ : St} {H : Hp} {s : Shared}
theorem zgZ {h' : Heap} {e : Addr} {cls : Value} {args : List Value} {t' : Nat} (I : Inv X pins σ H s) (hex : X.ex = []) (hx : Heap.MadeExcOf s.heap h' e cls args) : Arr X pins σ H e cls { s with heap := h', toks := t' } := by
 have nx : ∀ b, b ∉ X.ex := fun b z => by rw [hex] at z; cases z
 have none_of : ∀ b o, s.heap.get? b = some o -> b ≠ e := fun b o q z => by rw [z, hx.new] at q; cases q
 have eq_of : ∀ b o o1, h'.get? b = some o -> s.heap.get? b = some o1 -> o1 = o := fun b o o1 q q1 => by
  have z := hx.keeps b o1 q1
  rw [q] at z
  exact (Option.some.inj z).symm
 obtain ⟨t, he, _, _⟩ := hx.there
 refine ⟨I.kept hx.keeps, ?_, ?_, fun z => ?_, fun x c q z => ?_, fun p hp z => ?_, PySem.W.hideAll s.heap (frs X.stack), .ref t, fun b o q nb alt => ?_, fun b o q => hx.keeps b o (PySem.W.of_hideAll _ q), ?_, ?_, .inl ⟨_, _, he, rfl, rfl, rfl, rfl⟩⟩
 ·cases q : H e with
  | none => rfl
  | some u =>
   obtain ⟨ob, z⟩ := (I.hok e u q).some
   exact absurd rfl (none_of e ob z)
 ·cases q : X.s₀.heap.get? e with
  | none => rfl
  | some o =>
   obtain ⟨ob, z⟩ := I.base.there e o q (nx e)
   exact absurd rfl (none_of e ob z)
 ·obtain ⟨m, ⟨o, _, _, ho, _⟩, _⟩ := I.loc
  exact none_of _ o ho z.symm
 ·obtain ⟨v, o, ho, _⟩ := I.cell x c q
  exact none_of _ o ho z
 ·exact none_of _ _ (I.pin p hp).1 z
 ·have there : ∃ o1, s.heap.get? b = some o1 := by
   rcases alt with ⟨u, q'⟩ | ⟨o', q'⟩ | ⟨p, hp, rfl⟩
   ·exact (I.hok b u q').some
   ·exact I.base.there b o' q' (nx b)
   ·exact ⟨_, (I.pin p hp).1⟩
  obtain ⟨o1, q1⟩ := there
  rw [<- eq_of b o o1 q q1]
  exact PySem.W.hideAll_get _ q1 nb
 ·cases q : (PySem.W.hideAll s.heap (frs X.stack)).get? e with
  | none => rfl
  | some o => exact absurd rfl (none_of e o (PySem.W.of_hideAll _ q))
 ·refine (PySem.W.funFrames_hide I.stack fun env henv b hb => List.mem_filterMap.mpr ⟨env, henv, hb⟩).of_keeps fun b o q _ => ⟨o, hx.keeps b o q, rfl⟩
theorem zg0 {E : XK} {e : Value} {s' : Shared} (I : Inv X pins σ H s) (hex : X.ex = []) (h : CXE X.prog X.w X.stack H s E e s') : ∃ a cls H', e = .ref a /\ Arr X pins σ H' a cls s' /\ E cls none H' := by
 obtain ⟨a, cls, a0, H', B, rfl, os, bare, un, hok, ⟨f1, f2, f3, f4⟩, ext, na, ns, q⟩ := h
 have nx : ∀ b, b ∉ X.ex := fun b z => by rw [hex] at z; cases z
 have none_of : ∀ b o, s.heap.get? b = some o -> b ≠ a := fun b o q z => by rw [z, ns] at q; cases q
 refine ⟨a, cls, H', rfl, ⟨I.call' (ch := []) os un hok bare (fun b z => absurd z (by simp)), na, ?_, fun z => ?_, fun x c q z => ?_, fun p hp z => ?_, B, a0, fun b o q nb alt => ?_, f1, f2, f3, .inr f4⟩, q⟩
 ·cases q : X.s₀.heap.get? a with
  | none => rfl
  | some o =>
   obtain ⟨ob, z⟩ := I.base.there a o q (nx a)
   exact absurd rfl (none_of a ob z)
 ·obtain ⟨m, ⟨o, _, _, ho, _⟩, _⟩ := I.loc
  exact none_of _ o ho z.symm
 ·obtain ⟨v, o, ho, _⟩ := I.cell x c q
  exact none_of _ o ho z
 ·exact none_of _ _ (I.pin p hp).1 z
 ·refine ext b o q nb ?_
  rcases alt with ⟨u, q'⟩ | ⟨o', q'⟩ | ⟨p, hp, rfl⟩
  ·exact .inl ⟨u, q'⟩
  ·exact .inr (I.base.there b o' q' (nx b))
  ·exact .inr ⟨_, (I.pin p hp).1⟩
theorem Arr.land {a : Addr} {cls : Value} {Q : Unit -> Shared -> Prop} {E : Value -> Shared -> Prop} {M : Model} {A : Around} (R : Arr X pins σ H a cls s) (hex : X.ex = []) (hfr : A.frames = some X.stack) {outer : List Env} (hst : X.stack = X.env :: outer) (hf : X.env.frame = some X.env.locals)
  (hQ : ∀ h' B a0, Firm X pins H s.heap B -> Heap.FlyingW B X.stack a cls a0 h' -> s.heap.UpToSlots h' -> Inv X pins σ H { s with heap := h' } -> Q () { s with heap := h' }) :
  wpAny M A (noteFrame (.ref a) X.env) (fun _ s₂ => wpAny M A (setFlight (.ref a) none) Q E s₂) E s := by
 obtain ⟨B, a0, fm, st, hb, ff, alt⟩ := R.fly
 have after : ∀ h4, Heap.HeldW B X.stack a cls a0 X.env.locals h4 -> s.heap.UpToSlots h4 -> wpAny M A (setFlight (.ref a) none) Q E { s with heap := h4 } := fun h4 hh sm => by
  refine wpAny_landsW (s := { s with heap := h4 }) hh fun h5 fl sm5 => ?_
  have sm' : s.heap.UpToSlots h5 := sm.trans sm5
  exact hQ h5 B a0 fm fl sm' (R.inv.flown (t' := s.toks) hex fm fl.1 sm')
 rw [hst] at hfr
 rw [hst] at ff
 rcases alt with ⟨oe, vs, he, hc, hd, h0, h1⟩ | tr
 ·subst hc
  have hsz : 1 < vs.size := (Array.getElem?_eq_some_iff.mp h1).1
  unfold noteFrame
  simp only [hf]
  refine wpAny_bind (wpAny_field he hd h1 ?_)
  rw [if_neg (by decide)]
  refine wpAny_entryW hfr ff hf he st hb hd hsz h0 fun h4 hN => ?_
  obtain ⟨k1, k2, k3, k4⟩ := hN
  exact after h4 (by rw [hst]; exact ⟨k1, hb, k2, k3⟩) k4
 ·exact wpAny_looks_onW hfr hf ⟨st, hb, ff, tr⟩ fun h4 hh sm => after h4 (by rw [hst]; exact hh) sm
theorem zdj {P : Program} {w : World} {K : PySem.W.Frag} {mg : Str -> Option Value} {base : Heap} {N : List Str} {qual : Str} {scope : Scope} {f : Addr} {cd : Value} {A : Around} {outer : List Env} {s0 : Shared} {H0 : Hp} {E : XK} {a : Addr} {cls : Value}
  (R : Arr (cxOf (CXE P w) P w K mg base N qual scope f cd A outer s0 H0 E) pins σ H a cls s) (q : E cls none H) : (cxOf (CXE P w) P w K mg base N qual scope f cd A outer s0 H0 E).xe (.ref a) s := by
 show wpAny _ _ (leaving _ _) _ _ s
 unfold leaving
 refine wpAny_bind (R.land (E := fun e' s'' => CXE P w outer H0 s0 E e' s'') rfl R.inv.ok.frames rfl rfl fun h' B a0 fm fl sm I' => ?_)
 have I := R.inv
 obtain ⟨k1, k2, ⟨_, _, k3⟩, k4⟩ := fl
 refine ⟨a, cls, a0, H, B, rfl, I'.os, I'.bare, I'.base, I'.hok, ⟨k1, k2, k3, k4⟩, fun b o e nb alt => ?_, R.un, R.new, q⟩
 have nstk : b ∉ frs (cxOf (CXE P w) P w K mg base N qual scope f cd A outer s0 H0 E).stack := by
  rcases alt with ⟨u, z⟩ | ⟨o', z⟩
  ·exact I.nofrT z
  ·exact I.nofr z nb
 have there : ∃ o1, s.heap.get? b = some o1 := by
  rcases alt with ⟨u, z⟩ | ⟨o', z⟩
  ·exact (I.hok b u z).some
  ·exact I.base.there b o' z (fun z => absurd (show b ∈ ([] : List Addr) from z) (by simp))
 obtain ⟨o1, q1⟩ := there
 have z : B.get? b = some o1 := fm b o1 q1 nstk (by
  rcases alt with ⟨u, z⟩ | ⟨o', z⟩
  ·exact .inl ⟨u, z⟩
  ·exact .inr (.inl ⟨o', z⟩))
 have z2 := k1 b o1 z
 rw [show (Heap.get? h' b) = some o from e] at z2
 cases z2
 exact z
end
def yec (X : Cx) (Ex : St -> XK) : Prop := ∀ (pins : List (Addr × Obj)) (σ : St) (H : Hp) (s : Shared) (a : Addr) (cls : Value), Arr X pins σ H a cls s -> Ex σ cls none H -> X.xe (.ref a) s
def ydf (CX : CXT) (X : Cx) (Ex : St -> XK) : Prop := ∀ (pins : List (Addr × Obj)) (σ : St) (H : Hp) (s : Shared) (e : Value) (s' : Shared), Inv X pins σ H s -> CX X.stack H s (Ex σ) e s' -> X.xe e s'
section
variable {P : Program} {w : World} {K : PySem.W.Frag} {mg : Str -> Option Value} {base : Heap} {N : List Str} {qual : Str} {scope : Scope} {f : Addr} {cd : Value} {A : Around} {outer : List Env} {s0 : Shared} {H0 : Hp} {E : XK}
theorem zaI : yec (cxOf (CXE P w) P w K mg base N qual scope f cd A outer s0 H0 E) (fun _ => E) := fun _ _ _ _ _ _ R q => zdj R q
theorem zh4 : yf2 (CXE P w) (cxOf (CXE P w) P w K mg base N qual scope f cd A outer s0 H0 E) E := fun pins σ H s e s' I h => by
 obtain ⟨a, cls, H', rfl, R, q⟩ := zg0 (X := cxOf (CXE P w) P w K mg base N qual scope f cd A outer s0 H0 E) I rfl h
 exact zdj R q
end
section
variable {X : Cx} {x : Str} {C : Addr} {bm : List Value} {B newId initId : String} {np cpos pos : Pos} {e : Expr} {es : List Expr} {t : TA} {Ex : St -> XK}
def ygc (cls : Value) (Ex : St -> XK) (t : TA) : TS := fun _ σ H => t σ H fun vs H1 => vs.length <= 1000 /\ Ex σ cls none H1
theorem zg1 (O : OwnCls x C bm newId X.mg X.base) (FB : ExcBaseFacts B newId initId bm) (hc : X.calm = true) (hex : X.ex = []) (hr : yec X Ex) (hg : Gl X x) (ha : PA X (e :: es) t)
  (hdb : (x == ("__debug__" : Str)) = false := by decide) (he : starEach (e :: es) X.env = (false, eval e X.env) :: starEach es X.env := by rfl) (hpl : (backTo cpos (starEach es X.env)).any (·.1) = false := by rfl) :
  PS X (.Raise (some (.Call (.Name x np) (e :: es) [] cpos)) none pos) (ygc (.ref C) Ex t) := by
 intro pins s σ H D I h
 obtain ⟨tl, NN, nm, q, bs, hdct, sn, sub, ab, col, dd, k0, k1, k2, k3, k5, mN, hC, hN, hni, T⟩ := O.obj
 refine wpAny_Raise_call_subT (C := C) (nm := nm) (q := q) (N := NN) (bs := bs) (bm := tl) (hdct := hdct) (sn := sn) (sub := sub) (ab := ab) (col := col) (dd := dd) (k0 := k0) (k1 := k1) (k2 := k2) (k3 := k3) (k5 := k5) FB (mN := mN)
  (T.hasType FB.hasBase) (I.ok.hd hc) (by rw [he]; show (false || (backTo cpos (starEach es X.env)).any (·.1)) = false; rw [hpl]; rfl) hni (zbX I hg O.bound ⟨rfl, ?_⟩ hdb)
 have hA := ha cpos pins s σ H _ I h
 rw [he] at hA ⊢
 refine Calls.evalArgs_plain (thn hA fun us s2 ⟨vs, H1, I1, r1, hl, q1⟩ => ⟨rfl, ?_, I1.bk _ _ hC, hN.keeps I1.bk, T.keeps I1.bk, fun h' a hm => hr pins σ H1 _ a _ (zgZ (t' := s2.toks) I1 hex hm) q1⟩)
 show us.length <= sizeLine
 rw [<- r1.length]
 exact Nat.le_trans hl (by decide)
end
section
variable {X : Cx} {CX : CXT} {k : Nat} {f C : Addr} {fd : FuncData} {ps : List Str} {sp : Sp} {dvs : List V} {ds : List Value} {Ex : St -> XK} {x m : Str} {p pos apos : Pos} {e o : Expr} {es : List Expr} {ta : TE} {t : TA}
theorem zcV {pins : List (Addr × Obj)} {σ : St} {H : Hp} {s : Shared} {Q : VK} {us : List Value} {vs : List V} (F : FnOk X.prog X.w X.K X.mg X.base CX k f fd ps sp) (hr : Room k X.A) (hb : Binds X.K fd ps ds) (hd : Vals dvs ds) (hx : ydf CX X Ex)
  (I : Inv X pins σ H s) (r : Vals vs us) (h : sp (vs ++ dvs) H Q (Ex σ)) : wpAny (model X.prog X.w) X.A (call (.ref f) us) (EP X pins σ Q) X.xe s := by
 have r2 : Vals (vs ++ dvs) (us ++ ds) := r.append hd
 have hl : (us ++ ds).length = ps.length := by rw [<- r2.length]; exact F.len _ _ _ _ h
 refine wpAny_call (codeAny_mono (F.run X.A X.stack s H ⟨us, []⟩ (us ++ ds) (vs ++ dvs) Q (Ex σ) hr I.env0 (hb s us I.kIn hl) r2 h) fun r s' hq => ?_)
 cases r with
 | error e => exact hx pins σ H s e s' I hq
 | ok fl =>
  cases fl with
  | ret u => exact I.after hq
  | next => exact False.elim hq
  | brk => exact False.elim hq
  | cont => exact False.elim hq
def ygd (sp : Sp) (dvs : List V) (Ex : St -> XK) (t : TA) : TE := fun σ H Q => t σ H fun vs H1 => sp (vs ++ dvs) H1 Q (Ex σ)
theorem zg2 (F : FnOk X.prog X.w X.K X.mg X.base CX k f fd ps sp) (hr : Room k X.A) (hg : Gl X x) (hm : X.mg x = some (.ref f)) (hk : PySem.W.keepIn X.K (.ref f) = true) (hb : Binds X.K fd ps ds) (hd : Vals dvs ds) (hx : ydf CX X Ex)
  (ha : PA X (e :: es) t) (hdb : (x == ("__debug__" : Str)) = false := by decide) (he : starEach (e :: es) X.env = (false, eval e X.env) :: starEach es X.env := by rfl) (hpl : (backTo pos (starEach es X.env)).any (·.1) = false := by rfl) :
  PE X (.Call (.Name x p) (e :: es) [] pos) (ygd sp dvs Ex t) := by
 intro pins s σ H Q I h
 refine wpAny_Call_Name_kw (zbX I hg hm ?_ hdb)
 refine PySem.W.callWith_K (h₀ := X.base) I.ok.mod.kin hk (thn (ha pos pins s σ H _ I h) fun us s1 ⟨vs, H1, I1, r, q⟩ => ⟨I1.kIn, ?_⟩) he hpl
 exact zcV F hr hb hd hx I1 r q
def yeV (C : Addr) (m : Str) (sp : Sp) (dvs : List V) (Ex : St -> XK) (ta : TE) (t : TA) : TE := fun σ H Q => ta σ H fun x H1 => ∃ a dx fs, x = .ref a /\ H1 a = some (.ins C dx fs) /\ fs.lookup m = none /\
 t σ H1 fun vs H2 => sp (x :: (vs ++ dvs)) H2 Q (Ex σ)
theorem zg3 {pl : Sem Bool} (he : PE X o ta) (c : Cls X.K C) (hm : Meth X.K C m f) (F : FnOk X.prog X.w X.K X.mg X.base CX k f fd ps sp) (hr : Room k X.A) (hb : Binds X.K fd ps ds) (hd : Vals dvs ds) (hx : ydf CX X Ex) (ha : PA X (e :: es) t)
  (hst : starEach (e :: es) X.env = (false, eval e X.env) :: starEach es X.env := by rfl) (hpl : (backTo pos (starEach es X.env)).any (·.1) = false := by rfl)
  (ht : eval (.Call (.Attribute o m apos) (e :: es) [] pos) X.env = (do
   let ov <- eval o X.env
   standAt apos.atName
   let (f, first) <- holding [ov] (getMethod ov m pl)
   callWith pos f first (backTo pos (starEach (e :: es) X.env)) (backToKw pos (keywordEach [] X.env))) := by rfl) :
  PE X (.Call (.Attribute o m apos) (e :: es) [] pos) (yeV C m sp dvs Ex ta t) := by
 intro pins s σ H Q I h
 refine PySem.W.methodCall_KW (pl := pl) (thn (he pins s σ H _ I h) fun u s1 ⟨x, H1, I1, rx, a, dx, fs, ex, ea, l, q⟩ => ?_) ht
 subst ex
 obtain rfl : u = Value.ref a := rx
 refine zcE I1 ea c hm l ?_
 refine PySem.W.callWith_K (first := [.ref a]) (h₀ := X.base) I.ok.mod.kin hm.kp (thn (ha pos pins s1 σ H1 _ I1 q) fun us s2 ⟨vs, H2, I2, r, q2⟩ => ⟨I2.kIn, ?_⟩) hst hpl
 exact zcV (us := .ref a :: us) (vs := .ref a :: vs) F hr hb hd hx I2 (.cons rfl r) q2
end
def excO (a : Addr) (cls : Value) : HO := .ext fun h => ∃ ob vs, h.get? a = some ob /\ ob.cls = cls /\ ob.data = .fields vs
section
variable {X : Cx} {pins pins' : List (Addr × Obj)} {σ : St} {H : Hp} {s : Shared} {xe : Value -> Shared -> Prop}
end
section
variable {X : Cx} {xc n : Str} {C : Addr} {i : Nat} {body suite : List Stmt} {b0 : Stmt} {np hpos pos : Pos} {tb : (St -> XK) -> TS} {th : TS} {outer : List Env}
end
section
variable {P : Program} {w : World} {K : PySem.W.Frag} {mg : Str -> Option Value} {base : Heap}
theorem Fun.okE {x qual : Str} {st : Stmt} {f : Addr} {fd : FuncData} {N ps : List Str} {k : Nat} {sp : Sp} (F : Fun K x qual st f fd) (S : FnScope N ps (yaf st)) (len : ∀ vs H Q E, sp vs H Q E -> vs.length = ps.length)
  (hbody : ∀ (cdv : Value) (A : Around) (outer : List Env) (s : Shared) (H : Hp) (vs : List V) (Q : VK) (E : XK), Room k (A.deeper (envOfC qual (yaf st) s.heap.objs.size f cdv)) -> sp vs H Q E ->
   ∃ t, PSs (cxOf (CXE P w) P w K mg base N qual (yaf st) f cdv A outer s H E) (ybL st) t /\ t { nx := fun _ H' => Q .non H', rt := Q } (start N vs) H) : FnOk P w K mg base (CXE P w) (k + 1) f fd ps sp := by
 obtain ⟨oc, od, kV, doc, pm, an, cdv, ct, osl, rfl, lk, hcd⟩ := F.ex
 exact ygX lk hcd S len fun A outer s H vs Q E hr hsp => hbody cdv A outer s H vs Q E hr hsp
end
end L2
namespace L2
open PySem PySem.Spec PyProof.Rows
theorem zg4 {K : PySem.W.Frag} {hp : Heap} {g : Str -> Option Value} {nm : Str} {Ca : Addr} {bb : List Value} {nid : String} (Z : K.In hp) (hb : g nm = some (.ref Ca)) (ok : PySem.W.excIn K Ca bb nid = true) : OwnCls nm Ca bb nid g hp := by
 refine ⟨hb, ?_⟩
 unfold PySem.W.excIn at ok
 split at ok
 ·rename_i dA cA sA hA
  split at ok
  ·rename_i D' tl w0 w1 w2 w3 bn w5 eM eS
   simp only [Bool.and_eq_true, beq_iff_eq, Bool.not_eq_true'] at ok
   obtain ⟨⟨⟨⟨⟨rfl, rfl⟩, e1⟩, e2⟩, e3⟩, e4⟩ := ok
   obtain ⟨f1, f2, f3, f4, f5, f6, f7, f8, f9, f10, f11⟩ := cA
   dsimp only at eM e1 e3 e4
   subst eM e1
   have eA : sA = #[w0, w1, w2, w3, some (.builtin bn), w5] := by
    obtain ⟨ll⟩ := sA
    simp only at eS
    rw [eS]
   subst eA
   refine ⟨tl, f4, f1, f5, f2, f6, f7, f8, f9, f10, dA, w0, w1, w2, w3, w5, _, Z _ _ hA, .of_isNs (PySem.W.isNs_of_in Z e3), ?_, PySem.W.tail_of_in Z e2⟩
   exact PySem.W.nsMap_none_of_in Z e3 e4
  ·cases ok
 ·cases ok
mutual
inductive DaV (K : PySem.W.Frag) (H : Hp) : V -> PyData -> Prop
 | non : DaV K H .non .none
 | bl (b) : DaV K H (.bl b) (.bool b)
 | int (i) : DaV K H (.int i) (.int i)
 | str (x) : DaV K H (.str x) (.str x)
 | lst {a xs ds} : SqL K H a xs -> DaVs K H xs ds -> DaV K H (.ref a) (.list ds)
 | tup {a xs ds} : SqT K H a xs -> DaVs K H xs ds -> DaV K H (.ref a) (.tuple ds)
inductive DaVs (K : PySem.W.Frag) (H : Hp) : List V -> List PyData -> Prop
 | nil : DaVs K H [] []
 | cons {x xs d ds} : DaV K H x d -> DaVs K H xs ds -> DaVs K H (x :: xs) (d :: ds)
end
section
variable {X : Cx} {pins : List (Addr × Obj)} {σ : St} {H : Hp} {s : Shared}
mutual
theorem DaV.reads (I : Inv X pins σ H s) : ∀ {x : V} {d : PyData} {u : Value}, DaV X.K H x d -> RelV x u -> ∃ as, Reads s.heap u d as
 | _, _, _, .non, r => by cases r; exact ⟨_, .none⟩
 | _, _, _, .bl b, r => by cases r; exact ⟨_, .bool b⟩
 | _, _, _, .int i, r => by obtain ⟨t, rfl⟩ := r; exact ⟨_, .int i t⟩
 | _, _, _, .str x, r => by obtain ⟨t, rfl⟩ := r; exact ⟨_, .str x t⟩
 | _, _, _, .lst (a := a) h1 h2, r => by
  cases r
  obtain ⟨its, rv, ⟨o, n, e1, e2, e3⟩, _⟩ := I.list h1
  obtain ⟨as, q⟩ := DaVs.reads I h2 rv
  exact ⟨_, .list (vs := its.toArray) (n := n) e1 (by first | exact e2.1 | exact e2) (by first | exact e2.2.2 | exact e2.2 | exact e3 | exact e3.2) (by simpa using q)⟩
 | _, _, _, .tup (a := a) h1 h2, r => by
  cases r
  obtain ⟨its, rv, ⟨o, e1, e2, n, e3⟩, _⟩ := I.tuple h1
  obtain ⟨as, q⟩ := DaVs.reads I h2 rv
  exact ⟨_, .tuple (vs := its.toArray) (n := n) e1 e2 e3 (by simpa using q)⟩
theorem DaVs.reads (I : Inv X pins σ H s) : ∀ {xs : List V} {ds : List PyData} {us : List Value}, DaVs X.K H xs ds -> Vals xs us -> ∃ as, ReadsAll s.heap us ds as
 | _, _, _, .nil, r => by cases r; exact ⟨_, .nil⟩
 | _, _, _, .cons h1 h2, r => by
  cases r with
  | cons r1 r2 =>
   obtain ⟨as, q1⟩ := DaV.reads I h1 r1
   obtain ⟨bs, q2⟩ := DaVs.reads I h2 r2
   exact ⟨_, .cons q1 q2⟩
end
def rEqD (K : PySem.W.Frag) : R2 := fun x y H Q => ∃ d e, DaV K H x d /\ DaV K H y e /\ d.canLay0 = true /\ e.canLay0 = true /\ d.depth <= 60 /\ Q (.bl (PyData.eqv d e)) H
def rNeD (K : PySem.W.Frag) : R2 := fun x y H Q => ∃ d e, DaV K H x d /\ DaV K H y e /\ d.canLay0 = true /\ e.canLay0 = true /\ d.depth <= 60 /\ Q (.bl (!PyData.eqv d e)) H
theorem yeW (hu : X.A.units + 64 < cLine) : OpR X (compareOp .Eq) (rEqD X.K) := by
 intro pins s σ H x y v u Q I rx ry h
 obtain ⟨d, e, h1, h2, c1, c2, dp, q⟩ := h
 obtain ⟨as, r1⟩ := h1.reads I rx
 obtain ⟨bs, r2⟩ := h2.reads I ry
 exact SeqAt.compareEq_reads r1 r2 c1 c2 (by have := Nat.min_le_left d.depth e.depth; omega) ⟨.bl _, H, I, rfl, q⟩
theorem yeX (hu : X.A.units + 64 < cLine) : OpR X (compareOp .NotEq) (rNeD X.K) := by
 intro pins s σ H x y v u Q I rx ry h
 obtain ⟨d, e, h1, h2, c1, c2, dp, q⟩ := h
 obtain ⟨as, r1⟩ := h1.reads I rx
 obtain ⟨bs, r2⟩ := h2.reads I ry
 exact SeqAt.compareNe_reads r1 r2 c1 c2 (by have := Nat.min_le_left d.depth e.depth; omega) ⟨.bl _, H, I, rfl, q⟩
end
theorem hu64 {A : Around} {k : Nat} (hr : Room k A) : A.units + 64 < cLine := by
 have := hr.un
 omega
def yg7 (K : PySem.W.Frag) : R2 := fun x y H Q => ∃ l b xs zs, x = .ref l /\ y = .ref b /\ SqL K H l xs /\ SqL K H b zs /\ xs.length + zs.length <= sizeLine /\ ∀ p, H p = none -> Q (.ref p) (upd H p (.lst (xs ++ zs)))
theorem zh5 {X : Cx} : OpR X (binaryOp .Add) (yg7 X.K) := by
 intro pins s σ H x y v u Q I rx ry h
 obtain ⟨l, b, xs, zs, rfl, rfl, hH, hB, hz, q⟩ := h
 cases rx
 cases ry
 obtain ⟨its, r, ⟨o, n, e1, e2, e3, e4⟩, z⟩ := I.list hH
 obtain ⟨its2, r2, ⟨o2, n2, g1, g2, g3, g4⟩, z2⟩ := I.list hB
 obtain ⟨oc, od, oda, osl⟩ := o
 obtain ⟨oc2, od2, oda2, osl2⟩ := o2
 dsimp only at e2 e3 e4 g2 g3 g4
 subst e2 e3 e4 g2 g3 g4
 have l1 := r.length
 have l2 := r2.length
 refine concat_meets ⟨_, e1, rfl⟩ ⟨_, g1, rfl⟩ noFill_list_add seq_list_add PySem.F.slot_list_add PySem.F.entry_list_add (PySem.F.args_list_add_2 _ _) (list_addW l b its.toArray its2.toArray n n2 none none osl osl2 (by rw [List.size_toArray, List.size_toArray]; omega)) ⟨e1, g1, ?_⟩
 have ea : its.toArray ++ its2.toArray = (its ++ its2).toArray := by simp
 rw [ea]
 exact ⟨.ref s.heap.objs.size, _, I.lnew (t' := s.toks) (r.append r2) (by rw [List.length_append]; exact hz), rfl, q _ I.fresh⟩
end L2
namespace L2
open PySem PySem.Spec PyProof.Rows
section
variable {X : Cx} {pins : List (Addr × Obj)} {σ : St} {H : Hp} {s : Shared}
open Classical in
def isD (h : Heap) (d : PyData) (v : Value) : Bool := if q : ∃ e as, e.canLay0 = true /\ Reads h v e as then PyData.eqv q.choose d else false
theorem ydX {h : Heap} {d e : PyData} {v : Value} {as : List Addr} (c : e.canLay0 = true) (r : Reads h v e as) : isD h d v = PyData.eqv e d := by
 have q : ∃ e as, e.canLay0 = true /\ Reads h v e as := ⟨e, as, c, r⟩
 unfold isD
 rw [dif_pos q]
 obtain ⟨as', c', r'⟩ := q.choose_spec
 have z : q.choose = e := by first | exact (Reads.unique _ _ r' r).1 | exact (Reads.unique r' r).1 | exact Reads.unique _ _ _ _ _ c' r' r | exact PySem.SeqAt.Reads.unique _ _ _ _ _ c' r' r | exact PySem.Reads.unique _ _ _ _ _ c' r' r
 rw [z]
theorem zcW (I : Inv X pins σ H s) : ∀ {xs : List V} {ds : List PyData} {us : List Value}, DaVs X.K H xs ds -> Vals xs us -> us.length = ds.length /\ ∀ (j : Nat) u d, us[j]? = some u -> ds[j]? = some d -> ∃ as, Reads s.heap u d as
 | _, _, _, .nil, r => by cases r; exact ⟨rfl, fun j u d e => by cases e⟩
 | _, _, _, .cons h1 h2, r => by
  cases r with
  | cons r1 r2 =>
   obtain ⟨l, q⟩ := zcW I h2 r2
   refine ⟨by rw [List.length_cons, List.length_cons, l], fun j u d e1 e2 => ?_⟩
   cases j with
   | zero => cases e1; cases e2; exact h1.reads I r1
   | succ j => exact q j u d e1 e2
def rInD (K : PySem.W.Frag) : R2 := fun x y H Q => ∃ p xs d ds, y = .ref p /\ SqL K H p xs /\ DaV K H x d /\ DaVs K H xs ds /\ d.canLay0 = true /\ (∀ e ∈ ds, e.canLay0 = true /\ e.depth <= 30) /\ Q (.bl (ds.any fun e => PyData.eqv e d)) H
theorem zcX {h : Heap} {d : PyData} : ∀ {us : List Value} {ds : List PyData}, us.length = ds.length -> (∀ (j : Nat) u e, us[j]? = some u -> ds[j]? = some e -> isD h d u = PyData.eqv e d) -> us.any (isD h d) = ds.any fun e => PyData.eqv e d
 | [], [], _, _ => rfl
 | u :: us, e :: ds, hl, hh => by
  rw [List.any_cons, List.any_cons, hh 0 u e rfl rfl, zcX (us := us) (ds := ds) (Nat.succ.inj hl) fun j u' e' a b => hh (j + 1) u' e' a b]
theorem yge (hu : X.A.units + 64 < cLine) : OpR X (compareOp .In) (rInD X.K) := by
 intro pins s σ H x y v u Q I rx ry h
 obtain ⟨p, xs, d, ds, rfl, hq, hd, hds, cd, cds, q⟩ := h
 cases ry
 obtain ⟨its, r, pl, hz⟩ := I.list hq
 obtain ⟨as, ra⟩ := hd.reads I rx
 obtain ⟨hl, hat⟩ := zcW I hds r
 refine SeqAt.in_listAt (isD s.heap d) pl.isList (fun y hy => ?_) ⟨.bl _, H, I, rfl, ?_⟩
 ·have hy' : y ∈ its := by simpa using hy
  obtain ⟨j, hj⟩ := List.getElem?_of_mem hy'
  have hlt := (List.getElem?_eq_some_iff.mp hj).1
  have hdj : ds[j]? = some (ds[j]'(by omega)) := List.getElem?_eq_getElem (by omega)
  obtain ⟨bs, rb⟩ := hat j _ _ hj hdj
  have cj := cds _ (List.mem_of_getElem? hdj)
  rw [ydX cj.1 rb]
  exact SeqAt.eqAt_reads _ _ _ _ _ _ _ _ rb ra cj.1 cd (by
   have := Nat.min_le_left (ds[j]'(by omega)).depth d.depth
   show X.A.units + 1 + _ < cLine
   omega)
 ·have e : its.toArray.any (isD s.heap d) = ds.any fun e => PyData.eqv e d := by
   rw [<- Array.any_toList]
   refine zcX hl fun j u e h1 h2 => ?_
   obtain ⟨bs, rb⟩ := hat j _ _ h1 h2
   exact ydX (cds _ (List.mem_of_getElem? h2)).1 rb
  rw [e]
  exact q
end
end L2
namespace L2
open PySem PySem.Spec PyProof.Rows
section
variable {X : Cx} {tg : Expr}
theorem zch (ns : List Int) : ∀ k, k <= ns.length -> preSum (fun i => (ns[i]?).getD 0) k = (ns.take k).sum
 | 0, _ => by simp [preSum]
 | k + 1, h => by
  show preSum _ k + (ns[k]?).getD 0 = _
  rw [zch ns k (by omega), List.take_succ, List.sum_append]
  congr 1
  rw [List.getElem?_eq_getElem (by omega)]
  simp
theorem zg5 (hc : X.calm = true) : CallR X (.builtin "sum") (fun xs H Q => ∃ (a : Addr) (ns : List Int), xs = [.ref a] /\ SqL X.K H a (ns.map V.int) /\ Q (.int ns.sum) H) := by
 intro pins s σ H xs us Q I r h
 obtain ⟨l, bs, rfl, hq, q⟩ := h
 obtain ⟨u, rfl, rx⟩ := ydl r
 cases rx
 obtain ⟨its, rv, pl, hz⟩ := I.list hq
 have hlt : l < s.heap.objs.size := by obtain ⟨_, _, e, _⟩ := pl; exact Heap.lt_size e
 have hlen : its.length = bs.length := by rw [<- rv.length, List.length_map]
 refine call_sum_walkAnyS (wpAny_pyIter_list pl.isList ?_)
 refine ⟨s.heap.objs.size, [s.heap.objs.size, l], [s.heap.objs.size], _, its.toArray.size, _, _, fun i => (bs[i]?).getD 0, rfl, (Walks.list (prog := X.prog) (w := X.w) (A := X.A.in1) (I.ok.hd hc) s.heap.objs.size l (Nat.ne_of_lt hlt) its.toArray).toS,
  ⟨⟨_, Heap.get?_push_size _ rfl, rfl, rfl⟩, pl.isList.push _⟩, fun b hb => ?_, fun i v hP => ?_, fun s' t' hm => ?_⟩
 ·rcases List.mem_cons.mp hb with rfl | hb
  ·exact Heap.lt_size (Heap.get?_push_size _ rfl)
  ·obtain rfl := List.mem_singleton.mp hb
   obtain ⟨_, _, e, _⟩ := pl
   exact Heap.lt_size (Heap.get?_push_of_some _ e)
 ·have hP' : its[i]? = some v := by simpa using hP
  have hi : i < its.length := (List.getElem?_eq_some_iff.mp hP').1
  have hb : (bs.map V.int)[i]? = some (V.int (bs[i]'(by omega))) := by rw [List.getElem?_map, List.getElem?_eq_getElem (by omega)]; rfl
  obtain ⟨u, hu, ru⟩ := rv.get hb
  rw [hP'] at hu
  cases hu
  obtain ⟨t, rfl⟩ := ru
  refine ⟨t, ?_⟩
  show Value.int _ t = Value.int ((bs[i]?).getD 0) t
  rw [List.getElem?_eq_getElem (by omega)]; rfl
 ·obtain ⟨h', g', d', tk', os'⟩ := s'
  have e1 : g' = s.gens := hm.gens
  have e2 : d' = s.drawn := hm.drawn
  have e3 : os' = s.os := hm.os
  subst e1 e2 e3
  have e : preSum (fun i => (bs[i]?).getD 0) its.toArray.size = bs.sum := by
   rw [List.size_toArray, hlen, zch bs _ (Nat.le_refl _), List.take_of_length_le (Nat.le_refl _)]
  rw [e]
  refine ⟨.int _, H, I.kept (t' := tk') fun b o q => ?_, ⟨_, rfl⟩, q⟩
  exact hm.heap b o (fun hb => by rw [List.mem_singleton.mp hb] at q; exact Nat.lt_irrefl _ (Heap.lt_size q)) (Heap.get?_push_of_some _ q)
def Itr3 (lo c : Int) (n : Nat) : It := ⟨fun i _ => i < n, fun i H x H' => H' = H /\ x = .int (lo + i * c), fun i _ => n <= i⟩
theorem zeb {P : Program} {w : World} {K : PySem.W.Frag} {tg : Expr} (it : Addr) (lo c : Int) (n : Nat) : Turn P w K tg (Itr3 lo c n) [it] it (fun i h => IsRangeIter h it (lo + (i : Nat) * c) ((n : Int) - (i : Nat)) c) where
 mem := by simp
 obj := fun i h st b hb => by
  have e : b = it := by simpa using hb
  subst e
  exact ⟨_, st, fun v z => by
   have z' : Data.fields _ = Data.cell v := z
   cases z'⟩
 keep := fun i h h' st k => k it (by simp) _ st
 item := by
  intro X hP hw hK hc i pins s σ H E I hf st hg
  subst hP hw hK
  obtain ⟨f0, f1, f2, f3, f4, f5⟩ := hf it (by simp)
  have W := Walks.range (prog := X.prog) (w := X.w) (I.ok.hd hc) it lo c n
  refine W.item i s _ _ hg st fun v h' tk hv st' kk => ?_
  obtain ⟨t, rfl⟩ := hv
  have I1 : Inv X pins σ H { s with heap := h', toks := tk } := I.turned (fun b o hb e => kk b o (by simpa using hb) e) f0 f1 f3 f4 f5
  exact ⟨_, rfl, yee (s := { s with heap := h', toks := tk }) (n := "range_iterator") st' rfl rfl (by decide) ⟨.int (lo + i * c), H, I1, ⟨t, rfl⟩, ⟨rfl, rfl⟩, st', fun b hb => (hf b hb).1⟩⟩
 done := by
  intro X hP hw hK hc i pins s σ H E I hf st hg
  subst hP hw hK
  obtain ⟨f0, f1, f2, f3, f4, f5⟩ := hf it (by simp)
  exact wpAny_pyNext_range_end (I.ok.hd hc) st (by have : n <= i := hg; omega) fun h' eb => ⟨rfl, I.turned (t' := s.toks) (fun b o hb e => eb b o hb e) f0 f1 f3 f4 f5⟩
 self := fun _ _ _ _ _ st h => wpAny_pyIter_rangeiter st h
theorem zga {a b c : Int} (hc : 0 < c) : Builtin.Range.rangeSize a b c = (((if a < b then (b - a - 1) / c + 1 else 0 : Int).toNat : Nat) : Int) := by
 unfold Builtin.Range.rangeSize
 rw [if_pos hc]
 split
 ·have : 0 <= (b - a - 1) / c := Int.ediv_nonneg (by omega) (by omega)
  omega
 ·rfl
theorem zbl {x : Int} (h : x.natAbs < 2 ^ 42) : Builtin.Range.rangeFitsLong x = true := by
 have h2 : x.natAbs < 4398046511104 := h
 simp only [Builtin.Range.rangeFitsLong, Bool.and_eq_true, decide_eq_true_eq]
 omega
theorem zgb {a b c : Int} (ha : a.natAbs < 2 ^ 40) (hb : b.natAbs < 2 ^ 40) (hc : 0 < c) : (Builtin.Range.rangeSize a b c).natAbs < 2 ^ 42 := by
 have ha2 : a.natAbs < 1099511627776 := ha
 have hb2 : b.natAbs < 1099511627776 := hb
 show _ < 4398046511104
 unfold Builtin.Range.rangeSize
 rw [if_pos hc]
 split
 ·have h1 : 0 <= (b - a - 1) / c := Int.ediv_nonneg (by omega) (by omega)
  have h2 : (b - a - 1) / c <= b - a - 1 := Int.ediv_le_self _ (by omega)
  generalize (b - a - 1) / c = d at *
  omega
 ·decide
theorem zfx {a b c : Int} (ha : a.natAbs < 2 ^ 40) (hb : b.natAbs < 2 ^ 40) (hc : 0 < c) (hc' : c < 2 ^ 20) : Builtin.Range.small a b c = true := by
 have l : (2 : Nat) ^ 40 < 2 ^ 42 := by decide
 unfold Builtin.Range.small
 rw [zbl (Nat.lt_trans ha l), zbl (Nat.lt_trans hb l), zbl (x := c) (by have h2 : c < 1048576 := hc'; show _ < 4398046511104; omega), zbl (zgb ha hb hc), if_pos hc, zbl (x := b + (c - 1)) (by have h2 : c < 1048576 := hc'; have h3 : b.natAbs < 1099511627776 := hb; show _ < 4398046511104; omega)]
 simp
def yg8 (ta : TA) : TI := fun σ H R => ta σ H fun vs H1 => ∃ i j c : Int, vs = [.int i, .int j, .int c] /\ (i.natAbs < 2 ^ 40 /\ j.natAbs < 2 ^ 40 /\ 0 < c /\ c < 2 ^ 20) /\ R (Itr3 i c (if i < j then (j - i - 1) / c + 1 else 0 : Int).toNat) H1
theorem zgc {pins : List (Addr × Obj)} {σ : St} {H : Hp} {s : Shared} {R : It -> Hp -> Prop} {E : Value -> Shared -> Prop} {lo hi c : Int} {t u v : Tok} {tk : Nat} (I : Inv X pins σ H s) (h1 : lo.natAbs < 2 ^ 40) (h2 : hi.natAbs < 2 ^ 40) (h3 : 0 < c) (h4 : c < 2 ^ 20)
  (q : R (Itr3 lo c (if lo < hi then (hi - lo - 1) / c + 1 else 0 : Int).toNat) H) : wpAny (model X.prog X.w) X.A (pyIter (.ref s.heap.objs.size)) (PIE X pins σ tg R) E { s with heap := s.heap.push { cls := .type "range", data := .fields #[.int lo t, .int hi u, .int c v] }, toks := tk } := by
 refine wpAny_pyIter_range (IsRange.new ..) (zfx h1 h2 h3 h4) ?_
 have I1 : Inv X pins σ H { s with heap := s.heap.push { cls := .type "range", data := .fields #[.int lo t, .int hi u, .int c v] }, toks := tk } := I.kept fun b o e => Heap.get?_push_of_some _ e
 refine ⟨(s.heap.push { cls := .type "range", data := .fields #[.int lo t, .int hi u, .int c v] }).objs.size, [(s.heap.push { cls := .type "range", data := .fields #[.int lo t, .int hi u, .int c v] }).objs.size], _, _, H, rfl,
  I1.kept (t' := tk) fun b o e => Heap.get?_push_of_some _ e, zeb _ lo c (if lo < hi then (hi - lo - 1) / c + 1 else 0 : Int).toNat, ?_, fun b hb => ?_, q⟩
 ·have e1 : lo + ((0 : Nat) : Int) * c = lo := by simp
  have e2 : (((if lo < hi then (hi - lo - 1) / c + 1 else 0 : Int).toNat : Nat) : Int) - ((0 : Nat) : Int) = Builtin.Range.rangeSize lo hi c := by rw [zga h3]; omega
  show IsRangeIter _ _ (lo + ((0 : Nat) : Int) * c) ((((if lo < hi then (hi - lo - 1) / c + 1 else 0 : Int).toNat : Nat) : Int) - ((0 : Nat) : Int)) c
  rw [e1, e2]
  exact Heap.get?_push_size _ rfl
 ·have e : b = (s.heap.push { cls := .type "range", data := .fields #[.int lo t, .int hi u, .int c v] }).objs.size := by simpa using hb
  subst e
  exact I1.fpOk (Nat.le_refl _) (I1.hok.fresh (Nat.le_refl _))
theorem zgd {a b c : Expr} {ta : TA} {p pos : Pos} (hg : Gl X "range") (hm : X.mg "range" = none) (ha : PA X [a, b, c] ta) (hs : starEach [a, b, c] X.env = [(false, eval a X.env), (false, eval b X.env), (false, eval c X.env)] := by rfl) (hs2 : starEach [b, c] X.env = [(false, eval b X.env), (false, eval c X.env)] := by rfl) :
  PI X tg (.Call (.Name "range" p) [a, b, c] [] pos) (yg8 ta) := by
 intro pins s σ H R I h
 refine Call_ (ydz I hg hm boot_range (PyProof.Rows.callWith_type1 (thn (ha pos pins s σ H _ I h) fun us s1 ⟨vs, H1, I1, r1, q1⟩ => ?_) (by rw [hs, hs2]) (by rw [hs2]; rfl)))
 obtain ⟨i, j, c, e, ⟨q1, q2, q3, q4⟩, q⟩ := q1
 subst e
 cases r1 with
 | cons r rr =>
  cases rr with
  | cons r' rr =>
   cases rr with
   | cons r'' rr =>
    cases rr
    obtain ⟨t, rfl⟩ := r
    obtain ⟨t', rfl⟩ := r'
    obtain ⟨t'', rfl⟩ := r''
    exact call_range_3 (by omega) (zgc I1 q1 q2 q3 q4 q) (.inl (PyProof.noPylong_small (by omega)))
end
end L2
namespace L2
open PySem PySem.Spec PyProof.Rows
open PySem.Builtin PySem.Builtin.Str
section
variable {X : Cx}
def cutS (z : Str) (lo hi : Option Int) : Str := ⟨((z.cps.toList.drop (HT.sIx z.cps.toList.length 0 lo)).take (HT.sIx z.cps.toList.length z.cps.toList.length hi - HT.sIx z.cps.toList.length 0 lo)).toArray⟩
theorem zbd (n d : Nat) (i : Int) : max 0 (min (if i < 0 then i + (n : Int) else i) (n : Int)) = ((HT.sIx n d (some i) : Nat) : Int) := by
 show max 0 (min (if i < 0 then i + (n : Int) else i) (n : Int)) = (((if i < 0 then (i + (n : Int)).toNat else min i.toNat n) : Nat) : Int)
 split <;> omega
theorem zbt {a b : Int} {A B : Nat} (ha : a = A) (hb : b = B) : sliceRange a b 1 = (List.range (B - A)).map fun k => A + k := by
 subst ha hb
 unfold sliceRange
 simp only [show (1 : Int) > 0 by decide, if_true]
 have : (if (A : Int) < (B : Int) then ((B : Int) - A + 1 - 1) / 1 else 0).toNat = B - A := by
  split <;> (try simp only [Int.ediv_one]) <;> omega
 rw [this]
 apply List.map_congr_left
 intro k _
 omega
theorem zg6 (xs : List Nat) (i k : Nat) : (List.range k).filterMap (fun m => xs[i + m]?) = (xs.drop i).take k := by
 induction k generalizing i with
 | zero => simp
 | succ k ih =>
  rw [List.range_succ_eq_map, List.filterMap_cons, List.filterMap_map]
  have e : ((fun m => xs[i + m]?) ∘ Nat.succ) = fun m => xs[(i + 1) + m]? := by
   funext m; show xs[i + (m + 1)]? = _; congr 1; omega
  rw [e, ih (i + 1)]
  cases h : xs[i]? with
  | none =>
   have hl : xs.length <= i := List.getElem?_eq_none_iff.mp h
   simp only [Nat.add_zero, h]
   rw [List.drop_of_length_le (by omega), List.drop_of_length_le hl]; simp
  | some v =>
   have hi := (List.getElem?_eq_some_iff.mp h).1
   simp only [Nat.add_zero, h]
   rw [List.drop_eq_getElem_cons hi, List.take_succ_cons]
   congr 1
   exact (Option.some.inj ((List.getElem?_eq_getElem hi).symm.trans h)).symm
theorem zfy (n : Nat) (lo hi : Option Int) : strSliceIndices lo hi 1 n = (List.range (HT.sIx n n hi - HT.sIx n 0 lo)).map fun k => HT.sIx n 0 lo + k := by
 cases lo with
 | none =>
  cases hi with
  | none => exact zbt rfl rfl
  | some j => exact zbt rfl (zbd n n j)
 | some i =>
  cases hi with
  | none => exact zbt (zbd n 0 i) rfl
  | some j => exact zbt (zbd n 0 i) (zbd n n j)
theorem zg7 (z : Str) (lo hi : Option Int) : Txt.slice z lo hi = cutS z lo hi := by
 have hz : z.length = z.cps.toList.length := by simp [Str.length]
 unfold Txt.slice cutS
 rw [hz, zfy, List.filterMap_map]
 have e : ((fun x => z.cps[x]?) ∘ fun k => HT.sIx z.cps.toList.length 0 lo + k) = fun m => z.cps.toList[HT.sIx z.cps.toList.length 0 lo + m]? := by
  funext m; simp
 rw [e, zg6]
 split
 ·rename_i hc
  simp only [beq_self_eq_true, Bool.true_and, beq_iff_eq, List.length_map, List.length_range] at hc
  have h1 : HT.sIx z.cps.toList.length z.cps.toList.length hi <= z.cps.toList.length := HT.sIx_le _ _ (Nat.le_refl _) _
  have h2 : HT.sIx z.cps.toList.length 0 lo = 0 \/ z.cps.toList.length = 0 := by omega
  rw [hc]
  rcases h2 with h2 | h2
  ·rw [h2, List.drop_zero, List.take_of_length_le (Nat.le_refl _)]
  ·have : z.cps.toList = [] := List.eq_nil_of_length_eq_zero h2
   have h3 : z.cps = #[] := by simpa using this
   simp [h3]
   cases z; simp_all
 ·rfl
theorem zcI {v : Value} {o : Option Int} (p : IsPart v o) : ∃ l : Option (Int × Tok), v = partValue l /\ l.map (·.1) = o := by
 cases p with
 | none => exact ⟨none, rfl, rfl⟩
 | int i t => exact ⟨some (i, t), rfl, rfl⟩
theorem ygf : SlR X (fun x lo hi H Q => ∃ z, x = .str z /\ z.length <= sizeLine /\ Q (.str (cutS z lo hi)) H) := by
 intro pins s σ H x v vl vu lo hi sl Q I rx hs pl pu h
 obtain ⟨z, rfl, hz, q⟩ := h
 obtain ⟨t, rfl⟩ := rx
 obtain ⟨l, rfl, rfl⟩ := zcI pl
 obtain ⟨u, rfl, rfl⟩ := zcI pu
 refine ⟨"str", _, F.slot_str_getitem.lookup, typeIs_str _ _ _, ?_⟩
 refine wpAny_getItem_str_slice (l := l) (u := u) (st := none) hs rfl ?_
 refine post_val_or_str ⟨Nat.le_trans (Txt.slice_le z (l.map (·.1)) (u.map (·.1))) hz, fun t' k => ?_⟩
 have e := zg7 z (l.map (·.1)) (u.map (·.1))
 refine ⟨.str (cutS z (l.map (·.1)) (u.map (·.1))), H, I.tok _, ⟨t', ?_⟩, q⟩
 rw [<- e]; rfl
def revS (z : Str) : Str := ⟨z.cps.toList.reverse.toArray⟩
def repS (z : Str) (n : Nat) : Str := ⟨((List.replicate n z.cps.toList).flatten).toArray⟩
end
end L2
namespace L2
open PySem PySem.Spec PyProof.Rows
def yaS (X : Cx) (pins : List (Addr × Obj)) (x₁ x₂ : Str) (jf : List (Nat × Str)) (scope : Scope) (cl : List (Str × Addr)) (s : Shared) (H : Hp) (fp : List Addr) : Cx where
 prog := X.prog
 w := X.w
 K := X.K
 mg := X.mg
 base := X.base
 A := X.A
 N := x₁ :: x₂ :: jf.map (·.2)
 s₀ := s
 H₀ := H
 env := compEnvC scope cl s.heap.objs.size X.env
 outer := X.stack
 stack := X.stack
 ex := fp
 fn := fun _ => false
 calm := X.calm
 pn := X.pn ++ pins
 xe := fun _ _ => False
def ya5 (v v2 : Option V) (js : List (Nat × Str)) (σ : St) : St := v :: v2 :: js.map fun j => (σ[j.1]?).join
def ydY (K : PySem.W.Frag) (jf : List (Nat × Str)) (wi : TI) (tc : TT) (te : TE) : TE := fun σ H Q => wi σ H fun J H1 => ∀ D, H1 D = none -> ∃ W : Nat -> Nat -> List V -> Hp -> Prop, (∃ m, W 0 m [] (upd H1 D (.lst []))) /\
 ∀ i m ys H2, W i m ys H2 -> H2 D = some (.lst ys) /\ ((J.stop i H2 /\ Q (.ref D) H2) \/ (J.go i H2 /\ ys.length < sizeLine /\ ∀ x H3, J.yld i H2 x H3 -> ∃ a u v, x = .ref a /\ SqT K H3 a [u, v] /\ tc (ya5 (some u) (some v) jf σ) H3 fun b H5 =>
  if b = true then te (ya5 (some u) (some v) jf σ) H5 fun w H6 => H6 D = some (.lst ys) /\ ∃ m', m' < m /\ W (i + 1) m' (ys ++ [w]) (upd H6 D (.lst (ys ++ [w]))) else ∃ m', m' < m /\ W (i + 1) m' ys H5))
section
variable {X : Cx} {pins : List (Addr × Obj)} {σ : St} {H : Hp} {s : Shared} {x₁ x₂ : Str} {jf : List (Nat × Str)} {scope : Scope} {fp : List Addr}
theorem Inv.block2 {h1 : Heap} {tk : Nat} (I : Inv X pins σ H s) (hf : ∀ b ∈ fp, FpOk X pins H b) (hlt : ∀ b ∈ fp, b < s.heap.objs.size) (hjf : ∀ p ∈ jf, X.N[p.1]? = some p.2) (hjl : ∀ p ∈ jf, scope.names.lookup p.2 = some .free) (hkind : scope.kind = .function)
  (hcell : ∀ y ∈ scope.names, y.2 ≠ .cell) (hfr : ∀ y ∈ scope.names, y.2 = .free -> X.env.kindOf y.1 = some .cell \/ X.env.kindOf y.1 = some .free)
  (hn : h1.Ns s.heap.objs.size (fun _ => none)) (hk : ∀ b o, s.heap.get? b = some o -> h1.get? b = some o) :
  Inv (yaS X pins x₁ x₂ jf scope (yao X.env scope.names []) s H fp) [] (ya5 none none jf σ) H { s with heap := h1, toks := tk } := by
 have hsome : ∀ y ∈ scope.names, y.2 = .free -> (X.env.cells.lookup y.1).isSome = true := fun y hy hyf => Option.isSome_iff_exists.mpr (I.ok.has y.1 (hfr y hy hyf))
 have sub : ∀ y c, (yao X.env scope.names []).lookup y = some c -> X.env.cells.lookup y = some c := za7 hsome (fun y c e => by simp at e)
 have hsz := I.sz
 have inE : ∀ b, b ∈ (yaS X pins x₁ x₂ jf scope (yao X.env scope.names []) s H fp).ex -> b ∈ fp := fun b z => z
 have stk : ∀ b ∈ frs X.stack, b < s.heap.objs.size := fun b hb => by
  obtain ⟨_, o, ho, _⟩ := I.stack.mem hb
  exact Heap.lt_size ho
 refine ⟨⟨I.ok.mod, hkind, I.ok.glob, I.ok.blt, Nat.le_refl _, fun y z c e1 e2 => I.ok.inj y z c (sub y c e1) (sub z c e2), fun y hy => ?_, fun y c hfn _ => (by cases hfn), I.ok.hd, I.ok.frames, .inl rfl, fun b hb => ?_, fun b o e => I.bs b o e, Nat.le_trans I.ok.bsz hsz, fun b o e z => ?_, fun b hb z => ?_, I.stack, I.stkFree⟩,
  rfl, I.bare, Un.kept hk, ⟨_, hn, fun i y v e1 e2 e3 => ?_⟩, fun y c e => ?_, I.hok.fresh (Nat.le_refl _), fun y c e => I.freeC y c (sub y c e), fun p hp => ?_, I.hok.kept hk, ?_⟩
 ·have hy' : (relabel scope X.env).names.lookup y = some .cell \/ (relabel scope X.env).names.lookup y = some .free := hy
  have mem : (y, NameKind.free) ∈ scope.names := by
   rcases hy' with q | q
   ·rcases zau (env := X.env) q with z | z
    ·exact absurd rfl (hcell _ (zak z))
    ·exact zak z.2
   ·rcases zau (env := X.env) q with z | z
    ·exact zak z
    ·exact zak z.2
  exact Option.isSome_iff_exists.mp (za8 (.inl mem))
 ·exact ⟨Nat.ne_of_lt (hlt b hb), fun y c e => (hf b hb).2.2.2.2.1 y c (sub y c e)⟩
 ·rcases (hf b z).2.2.2.1 with q | q
  ·exact I.ok.noex b o e q
  ·exact absurd (Nat.lt_of_lt_of_le (Heap.lt_size e) (Nat.le_trans I.ok.bsz q)) (Nat.lt_irrefl _)
 ·rcases List.mem_cons.mp (I.stkSub b z) with q | q
  ·exact (hf b hb).2.1 q
  ·exact (hf b hb).2.2.1 q
 ·have e1' : (x₁ :: x₂ :: jf.map (·.2))[i]? = some y := e1
  unfold ya5 at e2
  cases i with
  | zero => cases e2
  | succ i => cases i with
   | zero => cases e2
   | succ i =>
   rw [List.getElem?_cons_succ, List.getElem?_cons_succ, List.getElem?_map] at e1' e2
   cases q : jf[i]? with
   | none => rw [q] at e2; cases e2
   | some p =>
    rw [q] at e1' e2
    have ey : p.2 = y := Option.some.inj e1'
    have ev : (σ[p.1]?).join = some v := Option.some.inj e2
    have hp : p ∈ jf := List.mem_of_getElem? q
    have eσ : σ[p.1]? = some (some v) := by
     cases z : σ[p.1]? with
     | none => rw [z] at ev; cases ev
     | some r => rw [z] at ev; rw [show r = some v from ev]
    have hfree : scope.names.lookup y = some .free := by rw [<- ey]; exact hjl p hp
    have mem := zak hfree
    have kX := hfr _ mem rfl
    obtain ⟨m, hnX, hl⟩ := I.loc
    obtain ⟨u, ru, lk⟩ := hl p.1 y v (by rw [<- ey]; exact hjf p hp) eσ (by
     rcases kX with z | z
     ·exact .inr (.inl z)
     ·exact .inr (.inr z))
    refine ⟨u, ru, .inr ⟨?_, ?_⟩⟩
    ·have e3' : Vis (relabel scope X.env) y := e3
     rcases e3' with z | z | z
     ·exfalso
      rcases zau (env := X.env) z with q | q
      ·rw [hfree] at q; cases q
      ·cases q.1
     ·exact .inl z
     ·exact .inr z
    ·rcases lk with ⟨z, _⟩ | ⟨_, c, hc, hcell'⟩
     ·exfalso
      rcases kX with q | q
      ·rw [show X.env.kindOf y = some .cell from q] at z; cases z
      ·rw [show X.env.kindOf y = some .free from q] at z; cases z
     ·obtain ⟨c', hc'⟩ := Option.isSome_iff_exists.mp (za8 (env := X.env) (acc := []) (.inl mem))
      have e := sub y c' hc'
      rw [hc] at e
      cases e
      obtain ⟨o, ho, hd⟩ := hcell'
      exact ⟨c, hc', o, hk c o ho, hd⟩
 ·obtain ⟨v, o, ho, hd⟩ := I.cell y c (sub y c e)
  exact ⟨v, o, hk c o ho, hd⟩
 ·have hp' : p ∈ X.pn ++ pins := by simpa [yaS] using hp
  obtain ⟨e, n, ne, nf, d⟩ := I.pin p hp'
  refine ⟨hk _ _ e, n, Nat.ne_of_lt (Heap.lt_size e), fun z => ?_, d⟩
  rcases List.mem_cons.mp (I.stkSub p.1 z) with q | q
  ·exact ne q
  ·exact nf q
 ·unfold ya5
  show _ = (x₁ :: x₂ :: jf.map (·.2)).length
  simp
end
section
variable {X : Cx} {x₁ x₂ : Str} {px p1 p2 : Pos} {kk : Nat} {jf : List (Nat × Str)} {scope : Scope} {iter elt : Expr} {ifs : List Expr} {pos : Pos} {wi : TI} {tc : TT} {te : TE}
theorem zge (hcalm : X.calm = true) (hi : PI X (.Tuple [.Name x₁ p1, .Name x₂ p2] kk px) iter wi) (hc : ∀ pins cl s H fp, PTs (yaS X pins x₁ x₂ jf scope cl s H fp) ifs tc) (he : ∀ pins cl s H fp, PE (yaS X pins x₁ x₂ jf scope cl s H fp) elt te)
  (hN : (x₁ :: x₂ :: jf.map (·.2)).Nodup) (hx : scope.names.lookup x₁ = some .local) (hx2 : scope.names.lookup x₂ = some .local) (hjf : ∀ p ∈ jf, X.N[p.1]? = some p.2) (hjl : ∀ p ∈ jf, scope.names.lookup p.2 = some .free) (hkind : scope.kind = .function)
  (hcell : ∀ y ∈ scope.names, y.2 ≠ .cell) (hfr : ∀ y ∈ scope.names, y.2 = .free -> X.env.kindOf y.1 = some .cell \/ X.env.kindOf y.1 = some .free)
  (hnames : ∀ y ∈ scope.names, y.2 = .local -> scope.names.lookup y.1 = some .local) {use : Option (Value -> Sem Unit)} {Qf : Value -> Shared -> Prop} {cpos : Pos}
  {pins : List (Addr × Obj)} {σ : St} {H : Hp} {s : Shared} {Q : VK} (I : Inv X pins σ H s) (h : ydY X.K jf wi tc te σ H Q)
  (fin : ∀ D C s6 H6 m6, Inv X pins σ H6 s6 -> Q (.ref D) H6 -> FpOk X pins H6 C -> s6.heap.Ns C m6 -> compPost (model X.prog X.w) X.A X.xe use Qf (.ref D) C (.ok .next) s6) (hs : ∀ x, foldedSetIterable iter X.env x = pure x) :
  wpAny (model X.prog X.w) X.A (comprehension (.ListComp elt [⟨.Tuple [.Name x₁ p1, .Name x₂ p2] kk px, iter, ifs, 0⟩] scope pos) scope X.env cpos (newList []) false (eval iter X.env) use) Qf X.xe s := by
 have hsome : ∀ y ∈ scope.names, y.2 = .free -> (X.env.cells.lookup y.1).isSome = true := fun y hy hyf => Option.isSome_iff_exists.mpr (I.ok.has y.1 (hfr y hy hyf))
 refine wpAny_comprehension_free (use := use) rfl hs (zcH hsome) hkind hnames (thn (hi pins s σ H _ I h) fun xv s1 h1 => thn h1 fun itv s2 h2 => ?_)
 obtain ⟨it, fp, tn, J, H2, e, I2, T, st2, f2, h⟩ := h2
 subst e
 refine wpAny_newObj_type (wpAny_newFunctionEnv hcell (by intro y hy; simp at hy) (fun h₁ hns₁ hsb₁ => ?_) hkind)
 have hD0 : H2 s2.heap.objs.size = none := I2.hok.fresh (Nat.le_refl _)
 obtain ⟨W, ⟨m0, w0⟩, step⟩ := h s2.heap.objs.size hD0
 dsimp only at hns₁ hsb₁ ⊢
 have I3 : Inv X pins σ (upd H2 s2.heap.objs.size (.lst [])) { s2 with heap := s2.heap.push { cls := .type "list", dict := none, data := .seq ([] : List Value).toArray } } :=
  I2.laid (t' := s2.toks) (fun b u q => Heap.get?_push_of_some _ q) (Nat.le_refl _) ⟨Nat.zero_le _, [], 0, .nil, Heap.get?_push_size _ rfl⟩
 generalize hH3 : s2.heap.push { cls := .type "list", dict := none, data := .seq ([] : List Value).toArray } = hp3 at hns₁ hsb₁ I3 ⊢
 have hsz3 : hp3.objs.size = s2.heap.objs.size + 1 := by rw [<- hH3, Heap.size_push]
 have k23 : ∀ b o, s2.heap.get? b = some o -> hp3.get? b = some o := fun b o q => by rw [<- hH3]; exact Heap.get?_push_of_some _ q
 have flt : ∀ b ∈ fp, b < s2.heap.objs.size := fun b hb => by
  obtain ⟨o, q, _⟩ := T.obj 0 _ st2 b hb
  exact Heap.lt_size q
 have f3 : ∀ b ∈ fp, FpOk X pins (upd H2 s2.heap.objs.size (.lst [])) b := fun b hb => by
  obtain ⟨g0, g⟩ := f2 b hb
  exact ⟨by rw [yar (Nat.ne_of_lt (flt b hb))]; exact g0, g⟩
 have kC : ∀ b o, hp3.get? b = some o -> h₁.get? b = some o := fun b o q => (hsb₁.2 b (Nat.ne_of_lt (Heap.lt_size q))).trans (Heap.get?_push_of_some _ q)
 have B0 := I3.block2 (x₁ := x₁) (x₂ := x₂) (jf := jf) (scope := scope) (fp := fp) (h1 := h₁) (tk := s2.toks + ([] : List (Str × Value)).length) f3 (fun b hb => by show b < hp3.objs.size; rw [hsz3]; exact Nat.lt_succ_of_lt (flt b hb)) hjf hjl hkind hcell hfr (by simpa using hns₁) kC
 have st4 : tn 0 h₁ := T.keep _ _ _ st2 fun b _ o q => kC b o (k23 b o q)
 have w0' := w0
 have stat : ∀ {H' : Hp}, (∀ b ∈ fp, H' b = none) -> ∀ b ∈ fp, FpOk (yaS X pins x₁ x₂ jf scope (yao X.env scope.names []) { s2 with heap := hp3 } (upd H2 s2.heap.objs.size (.lst [])) fp) [] H' b := fun hn b hb => by
  obtain ⟨_, g1, g2, g3, g4, g5⟩ := f2 b hb
  refine ⟨hn b hb, Nat.ne_of_lt (by show b < hp3.objs.size; rw [hsz3]; exact Nat.lt_succ_of_lt (flt b hb)), fun z => ?_, .inl hb, fun y c q => g4 y c (za7 hsome (fun y c e => by simp at e) y c q), fun p hp => g5 p (by simpa [yaS] using hp)⟩
  rcases List.mem_cons.mp (I2.stkSub b z) with q | q
  ·exact g1 q
  ·exact g2 q
 have loop : codeAny (model X.prog X.w) X.A (.compLoop (.ListComp elt [⟨.Tuple [.Name x₁ p1, .Name x₂ p2] kk px, iter, ifs, 0⟩] scope pos) 0 (.ref it) (.ref s2.heap.objs.size) (compEnvC scope (yao X.env scope.names []) hp3.objs.size X.env))
   (compPost (model X.prog X.w) X.A X.xe use Qf (.ref s2.heap.objs.size) hp3.objs.size) { s2 with heap := h₁, toks := s2.toks + ([] : List (Str × Value)).length } := by
  refine zbL (fun n s' => ∃ i ys H', Inv (yaS X pins x₁ x₂ jf scope (yao X.env scope.names []) { s2 with heap := hp3 } (upd H2 s2.heap.objs.size (.lst [])) fp) [] (ya5 none none jf σ) H' s' /\ tn i s'.heap /\ (∀ b ∈ fp, H' b = none) /\ W i n ys H') ?_ m0
   ⟨0, [], _, B0, st4, fun b hb => (f3 b hb).1, w0⟩
  rintro n s5 ⟨i, ys, H5, I5, st5, fr5, w5⟩
  obtain ⟨hD5, alt⟩ := step i n ys H5 w5
  rcases alt with ⟨stop, q5⟩ | ⟨go, hlen, next⟩
  ·refine wpAny_mono (T.done (yaS X pins x₁ x₂ jf scope (yao X.env scope.names []) { s2 with heap := hp3 } (upd H2 s2.heap.objs.size (.lst [])) fp) rfl rfl rfl hcalm i [] s5 _ H5 (fun _ _ => False) I5 (stat fr5) st5 stop) (fun r s6 ⟨hr, I6⟩ => ?_) fun _ _ z => z
   subst hr
   obtain ⟨m6, hn6, _⟩ := id I6.loc
   refine fin _ _ s6 H5 m6 ?_ q5 (I3.fpOk (Nat.le_refl _) I6.free) hn6
   refine I3.call' (ch := fp) I6.os I6.base I6.hok I6.bare (fun b hb => ?_)
   obtain ⟨_, g1, g2, g3, g4, g5⟩ := f2 b hb
   exact ⟨g3, g1, g4, g5⟩
  ·refine wpAny_mono (T.item (yaS X pins x₁ x₂ jf scope (yao X.env scope.names []) { s2 with heap := hp3 } (upd H2 s2.heap.objs.size (.lst [])) fp) rfl rfl rfl hcalm i [] s5 _ H5 (fun _ _ => False) I5 (stat fr5) st5 go) (fun r s6 ⟨u, hr, h6⟩ => ?_) fun _ _ z => z
   subst hr
   refine wpAny_mono h6 (fun _ s7 ⟨x, H7, I7, r7, y7, st7, fr7⟩ => ?_) fun _ _ z => z
   have I7' := I7.pinned (stat fr7) (T.obj _ _ st7)
   have hloc : Loc (yaS X pins x₁ x₂ jf scope (yao X.env scope.names []) { s2 with heap := hp3 } (upd H2 s2.heap.objs.size (.lst [])) fp).env.scope x₁ := .inl (lookup_relabel_local hx)
   have hloc2 : Loc (yaS X pins x₁ x₂ jf scope (yao X.env scope.names []) { s2 with heap := hp3 } (upd H2 s2.heap.objs.size (.lst [])) fp).env.scope x₂ := .inl (lookup_relabel_local hx2)
   obtain ⟨a8, u1, u2, rfl, sq8, q8⟩ := next x H7 y7
   have PGt : PG (yaS X pins x₁ x₂ jf scope (yao X.env scope.names []) { s2 with heap := hp3 } (upd H2 s2.heap.objs.size (.lst [])) fp) (.Tuple [.Name x₁ p1, .Name x₂ p2] kk px) (gTup X.K 2 (yeA (ydI 0) (yeA (ydI 1) gNil))) :=
    yeM hcalm (zcq (zbY hN rfl hloc (.inr (lookup_relabel_local hx))) (zcq (zbY hN rfl hloc2 (.inr (lookup_relabel_local hx2))) zet))
   refine wpAny_mono (PGt ([] ++ ybr fp s7.heap) s7 _ H7 (.ref a8) _ (fun σ' H' => σ' = ya5 (some u1) (some u2) jf σ /\ H7 = H') I7' r7 ⟨a8, [u1, u2], rfl, sq8, rfl, u1, [u2], rfl, u2, [], rfl, rfl, rfl, rfl⟩) (fun _ s8 ⟨σ8, H8, I8, e8, e8'⟩ => ?_) fun _ _ z => z
   subst e8 e8'
   have I8' : Inv (yaS X pins x₁ x₂ jf scope (yao X.env scope.names []) { s2 with heap := hp3 } (upd H2 s2.heap.objs.size (.lst [])) fp) ([] ++ ybr fp s7.heap) (ya5 (some u1) (some u2) jf σ) H7 s8 := I8
   have again : ∀ {s9 : Shared} {H9 : Hp} {zs : List V} {m' : Nat}, Inv (yaS X pins x₁ x₂ jf scope (yao X.env scope.names []) { s2 with heap := hp3 } (upd H2 s2.heap.objs.size (.lst [])) fp) ([] ++ ybr fp s7.heap) (ya5 (some u1) (some u2) jf σ) H9 s9 -> m' < n -> W (i + 1) m' zs H9 ->
     ∃ m, m < n /\ ∃ i ys H', Inv (yaS X pins x₁ x₂ jf scope (yao X.env scope.names []) { s2 with heap := hp3 } (upd H2 s2.heap.objs.size (.lst [])) fp) [] (ya5 none none jf σ) H' s9 /\ tn i s9.heap /\ (∀ b ∈ fp, H' b = none) /\ W i m ys H' := fun {s9 H9 zs m'} I9 hm w9 => by
    refine ⟨m', hm, i + 1, zs, H9, I9.unpinned.weak (by simp [ya5]) (fun j v e => ?_), T.keep _ _ _ st7 fun b hb o e => (I9.pin (b, o) (List.mem_append_right _ (List.mem_append_right _ (zaG hb e)))).1, fun b hb => ?_, w9⟩
    ·cases j with
     | zero => simp [ya5] at e
     | succ j => cases j with
      | zero => simp [ya5] at e
      | succ j => simpa [ya5] using e
    ·obtain ⟨o, e, d⟩ := T.obj _ _ st7 b hb
     exact (I9.pin (b, o) (List.mem_append_right _ (List.mem_append_right _ (zaG hb e)))).2.1
   refine wpAny_mono (hc pins _ _ _ fp ([] ++ ybr fp s7.heap) s8 _ H7 _ I8' q8) (fun ok s9 ⟨H9, I9, q9⟩ => ?_) fun _ _ z => z
   cases ok with
   | false =>
    rw [if_neg Bool.false_ne_true] at q9 ⊢
    obtain ⟨m', hm, w9⟩ := q9
    exact again I9 hm w9
   | true =>
    rw [if_pos rfl] at q9 ⊢
    refine wpAny_mono (he pins _ _ _ fp ([] ++ ybr fp s7.heap) s9 _ H9 _ I9 q9) (fun y s10 ⟨v, H10, I10, r10, hD10, m', hm, w10⟩ => ?_) fun _ _ z => z
    refine wpAny_mono (zbK (X := (yaS X pins x₁ x₂ jf scope (yao X.env scope.names []) { s2 with heap := hp3 } (upd H2 s2.heap.objs.size (.lst [])) fp)) ([] ++ ybr fp s7.heap) s10 (ya5 (some u1) (some u2) jf σ) H10 (.ref s2.heap.objs.size) [v] (.ref s2.heap.objs.size) [y] (fun _ H' => H' = upd H10 s2.heap.objs.size (.lst (ys ++ [v]))) I10 rfl (.cons r10 .nil) ⟨_, ys, v, rfl, rfl, hD10, hlen, rfl⟩)
     (fun _ s11 ⟨_, H11, I11, _, e11⟩ => ?_) fun _ _ z => z
    subst e11
    exact again I11 hm w10
 exact codeAny_compStart_list loop (T.self _ 0 _ _ _ st4 loop)
theorem zg8 (hcalm : X.calm = true) (hi : PI X (.Tuple [.Name x₁ p1, .Name x₂ p2] kk px) iter wi) (hc : ∀ pins cl s H fp, PTs (yaS X pins x₁ x₂ jf scope cl s H fp) ifs tc) (he : ∀ pins cl s H fp, PE (yaS X pins x₁ x₂ jf scope cl s H fp) elt te)
  (hN : (x₁ :: x₂ :: jf.map (·.2)).Nodup) (hx : scope.names.lookup x₁ = some .local) (hx2 : scope.names.lookup x₂ = some .local) (hjf : ∀ p ∈ jf, X.N[p.1]? = some p.2) (hjl : ∀ p ∈ jf, scope.names.lookup p.2 = some .free) (hkind : scope.kind = .function)
  (hcell : ∀ y ∈ scope.names, y.2 ≠ .cell) (hfr : ∀ y ∈ scope.names, y.2 = .free -> X.env.kindOf y.1 = some .cell \/ X.env.kindOf y.1 = some .free)
  (hnames : ∀ y ∈ scope.names, y.2 = .local -> scope.names.lookup y.1 = some .local) (hs : ∀ x, foldedSetIterable iter X.env x = pure x := by intro _; rfl) :
  PE X (.ListComp elt [⟨.Tuple [.Name x₁ p1, .Name x₂ p2] kk px, iter, ifs, 0⟩] scope pos) (ydY X.K jf wi tc te) := by
 intro pins s σ H Q I h
 rw [eval_ListComp]
 refine zge hcalm hi hc he hN hx hx2 hjf hjl hkind hcell hfr hnames (use := none) (Qf := EP X pins σ Q) I h (fun D C s6 H6 m6 I6 q6 f6 n6 => ?_) hs
 refine ⟨m6, n6, fun h' hs' => ⟨.ref D, H6, ?_, rfl, q6⟩⟩
 exact I6.turnedL (fp := [C]) (t' := s6.toks) (fun b o hb q => (hs'.2 b (fun z => hb (by simp [z]))).trans q) (fun b hb => by
  have e : b = C := by simpa using hb
  subst e
  exact f6)
end
section
variable {X : Cx}
end
end L2
namespace Sm
open PySem L2
inductive AV where
 | non | bl (b : Bool) | int (i : Int) | str (x : Str)
 | tup (xs : List AV)
 | fl (xs : List AV)
 | ref (n : Nat)
 | exc (c : Nat)
 deriving Inhabited
inductive AO where
 | lst (xs : List AV)
 | dct (t : Bool) (kvs : List (AV × AV))
 | ins (c : Nat) (fs : List (Option AV))
abbrev AH := List AO
abbrev En := List (Option AV)
inductive Out (α : Type) where
 | ok (a : α) (h : AH)
 | ex (c : Nat) (h : AH)
 | bad
@[simp] def Out.bind {α β : Type} (o : Out α) (f : α -> AH -> Out β) : Out β :=
 match o with
 | .ok a h => f a h
 | .ex c h => .ex c h
 | .bad => .bad
inductive OutS where
 | nx (e : En) (h : AH)
 | rt (v : AV) (h : AH)
 | bk (e : En) (h : AH)
 | ct (e : En) (h : AH)
 | ex (c : Nat) (e : En) (h : AH)
 | bad
abbrev SE := En -> AH -> Out AV
abbrev SB := En -> AH -> Out Bool
abbrev SL := En -> AH -> Out (List AV)
abbrev SS := En -> AH -> OutS
abbrev Fn := List AV -> AH -> Out AV
@[simp] def Out.go {α : Type} (o : Out α) (e : En) (f : α -> AH -> OutS) : OutS :=
 match o with
 | .ok a h => f a h
 | .ex c h => .ex c e h
 | .bad => .bad
structure Tb where
 K : PySem.W.Frag
 cls : Nat -> Option Addr
 exc : Nat -> Option Addr
 fields : Nat -> List Str
 nd : ∀ c, (fields c).Nodup
 few : ∀ c, (fields c).length <= 500
def KL (K : PySem.W.Frag) (a : Addr) (xs : List V) : Prop := ∃ (o : Obj) (its : Array Value) (n : Nat), K.lookup a = some o /\ o.cls = .type "list" /\ o.dict = none /\ o.data = .seq its n /\ its.size <= sizeLine /\ Vals xs its.toList
structure Ix where
 refs : List Addr
 priv : List Addr
def Ix.all (ι : Ix) : List Addr := ι.refs ++ ι.priv
mutual
inductive RV (T : Tb) (ι : Ix) (H : Hp) : AV -> V -> Prop
 | non : RV T ι H .non .non
 | bl (b : Bool) : RV T ι H (.bl b) (.bl b)
 | int (i : Int) : RV T ι H (.int i) (.int i)
 | str {x : Str} (n : x.length <= sizeLine) (o : x.cps.all (· < 0x110000) = true) : RV T ι H (.str x) (.str x)
 | tup {xs : List AV} {us : List V} {a : Addr} (n : a ∉ ι.all) (h : H a = some (.tup us)) (r : RVs T ι H xs us) : RV T ι H (.tup xs) (.ref a)
 | fl {xs : List AV} {us : List V} {a : Addr} (n : a ∉ ι.all) (h : Rd H a (.lst us)) (r : RVs T ι H xs us) : RV T ι H (.fl xs) (.ref a)
 | kfl {xs : List AV} {us : List V} {a : Addr} (h : KL T.K a us) (r : RVs T ι H xs us) : RV T ι H (.fl xs) (.ref a)
 | ref {k : Nat} {a : Addr} (h : ι.refs[k]? = some a) : RV T ι H (.ref k) (.ref a)
 | exc {c : Nat} {C a : Addr} (n : a ∉ ι.all) (h : T.exc c = some C) (q : H a = some (excO a (.ref C))) : RV T ι H (.exc c) (.ref a)
inductive RVs (T : Tb) (ι : Ix) (H : Hp) : List AV -> List V -> Prop
 | nil : RVs T ι H [] []
 | cons {x : AV} {u : V} {xs : List AV} {us : List V} (r : RV T ι H x u) (rs : RVs T ι H xs us) : RVs T ι H (x :: xs) (u :: us)
end
structure Grow (ι : Ix) (H : Hp) (ι' : Ix) (H' : Hp) : Prop where
 pre : ∃ n, ι'.refs = ι.refs ++ n /\ ∀ a ∈ n, H a = none
 priv : ι'.priv = ι.priv
 keep : ∀ a o, a ∉ ι.refs -> H a = some o -> H' a = some o
 live : ∀ a ∈ ι.all, H' a ≠ none
theorem zdM : ∀ {l : List Addr} {i j : Nat} {a : Addr}, l.Nodup -> l[i]? = some a -> l[j]? = some a -> i = j
 | [], _, _, _, _, e, _ => by simp at e
 | x :: l, 0, 0, _, _, _, _ => rfl
 | x :: l, 0, j + 1, a, n, e, f => by
  simp at e f; subst e
  exact absurd (List.mem_of_getElem? f) (List.nodup_cons.mp n).1
 | x :: l, i + 1, 0, a, n, e, f => by
  simp at e f; subst f
  exact absurd (List.mem_of_getElem? e) (List.nodup_cons.mp n).1
 | x :: l, i + 1, j + 1, a, n, e, f => by
  simp at e f
  rw [zdM (List.nodup_cons.mp n).2 e f]
theorem Ix.nr {ι : Ix} {a : Addr} (h : a ∉ ι.all) : a ∉ ι.refs := fun z => h (List.mem_append_left _ z)
theorem Ix.np {ι : Ix} {a : Addr} (h : a ∉ ι.all) : a ∉ ι.priv := fun z => h (List.mem_append_right _ z)
theorem Grow.refl {ι : Ix} {H : Hp} (l : ∀ a ∈ ι.all, H a ≠ none) : Grow ι H ι H := ⟨⟨[], by simp, by simp⟩, rfl, fun _ _ _ e => e, l⟩
theorem Grow.at {ι ι' : Ix} {H H' : Hp} (g : Grow ι H ι' H') {k : Nat} {a : Addr} (h : ι.refs[k]? = some a) : ι'.refs[k]? = some a := by
 obtain ⟨n, e, _⟩ := g.pre
 rw [e, List.getElem?_append_left (List.getElem?_eq_some_iff.mp h).1]
 exact h
theorem Grow.outR {ι ι' : Ix} {H H' : Hp} (g : Grow ι H ι' H') {a : Addr} {o : HO} (n : a ∉ ι.refs) (e : H a = some o) : a ∉ ι'.refs := fun z => by
 obtain ⟨m, e', hm⟩ := g.pre
 rw [e'] at z
 rcases List.mem_append.mp z with z | z
 ·exact n z
 ·rw [hm a z] at e; cases e
theorem Grow.out {ι ι' : Ix} {H H' : Hp} (g : Grow ι H ι' H') {a : Addr} {o : HO} (n : a ∉ ι.all) (e : H a = some o) : a ∉ ι'.all := fun z => by
 rcases List.mem_append.mp z with z | z
 ·exact g.outR (Ix.nr n) e z
 ·rw [g.priv] at z; exact Ix.np n z
theorem Grow.trans {ι ι' ι'' : Ix} {H H' H'' : Hp} (g : Grow ι H ι' H') (k : Grow ι' H' ι'' H'') : Grow ι H ι'' H'' := by
 obtain ⟨n, e1, hn⟩ := g.pre
 obtain ⟨m, e2, hm⟩ := k.pre
 refine ⟨⟨n ++ m, by rw [e2, e1]; simp, fun a ha => ?_⟩, k.priv.trans g.priv, fun a o na e => k.keep a o (g.outR na e) (g.keep a o na e), fun a ha => k.live a ?_⟩
 ·rcases List.mem_append.mp ha with z | z
  ·exact hn a z
  ·have q := hm a z
   by_cases hi : a ∈ ι.refs
   ·exact absurd q (g.live a (List.mem_append_left _ hi))
   ·cases e : H a with
    | none => rfl
    | some o => rw [g.keep a o hi e] at q; cases q
 ·rcases List.mem_append.mp ha with z | z
  ·exact List.mem_append_left _ (by rw [e1]; exact List.mem_append_left _ z)
  ·exact List.mem_append_right _ (by rw [g.priv]; exact z)
structure Ext (ι : Ix) (H : Hp) (ι' : Ix) (H' : Hp) : Prop where
 at_ : ∀ {k : Nat} {a : Addr}, ι.refs[k]? = some a -> ι'.refs[k]? = some a
 keep : ∀ a o, a ∉ ι.all -> H a = some o -> H' a = some o
 out : ∀ a o, a ∉ ι.all -> H a = some o -> a ∉ ι'.all
theorem Grow.ext {ι ι' : Ix} {H H' : Hp} (g : Grow ι H ι' H') : Ext ι H ι' H' := ⟨g.at, fun a o n e => g.keep a o (Ix.nr n) e, fun a o n e => g.out n e⟩
theorem Ext.trans {ι ι' ι'' : Ix} {H H' H'' : Hp} (g : Ext ι H ι' H') (k : Ext ι' H' ι'' H'') : Ext ι H ι'' H'' :=
 ⟨fun e => k.at_ (g.at_ e), fun a o n e => k.keep a o (g.out a o n e) (g.keep a o n e), fun a o n e => k.out a o (g.out a o n e) (g.keep a o n e)⟩
theorem zeC {ι ι' : Ix} {H H' : Hp} (g : Ext ι H ι' H') {a : Addr} {u : HO} (n : a ∉ ι.all) (r : Rd H a u) : Rd H' a u := by
 rcases r with r | ⟨o, r⟩
 ·exact .inl (g.keep a _ n r)
 ·exact .inr ⟨o, g.keep a _ n r⟩
theorem ygg {ι ι' : Ix} {H H' : Hp} (g : Ext ι H ι' H') {a : Addr} {u : HO} (n : a ∉ ι.all) (r : Rd H a u) : a ∉ ι'.all := by
 rcases r with r | ⟨o, r⟩
 ·exact g.out _ _ n r
 ·exact g.out _ _ n r
mutual
theorem RV.ext {T : Tb} {ι ι' : Ix} {H H' : Hp} (g : Ext ι H ι' H') : ∀ {x : AV} {u : V}, RV T ι H x u -> RV T ι' H' x u
 | _, _, .non => .non
 | _, _, .bl b => .bl b
 | _, _, .int i => .int i
 | _, _, .str n o => .str n o
 | _, _, .tup n h r => .tup (g.out _ _ n h) (g.keep _ _ n h) (RVs.ext g r)
 | _, _, .fl n h r => .fl (ygg g n h) (zeC g n h) (RVs.ext g r)
 | _, _, .kfl h r => .kfl h (RVs.ext g r)
 | _, _, .ref h => .ref (g.at_ h)
 | _, _, .exc n h q => .exc (g.out _ _ n q) h (g.keep _ _ n q)
theorem RVs.ext {T : Tb} {ι ι' : Ix} {H H' : Hp} (g : Ext ι H ι' H') : ∀ {xs : List AV} {us : List V}, RVs T ι H xs us -> RVs T ι' H' xs us
 | _, _, .nil => .nil
 | _, _, .cons r rs => .cons (RV.ext g r) (RVs.ext g rs)
end
theorem RV.mono {T : Tb} {ι ι' : Ix} {H H' : Hp} (g : Grow ι H ι' H') {x : AV} {u : V} (r : RV T ι H x u) : RV T ι' H' x u := r.ext g.ext
theorem RVs.mono {T : Tb} {ι ι' : Ix} {H H' : Hp} (g : Grow ι H ι' H') {xs : List AV} {us : List V} (r : RVs T ι H xs us) : RVs T ι' H' xs us := r.ext g.ext
section
variable {T : Tb} {ι : Ix} {H : Hp}
theorem RVs.length : ∀ {xs : List AV} {us : List V}, RVs T ι H xs us -> xs.length = us.length
 | _, _, .nil => rfl
 | _, _, .cons _ rs => by simp [RVs.length rs]
theorem RVs.get : ∀ {xs : List AV} {us : List V} {i : Nat} {x : AV}, RVs T ι H xs us -> xs[i]? = some x -> ∃ u, us[i]? = some u /\ RV T ι H x u
 | _, _, _, _, .nil, e => by simp at e
 | _, _, 0, _, .cons r _, e => by simp at e; subst e; exact ⟨_, rfl, r⟩
 | _, _, i + 1, x, .cons _ t, e => by
  obtain ⟨u, h1, h2⟩ := RVs.get (i := i) (x := x) t (by simpa using e)
  exact ⟨u, by simpa using h1, h2⟩
theorem RVs.append : ∀ {xs ys : List AV} {us ws : List V}, RVs T ι H xs us -> RVs T ι H ys ws -> RVs T ι H (xs ++ ys) (us ++ ws)
 | _, _, _, _, .nil, s => s
 | _, _, _, _, .cons r t, s => .cons r (RVs.append t s)
theorem RVs.set {x : AV} {u : V} (r : RV T ι H x u) : ∀ {xs : List AV} {us : List V} (i : Nat), RVs T ι H xs us -> RVs T ι H (xs.set i x) (us.set i u)
 | _, _, _, .nil => .nil
 | _, _, 0, .cons _ t => .cons r t
 | _, _, i + 1, .cons q t => .cons q (RVs.set r i t)
theorem RVs.take : ∀ {xs : List AV} {us : List V} (n : Nat), RVs T ι H xs us -> RVs T ι H (xs.take n) (us.take n)
 | _, _, 0, _ => by simpa using RVs.nil
 | _, _, _ + 1, .nil => .nil
 | _, _, n + 1, .cons r t => .cons r (RVs.take n t)
theorem RVs.drop : ∀ {xs : List AV} {us : List V} (n : Nat), RVs T ι H xs us -> RVs T ι H (xs.drop n) (us.drop n)
 | _, _, 0, r => r
 | _, _, _ + 1, .nil => .nil
 | _, _, n + 1, .cons _ t => RVs.drop n t
theorem RVs.reverse : ∀ {xs : List AV} {us : List V}, RVs T ι H xs us -> RVs T ι H xs.reverse us.reverse
 | _, _, .nil => .nil
 | _, _, .cons r t => by simpa using (RVs.reverse t).append (.cons r .nil)
end
def kA : Key -> AV
 | .inl i => .int i
 | .inr x => .str x
def OR (T : Tb) (ι : Ix) (H : Hp) : AO -> HO -> Prop
 | .lst xs, o => ∃ us, o = .lst us /\ RVs T ι H xs us
 | .dct false kvs, o => ∃ kus : List (Key × V), o = .dK kus /\ Paired (fun (p : AV × AV) (q : Key × V) => p.1 = kA q.1 /\ RV T ι H p.2 q.2) kvs kus
 | .dct true kvs, o => ∃ kus : List (List Key × V), o = .dT kus /\ Paired (fun (p : AV × AV) (q : List Key × V) => p.1 = .tup (q.1.map kA) /\ RV T ι H p.2 q.2) kvs kus
 | .ins c fs, o => ∃ C dx fus, T.cls c = some C /\ o = .ins C dx fus /\ (fus.map (·.1)).Nodup /\ (∀ p ∈ fus, p.1 ∈ T.fields c) /\ fs.length = (T.fields c).length /\
   ∀ (i : Nat) (v : AV), fs[i]? = some (some v) -> ∃ f u, (T.fields c)[i]? = some f /\ fus.lookup f = some u /\ RV T ι H v u
theorem OR.mono {T : Tb} {ι ι' : Ix} {H H' : Hp} (g : Grow ι H ι' H') {o : AO} {u : HO} (h : OR T ι H o u) : OR T ι' H' o u := by
 cases o with
 | lst xs => obtain ⟨us, e, r⟩ := h; exact ⟨us, e, r.mono g⟩
 | dct t kvs =>
  cases t with
  | false => obtain ⟨us, e, r⟩ := h; exact ⟨us, e, Paired.mapP r fun _ _ ⟨a, b⟩ => ⟨a, b.mono g⟩⟩
  | true => obtain ⟨us, e, r⟩ := h; exact ⟨us, e, Paired.mapP r fun _ _ ⟨a, b⟩ => ⟨a, b.mono g⟩⟩
 | ins c fs =>
  obtain ⟨C, dx, fus, a, b, n, w, l, r⟩ := h
  refine ⟨C, dx, fus, a, b, n, w, l, fun i v e => ?_⟩
  obtain ⟨f, u, e1, e2, q⟩ := r i v e
  exact ⟨f, u, e1, e2, q.mono g⟩
structure Sim (T : Tb) (ι : Ix) (h : AH) (H : Hp) : Prop where
 len : ι.refs.length = h.length
 nd : ι.refs.Nodup
 plive : ∀ a ∈ ι.priv, H a ≠ none
 obj : ∀ (i : Nat) (o : AO) (a : Addr), h[i]? = some o -> ι.refs[i]? = some a -> ∃ u, H a = some u /\ OR T ι H o u
section
variable {T : Tb} {ι : Ix} {h : AH} {H : Hp}
theorem Sim.live (S : Sim T ι h H) : ∀ a ∈ ι.all, H a ≠ none := fun a ha z => by
 rcases List.mem_append.mp ha with ha | ha
 ·obtain ⟨i, hi⟩ := List.mem_iff_getElem?.mp ha
  have hl : i < h.length := by rw [<- S.len]; exact (List.getElem?_eq_some_iff.mp hi).1
  obtain ⟨u, e, _⟩ := S.obj i h[i] a (by simp [hl]) hi
  rw [z] at e; cases e
 ·exact S.plive a ha z
theorem Sim.refl (S : Sim T ι h H) : Grow ι H ι H := .refl S.live
theorem Sim.fresh (S : Sim T ι h H) {p : Addr} (n : H p = none) : p ∉ ι.all := fun z => S.live p z n
theorem Sim.still (S : Sim T ι h H) {H' : Hp} (g : Grow ι H ι H') (k : ∀ a ∈ ι.refs, H' a = H a) : Sim T ι h H' :=
 ⟨S.len, S.nd, fun a ha => g.live a (List.mem_append_right _ ha), fun i o a e1 e2 => by
  obtain ⟨u, e, r⟩ := S.obj i o a e1 e2
  exact ⟨u, by rw [k a (List.mem_of_getElem? e2)]; exact e, r.mono g⟩⟩
theorem Sim.growNew (S : Sim T ι h H) {p : Addr} {o : HO} (n : H p = none) : Grow ι H ι (upd H p o) :=
 ⟨⟨[], by simp, by simp⟩, rfl, fun a u _ e => by rw [yar (zao e n)]; exact e, fun a ha => by
  rw [yar (show a ≠ p from fun z => S.fresh n (z ▸ ha))]; exact S.live a ha⟩
theorem Sim.new (S : Sim T ι h H) {p : Addr} {o : HO} (n : H p = none) : Sim T ι h (upd H p o) :=
 S.still (S.growNew n) fun a ha => yar fun z => S.fresh n (z ▸ List.mem_append_left _ ha)
def Ix.add (ι : Ix) (p : Addr) : Ix := ⟨ι.refs ++ [p], ι.priv⟩
theorem Sim.growAdd (S : Sim T ι h H) {p : Addr} {u : HO} (n : H p = none) : Grow ι H (ι.add p) (upd H p u) :=
 ⟨⟨[p], rfl, fun a ha => by have e : a = p := (by simpa using ha); rw [e]; exact n⟩, rfl, (S.growNew n).keep, (S.growNew n).live⟩
theorem Sim.add (S : Sim T ι h H) {p : Addr} {u : HO} {o : AO} (n : H p = none) (r : OR T (ι.add p) (upd H p u) o u) : Sim T (ι.add p) (h ++ [o]) (upd H p u) := by
 refine ⟨by simp [Ix.add, S.len], ?_, fun a ha => (S.growNew n).live a (List.mem_append_right _ ha), fun i o' a e1 e2 => ?_⟩
 ·show (ι.refs ++ [p]).Nodup
  rw [List.nodup_append]
  exact ⟨S.nd, by simp, fun a ha b hb z => by have e : b = p := (by simpa using hb); subst e; subst z; exact S.fresh n (List.mem_append_left _ ha)⟩
 ·replace e2 : (ι.refs ++ [p])[i]? = some a := e2
  by_cases hi : i < h.length
  ·rw [List.getElem?_append_left hi] at e1
   rw [List.getElem?_append_left (by rw [S.len]; exact hi)] at e2
   obtain ⟨v, e, q⟩ := S.obj i o' a e1 e2
   exact ⟨v, by rw [yar (zao e n)]; exact e, q.mono (S.growAdd n)⟩
  ·have e3 : i = h.length := by
    have := (List.getElem?_eq_some_iff.mp e1).1
    simp at this; omega
   subst e3
   rw [List.getElem?_append_right (Nat.le_refl _)] at e1
   rw [List.getElem?_append_right (by rw [S.len]; exact Nat.le_refl _), S.len] at e2
   simp at e1 e2
   subst e1 e2
   exact ⟨u, zam, r⟩
theorem Sim.addAt (S : Sim T ι h H) {p : Addr} : (ι.add p).refs[h.length]? = some p := by
 show (ι.refs ++ [p])[h.length]? = some p
 rw [<- S.len]; simp
theorem Sim.growSet (S : Sim T ι h H) {i : Nat} {a : Addr} {u : HO} (e : ι.refs[i]? = some a) : Grow ι H ι (upd H a u) :=
 ⟨⟨[], by simp, by simp⟩, rfl, fun b o nb q => by rw [yar (show b ≠ a from fun z => nb (by rw [z]; exact List.mem_of_getElem? e))]; exact q, fun b hb => by
  by_cases z : b = a
  ·subst z; rw [zam]; simp
  ·rw [yar z]; exact S.live b hb⟩
theorem Sim.set (S : Sim T ι h H) {i : Nat} {a : Addr} {u : HO} {o : AO} (e : ι.refs[i]? = some a) (r : OR T ι (upd H a u) o u) : Sim T ι (h.set i o) (upd H a u) := by
 refine ⟨by simp [S.len], S.nd, fun b hb => (S.growSet e).live b (List.mem_append_right _ hb), fun j o' b e1 e2 => ?_⟩
 by_cases hj : j = i
 ·subst hj
  rw [e] at e2; cases e2
  have hl : j < h.length := by rw [<- S.len]; exact (List.getElem?_eq_some_iff.mp e).1
  rw [List.getElem?_set_self hl] at e1; cases e1
  exact ⟨u, zam, r⟩
 ·rw [List.getElem?_set_ne (Ne.symm hj)] at e1
  obtain ⟨v, q, r'⟩ := S.obj j o' b e1 e2
  have ne : b ≠ a := fun z => hj (by
   subst z
   exact zdM S.nd e2 e)
  exact ⟨v, by rw [yar ne]; exact q, r'.mono (S.growSet e)⟩
end
def Ix.hide (ι : Ix) (D : Addr) : Ix := ⟨ι.refs, D :: ι.priv⟩
theorem Ix.hide_all {ι : Ix} {D a : Addr} : a ∉ (ι.hide D).all ↔ a ∉ ι.all /\ a ≠ D := by
 unfold Ix.all Ix.hide
 simp only [List.mem_append, List.mem_cons]
 constructor
 ·intro h; exact ⟨fun z => h (z.elim .inl fun z => .inr (.inr z)), fun z => h (.inr (.inl z))⟩
 ·rintro ⟨h1, h2⟩ (z | z | z)
  ·exact h1 (.inl z)
  ·exact h2 z
  ·exact h1 (.inr z)
section
variable {T : Tb} {ι : Ix} {H : Hp} {D : Addr}
theorem Ext.hide {o : HO} (hn : H D = none) : Ext ι H (ι.hide D) (upd H D o) := ⟨fun e => e, fun a u n e => by rw [yar (zao e hn)]; exact e, fun a u n e => Ix.hide_all.mpr ⟨n, zao e hn⟩⟩
theorem Ext.poke {o : HO} : Ext (ι.hide D) H (ι.hide D) (upd H D o) := ⟨fun e => e, fun a u n e => by rw [yar (Ix.hide_all.mp n).2]; exact e, fun a u n e => n⟩
theorem Ext.show : Ext (ι.hide D) H ι H := ⟨fun e => e, fun a u n e => e, fun a u n e => (Ix.hide_all.mp n).1⟩
theorem Ext.adopt : Ext (ι.hide D) H (ι.add D) H := ⟨fun {k a} e => by
 show (ι.refs ++ [D])[k]? = some a
 replace e : ι.refs[k]? = some a := e
 rw [List.getElem?_append_left (List.getElem?_eq_some_iff.mp e).1]; exact e, fun a u n e => e, fun a u n e z => by
 rcases List.mem_append.mp z with z | z
 ·replace z : a ∈ ι.refs ++ [D] := z
  rcases List.mem_append.mp z with z | z
  ·exact (Ix.hide_all.mp n).1 (List.mem_append_left _ z)
  ·exact (Ix.hide_all.mp n).2 (by simpa using z)
 ·exact (Ix.hide_all.mp n).1 (List.mem_append_right _ z)⟩
theorem OR.ext {ι ι' : Ix} {H H' : Hp} (g : Ext ι H ι' H') {o : AO} {u : HO} (h : OR T ι H o u) : OR T ι' H' o u := by
 cases o with
 | lst xs => obtain ⟨us, e, r⟩ := h; exact ⟨us, e, r.ext g⟩
 | dct t kvs =>
  cases t with
  | false => obtain ⟨us, e, r⟩ := h; exact ⟨us, e, Paired.mapP r fun _ _ ⟨a, b⟩ => ⟨a, b.ext g⟩⟩
  | true => obtain ⟨us, e, r⟩ := h; exact ⟨us, e, Paired.mapP r fun _ _ ⟨a, b⟩ => ⟨a, b.ext g⟩⟩
 | ins c fs =>
  obtain ⟨C, dx, fus, a, b, n, w, l, r⟩ := h
  refine ⟨C, dx, fus, a, b, n, w, l, fun i v e => ?_⟩
  obtain ⟨f, u, e1, e2, q⟩ := r i v e
  exact ⟨f, u, e1, e2, q.ext g⟩
theorem Sim.hide {h : AH} {o : HO} (S : Sim T ι h H) (hn : H D = none) : Sim T (ι.hide D) h (upd H D o) :=
 ⟨S.len, S.nd, fun a ha => by
  rcases List.mem_cons.mp ha with rfl | ha
  ·rw [zam]; simp
  ·rw [yar (show a ≠ D from fun z => S.plive a ha (z ▸ hn))]; exact S.plive a ha, fun i o' a e1 e2 => by
  obtain ⟨u, e, r⟩ := S.obj i o' a e1 e2
  exact ⟨u, by rw [yar (zao e hn)]; exact e, r.ext (Ext.hide hn)⟩⟩
theorem Sim.poke {h : AH} {o : HO} (S : Sim T (ι.hide D) h H) (hr : D ∉ ι.refs) : Sim T (ι.hide D) h (upd H D o) :=
 ⟨S.len, S.nd, fun a ha => by
  by_cases z : a = D
  ·subst z; rw [zam]; simp
  ·rw [yar z]; exact S.plive a ha, fun i o' a e1 e2 => by
  obtain ⟨u, e, r⟩ := S.obj i o' a e1 e2
  have ne : a ≠ D := fun z => hr (z ▸ List.mem_of_getElem? e2)
  exact ⟨u, by rw [yar ne]; exact e, r.ext Ext.poke⟩⟩
theorem Sim.show {h : AH} (S : Sim T (ι.hide D) h H) : Sim T ι h H :=
 ⟨S.len, S.nd, fun a ha => S.plive a (List.mem_cons_of_mem _ ha), fun i o' a e1 e2 => by
  obtain ⟨u, e, r⟩ := S.obj i o' a e1 e2
  exact ⟨u, e, r.ext Ext.show⟩⟩
theorem Sim.adopt {h : AH} {u : HO} {o : AO} (S : Sim T (ι.hide D) h H) (hr : D ∉ ι.refs) (e : H D = some u) (r : OR T (ι.add D) H o u) : Sim T (ι.add D) (h ++ [o]) H := by
 have hlen : ι.refs.length = h.length := S.len
 refine ⟨by simp [Ix.add, hlen], ?_, fun a ha => S.plive a (List.mem_cons_of_mem _ ha), fun i o' a e1 e2 => ?_⟩
 ·show (ι.refs ++ [D]).Nodup
  rw [List.nodup_append]
  exact ⟨S.nd, by simp, fun a ha b hb z => by have e : b = D := (by simpa using hb); subst e; subst z; exact hr ha⟩
 ·replace e2 : (ι.refs ++ [D])[i]? = some a := e2
  by_cases hi : i < h.length
  ·rw [List.getElem?_append_left hi] at e1
   rw [List.getElem?_append_left (by rw [hlen]; exact hi)] at e2
   obtain ⟨v, e, q⟩ := S.obj i o' a e1 e2
   exact ⟨v, e, q.ext Ext.adopt⟩
  ·have e3 : i = h.length := by
    have := (List.getElem?_eq_some_iff.mp e1).1
    simp at this; omega
   subst e3
   rw [List.getElem?_append_right (Nat.le_refl _)] at e1
   rw [List.getElem?_append_right (by rw [hlen]; exact Nat.le_refl _), hlen] at e2
   simp at e1 e2
   subst e1 e2
   exact ⟨u, e, r⟩
end
def ER (T : Tb) (ι : Ix) (H : Hp) (e : En) (σ : St) : Prop := e.length = σ.length /\ ∀ (i : Nat) (v : AV), e[i]? = some (some v) -> ∃ u, σ[i]? = some (some u) /\ RV T ι H v u
theorem ER.mono {T : Tb} {ι ι' : Ix} {H H' : Hp} {e : En} {σ : St} (r : ER T ι H e σ) (g : Grow ι H ι' H') : ER T ι' H' e σ :=
 ⟨r.1, fun i v q => let ⟨u, a, b⟩ := r.2 i v q; ⟨u, a, b.mono g⟩⟩
theorem ER.ext {T : Tb} {ι ι' : Ix} {H H' : Hp} {e : En} {σ : St} (r : ER T ι H e σ) (g : Ext ι H ι' H') : ER T ι' H' e σ :=
 ⟨r.1, fun i v q => let ⟨u, a, b⟩ := r.2 i v q; ⟨u, a, b.ext g⟩⟩
theorem ER.set {T : Tb} {ι : Ix} {H : Hp} {e : En} {σ : St} (r : ER T ι H e σ) {v : AV} {u : V} (q : RV T ι H v u) (i : Nat) : ER T ι H (e.set i (some v)) (σ.set i (some u)) := by
 refine ⟨by simp [r.1], fun j w z => ?_⟩
 by_cases hj : j = i
 ·subst hj
  by_cases hl : j < e.length
  ·rw [List.getElem?_set_self hl] at z; cases z
   exact ⟨u, by rw [List.getElem?_set_self (by rw [<- r.1]; exact hl)], q⟩
  ·rw [List.getElem?_eq_none (by simpa using hl)] at z; cases z
 ·rw [List.getElem?_set_ne (Ne.symm hj)] at z ⊢
  exact r.2 j w z
def Post {α β : Type} (T : Tb) (ι : Ix) (H : Hp) (E : XK) (R : Ix -> Hp -> α -> β -> Prop) (o : Out α) (Q : β -> Hp -> Prop) : Prop :=
 match o with
 | .ok v h' => ∀ ι' H' u, Grow ι H ι' H' -> Sim T ι' h' H' -> R ι' H' v u -> Q u H'
 | .ex c h' => ∀ ι' H' C, Grow ι H ι' H' -> Sim T ι' h' H' -> T.exc c = some C -> E (.ref C) none H'
 | .bad => False
def PostS (T : Tb) (ι : Ix) (H : Hp) (E : St -> XK) (o : OutS) (D : Ends) : Prop :=
 match o with
 | .nx e h' => ∀ ι' H' σ', Grow ι H ι' H' -> Sim T ι' h' H' -> ER T ι' H' e σ' -> D.nx σ' H'
 | .bk e h' => ∀ ι' H' σ', Grow ι H ι' H' -> Sim T ι' h' H' -> ER T ι' H' e σ' -> D.bk σ' H'
 | .ct e h' => ∀ ι' H' σ', Grow ι H ι' H' -> Sim T ι' h' H' -> ER T ι' H' e σ' -> D.ct σ' H'
 | .rt v h' => ∀ ι' H' u, Grow ι H ι' H' -> Sim T ι' h' H' -> RV T ι' H' v u -> D.rt u H'
 | .ex c e h' => ∀ ι' H' σ' C, Grow ι H ι' H' -> Sim T ι' h' H' -> ER T ι' H' e σ' -> T.exc c = some C -> E σ' (.ref C) none H'
 | .bad => False
abbrev REq {α : Type} : Ix -> Hp -> α -> α -> Prop := fun _ _ a b => a = b
section
variable {T : Tb} {ι ι' : Ix} {h : AH} {H H' : Hp} {α β γ δ : Type} {E : XK} {R : Ix -> Hp -> α -> β -> Prop} {R' : Ix -> Hp -> γ -> δ -> Prop}
theorem Post.shift {o : Out α} {Q : β -> Hp -> Prop} (p : Post T ι H E R o Q) (g : Grow ι H ι' H') : Post T ι' H' E R o Q := by
 cases o with
 | ok v h' => exact fun i2 H2 u g2 => p i2 H2 u (g.trans g2)
 | ex c h' => exact fun i2 H2 C g2 => p i2 H2 C (g.trans g2)
 | bad => exact p
theorem Post.bind {o : Out α} {f : α -> AH -> Out γ} {Q : δ -> Hp -> Prop} {Q1 : β -> Hp -> Prop} (p : Post T ι H E R' (o.bind f) Q)
  (k : ∀ v h' ι' H' u, Grow ι H ι' H' -> Sim T ι' h' H' -> R ι' H' v u -> Post T ι' H' E R' (f v h') Q -> Q1 u H') : Post T ι H E R o Q1 := by
 cases o with
 | ok v h' => exact fun i2 H2 u g S r => k v h' i2 H2 u g S r (Post.shift p g)
 | ex c h' => exact p
 | bad => exact p
theorem Post.now {v : α} {u : β} {Q : β -> Hp -> Prop} (p : Post T ι H E R (.ok v h) Q) (S : Sim T ι h H) (r : R ι H v u) : Q u H := p ι H u S.refl S r
theorem PostS.shift {E : St -> XK} {o : OutS} {D : Ends} (p : PostS T ι H E o D) (g : Grow ι H ι' H') : PostS T ι' H' E o D := by
 cases o with
 | nx e h' => exact fun i2 H2 u g2 => p i2 H2 u (g.trans g2)
 | bk e h' => exact fun i2 H2 u g2 => p i2 H2 u (g.trans g2)
 | ct e h' => exact fun i2 H2 u g2 => p i2 H2 u (g.trans g2)
 | rt v h' => exact fun i2 H2 u g2 => p i2 H2 u (g.trans g2)
 | ex c e h' => exact fun i2 H2 u C g2 => p i2 H2 u C (g.trans g2)
 | bad => exact p
theorem PostS.go {E : St -> XK} {o : Out α} {en : En} {σ : St} {f : α -> AH -> OutS} {D : Ends} {Q1 : β -> Hp -> Prop} (p : PostS T ι H E (o.go en f) D) (er : ER T ι H en σ)
  (k : ∀ v h' ι' H' u, Grow ι H ι' H' -> Sim T ι' h' H' -> R ι' H' v u -> PostS T ι' H' E (f v h') D -> Q1 u H') : Post T ι H (E σ) R o Q1 := by
 cases o with
 | ok v h' => exact fun i2 H2 u g S r => k v h' i2 H2 u g S r (PostS.shift p g)
 | ex c h' => exact fun i2 H2 C g S e => p i2 H2 σ C g S (er.mono g) e
 | bad => exact p
end
def tE (T : Tb) (E : St -> XK) (a : SE) : TE := fun σ H Q => ∃ ι h en, Sim T ι h H /\ ER T ι H en σ /\ Post T ι H (E σ) (RV T) (a en h) Q
def tT (T : Tb) (E : St -> XK) (a : SB) : TT := fun σ H Q => ∃ ι h en, Sim T ι h H /\ ER T ι H en σ /\ Post T ι H (E σ) REq (a en h) Q
def tA (T : Tb) (E : St -> XK) (a : SL) : TA := fun σ H Q => ∃ ι h en, Sim T ι h H /\ ER T ι H en σ /\ Post T ι H (E σ) (RVs T) (a en h) Q
def tS (T : Tb) (E : St -> XK) (b : SS) : TS := fun D σ H => ∃ ι h en, Sim T ι h H /\ ER T ι H en σ /\ PostS T ι H E (b en h) D
abbrev PEA (T : Tb) (E : St -> XK) (X : Cx) (e : Expr) (a : SE) : Prop := PE X e (tE T E a)
abbrev PTA (T : Tb) (E : St -> XK) (X : Cx) (e : Expr) (a : SB) : Prop := PT X e (tT T E a)
abbrev PWA (T : Tb) (E : St -> XK) (X : Cx) (e : Expr) (a : SB) : Prop := PW X e (tT T E a)
abbrev PAA (T : Tb) (E : St -> XK) (X : Cx) (es : List Expr) (a : SL) : Prop := PA X es (tA T E a)
abbrev PSA (T : Tb) (E : St -> XK) (X : Cx) (st : Stmt) (b : SS) : Prop := PS X st (tS T E b)
abbrev PSsA (T : Tb) (E : St -> XK) (X : Cx) (sts : List Stmt) (b : SS) : Prop := PSs X sts (tS T E b)
theorem yaJ {X : Cx} {e : Expr} {t t' : TE} (h : PE X e t) (k : ∀ σ H Q, t' σ H Q -> t σ H Q) : PE X e t' := fun pins s σ H Q I q => h pins s σ H Q I (k σ H Q q)
theorem ydZ {X : Cx} {e : Expr} {t t' : TT} (h : PT X e t) (k : ∀ σ H Q, t' σ H Q -> t σ H Q) : PT X e t' := fun pins s σ H Q I q => h pins s σ H Q I (k σ H Q q)
theorem yeY {X : Cx} {e : Expr} {t t' : TT} (h : PW X e t) (k : ∀ σ H Q, t' σ H Q -> t σ H Q) : PW X e t' := fun w pins s σ H Q I q => h w pins s σ H Q I (k σ H Q q)
theorem yeZ {X : Cx} {e : List Expr} {t t' : TA} (h : PA X e t) (k : ∀ σ H Q, t' σ H Q -> t σ H Q) : PA X e t' := fun p pins s σ H Q I q => h p pins s σ H Q I (k σ H Q q)
theorem ybS {X : Cx} {e : Stmt} {t t' : TS} (h : PS X e t) (k : ∀ D σ H, t' D σ H -> t D σ H) : PS X e t' := fun pins s σ H D I q => h pins s σ H D I (k D σ H q)
theorem zeD {X : Cx} {e : List Stmt} {t t' : TS} (h : PSs X e t) (k : ∀ D σ H, t' D σ H -> t D σ H) : PSs X e t' := fun pins s σ H D I q => h pins s σ H D I (k D σ H q)
theorem ye0 {X : Cx} {st : Stmt} {t : TS} (h : PS X.nox st t) : PS X st t := fun pins s σ H D I hw => by
 refine wpAny_mono (h pins s σ H D (I.wish _) hw) (fun f s' q => SP.unwish q) fun _ _ z => z.elim
end Sm
namespace Sm
open PySem L2
instance : DecidableEq AV := fun _ _ => Classical.propDecidable _
@[simp] def sVar (i : Nat) : SE := fun en h => match en[i]? with
 | some (some v) => .ok v h
 | _ => .bad
@[simp] def sLit (v : AV) : SE := fun _ h => .ok v h
abbrev F1 := AV -> AH -> Out AV
abbrev F2 := AV -> AV -> AH -> Out AV
@[simp] def sOp1 (f : F1) (a : SE) : SE := fun en h => (a en h).bind f
@[simp] def sOp2 (f : F2) (a b : SE) : SE := fun en h => (a en h).bind fun x h1 => (b en h1).bind fun y h2 => f x y h2
@[simp] def sNil : SL := fun _ h => .ok [] h
@[simp] def sCons (a : SE) (r : SL) : SL := fun en h => (a en h).bind fun x h1 => (r en h1).bind fun xs h2 => .ok (x :: xs) h2
@[simp] def yae (F : Fn) (as : SL) : SE := fun en h => (as en h).bind F
@[simp] def sTup (as : SL) : SE := fun en h => (as en h).bind fun xs h1 => if xs.length <= 1000 then .ok (.tup xs) h1 else .bad
@[simp] def sLst (as : SL) : SE := fun en h => (as en h).bind fun xs h1 => if xs.length <= 1000 then .ok (.fl xs) h1 else .bad
@[simp] def ybz (as : SL) : SE := fun en h => (as en h).bind fun xs h1 => if xs.length <= 1000 then .ok (.ref h1.length) (h1 ++ [.lst xs]) else .bad
@[simp] def ydL (t : Bool) : SE := fun _ h => .ok (.ref h.length) (h ++ [.dct t []])
@[simp] def yhA (v : AV) (h : AH) : Option (List AV) := match v with
 | .tup xs => some xs
 | .fl xs => some xs
 | .ref n => match h[n]? with
  | some (.lst xs) => some xs
  | _ => none
 | _ => none
@[simp] def ycx (v : AV) (h : AH) : Option (List AV) := match v with
 | .fl xs => some xs
 | .ref n => match h[n]? with
  | some (.lst xs) => some xs
  | _ => none
 | _ => none
@[simp] def fAdd : F2 := fun x y h => match x, y with
 | .int i, .int j => .ok (.int (i + j)) h
 | .str i, .str j => if i.length + j.length <= sizeLine then .ok (.str (i ++ j)) h else .bad
 | .tup xs, .tup ys => if xs ≠ [] /\ xs.length + ys.length <= sizeLine then .ok (.tup (xs ++ ys)) h else .bad
 | x, y => match ycx x h, ycx y h with
  | some xs, some ys => if xs.length + ys.length <= sizeLine then .ok (.fl (xs ++ ys)) h else .bad
  | _, _ => .bad
@[simp] def fSub : F2 := fun x y h => match x, y with
 | .int i, .int j => .ok (.int (i - j)) h
 | _, _ => .bad
@[simp] def fMul : F2 := fun x y h => match x, y with
 | .int i, .int j => if (i.natAbs < 2 ^ 64 \/ j.natAbs < 2 ^ 64) \/ (i.natAbs < 2 ^ 4000 /\ j.natAbs < 2 ^ 4000) then .ok (.int (i * j)) h else .bad
 | _, _ => .bad
@[simp] def fDiv : F2 := fun x y h => match x, y with
 | .int i, .int j => if 0 < j /\ j.natAbs < 2 ^ 200 then .ok (.int (i / j)) h else .bad
 | _, _ => .bad
@[simp] def fMod : F2 := fun x y h => match x, y with
 | .int i, .int j => if 0 < j then .ok (.int (i % j)) h else .bad
 | _, _ => .bad
@[simp] def fPow : F2 := fun x y h => match x, y with
 | .int i, .int j => if 0 <= j /\ j <= 1000000 /\ i.natAbs < 2 ^ 64 then .ok (.int (i ^ j.toNat)) h else .bad
 | _, _ => .bad
@[simp] def fNeg : F1 := fun x h => match x with
 | .int i => .ok (.int (-i)) h
 | _ => .bad
def toDs (f : AV -> Option PyData) : List AV -> Option (List PyData)
 | [] => some []
 | x :: xs => match f x, toDs f xs with
  | some d, some ds => some (d :: ds)
  | _, _ => none
def toD : Nat -> AH -> AV -> Option PyData
 | 0, _, v => match v with
  | .non => some .none
  | .bl b => some (.bool b)
  | .int i => some (.int i)
  | .str x => some (.str x)
  | _ => none
 | n + 1, h, v => match v with
  | .non => some .none
  | .bl b => some (.bool b)
  | .int i => some (.int i)
  | .str x => some (.str x)
  | .tup xs => (toDs (toD n h) xs).map .tuple
  | .fl xs => (toDs (toD n h) xs).map .list
  | .ref k => match h[k]? with
   | some (.lst xs) => (toDs (toD n h) xs).map .list
   | _ => none
  | .exc _ => none
@[simp] def eqA (x y : AV) (h : AH) : Option Bool := match x, y with
 | .int i, .int j => some (decide (i = j))
 | .str i, .str j => some (decide (i = j))
 | .bl i, .bl j => some (decide (i = j))
 | .non, .non => some true
 | x, y => match toD 8 h x, toD 8 h y with
  | some d, some e => some (PyData.eqv d e)
  | _, _ => none
@[simp] def fEq : F2 := fun x y h => match eqA x y h with
 | some b => .ok (.bl b) h
 | none => .bad
@[simp] def fNe : F2 := fun x y h => match eqA x y h with
 | some b => .ok (.bl (!b)) h
 | none => .bad
@[simp] def fLt : F2 := fun x y h => match x, y with
 | .int i, .int j => .ok (.bl (decide (i < j))) h
 | .str i, .str j => .ok (.bl (decide (i.cps.toList < j.cps.toList))) h
 | _, _ => .bad
@[simp] def fLe : F2 := fun x y h => match x, y with
 | .int i, .int j => .ok (.bl (decide (i <= j))) h
 | .str i, .str j => .ok (.bl (!decide (j.cps.toList < i.cps.toList))) h
 | _, _ => .bad
@[simp] def fGt : F2 := fun x y h => match x, y with
 | .int i, .int j => .ok (.bl (decide (j < i))) h
 | _, _ => .bad
@[simp] def fGe : F2 := fun x y h => match x, y with
 | .int i, .int j => .ok (.bl (decide (j <= i))) h
 | _, _ => .bad
@[simp] def truA (v : AV) (h : AH) : Option Bool := match v with
 | .non => some false
 | .bl b => some b
 | .int i => some (i != 0)
 | .str y => some ((y.length : Int) != 0)
 | .tup xs => some (!xs.isEmpty)
 | .fl xs => some (!xs.isEmpty)
 | .ref n => match h[n]? with
  | some (.lst xs) => some (!xs.isEmpty)
  | some (.dct false kvs) => some (!kvs.isEmpty)
  | _ => none
 | _ => none
@[simp] def ybG (a : SE) : SB := fun en h => (a en h).bind fun v h1 => match truA v h1 with
 | some b => .ok b h1
 | none => .bad
@[simp] def yap (a : SE) : SB := fun en h => (a en h).bind fun v h1 => match v with
 | .bl b => .ok b h1
 | _ => .bad
@[simp] def sAnd (a b : SB) : SB := fun en h => (a en h).bind fun x h1 => if x = true then b en h1 else .ok false h1
@[simp] def sOr (a b : SB) : SB := fun en h => (a en h).bind fun x h1 => if x = true then .ok true h1 else b en h1
@[simp] def sNot (a : SB) : SB := fun en h => (a en h).bind fun x h1 => .ok (!x) h1
@[simp] def ydM (a b : SE) : SE := fun en h => (a en h).bind fun v h1 => match v with
 | .bl k => if k = true then b en h1 else .ok (.bl false) h1
 | _ => .bad
@[simp] def sOrV (a b : SE) : SE := fun en h => (a en h).bind fun v h1 => match v with
 | .bl k => if k = true then .ok (.bl true) h1 else b en h1
 | _ => .bad
@[simp] def yfr (a : SE) : SE := fun en h => (a en h).bind fun v h1 => match v with
 | .bl b => .ok (.bl (!b)) h1
 | _ => .bad
@[simp] def ybD (f f' : F2) (a b c : SE) : SE := fun en h => (a en h).bind fun x h1 => (b en h1).bind fun y h2 => (f x y h2).bind fun z h3 => match z with
 | .bl k => if k = true then (c en h3).bind fun w h4 => f' y w h4 else .ok (.bl false) h3
 | _ => .bad
@[simp] def yaz : SS := fun en h => .nx en h
@[simp] def sSeq (a b : SS) : SS := fun en h => match a en h with
 | .nx e h' => b e h'
 | o => o
@[simp] def yaN (a : SE) : SS := fun en h => (a en h).go en fun _ h' => .nx en h'
@[simp] def sRet (a : SE) : SS := fun en h => (a en h).go en fun v h' => .rt v h'
@[simp] def sIf (c : SB) (a b : SS) : SS := fun en h => (c en h).go en fun x h' => if x = true then a en h' else b en h'
@[simp] def sSet (i : Nat) (a : SE) : SS := fun en h => (a en h).go en fun v h' => .nx (en.set i (some v)) h'
def ybJ (c : SB) (b : SS) : Nat -> SS
 | 0 => fun _ _ => .bad
 | n + 1 => fun en h => match c en h with
  | .ok true h1 => (match b en h1 with
   | .nx e2 h2 => ybJ c b n e2 h2
   | .ct e2 h2 => ybJ c b n e2 h2
   | .bk e2 h2 => .nx e2 h2
   | .rt v h2 => .rt v h2
   | _ => .bad)
  | .ok false h1 => .nx en h1
  | _ => .bad
abbrev SI := En -> AH -> Out (List AV × Option Nat)
@[simp] def ybx (w : Option Nat) (xs : List AV) (h : AH) : Bool := match w with
 | none => true
 | some n => match h[n]? with
  | some (.lst ys) => decide (ys = xs)
  | _ => false
inductive Tg where
 | nm (i : Nat)
 | tup (is : List Nat)
 | nst (i : Nat) (is : List Nat)
@[simp] def yd0 : List Nat -> List AV -> En -> Option En
 | [], [], en => some en
 | i :: is, x :: xs, en => yd0 is xs (en.set i (some x))
 | _, _, _ => none
@[simp] def setT (t : Tg) (v : AV) (en : En) : Option En := match t, v with
 | .nm i, v => some (en.set i (some v))
 | .tup is, .tup xs => yd0 is xs en
 | .nst i is, .tup [y, .tup xs] => yd0 is xs (en.set i (some y))
 | _, _ => none
def ybf (w : Option Nat) (all : List AV) (t : Tg) (b : SS) : List AV -> SS
 | [] => fun en h => if ybx w all h = true then .nx en h else .bad
 | x :: xs => fun en h => if ybx w all h = true then
   (match setT t x en with
   | some e1 => (match b e1 h with
    | .nx e2 h2 => ybf w all t b xs e2 h2
    | .ct e2 h2 => ybf w all t b xs e2 h2
    | .bk e2 h2 => .nx e2 h2
    | .rt v h2 => .rt v h2
    | _ => .bad)
   | none => .bad) else .bad
@[simp] def sFor (it : SI) (t : Tg) (b : SS) : SS := fun en h => match it en h with
 | .ok (xs, w) h1 => ybf w xs t b xs en h1
 | _ => .bad
@[simp] def ydN (t : Tg) (a : SE) : SS := fun en h => (a en h).go en fun v h' => match setT t v en with
 | some e => .nx e h'
 | none => .bad
@[simp] def iVal (a : SE) : SI := fun en h => (a en h).bind fun v h1 => match v with
 | .fl xs => .ok (xs, none) h1
 | .tup xs => .ok (xs, none) h1
 | .str z => .ok (z.cps.toList.map (fun c => .str ⟨#[c]⟩), none) h1
 | .ref n => match h1[n]? with
  | some (.lst xs) => .ok (xs, some n) h1
  | _ => .bad
 | _ => .bad
@[simp] def ybw (a : SE) : SI := fun en h => (a en h).bind fun v h1 => match v with
 | .fl xs => .ok (xs, none) h1
 | .tup xs => .ok (xs, none) h1
 | .ref n => match h1[n]? with
  | some (.lst xs) => .ok (xs, some n) h1
  | _ => .bad
 | _ => .bad
def yaO (lo : Int) : Nat -> List AV
 | 0 => []
 | n + 1 => .int lo :: yaO (lo + 1) n
@[simp] def yaZ (a : SE) : SI := fun en h => (a en h).bind fun v h1 => match v with
 | .int j => if j.natAbs < 2 ^ 62 then .ok (yaO 0 j.toNat, none) h1 else .bad
 | _ => .bad
def numbered (k : Nat) : List AV -> List AV
 | [] => []
 | x :: xs => .tup [.int k, x] :: numbered (k + 1) xs
@[simp] def iEnum (a : SE) : SI := fun en h => (a en h).bind fun v h1 => match v with
 | .fl xs => .ok (numbered 0 xs, none) h1
 | _ => .bad
def yaB (js : List Nat) (en : En) (w : Option Nat) (all : List AV) (c : SB) (e : SE) : List AV -> List AV -> AH -> Out (List AV)
 | [], ys, h => if ybx w all h = true then .ok ys h else .bad
 | x :: xs, ys, h => if ybx w all h = true /\ ys.length < sizeLine then
   (match c (some x :: js.map fun j => (en[j]?).join) h with
   | .ok true h1 => (match e (some x :: js.map fun j => (en[j]?).join) h1 with
    | .ok v h2 => yaB js en w all c e xs (ys ++ [v]) h2
    | _ => .bad)
   | .ok false h1 => yaB js en w all c e xs ys h1
   | _ => .bad) else .bad
@[simp] def sYes : SB := fun _ h => .ok true h
@[simp] def yaY (js : List Nat) (it : SI) (c : SB) (e : SE) : SE := fun en h => match it en h with
 | .ok (xs, w) h1 => (match yaB js en w xs c e xs [] h1 with
  | .ok ys h2 => .ok (.fl ys) h2
  | _ => .bad)
 | _ => .bad
@[simp] def ycU (js : List Nat) (it : SI) (c : SB) (e : SE) : SE := fun en h => match it en h with
 | .ok (xs, w) h1 => (match yaB js en w xs c e xs [] h1 with
  | .ok ys h2 => .ok (.ref h2.length) (h2 ++ [.lst ys])
  | _ => .bad)
 | _ => .bad
@[simp] def mkFn (n m : Nat) (b : SS) : Fn := fun args h =>
 if args.length = n then
  match b (args.map some ++ List.replicate (m - n) none) h with
  | .nx _ h' => .ok .non h'
  | .rt v h' => .ok v h'
  | .ex c _ h' => .ex c h'
  | _ => .bad
 else .bad
@[simp] def yai (c : Nat) (F : Fn) (o : SE) (as : SL) : SE := fun en h => (o en h).bind fun x h1 => match x with
 | .ref n => match h1[n]? with
  | some (.ins c' _) => if c' = c then (as en h1).bind fun xs h2 => F (x :: xs) h2 else .bad
  | _ => .bad
 | _ => .bad
@[simp] def yeg (c k : Nat) (F : Fn) (as : SL) : SE := fun en h => (as en h).bind fun xs h1 => match F (.ref h1.length :: xs) (h1 ++ [.ins c (List.replicate k none)]) with
 | .ok .non h2 => .ok (.ref h1.length) h2
 | .ex c h2 => .ex c h2
 | _ => .bad
@[simp] def sFld (c i : Nat) (o : SE) : SE := fun en h => (o en h).bind fun x h1 => match x with
 | .ref n => match h1[n]? with
  | some (.ins c' fs) => if c' = c then (match fs[i]? with | some (some v) => .ok v h1 | _ => .bad) else .bad
  | _ => .bad
 | _ => .bad
@[simp] def yb0 (c i : Nat) (o v : SE) : SS := fun en h => (v en h).go en fun y h1 => (o en h1).go en fun x h2 => match x with
 | .ref n => match h2[n]? with
  | some (.ins c' fs) => if c' = c then .nx en (h2.set n (.ins c (fs.set i (some y)))) else .bad
  | _ => .bad
 | _ => .bad
@[simp] def ycg (c : Nat) (as : SL) : SS := fun en h => (as en h).go en fun xs h1 => if xs.length <= 1000 then .ex c en h1 else .bad
@[simp] def keyOf? (v : AV) : Option Key := match v with
 | .int i => some (.inl i)
 | .str x => some (.inr x)
 | _ => none
@[simp] def keysOf? : List AV -> Option (List Key)
 | [] => some []
 | v :: r => match keyOf? v, keysOf? r with
  | some k, some ks => some (k :: ks)
  | _, _ => none
@[simp] def ybA (t : Bool) (v : AV) : Bool := match t, v with
 | false, v => (keyOf? v).isSome
 | true, .tup xs => (keysOf? xs).isSome
 | true, _ => false
def valA (kvs : List (AV × AV)) (k : AV) : Option AV := (kvs.find? fun p => decide (p.1 = k)).map (·.2)
def putA (kvs : List (AV × AV)) (k v : AV) : List (AV × AV) :=
 if kvs.any (fun p => decide (p.1 = k)) then kvs.map fun p => if p.1 = k then (p.1, v) else p else kvs ++ [(k, v)]
@[simp] def fIx : F2 := fun x y h => match x, y with
 | .str z, .int i => match atI z.cps.toList i with
  | some c => .ok (.str ⟨#[c]⟩) h
  | none => .bad
 | .tup xs, .int i => match atI xs i with
  | some v => .ok v h
  | none => .bad
 | .fl xs, .int i => match atI xs i with
  | some v => .ok v h
  | none => .bad
 | .ref n, y => match h[n]? with
  | some (.lst xs) => match y with
   | .int i => match atI xs i with
    | some v => .ok v h
    | none => .bad
   | _ => .bad
  | some (.dct t kvs) => if ybA t y then (match valA kvs y with | some v => .ok v h | none => .bad) else .bad
  | _ => .bad
 | _, _ => .bad
@[simp] def ybm (o i v : SE) : SS := fun en h => (v en h).go en fun z h1 => (o en h1).go en fun x h2 => (i en h2).go en fun y h3 => match x with
 | .ref n => match h3[n]? with
  | some (.lst xs) => match y with
   | .int k => match ixN xs.length k with
    | some j => .nx en (h3.set n (.lst (xs.set j z)))
    | none => .bad
   | _ => .bad
  | some (.dct t kvs) => if ybA t y = true /\ kvs.length < sizeLine then .nx en (h3.set n (.dct t (putA kvs y z))) else .bad
  | _ => .bad
 | _ => .bad
@[simp] def inA (x y : AV) (h : AH) : Option Bool := match x, y with
 | .str i, .str j => some (!(Builtin.Str.occurrences j i 0 j.length 1).isEmpty)
 | x, .ref n => match h[n]? with
  | some (.dct t kvs) => if ybA t x then some (valA kvs x).isSome else none
  | some (.lst xs) => match toD 8 h x, toDs (toD 8 h) xs with
   | some d, some ds => some (ds.any fun e => PyData.eqv e d)
   | _, _ => none
  | _ => none
 | x, .fl xs => match toD 8 h x, toDs (toD 8 h) xs with
  | some d, some ds => some (ds.any fun e => PyData.eqv e d)
  | _, _ => none
 | x, .tup xs => match toD 8 h x, toDs (toD 8 h) xs with
  | some d, some ds => some (ds.any fun e => PyData.eqv e d)
  | _, _ => none
 | _, _ => none
@[simp] def fIn : F2 := fun x y h => match inA x y h with
 | some b => .ok (.bl b) h
 | none => .bad
@[simp] def yb5 : F2 := fun x y h => match inA x y h with
 | some b => .ok (.bl (!b)) h
 | none => .bad
@[simp] def fLen : Fn := fun args h => match args with
 | [.str x] => .ok (.int x.length) h
 | [.tup xs] => .ok (.int xs.length) h
 | [.fl xs] => .ok (.int xs.length) h
 | [.ref n] => match h[n]? with
  | some (.lst xs) => .ok (.int xs.length) h
  | some (.dct false kvs) => .ok (.int kvs.length) h
  | _ => .bad
 | _ => .bad
@[simp] def fAbs : Fn := fun args h => match args with
 | [.int i] => .ok (.int (if i < 0 then -i else i)) h
 | _ => .bad
@[simp] def ybo : Fn := fun args h => match args with
 | [.int i, .int j] => .ok (.int (if j > i then j else i)) h
 | _ => .bad
@[simp] def ycr : List AV -> Option (List Bool)
 | [] => some []
 | .bl b :: r => (ycr r).map (b :: ·)
 | _ :: _ => none
@[simp] def fAll : Fn := fun args h => match args with
 | [.fl xs] => match ycr xs with
  | some bs => .ok (.bl (bs.all id)) h
  | none => .bad
 | _ => .bad
@[simp] def tyN (v : AV) (h : AH) : Option String := match v with
 | .non => some "NoneType"
 | .bl _ => some "bool"
 | .int _ => some "int"
 | .str _ => some "str"
 | .tup _ => some "tuple"
 | .fl _ => some "list"
 | .ref n => match h[n]? with
  | some (.lst _) => some "list"
  | some (.dct _ _) => some "dict"
  | _ => none
 | .exc _ => none
@[simp] def sIsB (t : String) (a : SE) : SE := fun en h => (a en h).bind fun v h1 => match tyN v h1 with
 | some n => .ok (.bl (n == t || (t == "int" && n == "bool"))) h1
 | none => .bad
abbrev FM := AV -> List AV -> AH -> Out AV
@[simp] def ya6 (v : AV) (h : AH) : Bool := (ycx v h).isSome
@[simp] def yb1 (v : AV) (_ : AH) : Bool := match v with
 | .str _ => true
 | _ => false
@[simp] def sBM (chk : AV -> AH -> Bool) (f : FM) (o : SE) (as : SL) : SE := fun en h => (o en h).bind fun x h1 => if chk x h1 = true then (as en h1).bind fun xs h2 => f x xs h2 else .bad
@[simp] def sBM0 (chk : AV -> AH -> Bool) (f : FM) (o : SE) : SE := fun en h => (o en h).bind fun x h1 => if chk x h1 = true then f x [] h1 else .bad
@[simp] def ybc : FM := fun x vs h => match x, vs with
 | .ref n, [y] => match h[n]? with
  | some (.lst xs) => if xs.length < sizeLine then .ok .non (h.set n (.lst (xs ++ [y]))) else .bad
  | _ => .bad
 | _, _ => .bad
@[simp] def ybi : FM := fun x vs h => match x, vs with
 | .str z, [.str y] => .ok (.int ((Builtin.Str.occurrences z y 0 z.length (z.length + 1)).length : Nat)) h
 | _, _ => .bad
@[simp] def ye1 : List AV -> Option (List Str)
 | [] => some []
 | .str x :: r => (ye1 r).map (x :: ·)
 | _ :: _ => none
def cutA {α : Type} (xs : List α) (lo hi : Option Int) : List α := (xs.drop (HT.sIx xs.length 0 lo)).take (HT.sIx xs.length xs.length hi - HT.sIx xs.length 0 lo)
end Sm
namespace Sm
open PySem L2
structure CA (T : Tb) (E : St -> XK) (X : Cx) : Prop where
 hK : X.K = T.K
 pass : ydf (CXE X.prog X.w) X E
abbrev EN : St -> XK := fun _ => E0
theorem CA.nox {T : Tb} {E : St -> XK} {X : Cx} (c : CA T E X) : CA T EN X.nox := ⟨c.hK, fun _ _ _ _ _ _ _ h => by
 obtain ⟨_, _, _, _, _, _, _, _, _, _, _, _, _, _, q⟩ := h
 exact q.elim⟩
theorem CA.never {T : Tb} {X : Cx} (hK : X.K = T.K) : CA T EN X := ⟨hK, fun _ _ _ _ _ _ _ h => by
 obtain ⟨_, _, _, _, _, _, _, _, _, _, _, _, _, _, q⟩ := h
 exact q.elim⟩
section
variable {T : Tb} {ι : Ix} {h : AH} {H : Hp}
theorem ybE {x : AV} {u : V} {xs : List AV} (S : Sim T ι h H) (r : RV T ι H x u) (e : ycx x h = some xs) : ∃ a us, u = .ref a /\ SqL T.K H a us /\ RVs T ι H xs us := by
 unfold ycx at e
 cases r with
 | fl n q r => cases e; exact ⟨_, _, rfl, .inl q, r⟩
 | kfl q r => cases e; exact ⟨_, _, rfl, .inr q, r⟩
 | @ref k a q =>
  dsimp only at e
  split at e
  ·rename_i ys hk
   cases e
   obtain ⟨u, e1, us, rfl, r⟩ := S.obj k _ a hk q
   exact ⟨a, us, rfl, .inl (.inl e1), r⟩
  ·cases e
 | _ => cases e
theorem ycE {u : V} {xs : List AV} (r : RV T ι H (.tup xs) u) : ∃ a us, u = .ref a /\ SqT T.K H a us /\ RVs T ι H xs us := by
 cases r with
 | tup n q r => exact ⟨_, _, rfl, .of q, r⟩
theorem ya8 {u : V} {x : Str} (r : RV T ι H (.str x) u) : u = .str x /\ x.length <= sizeLine /\ x.cps.all (· < 0x110000) = true := by
 cases r with
 | str n o => exact ⟨rfl, n, o⟩
theorem yax {u : V} {i : Int} (r : RV T ι H (.int i) u) : u = .int i := by cases r; rfl
theorem ycy {u : V} {i : Bool} (r : RV T ι H (.bl i) u) : u = .bl i := by cases r; rfl
theorem yep {u : V} (r : RV T ι H .non u) : u = .non := by cases r; rfl
theorem yd1 {us : List V} {xs : List AV} {p : Addr} {E : XK} {Q : VK} (S : Sim T ι h H) (r : RVs T ι H xs us) (n : H p = none) (q : Post T ι H E (RV T) (.ok (.fl xs) h) Q) : Q (.ref p) (upd H p (.lst us)) :=
 q ι _ _ (S.growNew n) (S.new n) (.fl (S.fresh n) (.inl zam) (r.mono (S.growNew n)))
theorem zcY {us : List V} {xs : List AV} {p : Addr} {E : XK} {Q : VK} (S : Sim T ι h H) (r : RVs T ι H xs us) (n : H p = none) (q : Post T ι H E (RV T) (.ok (.tup xs) h) Q) : Q (.ref p) (upd H p (.tup us)) :=
 q ι _ _ (S.growNew n) (S.new n) (.tup (S.fresh n) zam (r.mono (S.growNew n)))
theorem zh6 {us : List V} {xs : List AV} {p : Addr} {E : XK} {Q : VK} (S : Sim T ι h H) (r : RVs T ι H xs us) (n : H p = none) (q : Post T ι H E (RV T) (.ok (.ref h.length) (h ++ [.lst xs])) Q) : Q (.ref p) (upd H p (.lst us)) :=
 q _ _ _ (S.growAdd n) (S.add n ⟨us, rfl, r.mono (S.growAdd n)⟩) (.ref S.addAt)
end
section
variable {T : Tb} {E : St -> XK} {X : Cx} {pos : Pos}
theorem yaa (i : Nat) {x : Str} {p : Pos} (hN : X.N[i]? = some x := by rfl) (hv : Vis X.env.scope x := by first | exact Or.inl rfl | exact Or.inr (Or.inl rfl) | exact Or.inr (Or.inr rfl)) (hd : (x == ("__debug__" : Str)) = false := by decide)
  (hcd : (x == ("__classdict__" : Str)) = false := by decide) : PEA T E X (.Name x p) (sVar i) :=
 yaJ (pv i hN hv hd hcd) fun σ H Q ⟨ι, h, en, S, er, q⟩ => by
  unfold sVar at q
  split at q
  ·rename_i v hv
   obtain ⟨u, e, r⟩ := er.2 i v hv
   exact ⟨u, e, q.now S r⟩
  ·exact q.elim
theorem yac {i j p} : PEA T E X (.Constant (.int i) j p) (sLit (.int i)) := yaJ yfH fun σ H Q ⟨ι, h, en, S, er, q⟩ => q.now S (.int i)
theorem r_bl {i j p} : PEA T E X (.Constant (.bool i) j p) (sLit (.bl i)) := yaJ ygJ fun σ H Q ⟨ι, h, en, S, er, q⟩ => q.now S (.bl i)
theorem yaG {x j p} (n : x.length <= sizeLine := by decide +kernel) (o : x.cps.all (· < 0x110000) = true := by decide +kernel) : PEA T E X (.Constant (.str x) j p) (sLit (.str x)) := yaJ yfI fun σ H Q ⟨ι, h, en, S, er, q⟩ => q.now S (.str n o)
theorem zh7 {x : Str} {i : Int} {t : Tok} {p : Pos} (hg : Gl X x) (hm : X.mg x = some (.int i t)) (hd : (x == ("__debug__" : Str)) = false := by decide) : PEA T E X (.Name x p) (sLit (.int i)) :=
 yaJ (zhF (v := .int i) hg hm ⟨t, rfl⟩ hd) fun σ H Q ⟨ι, h, en, S, er, q⟩ => q.now S (.int i)
def OpS (T : Tb) (f : F2) (r : R2) : Prop := ∀ (ι : Ix) (h : AH) (H : Hp) (x y : AV) (u w : V) (E : XK) (Q : VK), Sim T ι h H -> RV T ι H x u -> RV T ι H y w -> Post T ι H E (RV T) (f x y h) Q -> r u w H Q
def Op (T : Tb) (X : Cx) (g : Value -> Value -> Sem Value) (f : F2) : Prop := ∃ r, OpR X g r /\ OpS T f r
variable {a b c : Expr} {sa sb sc : SE}
theorem two {f : F2} {r : R2} (hs : OpS T f r) {σ : St} {H : Hp} {Q : VK} (q : tE T E (sOp2 f sa sb) σ H Q) : tOp r (tE T E sa) (tE T E sb) σ H Q := by
 obtain ⟨ι, h, en, S, er, q⟩ := q
 refine ⟨ι, h, en, S, er, q.bind fun x h1 ι1 H1 u g1 S1 r1 q1 => ⟨ι1, h1, en, S1, er.mono g1, q1.bind fun y h2 ι2 H2 w g2 S2 r2 q2 => ?_⟩⟩
 exact hs ι2 h2 H2 x y u w _ Q S2 (r1.mono g2) r2 q2
theorem yak {op : Operator} {f : F2} (ho : Op T X (binaryOp op) f) (ha : PEA T E X a sa) (hb : PEA T E X b sb) : PEA T E X (.BinOp a op b pos) (sOp2 f sa sb) := by
 obtain ⟨r, h1, h2⟩ := ho
 exact yaJ (ygS h1 ha hb) fun σ H Q q => two h2 q
theorem zh8 {i j : Str} (hi : i.cps.all (· < 0x110000) = true) (hj : j.cps.all (· < 0x110000) = true) : (i ++ j).cps.all (· < 0x110000) = true := by
 show (i.cps ++ j.cps).all _ = true
 rw [Array.all_append, hi, hj]; rfl
theorem zec (i j : Str) : (i ++ j).length = i.length + j.length := by
 show (i.cps ++ j.cps).size = _
 rw [Array.size_append]; rfl
theorem yaK (hK : X.K = T.K) : Op T X (binaryOp .Add) fAdd := by
 refine ⟨_, op_add.or (zfm.or (zhS.or zh5)), fun ι h H x y u w E Q S rx ry p => ?_⟩
 unfold fAdd at p
 split at p
 ·rw [yax rx, yax ry]
  exact .inl ⟨_, _, rfl, rfl, p.now S (.int _)⟩
 ·split at p
  ·rename_i hz
   obtain ⟨rfl, _, o1⟩ := ya8 rx
   obtain ⟨rfl, _, o2⟩ := ya8 ry
   exact .inr (.inl ⟨_, _, rfl, rfl, hz, p.now S (.str (by rw [zec]; exact hz) (zh8 o1 o2))⟩)
  ·exact p.elim
 ·split at p
  ·rename_i hz
   obtain ⟨a, us, rfl, q1, r1⟩ := ycE rx
   obtain ⟨b, ws, rfl, q2, r2⟩ := ycE ry
   refine .inr (.inr (.inl ⟨a, b, us, ws, rfl, rfl, hK ▸ q1, hK ▸ q2, fun z => hz.1 ?_, by rw [<- r1.length, <- r2.length]; exact hz.2, fun z => ?_, fun _ l n => zcY S (r1.append r2) n p⟩))
   ·subst z; cases r1; rfl
   ·subst z; cases r2
    rw [List.append_nil] at p
    exact p.now S rx
  ·exact p.elim
 ·split at p
  ·split at p
   ·rename_i e1 e2 hz
    obtain ⟨a, us, rfl, q1, r1⟩ := ybE S rx e1
    obtain ⟨b, ws, rfl, q2, r2⟩ := ybE S ry e2
    exact .inr (.inr (.inr ⟨a, b, us, ws, rfl, rfl, hK ▸ q1, hK ▸ q2, by rw [<- r1.length, <- r2.length]; exact hz, fun l n => yd1 S (r1.append r2) n p⟩))
   ·exact p.elim
  ·exact p.elim
theorem ybO : Op T X (binaryOp .Sub) fSub := by
 refine ⟨_, yfU, fun ι h H x y u w E Q S rx ry p => ?_⟩
 unfold fSub at p
 split at p
 ·rw [yax rx, yax ry]
  exact ⟨_, _, rfl, rfl, p.now S (.int _)⟩
 ·exact p.elim
theorem zeE {i : Int} (h : i.natAbs < 2 ^ 4000) : Builtin.Int.intBits i <= 2 ^ 20 := by
 unfold Builtin.Int.intBits
 split
 ·exact Nat.zero_le _
 ·rename_i hz
  have h0 : i.natAbs ≠ 0 := fun z => hz (by simpa using z)
  have : i.natAbs.log2 < 4000 := (Nat.log2_lt h0).mpr h
  exact Nat.le_trans (by omega : i.natAbs.log2 + 1 <= 4001) (by decide)
theorem ybP : Op T X (binaryOp .Mult) fMul := by
 refine ⟨_, zgY, fun ι h H x y u w E Q S rx ry p => ?_⟩
 unfold fMul at p
 split at p
 ·split at p
  ·rename_i hz
   rw [yax rx, yax ry]
   exact ⟨_, _, rfl, rfl, hz.elim (fun z => CMul.ok (z.elim (fun z => .inl ⟨by omega, by omega⟩) (fun z => .inr ⟨by omega, by omega⟩))) (fun z => .of_bits (zeE z.1) (zeE z.2)), p.now S (.int _)⟩
  ·exact p.elim
 ·exact p.elim
theorem yfs : Op T X (binaryOp .FloorDiv) fDiv := by
 refine ⟨_, zgX, fun ι h H x y u w E Q S rx ry p => ?_⟩
 unfold fDiv at p
 split at p
 ·split at p
  ·rename_i hz
   rw [yax rx, yax ry]
   exact ⟨_, _, rfl, rfl, ⟨hz.1, by omega⟩, p.now S (.int _)⟩
  ·exact p.elim
 ·exact p.elim
theorem ycL : Op T X (binaryOp .Mod) fMod := by
 refine ⟨_, yfV, fun ι h H x y u w E Q S rx ry p => ?_⟩
 unfold fMod at p
 split at p
 ·split at p
  ·rename_i hz
   rw [yax rx, yax ry]
   exact ⟨_, _, rfl, rfl, hz, p.now S (.int _)⟩
  ·exact p.elim
 ·exact p.elim
theorem yeC : Op T X (binaryOp .Pow) fPow := by
 refine ⟨_, yfW, fun ι h H x y u w E Q S rx ry p => ?_⟩
 unfold fPow at p
 split at p
 ·split at p
  ·rename_i hz
   rw [yax rx, yax ry]
   exact ⟨_, _, rfl, rfl, hz, p.now S (.int _)⟩
  ·exact p.elim
 ·exact p.elim
theorem yft (ha : PEA T E X a sa) : PEA T E X (.UnaryOp .USub a pos) (sOp1 fNeg sa) :=
 yaJ (ygT yfX ha) fun σ H Q ⟨ι, h, en, S, er, q⟩ => ⟨ι, h, en, S, er, q.bind fun x h1 ι1 H1 u g1 S1 r1 q1 => by
  unfold fNeg at q1
  split at q1
  ·rw [yax r1]
   exact ⟨_, rfl, q1.now S1 (.int _)⟩
  ·exact q1.elim⟩
theorem zgf {ds : List PyData} (h : ∀ d ∈ ds, d.canLay0 = true) : PyData.canLayAll0 ds = true := by
 induction ds with
 | nil => rfl
 | cons d r ih => show (d.canLay0 && PyData.canLayAll0 r) = true; rw [h d (by simp), ih fun e he => h e (by simp [he])]; rfl
theorem zed {n : Nat} {ds : List PyData} (h : ∀ d ∈ ds, d.depth <= n) : PyData.depthAll ds <= n := by
 induction ds with
 | nil => exact Nat.zero_le _
 | cons d r ih => show max d.depth (PyData.depthAll r) <= n; have := h d (by simp); have := ih fun e he => h e (by simp [he]); omega
section
variable {ι : Ix} {h : AH} {H : Hp}
theorem zbm {f : AV -> Option PyData} {n : Nat} (hf : ∀ {x : AV} {u : V} {d : PyData}, RV T ι H x u -> f x = some d -> DaV T.K H u d /\ d.canLay0 = true /\ d.depth <= n) :
  ∀ {xs : List AV} {us : List V} {ds : List PyData}, RVs T ι H xs us -> toDs f xs = some ds -> DaVs T.K H us ds /\ ∀ d ∈ ds, d.canLay0 = true /\ d.depth <= n
 | _, _, ds, .nil, e => by cases e; exact ⟨.nil, by simp⟩
 | _, _, ds, .cons (x := x) (xs := xs) r rs, e => by
  unfold toDs at e
  split at e
  ·rename_i d ds' e1 e2
   cases e
   obtain ⟨q1, q2⟩ := hf r e1
   obtain ⟨q3, q4⟩ := zbm hf rs e2
   refine ⟨.cons q1 q3, fun d hd => ?_⟩
   rcases List.mem_cons.mp hd with rfl | hd
   ·exact q2
   ·exact q4 d hd
  ·cases e
theorem ych (S : Sim T ι h H) : ∀ (n : Nat) {x : AV} {u : V} {d : PyData}, RV T ι H x u -> toD n h x = some d -> DaV T.K H u d /\ d.canLay0 = true /\ d.depth <= n
 | 0, x, u, d, r, e => by
  unfold toD at e
  cases r with
  | non => cases e; exact ⟨.non, rfl, Nat.le_refl _⟩
  | bl b => cases e; exact ⟨.bl b, rfl, Nat.le_refl _⟩
  | int b => cases e; exact ⟨.int b, rfl, Nat.le_refl _⟩
  | str a b => cases e; exact ⟨.str _, b, Nat.le_refl _⟩
  | _ => cases e
 | n + 1, x, u, d, r, e => by
  unfold toD at e
  have many : ∀ {xs : List AV} {us : List V} {ds : List PyData}, RVs T ι H xs us -> toDs (toD n h) xs = some ds -> DaVs T.K H us ds /\ ∀ d ∈ ds, d.canLay0 = true /\ d.depth <= n := fun r e => zbm (fun r e => ych S n r e) r e
  have fin : ∀ {ds : List PyData}, (∀ d ∈ ds, d.canLay0 = true /\ d.depth <= n) -> PyData.canLayAll0 ds = true /\ PyData.depthAll ds + 1 <= n + 1 := fun q => ⟨zgf fun d hd => (q d hd).1, Nat.succ_le_succ (zed fun d hd => (q d hd).2)⟩
  cases r with
  | non => cases e; exact ⟨.non, rfl, Nat.zero_le _⟩
  | bl b => cases e; exact ⟨.bl b, rfl, Nat.zero_le _⟩
  | int b => cases e; exact ⟨.int b, rfl, Nat.zero_le _⟩
  | str a b => cases e; exact ⟨.str _, b, Nat.zero_le _⟩
  | tup k q r =>
   obtain ⟨ds, e1, rfl⟩ := Option.map_eq_some_iff.mp e
   obtain ⟨q1, q2⟩ := many r e1
   exact ⟨.tup (.of q) q1, fin q2⟩
  | fl k q r =>
   obtain ⟨ds, e1, rfl⟩ := Option.map_eq_some_iff.mp e
   obtain ⟨q1, q2⟩ := many r e1
   exact ⟨.lst (.inl q) q1, fin q2⟩
  | kfl q r =>
   obtain ⟨ds, e1, rfl⟩ := Option.map_eq_some_iff.mp e
   obtain ⟨q1, q2⟩ := many r e1
   exact ⟨.lst (.inr q) q1, fin q2⟩
  | @ref k a q =>
   dsimp only at e
   split at e
   ·rename_i ys hk
    obtain ⟨ds, e1, rfl⟩ := Option.map_eq_some_iff.mp e
    obtain ⟨u, e2, us, rfl, r⟩ := S.obj k _ a hk q
    obtain ⟨q1, q2⟩ := many r e1
    exact ⟨.lst (.inl (.inl e2)) q1, fin q2⟩
   ·cases e
  | exc _ _ _ => cases e
end
theorem ygh {i j : Int} : decide (V.int i = V.int j) = decide (i = j) := by rw [Bool.eq_iff_iff]; simp
theorem ygi {i j : Str} : decide (V.str i = V.str j) = decide (i = j) := by rw [Bool.eq_iff_iff]; simp
theorem yg9 {i j : Bool} : decide (V.bl i = V.bl j) = decide (i = j) := by rw [Bool.eq_iff_iff]; simp
theorem zeF {r : R2} {neg : Bool} (ho : OpR X g r) (h1 : ∀ x y H Q, (scal x y = true /\ Q (.bl (if neg then !decide (x = y) else decide (x = y))) H) -> r x y H Q)
  (h2 : ∀ x y H Q, (∃ d e, DaV T.K H x d /\ DaV T.K H y e /\ d.canLay0 = true /\ e.canLay0 = true /\ d.depth <= 60 /\ Q (.bl (if neg then !PyData.eqv d e else PyData.eqv d e)) H) -> r x y H Q) :
  OpS T (fun x y h => match eqA x y h with | some b => .ok (.bl (if neg then !b else b)) h | none => .bad) r := by
 intro ι h H x y u w E Q S rx ry p
 dsimp only at p
 cases hb : eqA x y h with
 | none => rw [hb] at p; exact p.elim
 | some b =>
  rw [hb] at p
  dsimp only at p
  unfold eqA at hb
  split at hb
  ·cases hb
   rw [yax rx, yax ry]
   exact h1 _ _ _ _ ⟨rfl, by rw [ygh]; exact p.now S (.bl _)⟩
  ·cases hb
   obtain ⟨rfl, _⟩ := ya8 rx
   obtain ⟨rfl, _⟩ := ya8 ry
   exact h1 _ _ _ _ ⟨rfl, by rw [ygi]; exact p.now S (.bl _)⟩
  ·cases hb
   rw [ycy rx, ycy ry]
   exact h1 _ _ _ _ ⟨rfl, by rw [yg9]; exact p.now S (.bl _)⟩
  ·cases hb
   rw [yep rx, yep ry]
   exact h1 _ _ _ _ ⟨rfl, by rw [show decide (V.non = V.non) = true from rfl]; exact p.now S (.bl _)⟩
  ·split at hb
   ·rename_i d e e1 e2
    cases hb
    obtain ⟨q1, q2, q3⟩ := ych S 8 rx e1
    obtain ⟨q4, q5, q6⟩ := ych S 8 ry e2
    exact h2 _ _ _ _ ⟨d, e, q1, q4, q2, q5, by omega, p.now S (.bl _)⟩
   ·cases hb
theorem o_eq (hK : X.K = T.K) (hu : X.A.units + 64 < cLine) : Op T X (compareOp .Eq) fEq :=
 ⟨_, op_eq.or (yeW hu), zeF (neg := false) (op_eq.or (yeW hu)) (fun _ _ _ _ q => .inl q) fun _ _ _ _ q => .inr (hK ▸ q)⟩
theorem o_ne (hK : X.K = T.K) (hu : X.A.units + 64 < cLine) : Op T X (compareOp .NotEq) fNe :=
 ⟨_, op_ne.or (yeX hu), zeF (neg := true) (op_ne.or (yeX hu)) (fun _ _ _ _ q => .inl q) fun _ _ _ _ q => .inr (hK ▸ q)⟩
theorem o_lt : Op T X (compareOp .Lt) fLt := by
 refine ⟨_, op_lt.or zfT, fun ι h H x y u w E Q S rx ry p => ?_⟩
 unfold fLt at p
 split at p
 ·rw [yax rx, yax ry]
  exact .inl ⟨_, _, rfl, rfl, p.now S (.bl _)⟩
 ·obtain ⟨rfl, _⟩ := ya8 rx
  obtain ⟨rfl, _⟩ := ya8 ry
  exact .inr ⟨_, _, rfl, rfl, p.now S (.bl _)⟩
 ·exact p.elim
theorem o_le : Op T X (compareOp .LtE) fLe := by
 refine ⟨_, op_le.or zf8, fun ι h H x y u w E Q S rx ry p => ?_⟩
 unfold fLe at p
 split at p
 ·rw [yax rx, yax ry]
  exact .inl ⟨_, _, rfl, rfl, p.now S (.bl _)⟩
 ·obtain ⟨rfl, _⟩ := ya8 rx
  obtain ⟨rfl, _⟩ := ya8 ry
  exact .inr ⟨_, _, rfl, rfl, p.now S (.bl _)⟩
 ·exact p.elim
theorem o_gt : Op T X (compareOp .Gt) fGt := by
 refine ⟨_, ygU, fun ι h H x y u w E Q S rx ry p => ?_⟩
 unfold fGt at p
 split at p
 ·rw [yax rx, yax ry]
  exact ⟨_, _, rfl, rfl, p.now S (.bl _)⟩
 ·exact p.elim
theorem o_ge : Op T X (compareOp .GtE) fGe := by
 refine ⟨_, ygV, fun ι h H x y u w E Q S rx ry p => ?_⟩
 unfold fGe at p
 split at p
 ·rw [yax rx, yax ry]
  exact ⟨_, _, rfl, rfl, p.now S (.bl _)⟩
 ·exact p.elim
theorem ycM {op : CmpOp} {f : F2} (ho : Op T X (compareOp op) f) (ha : PEA T E X a sa) (hb : PEA T E X b sb) (hm : behindInMarks op b = false) : PEA T E X (.Compare a [op] [b] pos) (sOp2 f sa sb) := by
 obtain ⟨r, h1, h2⟩ := ho
 exact yaJ (zhL h1 ha hb hm) fun σ H Q q => two h2 q
theorem yas {op : CmpOp} {f : F2} (ho : Op T X (compareOp op) f) (ha : PEA T E X a sa) (hb : PEA T E X b sb) (hm : behindInMarks op b = false) : PTA T E X (.Compare a [op] [b] pos) (yap (sOp2 f sa sb)) := by
 obtain ⟨r, h1, h2⟩ := ho
 refine ydZ (zhM h1 ha hb hm) fun σ H Q q => two (E := E) (Q := fun x H' => ∃ k, x = V.bl k /\ Q k H') h2 ?_
 obtain ⟨ι, h, en, S, er, q⟩ := q
 refine ⟨ι, h, en, S, er, q.bind fun x h1 ι1 H1 u g1 S1 r1 q1 => ?_⟩
 split at q1
 ·rw [ycy r1]
  exact ⟨_, rfl, q1.now S1 rfl⟩
 ·exact q1.elim
theorem yfu {f f' : F2} {r r' : R2} (hs : OpS T f r) (hs' : OpS T f' r') {σ : St} {H : Hp} {Q : VK} (q : tE T E (ybD f f' sa sb sc) σ H Q) : yeo r r' (tE T E sa) (tE T E sb) (tE T E sc) σ H Q := by
 obtain ⟨ι, h, en, S, er, q⟩ := q
 refine ⟨ι, h, en, S, er, q.bind fun x h1 ι1 H1 u g1 S1 r1 q1 => ⟨ι1, h1, en, S1, er.mono g1, q1.bind fun y h2 ι2 H2 w g2 S2 r2 q2 => ?_⟩⟩
 refine hs ι2 h2 H2 x y u w (E σ) _ S2 (r1.mono g2) r2 (q2.bind fun z h3 ι3 H3 k g3 S3 r3 q3 => ?_)
 split at q3
 ·rename_i kk
  rw [ycy r3]
  refine ⟨kk, rfl, ?_⟩
  by_cases hkk : kk = true
  ·rw [if_pos hkk] at q3 ⊢
   refine ⟨ι3, h3, en, S3, er.mono (g1.trans (g2.trans g3)), q3.bind fun v h4 ι4 H4 j g4 S4 r4 q4 => ?_⟩
   exact hs' ι4 h4 H4 y v w j _ Q S4 (r2.mono (g3.trans g4)) r4 q4
  ·rw [if_neg hkk] at q3 ⊢
   exact q3.now S3 (.bl _)
 ·exact q3.elim
theorem zcZ {op op' : CmpOp} {f f' : F2} (ho : Op T X (compareOp op) f) (ho' : Op T X (compareOp op') f') (ha : PEA T E X a sa) (hb : PEA T E X b sb) (hc : PEA T E X c sc) (hm : lastMarks [op, op'] [b, c] = false := by with_unfolding_all rfl) :
  PEA T E X (.Compare a [op, op'] [b, c] pos) (ybD f f' sa sb sc) := by
 obtain ⟨r, h1, h2⟩ := ho
 obtain ⟨r', h1', h2'⟩ := ho'
 exact yaJ (zgF h1 h1' ha hb hc hm) fun σ H Q q => yfu h2 h2' q
theorem zbu {op op' : CmpOp} {f f' : F2} (ho : Op T X (compareOp op) f) (ho' : Op T X (compareOp op') f') (ha : PEA T E X a sa) (hb : PEA T E X b sb) (hc : PEA T E X c sc) (hm : lastMarks [op, op'] [b, c] = false := by with_unfolding_all rfl) :
  PTA T E X (.Compare a [op, op'] [b, c] pos) (yap (ybD f f' sa sb sc)) := by
 obtain ⟨r, h1, h2⟩ := ho
 obtain ⟨r', h1', h2'⟩ := ho'
 refine ydZ (zgG h1 h1' ha hb hc hm) fun σ H Q q => yfu (E := E) (Q := fun x H' => ∃ k, x = V.bl k /\ Q k H') h2 h2' ?_
 obtain ⟨ι, h, en, S, er, q⟩ := q
 refine ⟨ι, h, en, S, er, q.bind fun x h1 ι1 H1 u g1 S1 r1 q1 => ?_⟩
 split at q1
 ·rw [ycy r1]
  exact ⟨_, rfl, q1.now S1 rfl⟩
 ·exact q1.elim
theorem ygj {ι : Ix} {h : AH} {H : Hp} {v : AV} {u : V} {k : Bool} (S : Sim T ι h H) (r : RV T ι H v u) (e : truA v h = some k) : TruV T.K u H k := by
 unfold truA at e
 cases r with
 | non => cases e; rfl
 | bl b => cases e; rfl
 | int b => cases e; rfl
 | str n o => cases e; exact ⟨n, rfl⟩
 | tup n q r => cases e; exact .inr (.inl ⟨_, .of q, by cases r <;> rfl⟩)
 | fl n q r => cases e; exact .inl ⟨_, .inl q, by cases r <;> rfl⟩
 | kfl q r => cases e; exact .inl ⟨_, .inr q, by cases r <;> rfl⟩
 | @ref n a q =>
  dsimp only at e
  split at e
  ·rename_i xs hk
   cases e
   obtain ⟨u, e1, us, rfl, r⟩ := S.obj n _ a hk q
   exact .inl ⟨us, .inl (.inl e1), by cases r <;> rfl⟩
  ·rename_i xs hk
   cases e
   obtain ⟨u, e1, us, rfl, r⟩ := S.obj n _ a hk q
   exact .inr (.inr ⟨us, e1, by cases r <;> rfl⟩)
  ·cases e
 | exc _ _ _ => cases e
theorem zaz (hK : X.K = T.K) (ha : PEA T E X a sa) (he : ∀ whole, isTrue a X.env whole = (do let v <- whole; standAt a.pos; holding [v] (truthy v)) := by intro _; rfl) : PTA T E X a (ybG sa) :=
 ydZ (zgH ha he) fun σ H Q ⟨ι, h, en, S, er, q⟩ => ⟨ι, h, en, S, er, q.bind fun x h1 ι1 H1 u g1 S1 r1 q1 => by
  split at q1
  ·rename_i b hb
   exact ⟨b, hK ▸ ygj S1 r1 hb, q1.now S1 rfl⟩
  ·exact q1.elim⟩
variable {ca cb : SB} {rest : List Expr}
theorem ycF (ha : PTA T E X a ca) : PTA T E X (.UnaryOp .Not a pos) (sNot ca) :=
 ydZ (yfL ha) fun σ H Q ⟨ι, h, en, S, er, q⟩ => ⟨ι, h, en, S, er, q.bind fun x h1 ι1 H1 u g1 S1 r1 q1 => by subst r1; exact q1.now S1 rfl⟩
theorem rt_w (h : PWA T E X a ca) : PTA T E X a ca := PW.pt h
theorem zc0 (ha : PTA T E X a ca) : PWA T E X (.BoolOp .And [a] pos) ca := zhH ha
theorem yd2 (ha : PTA T E X a ca) : PWA T E X (.BoolOp .Or [a] pos) ca := yfJ ha
theorem ycV (ha : PTA T E X a ca) (hb : PWA T E X (.BoolOp .And (b :: rest) pos) cb) : PWA T E X (.BoolOp .And (a :: b :: rest) pos) (sAnd ca cb) :=
 yeY (yfK ha hb) fun σ H Q ⟨ι, h, en, S, er, q⟩ => ⟨ι, h, en, S, er, q.bind fun x h1 ι1 H1 u g1 S1 r1 q1 => by
  subst r1
  by_cases hx : x = true
  ·rw [if_pos hx] at q1 ⊢
   exact ⟨ι1, h1, en, S1, er.mono g1, q1⟩
  ·rw [if_neg hx] at q1 ⊢
   exact q1.now S1 rfl⟩
theorem yd3 (ha : PTA T E X a ca) (hb : PWA T E X (.BoolOp .Or (b :: rest) pos) cb) : PWA T E X (.BoolOp .Or (a :: b :: rest) pos) (sOr ca cb) :=
 yeY (ygK ha hb) fun σ H Q ⟨ι, h, en, S, er, q⟩ => ⟨ι, h, en, S, er, q.bind fun x h1 ι1 H1 u g1 S1 r1 q1 => by
  subst r1
  by_cases hx : x = true
  ·rw [if_pos hx] at q1 ⊢
   exact q1.now S1 rfl
  ·rw [if_neg hx] at q1 ⊢
   exact ⟨ι1, h1, en, S1, er.mono g1, q1⟩⟩
theorem ydm {op} (h : PEA T E X a sa) : PEA T E X (.BoolOp op [a] pos) sa := yfM h
theorem yd4 (ha : PEA T E X a sa) (hb : PEA T E X (.BoolOp .And (b :: rest) pos) sb) : PEA T E X (.BoolOp .And (a :: b :: rest) pos) (ydM sa sb) :=
 yaJ (yfN ha hb) fun σ H Q ⟨ι, h, en, S, er, q⟩ => ⟨ι, h, en, S, er, q.bind fun x h1 ι1 H1 u g1 S1 r1 q1 => by
  split at q1
  ·rename_i kk
   rw [ycy r1]
   refine ⟨kk, rfl, ?_⟩
   by_cases hkk : kk = true
   ·rw [if_pos hkk] at q1 ⊢
    exact ⟨ι1, h1, en, S1, er.mono g1, q1⟩
   ·rw [if_neg hkk] at q1 ⊢
    exact q1.now S1 (.bl _)
  ·exact q1.elim⟩
theorem r_or (ha : PEA T E X a sa) (hb : PEA T E X (.BoolOp .Or (b :: rest) pos) sb) : PEA T E X (.BoolOp .Or (a :: b :: rest) pos) (sOrV sa sb) :=
 yaJ (ygN ha hb) fun σ H Q ⟨ι, h, en, S, er, q⟩ => ⟨ι, h, en, S, er, q.bind fun x h1 ι1 H1 u g1 S1 r1 q1 => by
  split at q1
  ·rename_i kk
   rw [ycy r1]
   refine ⟨kk, rfl, ?_⟩
   by_cases hkk : kk = true
   ·rw [if_pos hkk] at q1 ⊢
    exact q1.now S1 (.bl _)
   ·rw [if_neg hkk] at q1 ⊢
    exact ⟨ι1, h1, en, S1, er.mono g1, q1⟩
  ·exact q1.elim⟩
theorem yha (ha : PEA T E X a sa) : PEA T E X (.UnaryOp .Not a pos) (yfr sa) :=
 yaJ (yfO ha) fun σ H Q ⟨ι, h, en, S, er, q⟩ => ⟨ι, h, en, S, er, q.bind fun x h1 ι1 H1 u g1 S1 r1 q1 => by
  split at q1
  ·rw [ycy r1]
   exact ⟨_, rfl, q1.now S1 (.bl _)⟩
  ·exact q1.elim⟩
variable {es : List Expr} {as : SL}
theorem yab : PAA T E X [] sNil := yeZ yeQ fun σ H Q ⟨ι, h, en, S, er, q⟩ => q.now S .nil
theorem zaa (ha : PEA T E X a sa) (hr : PAA T E X es as) (hs : starEach (a :: es) X.env = (false, eval a X.env) :: starEach es X.env := by rfl) : PAA T E X (a :: es) (sCons sa as) :=
 yeZ (zcU ha hr hs) fun σ H Q ⟨ι, h, en, S, er, q⟩ => ⟨ι, h, en, S, er, q.bind fun x h1 ι1 H1 u g1 S1 r1 q1 => ⟨ι1, h1, en, S1, er.mono g1, q1.bind fun xs h2 ι2 H2 us g2 S2 r2 q2 => q2.now S2 (.cons (r1.mono g2) r2)⟩⟩
theorem ya7 {k} (h : PAA T E X es as) : PEA T E X (.Tuple es k pos) (sTup as) :=
 yaJ (yf1 h) fun σ H Q ⟨ι, h, en, S, er, q⟩ => ⟨ι, h, en, S, er, q.bind fun xs h1 ι1 H1 us g1 S1 r1 q1 => by
  split at q1
  ·rename_i hl
   exact ⟨by rw [<- r1.length]; exact Nat.le_trans hl (by decide), fun p n => zcY S1 r1 n q1⟩
  ·exact q1.elim⟩
theorem ycN (h : PAA T E X es as) : PEA T E X (.List es pos) (sLst as) :=
 yaJ (yeR h) fun σ H Q ⟨ι, h, en, S, er, q⟩ => ⟨ι, h, en, S, er, q.bind fun xs h1 ι1 H1 us g1 S1 r1 q1 => by
  split at q1
  ·rename_i hl
   exact ⟨by rw [<- r1.length]; exact Nat.le_trans hl (by decide), fun p n => yd1 S1 r1 n q1⟩
  ·exact q1.elim⟩
theorem ybK (h : PAA T E X es as) : PEA T E X (.List es pos) (ybz as) :=
 yaJ (yeR h) fun σ H Q ⟨ι, h, en, S, er, q⟩ => ⟨ι, h, en, S, er, q.bind fun xs h1 ι1 H1 us g1 S1 r1 q1 => by
  split at q1
  ·rename_i hl
   exact ⟨by rw [<- r1.length]; exact Nat.le_trans hl (by decide), fun p n => zh6 S1 r1 n q1⟩
  ·exact q1.elim⟩
theorem zeG : PEA T E X (.Dict [] [] pos) (ydL false) :=
 yaJ zgR fun σ H Q ⟨ι, h, en, S, er, q⟩ p n => q _ _ _ (S.growAdd n) (S.add n ⟨[], rfl, .nil⟩) (.ref S.addAt)
theorem zeH : PEA T E X (.Dict [] [] pos) (ydL true) :=
 yaJ zgS fun σ H Q ⟨ι, h, en, S, er, q⟩ p n => q _ _ _ (S.growAdd n) (S.add n ⟨[], rfl, .nil⟩) (.ref S.addAt)
end
end Sm
namespace Sm
open PySem L2
section
variable {T : Tb} {E : St -> XK} {X : Cx} {pos : Pos} {a b : Expr} {sa sb : SE} {ca : SB} {st : Stmt} {sts ss1 ss2 : List Stmt} {s1 s2 : SS}
theorem yaw : PSsA T E X [] yaz := zeD zhI fun D σ H ⟨ι, h, en, S, er, q⟩ => q ι H σ S.refl S er
theorem zab (h1 : PSA T E X st s1) (h2 : PSsA T E X sts s2) : PSsA T E X (st :: sts) (sSeq s1 s2) :=
 zeD (zgC h1 h2) fun D σ H ⟨ι, h, en, S, er, q⟩ => by
  refine ⟨ι, h, en, S, er, ?_⟩
  unfold sSeq at q
  cases e : s1 en h with
  | nx e1 h1 =>
   rw [e] at q
   exact fun ι' H' σ' g S' er' => ⟨ι', h1, e1, S', er', q.shift g⟩
  | rt v h1 => rw [e] at q; exact q
  | bk e1 h1 => rw [e] at q; exact q
  | ct e1 h1 => rw [e] at q; exact q
  | ex c e1 h1 => rw [e] at q; exact q
  | bad => rw [e] at q; exact q
theorem yag (h1 : PSA T E X st s1) : PSsA T E X [st] s1 := zhJ h1
theorem yaI (ha : PEA T E X a sa) (hs : swapsWith a none pos.line X.env = pure false := by rfl) : PSA T E X (.Expr a pos) (yaN sa) :=
 ybS (zhK ha hs) fun D σ H ⟨ι, h, en, S, er, q⟩ => ⟨ι, h, en, S, er, q.go er fun v h1 ι1 H1 u g1 S1 r1 q1 => q1 ι1 H1 σ S1.refl S1 (er.mono g1)⟩
theorem yan (ha : PEA T E X a sa) : PSA T E X (.Return (some a) pos) (sRet sa) :=
 ybS (yfP ha) fun D σ H ⟨ι, h, en, S, er, q⟩ => ⟨ι, h, en, S, er, q.go er fun v h1 ι1 H1 u g1 S1 r1 q1 => q1 ι1 H1 u S1.refl S1 r1⟩
theorem r_if (hc : PTA T E X a ca) (h1 : PSsA T E X ss1 s1) (h2 : PSsA T E X ss2 s2) : PSA T E X (.If a ss1 ss2 pos) (sIf ca s1 s2) :=
 ybS (ygQ hc h1 h2) fun D σ H ⟨ι, h, en, S, er, q⟩ => ⟨ι, h, en, S, er, q.go er fun x h1 ι1 H1 u g1 S1 r1 q1 => by
  subst r1
  by_cases hx : x = true
  ·rw [if_pos hx] at q1 ⊢
   exact ⟨ι1, h1, en, S1, er.mono g1, q1⟩
  ·rw [if_neg hx] at q1 ⊢
   exact ⟨ι1, h1, en, S1, er.mono g1, q1⟩⟩
theorem ye2 {σ : St} {H : Hp} {D : Ends} {i : Nat} (q : tS T E (sSet i sa) D σ H) : tAsg (tE T E sa) (ydI i) D σ H := by
 obtain ⟨ι, h, en, S, er, q⟩ := q
 exact ⟨ι, h, en, S, er, q.go er fun v h1 ι1 H1 u g1 S1 r1 q1 => q1 ι1 H1 _ S1.refl S1 ((er.mono g1).set r1 i)⟩
theorem yal {i : Nat} {x : Str} {p' : Pos} (hN : X.N.Nodup) (ha : PEA T E X a sa) (hi : X.N[i]? = some x := by rfl) (hx : Loc X.env.scope x := by first | exact Or.inl rfl | exact Or.inr rfl) (hs : swapsWith a (some (.Name x p')) pos.line X.env = pure false := by rfl)
  (hf : X.fn x = true \/ X.env.scope.names.lookup x = some .local := by first | exact .inl rfl | exact .inr rfl | assumption) : PSA T E X (.Assign [.Name x p'] a pos) (sSet i sa) :=
 ybS (yfR hN hi hx ha hs hf) fun D σ H q => ye2 q
theorem zh9 (n : Nat) (hc : PTA T EN X.nox a ca) (hb : PSsA T EN X.nox sts s1) : PSA T E X (.While a sts [] pos) (ybJ ca s1 n) :=
 ybS (ye0 (zgD PassesOwn.never hc hb)) fun D σ H ⟨ι, h, en, S, er, q⟩ => by
  refine ⟨fun m σ H => ∃ ι h en, Sim T ι h H /\ ER T ι H en σ /\ PostS T ι H E (ybJ ca s1 m en h) D, ⟨n, ι, h, en, S, er, q⟩, ?_⟩
  rintro m σ H ⟨ι, h, en, S, er, q⟩
  cases m with
  | zero => exact (show False from q).elim
  | succ m =>
   unfold ybJ at q
   refine ⟨ι, h, en, S, er, ?_⟩
   cases e : ca en h with
   | bad => rw [e] at q; exact q
   | ex c h1 => rw [e] at q; exact (show False from q).elim
   | ok x h1 =>
    rw [e] at q
    intro ι1 H1 u g1 S1 r1
    subst r1
    have q1 := PostS.shift q g1
    cases x with
    | true =>
     rw [if_pos rfl]
     refine ⟨fun σ H => ∃ ι h en, Sim T ι h H /\ ER T ι H en σ /\ PostS T ι H E (ybJ ca s1 m en h) D, fun σ' H' w => ⟨m, Nat.lt_succ_self m, w⟩, ι1, h1, en, S1, er.mono g1, ?_⟩
     dsimp only at q1
     cases e2 : s1 en h1 with
     | nx e3 h3 => rw [e2] at q1; exact fun ι2 H2 σ2 g2 S2 er2 => ⟨ι2, h3, e3, S2, er2, q1.shift g2⟩
     | ct e3 h3 => rw [e2] at q1; exact fun ι2 H2 σ2 g2 S2 er2 => ⟨ι2, h3, e3, S2, er2, q1.shift g2⟩
     | bk e3 h3 => rw [e2] at q1; exact q1
     | rt v h3 => rw [e2] at q1; exact q1
     | ex c e3 h3 => rw [e2] at q1; exact (show False from q1).elim
     | bad => rw [e2] at q1; exact q1
    | false =>
     rw [if_neg Bool.false_ne_true]
     exact q1 ι1 H1 σ S1.refl S1 (er.mono g1)
theorem zdk {ι : Ix} {H : Hp} : ∀ {is : List Nat} {xs : List AV} {us : List V} {en e : En} {σ : St}, RVs T ι H xs us -> ER T ι H en σ -> yd0 is xs en = some e -> ER T ι H e ((is.zip us).foldl (fun σ p => σ.set p.1 (some p.2)) σ) /\ us.length = is.length
 | [], _, _, en, e, σ, .nil, er, q => by cases q; exact ⟨er, rfl⟩
 | i :: is, _, _, en, e, σ, .cons r rs, er, q => by
  obtain ⟨h1, h2⟩ := zdk (is := is) rs (er.set r i) q
  exact ⟨h1, by simp [h2]⟩
 | [], _, _, en, e, σ, .cons r rs, er, q => by cases q
 | i :: is, _, _, en, e, σ, .nil, er, q => by cases q
def PGA (T : Tb) (X : Cx) (tg : Expr) (t : Tg) : Prop := ∃ g, PG X tg g /\ ∀ {ι : Ix} {h : AH} {H : Hp} {en e : En} {σ : St} {v : AV} {u : V} {Q : St -> Hp -> Prop}, Sim T ι h H -> ER T ι H en σ -> RV T ι H v u -> setT t v en = some e ->
 (∀ σ', ER T ι H e σ' -> Q σ' H) -> g u σ H Q
theorem zb2 {i : Nat} {x : Str} (hN : X.N.Nodup) (hi : X.N[i]? = some x := by rfl) (hx : Loc X.env.scope x := by first | exact Or.inl rfl | exact Or.inr rfl) (hf : X.fn x = true \/ X.env.scope.names.lookup x = some .local := by first | exact .inl rfl | exact .inr rfl | assumption) :
  PGA T X (.Name x pos) (.nm i) := ⟨_, zbY hN hi hx hf, fun S er r e k => by cases e; exact k _ (er.set r i)⟩
def PGsA (X : Cx) (es : List Expr) (is : List Nat) : Prop := PGs X es (fun vs σ H Q => vs.length = is.length /\ Q ((is.zip vs).foldl (fun σ p => σ.set p.1 (some p.2)) σ) H)
theorem zeI {X : Cx} {es : List Expr} {t t' : TGs} (h : PGs X es t) (k : ∀ vs σ H Q, t' vs σ H Q -> t vs σ H Q) : PGs X es t' := fun pins s σ H vs us Q I r q => h pins s σ H vs us Q I r (k vs σ H Q q)
theorem zaJ : PGsA X [] [] := zeI zet fun vs σ H Q ⟨l, q⟩ => by
 cases vs with
 | nil => exact ⟨rfl, q⟩
 | cons => cases l
theorem zan {i : Nat} {is : List Nat} {x : Str} {p : Pos} {es : List Expr} (hN : X.N.Nodup) (hr : PGsA X es is) (hi : X.N[i]? = some x := by rfl) (hx : Loc X.env.scope x := by first | exact Or.inl rfl | exact Or.inr rfl)
  (hf : X.fn x = true \/ X.env.scope.names.lookup x = some .local := by first | exact .inl rfl | exact .inr rfl | assumption) (hs : (assignEach (.Name x p :: es) X.env).map (·.2) = assign (.Name x p) X.env :: (assignEach es X.env).map (·.2) := by rfl) : PGsA X (.Name x p :: es) (i :: is) :=
 zeI (zcq (zbY hN hi hx hf) hr hs) fun vs σ H Q ⟨l, q⟩ => by
  cases vs with
  | nil => cases l
  | cons v r => exact ⟨v, r, rfl, Nat.succ.inj l, q⟩
theorem ycG {es : List Expr} {is : List Nat} {k : Nat} (hK : X.K = T.K) (hc : X.calm = true) (h : PGsA X es is) (hn : (assignEach es X.env).length = is.length := by rfl) (hst : (assignEach es X.env).findIdx? (·.1) = none := by rfl) : PGA T X (.Tuple es k pos) (.tup is) :=
 ⟨_, yeM hc h hn hst, fun {ι h H en e σ v u Q} S er r q k => by
  unfold setT at q
  split at q
  ·rename_i hh; cases hh
  ·rename_i hh
   cases hh
   obtain ⟨a, us, rfl, q1, r1⟩ := ycE r
   obtain ⟨h1, h2⟩ := zdk r1 er q
   exact ⟨a, us, rfl, hK ▸ q1, h2, h2, k _ h1⟩
  ·rename_i hh; cases hh
  ·cases q⟩
theorem ydB {tg : Expr} {t : Tg} (ha : PEA T E X a sa) (hg : PGA T X tg t) (hs : swapsWithSole [tg] a pos.line X.env = pure false := by rfl) (hw : swappedStores [tg] a X.env = pure none := by rfl)
  (h1 : (assignEach [tg] X.env).map (·.2) = [assign tg X.env] := by rfl) : PSA T E X (.Assign [tg] a pos) (ydN t sa) := by
 obtain ⟨g, hg1, hg2⟩ := hg
 refine ybS (yeN ha hg1 hs hw h1) fun D σ H ⟨ι, h, en, S, er, q⟩ => ⟨ι, h, en, S, er, q.go er fun v h1 ι1 H1 u g1 S1 r1 q1 => ?_⟩
 split at q1
 ·rename_i e he
  exact hg2 S1 (er.mono g1) r1 he fun σ' er' => q1 ι1 H1 σ' S1.refl S1 er'
 ·exact q1.elim
structure ItR (T : Tb) (J : It) (ι : Ix) (H : Hp) (xs : List AV) (w : Option Nat) : Prop where
 go : ∀ (i : Nat) (ι' : Ix) (h' : AH) (H' : Hp) (x : AV), Ext ι H ι' H' -> Sim T ι' h' H' -> ybx w xs h' = true -> xs[i]? = some x -> J.go i H' /\ ∀ u H2, J.yld i H' u H2 -> Grow ι' H' ι' H2 /\ Sim T ι' h' H2 /\ RV T ι' H2 x u
 stop : ∀ (i : Nat) (ι' : Ix) (h' : AH) (H' : Hp), Ext ι H ι' H' -> Sim T ι' h' H' -> ybx w xs h' = true -> xs.length <= i -> J.stop i H'
def tI (T : Tb) (it : SI) : TI := fun σ H R => ∃ ι h en, Sim T ι h H /\ ER T ι H en σ /\ match it en h with
 | .ok (xs, w) h' => ∀ ι' H' J, Grow ι H ι' H' -> Sim T ι' h' H' -> ItR T J ι' H' xs w -> R J H'
 | _ => False
abbrev PIA (T : Tb) (X : Cx) (tg iter : Expr) (it : SI) : Prop := PI X tg iter (tI T it)
theorem ydC {X : Cx} {tg iter : Expr} {t t' : TI} (h : PI X tg iter t) (k : ∀ σ H R, t' σ H R -> t σ H R) : PI X tg iter t' := fun pins s σ H R I q => h pins s σ H R I (k σ H R q)
theorem PI.or {X : Cx} {tg iter : Expr} {t t' : TI} (h : PI X tg iter t) (h' : PI X tg iter t') : PI X tg iter (fun σ H R => t σ H R \/ t' σ H R) := fun pins s σ H R I q => q.elim (h pins s σ H R I) (h' pins s σ H R I)
theorem ye3 {ι : Ix} {H : Hp} {a : Addr} {us : List V} {xs : List AV} {K : PySem.W.Frag} (keep : ∀ (ι' : Ix) (H' : Hp), Ext ι H ι' H' -> SqL K H' a us) (r : RVs T ι H xs us) : ItR T (Itl K a) ι H xs none := by
 constructor
 ·intro i ι' h' H' x g S _ e
  obtain ⟨u, e1, r1⟩ := (r.ext g).get e
  refine ⟨⟨us, u, keep ι' H' g, e1⟩, ?_⟩
  rintro u2 H2 ⟨rfl, y⟩
  have z := y us (keep ι' _ g)
  rw [e1] at z; cases z
  exact ⟨S.refl, S, r1⟩
 ·intro i ι' h' H' g S _ hl
  exact ⟨us, keep ι' H' g, by rw [<- r.length]; exact hl⟩
theorem ygk {ι : Ix} {H : Hp} {a : Addr} {us : List V} {xs : List AV} {K : PySem.W.Frag} (keep : ∀ (ι' : Ix) (H' : Hp), Ext ι H ι' H' -> SqT K H' a us) (r : RVs T ι H xs us) : ItR T (Itt K a) ι H xs none := by
 constructor
 ·intro i ι' h' H' x g S _ e
  obtain ⟨u, e1, r1⟩ := (r.ext g).get e
  refine ⟨⟨us, u, keep ι' H' g, e1⟩, ?_⟩
  rintro u2 H2 ⟨rfl, y⟩
  have z := y us (keep ι' _ g)
  rw [e1] at z; cases z
  exact ⟨S.refl, S, r1⟩
 ·intro i ι' h' H' g S _ hl
  exact ⟨us, keep ι' H' g, by rw [<- r.length]; exact hl⟩
theorem zia {ι : Ix} {H : Hp} {a : Addr} {n : Nat} {xs : List AV} {K : PySem.W.Frag} (e : ι.refs[n]? = some a) : ItR T (Itl K a) ι H xs (some n) := by
 have at_ : ∀ {ι' : Ix} {h' : AH} {H' : Hp}, Ext ι H ι' H' -> Sim T ι' h' H' -> ybx (some n) xs h' = true -> ∃ us, H' a = some (.lst us) /\ RVs T ι' H' xs us := fun {ι' h' H'} g S l => by
  unfold ybx at l
  dsimp only at l
  split at l
  ·rename_i ys hy
   have z := of_decide_eq_true l
   subst z
   obtain ⟨u, e1, us, rfl, r⟩ := S.obj n _ a hy (g.at_ e)
   exact ⟨us, e1, r⟩
  ·cases l
 constructor
 ·intro i ι' h' H' x g S l e
  obtain ⟨us, e0, r⟩ := at_ g S l
  obtain ⟨u, e1, r1⟩ := r.get e
  refine ⟨⟨us, u, .of e0, e1⟩, ?_⟩
  rintro u2 H2 ⟨rfl, y⟩
  have z := y us (.of e0)
  rw [e1] at z; cases z
  exact ⟨S.refl, S, r1⟩
 ·intro i ι' h' H' g S l hl
  obtain ⟨us, e0, r⟩ := at_ g S l
  exact ⟨us, .of e0, by rw [<- r.length]; exact hl⟩
theorem zib {ι : Ix} {H : Hp} {x : Str} (o : x.cps.all (· < 0x110000) = true) : ItR T (Its x) ι H (x.cps.toList.map fun c => .str ⟨#[c]⟩) none := by
 constructor
 ·intro i ι' h' H' y g S _ e
  rw [List.getElem?_map] at e
  obtain ⟨c, e1, rfl⟩ := Option.map_eq_some_iff.mp e
  have hi : i < x.cps.size := by
   have := (List.getElem?_eq_some_iff.mp e1).1
   simpa using this
  refine ⟨hi, ?_⟩
  rintro u H2 ⟨rfl, c', e2, rfl⟩
  have z : x.cps[i]? = some c := by simpa using e1
  rw [e2] at z; cases z
  refine ⟨S.refl, S, .str (show 1 <= sizeLine by decide) ?_⟩
  have m := Array.mem_of_getElem? e2
  have := Array.all_eq_true_iff_forall_mem.mp o _ m
  simpa using this
 ·intro i ι' h' H' g S _ hl
  show x.cps.size <= i
  simpa using hl
theorem zfz (n : Nat) : ∀ (lo : Int) (i : Nat), (yaO lo n)[i]? = if i < n then some (.int (lo + i)) else none := by
 induction n with
 | zero => intro lo i; simp [yaO]
 | succ n ih =>
  intro lo i
  cases i with
  | zero => simp [yaO]
  | succ i =>
   show (yaO (lo + 1) n)[i]? = _
   rw [ih]
   by_cases h : i < n
   ·rw [if_pos h, if_pos (by omega)]
    congr 2
    show lo + 1 + (i : Int) = lo + ((i + 1 : Nat) : Int)
    omega
   ·rw [if_neg h, if_neg (by omega)]
theorem zdx (n : Nat) : ∀ lo : Int, (yaO lo n).length = n := by
 induction n with
 | zero => intro lo; rfl
 | succ n ih => intro lo; show (yaO (lo + 1) n).length + 1 = n + 1; rw [ih]
theorem zgg {ι : Ix} {H : Hp} {lo : Int} {n : Nat} : ItR T (Itr lo n) ι H (yaO lo n) none := by
 constructor
 ·intro i ι' h' H' y g S _ e
  rw [zfz] at e
  split at e
  ·rename_i hi
   cases e
   refine ⟨hi, ?_⟩
   rintro u H2 ⟨rfl, rfl⟩
   exact ⟨S.refl, S, .int _⟩
  ·cases e
 ·intro i ι' h' H' g S _ hl
  rw [zdx] at hl
  exact hl
theorem numbered_get : ∀ (xs : List AV) (k i : Nat), (numbered k xs)[i]? = (xs[i]?).map fun x => .tup [.int ((k + i : Nat) : Int), x]
 | [], k, i => by simp [numbered]
 | x :: xs, k, 0 => by simp [numbered]
 | x :: xs, k, i + 1 => by
  show (numbered (k + 1) xs)[i]? = _
  rw [numbered_get xs (k + 1) i]
  show _ = (xs[i]?).map _
  congr 1
  funext y
  rw [show k + 1 + i = k + (i + 1) by omega]
theorem zbe : ∀ (xs : List AV) (k : Nat), (numbered k xs).length = xs.length
 | [], _ => rfl
 | x :: xs, k => by show (numbered (k + 1) xs).length + 1 = _; rw [zbe xs]; rfl
theorem zdN {ι : Ix} {H : Hp} {a : Addr} {us : List V} {xs : List AV} {K : PySem.W.Frag} (keep : ∀ (ι' : Ix) (H' : Hp), Ext ι H ι' H' -> SqL K H' a us) (r : RVs T ι H xs us) : ItR T (Ite K a) ι H (numbered 0 xs) none := by
 constructor
 ·intro i ι' h' H' x g S _ e
  rw [numbered_get] at e
  obtain ⟨y, e0, rfl⟩ := Option.map_eq_some_iff.mp e
  obtain ⟨u, e1, r1⟩ := (r.ext g).get e0
  refine ⟨⟨us, u, keep ι' H' g, e1⟩, ?_⟩
  rintro u2 H2 ⟨t, y2, rfl, hn, rfl, hy⟩
  have z := hy us (keep ι' _ g)
  rw [e1] at z; cases z
  have g2 := S.growNew (o := .tup [.int i, u]) hn
  refine ⟨g2, S.new hn, .tup (S.fresh hn) zam (.cons ?_ (.cons (r1.mono g2) .nil))⟩
  rw [Nat.zero_add]
  exact .int _
 ·intro i ι' h' H' g S _ hl
  rw [zbe] at hl
  exact ⟨us, keep ι' H' g, by rw [<- r.length]; exact hl⟩
theorem yfv {ι : Ix} {H : Hp} {a : Addr} {us : List V} (n : a ∉ ι.all) (h : Rd H a (.lst us)) : ∀ (ι' : Ix) (H' : Hp), Ext ι H ι' H' -> SqL T.K H' a us := fun _ _ g => .inl (zeC g n h)
theorem yhb {ι : Ix} {H : Hp} {a : Addr} {us : List V} (n : a ∉ ι.all) (h : H a = some (.tup us)) : ∀ (ι' : Ix) (H' : Hp), Ext ι H ι' H' -> SqT T.K H' a us := fun _ _ g => .of (g.keep _ _ n h)
theorem yd5 {K K' : PySem.W.Frag} {H : Hp} {a : Addr} {us : List V} (e : K = K') (h : SqL K' H a us) : SqL K H a us := e ▸ h
theorem yeh {σ : St} {H : Hp} {R : It -> Hp -> Prop} {ι : Ix} {h h1 : AH} {en : En} {v : AV} {xs : List AV} {w : Option Nat} (hK : X.K = T.K) (S : Sim T ι h H) (er : ER T ι H en σ) (e : sa en h = .ok v h1) (hv : (v = .fl xs /\ w = none) \/ ∃ n, v = .ref n /\ h1[n]? = some (.lst xs) /\ w = some n)
  (q : ∀ ι' H' J, Grow ι H ι' H' -> Sim T ι' h1 H' -> ItR T J ι' H' xs w -> R J H') : yfm X.K (tE T E sa) σ H R := by
 refine ⟨ι, h, en, S, er, ?_⟩
 rw [e]
 intro ι1 H1 u g1 S1 r1
 rcases hv with ⟨rfl, rfl⟩ | ⟨n, rfl, hn, rfl⟩
 ·cases r1 with
  | fl n hr rs => exact ⟨_, rfl, ⟨_, yd5 hK (.inl hr)⟩, q ι1 H1 _ g1 S1 (hK ▸ ye3 (yfv n hr) rs)⟩
  | kfl hr rs => exact ⟨_, rfl, ⟨_, yd5 hK (.inr hr)⟩, q ι1 H1 _ g1 S1 (hK ▸ ye3 (fun _ _ _ => .inr hr) rs)⟩
 ·cases r1 with
  | ref hr =>
   obtain ⟨u, e1, us, rfl, rs⟩ := S1.obj n _ _ hn hr
   exact ⟨_, rfl, ⟨_, .of e1⟩, q ι1 H1 _ g1 S1 (zia hr)⟩
theorem yfw {σ : St} {H : Hp} {R : It -> Hp -> Prop} {ι : Ix} {h h1 : AH} {en : En} {xs : List AV} (hK : X.K = T.K) (S : Sim T ι h H) (er : ER T ι H en σ) (e : sa en h = .ok (.tup xs) h1)
  (q : ∀ ι' H' J, Grow ι H ι' H' -> Sim T ι' h1 H' -> ItR T J ι' H' xs none -> R J H') : iTup X.K (tE T E sa) σ H R := by
 refine ⟨ι, h, en, S, er, ?_⟩
 rw [e]
 intro ι1 H1 u g1 S1 r1
 cases r1 with
 | tup n hr rs => exact ⟨_, rfl, ⟨_, .of hr⟩, q ι1 H1 _ g1 S1 (hK ▸ ygk (yhb n hr) rs)⟩
theorem zb3 {tg : Expr} (hK : X.K = T.K) (ha : PEA T E X a sa) : PIA T X tg a (ybw sa) :=
 ydC (PI.or (zeu ha) (yeO ha)) fun σ H R ⟨ι, h, en, S, er, q⟩ => by
  unfold ybw at q
  cases e : sa en h with
  | bad => rw [e] at q; exact q.elim
  | ex c h1 => rw [e] at q; exact q.elim
  | ok v h1 =>
   rw [e] at q
   cases v with
   | fl xs => exact .inl (yeh hK S er e (.inl ⟨rfl, rfl⟩) q)
   | tup xs => exact .inr (yfw hK S er e q)
   | ref n =>
    dsimp only [Out.bind] at q
    cases e2 : h1[n]? with
    | none => rw [e2] at q; exact q.elim
    | some o =>
     rw [e2] at q
     cases o with
     | lst xs => exact .inl (yeh hK S er e (.inr ⟨n, rfl, e2, rfl⟩) q)
     | _ => exact q.elim
   | _ => exact q.elim
theorem yeq {y : Str} {py : Pos} (hK : X.K = T.K) (ha : PEA T E X a sa) : PIA T X (.Name y py) a (iVal sa) :=
 ydC (PI.or (zeu ha) (PI.or (yeO ha) (yga ha))) fun σ H R ⟨ι, h, en, S, er, q⟩ => by
  unfold iVal at q
  cases e : sa en h with
  | bad => rw [e] at q; exact q.elim
  | ex c h1 => rw [e] at q; exact q.elim
  | ok v h1 =>
   rw [e] at q
   cases v with
   | fl xs => exact .inl (yeh hK S er e (.inl ⟨rfl, rfl⟩) q)
   | tup xs => exact .inr (.inl (yfw hK S er e q))
   | str z =>
    refine .inr (.inr ⟨ι, h, en, S, er, ?_⟩)
    rw [e]
    intro ι1 H1 u g1 S1 r1
    obtain ⟨rfl, _, o⟩ := ya8 r1
    exact ⟨_, rfl, q ι1 H1 _ g1 S1 (zib o)⟩
   | ref n =>
    dsimp only [Out.bind] at q
    cases e2 : h1[n]? with
    | none => rw [e2] at q; exact q.elim
    | some o =>
     rw [e2] at q
     cases o with
     | lst xs => exact .inl (yeh hK S er e (.inr ⟨n, rfl, e2, rfl⟩) q)
     | _ => exact q.elim
   | _ => exact q.elim
theorem zaK {tg : Expr} {p : Pos} (hg : Gl X "range") (hm : X.mg "range" = none) (ha : PEA T E X a sa) (hs : starEach [a] X.env = [(false, eval a X.env)] := by rfl) : PIA T X tg (.Call (.Name "range" p) [a] [] pos) (yaZ sa) :=
 ydC (zfR hg hm (zaa ha yab hs) hs) fun σ H R ⟨ι, h, en, S, er, q⟩ => by
  unfold yaZ at q
  refine ⟨ι, h, en, S, er, ?_⟩
  unfold sCons
  cases e : sa en h with
  | bad => rw [e] at q; exact q
  | ex c h1 => rw [e] at q; exact q.elim
  | ok v h1 =>
   rw [e] at q
   intro ι1 H1 u g1 S1 r1
   dsimp only [Out.bind] at q
   cases v with
   | int j =>
    dsimp only at q
    split at q
    ·rename_i hx
     split at hx
     ·rename_i hb
      cases hx
      cases r1 with
      | cons r r' =>
       cases r'
       rw [yax r]
       exact ⟨j, rfl, by omega, by omega, q ι1 H1 _ g1 S1 zgg⟩
     ·cases hx
    ·exact q.elim
   | _ => exact q.elim
theorem zic {p tp : Pos} {es : List Expr} {k : Nat} (hK : X.K = T.K) (hg : Gl X "enumerate") (hm : X.mg "enumerate" = none) (ha : PEA T E X a sa) (hs : starEach [a] X.env = [(false, eval a X.env)] := by rfl) : PIA T X (.Tuple es k tp) (.Call (.Name "enumerate" p) [a] [] pos) (Sm.iEnum sa) :=
 ydC (zhZ hg hm (zaa ha yab hs) hs) fun σ H R ⟨ι, h, en, S, er, q⟩ => by
  unfold Sm.iEnum at q
  refine ⟨ι, h, en, S, er, ?_⟩
  unfold sCons
  cases e : sa en h with
  | bad => rw [e] at q; exact q
  | ex c h1 => rw [e] at q; exact q.elim
  | ok v h1 =>
   rw [e] at q
   intro ι1 H1 u g1 S1 r1
   dsimp only [Out.bind] at q
   cases v with
   | fl xs =>
    cases r1 with
    | cons r r' =>
     cases r'
     cases r with
     | fl n hr rs => exact ⟨_, rfl, ⟨_, yd5 hK (.inl hr)⟩, q ι1 H1 _ g1 S1 (hK ▸ zdN (yfv n hr) rs)⟩
     | kfl hr rs => exact ⟨_, rfl, ⟨_, yd5 hK (.inr hr)⟩, q ι1 H1 _ g1 S1 (hK ▸ zdN (fun _ _ _ => .inr hr) rs)⟩
   | _ => exact q.elim
theorem zbM {α : Type} {xs : List α} {i : Nat} (h : i < xs.length) : xs.drop i = xs[i] :: xs.drop (i + 1) := by simp
theorem ydn {tg iter : Expr} {it : SI} {t : Tg} (hc : X.calm = true) (hi : PIA T X.nox tg iter it) (hg : PGA T X.nox tg t) (hb : PSsA T EN X.nox sts s1) (hs : ∀ x, foldedSetIterable iter X.nox.env x = pure x := by intro _; rfl) :
  PSA T E X (.For tg iter sts [] pos) (sFor it t s1) := by
 obtain ⟨g, hg1, hg2⟩ := hg
 refine ybS (ye0 (yfT PassesOwn.never hc hi hg1 hb hs)) fun D σ H ⟨ι, h, en, S, er, q⟩ => ⟨ι, h, en, S, er, ?_⟩
 unfold sFor at q
 cases e : it en h with
 | bad => rw [e] at q; exact q
 | ex c h1 => rw [e] at q; exact q
 | ok p h1 =>
  obtain ⟨xs, w⟩ := p
  rw [e] at q
  intro ι1 H1 J g1 S1 IR
  refine ⟨fun i m σ H => m = xs.length - i /\ i <= xs.length /\ ∃ ι' h' en', Grow ι1 H1 ι' H /\ Sim T ι' h' H /\ ER T ι' H en' σ /\ PostS T ι' H E (ybf w xs t s1 (xs.drop i) en' h') D,
   ⟨xs.length, by simp, Nat.zero_le _, ι1, h1, en, S1.refl, S1, er.mono g1, PostS.shift q g1⟩, ?_⟩
  rintro i m σ H ⟨rfl, hi, ι', h', en', g', S', er', q'⟩
  by_cases hl : i < xs.length
  ·rw [zbM hl] at q'
   unfold ybf at q'
   split at q'
   ·rename_i hlive
    obtain ⟨go, yld⟩ := IR.go i ι' h' H xs[i] g'.ext S' hlive (by simp [hl])
    refine .inr ⟨go, fun σ H => ∃ ι' h' en', Grow ι1 H1 ι' H /\ Sim T ι' h' H /\ ER T ι' H en' σ /\ PostS T ι' H E (ybf w xs t s1 (xs.drop (i + 1)) en' h') D,
     fun σ' H' w' => ⟨xs.length - (i + 1), by omega, rfl, hl, w'⟩, fun x H' y => ?_⟩
    obtain ⟨g2, S2, r2⟩ := yld x H' y
    split at q'
    ·rename_i e1 he1
     refine hg2 S2 (er'.mono g2) r2 he1 fun σ' er2 => ⟨ι', h', e1, S2, er2, ?_⟩
     have q2 := PostS.shift q' g2
     cases e2 : s1 e1 h' with
     | nx e3 h3 => rw [e2] at q2; exact fun ι3 H3 σ3 g3 S3 er3 => ⟨ι3, h3, e3, g'.trans (g2.trans g3), S3, er3, q2.shift g3⟩
     | ct e3 h3 => rw [e2] at q2; exact fun ι3 H3 σ3 g3 S3 er3 => ⟨ι3, h3, e3, g'.trans (g2.trans g3), S3, er3, q2.shift g3⟩
     | bk e3 h3 => rw [e2] at q2; exact q2
     | rt v h3 => rw [e2] at q2; exact q2
     | ex c e3 h3 => rw [e2] at q2; exact (show False from q2).elim
     | bad => rw [e2] at q2; exact q2
    ·exact (show False from q').elim
   ·exact (show False from q').elim
  ·have ei : i = xs.length := by omega
   subst ei
   rw [List.drop_length] at q'
   unfold ybf at q'
   split at q'
   ·rename_i hlive
    exact .inl ⟨IR.stop _ ι' h' H g'.ext S' hlive (Nat.le_refl _), q' ι' H σ S'.refl S' er'⟩
   ·exact (show False from q').elim
theorem ER.comp {ι : Ix} {H : Hp} {en : En} {σ : St} {x : AV} {u : V} {jf : List (Nat × Str)} (er : ER T ι H en σ) (r : RV T ι H x u) : ER T ι H (some x :: (jf.map (·.1)).map fun j => (en[j]?).join) (ybl (some u) jf σ) := by
 refine ⟨by simp [ybl], fun i v e => ?_⟩
 cases i with
 | zero => simp at e; subst e; exact ⟨u, rfl, r⟩
 | succ i =>
  simp only [List.getElem?_cons_succ, List.getElem?_map] at e
  unfold ybl
  simp only [List.getElem?_cons_succ, List.getElem?_map]
  cases e1 : jf[i]? with
  | none => rw [e1] at e; cases e
  | some j =>
   rw [e1] at e
   simp only [Option.map_some, Option.some.injEq] at e
   have e2 : en[j.1]? = some (some v) := by
    cases e3 : en[j.1]? with
    | none => rw [e3] at e; cases e
    | some o => rw [e3] at e; exact congrArg some e
   obtain ⟨u', e4, r'⟩ := er.2 j.1 v e2
   exact ⟨u', by simp [e4], r'⟩
theorem zeJ {jf : List (Nat × Str)} {it : SI} {cc : SB} {ce : SE} {σ : St} {H : Hp} {Q : VK} {ι : Ix} {h : AH} {en : En} (S : Sim T ι h H) (er : ER T ι H en σ)
  (q : match it en h with | .ok (xs, w) h1 => (match yaB (jf.map (·.1)) en w xs cc ce xs [] h1 with | .ok ys h2 => ∀ ι' H' D vs, Grow ι H ι' H' -> Sim T (ι'.hide D) h2 H' -> RVs T (ι'.hide D) H' ys vs -> H' D = some (.lst vs) -> D ∉ ι'.all -> (∀ n, ι'.refs = ι.refs ++ n -> ∀ a ∈ n ++ [D], H a = none) -> Q (.ref D) H' | _ => False) | _ => False) :
  ydK jf (tI T it) (tT T EN cc) (tE T EN ce) σ H Q := by
 refine ⟨ι, h, en, S, er, ?_⟩
 cases e : it en h with
 | bad => rw [e] at q; exact q
 | ex c h1 => rw [e] at q; exact q
 | ok p h1 =>
  obtain ⟨xs, w⟩ := p
  rw [e] at q
  dsimp only at q
  intro ι1 H1 J g1 S1 IR D hD
  refine ⟨fun i m ys H2 => m = xs.length - i /\ i <= xs.length /\ H2 D = some (.lst ys) /\ ∃ ι' h' vs, Grow ι1 H1 ι' H2 /\ Ext ι1 H1 (ι'.hide D) H2 /\ Sim T (ι'.hide D) h' H2 /\ ER T (ι'.hide D) H2 en σ /\ RVs T (ι'.hide D) H2 vs ys /\ D ∉ ι'.refs /\
   (match yaB (jf.map (·.1)) en w xs cc ce (xs.drop i) vs h' with | .ok ys h2 => ∀ ι' H' D vs, Grow ι H ι' H' -> Sim T (ι'.hide D) h2 H' -> RVs T (ι'.hide D) H' ys vs -> H' D = some (.lst vs) -> D ∉ ι'.all -> (∀ n, ι'.refs = ι.refs ++ n -> ∀ a ∈ n ++ [D], H a = none) -> Q (.ref D) H' | _ => False), ?_, ?_⟩
  ·exact ⟨xs.length, by simp, Nat.zero_le _, zam, ι1, h1, [], S1.growNew hD, Ext.hide hD, S1.hide hD, (er.mono g1).ext (Ext.hide hD), .nil, fun z => S1.fresh hD (List.mem_append_left _ z), q⟩
  ·rintro i m ys H2 ⟨rfl, hi, hH2, ι', h', vs, g', x', S', er', rv', nD', q'⟩
   refine ⟨hH2, ?_⟩
   by_cases hl : i < xs.length
   ·rw [zbM hl] at q'
    unfold yaB at q'
    by_cases hs : ybx w xs h' = true /\ vs.length < sizeLine
    ·rw [if_pos hs] at q'
     obtain ⟨hs1, hs2⟩ := hs
     obtain ⟨go, yld⟩ := IR.go i _ h' H2 xs[i] x' S' hs1 (by simp [hl])
     refine .inr ⟨go, by rw [<- rv'.length]; exact hs2, fun x H3 y => ?_⟩
     obtain ⟨g3, S3, r3⟩ := yld x H3 y
     have er3 := er'.mono g3
     refine ⟨ι'.hide D, h', _, S3, ER.comp er3 r3, ?_⟩
     cases ec : cc (some xs[i] :: (jf.map (·.1)).map fun j => (en[j]?).join) h' with
     | bad => rw [ec] at q'; exact q'
     | ex c h5 => rw [ec] at q'; exact q'.elim
     | ok bb h5 =>
      rw [ec] at q'
      intro ι5 H5 b5 g5 S5 r5
      subst r5
      have g35 := g3.trans g5
      have hD5 : H5 D = some (.lst ys) := g35.keep D _ nD' hH2
      have eι : ι5 = Ix.hide ⟨ι5.refs, ι'.priv⟩ D := by
       have := g5.priv
       cases ι5
       simp only at this
       subst this
       rfl
      have nD5 : D ∉ ι5.refs := g35.outR nD' hH2
      have gG5 : Grow ι1 H1 ⟨ι5.refs, ι'.priv⟩ H5 := by
       obtain ⟨n, en1, hn⟩ := g'.pre
       obtain ⟨k, ek, hk⟩ := g35.pre
       refine ⟨⟨n ++ k, ?_, fun a ha => ?_⟩, g'.priv, fun a o na ea => ?_, fun a ha => ?_⟩
       ·show ι5.refs = _; rw [ek]; show ι'.refs ++ k = _; rw [en1]; simp
       ·rcases List.mem_append.mp ha with z | z
        ·exact hn a z
        ·have z2 := hk a z
         by_cases hr : a ∈ ι1.refs
         ·exact absurd z2 (g'.live a (List.mem_append_left _ hr))
         ·cases e9 : H1 a with
          | none => rfl
          | some o => rw [g'.keep a o hr e9] at z2; cases z2
       ·exact g35.keep a o (g'.outR na ea) (g'.keep a o na ea)
       ·have : a ∈ (ι'.hide D).all := by
         rcases List.mem_append.mp ha with z | z
         ·exact List.mem_append_left _ (by show a ∈ ι'.refs; rw [en1]; exact List.mem_append_left _ z)
         ·exact List.mem_append_right _ (List.mem_cons_of_mem _ (by rw [g'.priv]; exact z))
        exact g35.live a this
      have x5 : Ext ι1 H1 (Ix.hide ⟨ι5.refs, ι'.priv⟩ D) H5 := eι ▸ x'.trans g35.ext
      have er5 := er3.mono g5
      have rv5 := (rv'.mono g35)
      cases bb with
      | false =>
       rw [if_neg Bool.false_ne_true]
       refine ⟨xs.length - (i + 1), by omega, rfl, hl, hD5, ⟨ι5.refs, ι'.priv⟩, h5, vs, gG5, x5, eι ▸ S5, eι ▸ er5, eι ▸ rv5, nD5, q'⟩
      | true =>
       rw [if_pos rfl]
       refine ⟨ι5, h5, _, S5, (ER.comp er3 r3).mono g5, ?_⟩
       dsimp only at q'
       cases ee : ce (some xs[i] :: (jf.map (·.1)).map fun j => (en[j]?).join) h5 with
       | bad => rw [ee] at q'; exact q'
       | ex c h6 => rw [ee] at q'; exact q'.elim
       | ok v h6 =>
        rw [ee] at q'
        intro ι6 H6 u6 g6 S6 r6
        have g56 := g6
        have hD6 : H6 D = some (.lst ys) := g56.keep D _ nD5 hD5
        have eι6 : ι6 = Ix.hide ⟨ι6.refs, ι'.priv⟩ D := by
         have h1 := g6.priv
         have h2 := g5.priv
         rw [h2] at h1
         cases ι6
         simp only at h1
         subst h1
         rfl
        have nD6 : D ∉ ι6.refs := g56.outR nD5 hD5
        have gG6 : Grow ι1 H1 ⟨ι6.refs, ι'.priv⟩ (upd H6 D (.lst (ys ++ [u6]))) := by
         obtain ⟨n, en1, hn⟩ := gG5.pre
         obtain ⟨k, ek, hk⟩ := g56.pre
         have hD1 : ∀ a o, H1 a = some o -> a ≠ D := fun a o ea => zao ea hD
         refine ⟨⟨n ++ k, ?_, fun a ha => ?_⟩, g'.priv, fun a o na ea => ?_, fun a ha => ?_⟩
         ·show ι6.refs = _; rw [ek]; have z : ι5.refs = ι1.refs ++ n := en1; rw [z]; simp
         ·rcases List.mem_append.mp ha with z | z
          ·exact hn a z
          ·have z2 := hk a z
           by_cases hr : a ∈ ι1.refs
           ·exact absurd z2 (gG5.live a (List.mem_append_left _ hr))
           ·cases e9 : H1 a with
            | none => rfl
            | some o => rw [gG5.keep a o hr e9] at z2; cases z2
         ·rw [yar (hD1 a o ea)]
          exact g56.keep a o (gG5.outR na ea) (gG5.keep a o na ea)
         ·by_cases zD : a = D
          ·subst zD; rw [zam]; simp
          ·rw [yar zD]
           have : a ∈ ι5.all := by
            rcases List.mem_append.mp ha with z | z
            ·exact List.mem_append_left _ (by have z' : ι5.refs = ι1.refs ++ n := en1; rw [z']; exact List.mem_append_left _ z)
            ·rw [eι]; exact List.mem_append_right _ (List.mem_cons_of_mem _ (by show a ∈ ι'.priv; rw [g'.priv]; exact z))
           exact g56.live a this
        refine ⟨hD6, xs.length - (i + 1), by omega, rfl, hl, zam, ⟨ι6.refs, ι'.priv⟩, h6, vs ++ [v], gG6, ?_, ?_, ?_, ?_, nD6, q'⟩
        ·exact (eι6 ▸ (x'.trans (g35.ext.trans g6.ext))).trans Ext.poke
        ·exact Sim.poke (eι6 ▸ S6) nD6
        ·exact ER.ext (eι6 ▸ er5.mono g6) Ext.poke
        ·have : RVs T ι6 H6 (vs ++ [v]) (ys ++ [u6]) := (rv5.mono g6).append (.cons r6 .nil)
         exact RVs.ext Ext.poke (eι6 ▸ this)
    ·rw [if_neg hs] at q'; exact q'.elim
   ·have ei : i = xs.length := by omega
    subst ei
    rw [List.drop_length] at q'
    unfold yaB at q'
    by_cases hs : ybx w xs h' = true
    ·rw [if_pos hs] at q'
     have hp : D ∉ ι'.priv := fun z => by rw [g'.priv] at z; exact S1.plive D z hD
     refine .inl ⟨IR.stop _ _ h' H2 x' S' hs (Nat.le_refl _), q' ι' H2 D ys (g1.trans g') S' rv' hH2 (fun z => (List.mem_append.mp z).elim nD' hp) fun n en1 a ha => ?_⟩
     obtain ⟨k, ek, hk⟩ := (g1.trans g').pre
     have : n = k := List.append_cancel_left (en1.symm.trans ek)
     subst this
     rcases List.mem_append.mp ha with z | z
     ·exact hk a z
     ·have z' : a = D := by simpa using z
      subst z'
      cases e9 : H a with
      | none => rfl
      | some o =>
       by_cases hr : a ∈ ι.refs
       ·have z1 : a ∈ ι1.refs := by
         obtain ⟨k1, ek1, _⟩ := g1.pre
         rw [ek1]; exact List.mem_append_left _ hr
        exact absurd hD (S1.live a (List.mem_append_left _ z1))
       ·rw [g1.keep a o hr e9] at hD; cases hD
    ·rw [if_neg hs] at q'; exact q'.elim
end
end Sm
namespace Sm
open PySem PySem.Spec L2
section
variable {T : Tb} {E : St -> XK} {X : Cx} {pos px : Pos} {iter elt : Expr} {ifs : List Expr} {scope : Scope} {x₁ : Str} {jf : List (Nat × Str)} {it : SI} {cc : SB} {ce : SE}
theorem zeK {σ : St} {H : Hp} {Q : VK} (q : tE T E (yaY (jf.map (·.1)) it cc ce) σ H Q) : ydK jf (tI T it) (tT T EN cc) (tE T EN ce) σ H Q := by
 obtain ⟨ι, h, en, S, er, q⟩ := q
 refine zeJ S er ?_
 unfold yaY at q
 cases e : it en h with
 | bad => rw [e] at q; exact q
 | ex c h1 => rw [e] at q; exact q.elim
 | ok p h1 =>
  obtain ⟨xs, w⟩ := p
  rw [e] at q
  dsimp only at q ⊢
  cases e2 : yaB (jf.map (·.1)) en w xs cc ce xs [] h1 with
  | bad => rw [e2] at q; exact q
  | ex c h1 => rw [e2] at q; exact q.elim
  | ok ys h2 =>
   rw [e2] at q
   exact fun ι' H' D vs g S' r hD nD _ => q ι' H' _ g S'.show (.fl nD (.inl hD) (r.ext Ext.show))
theorem zg9 {σ : St} {H : Hp} {Q : VK} (q : tE T E (ycU (jf.map (·.1)) it cc ce) σ H Q) : ydK jf (tI T it) (tT T EN cc) (tE T EN ce) σ H Q := by
 obtain ⟨ι, h, en, S, er, q⟩ := q
 refine zeJ S er ?_
 unfold ycU at q
 cases e : it en h with
 | bad => rw [e] at q; exact q
 | ex c h1 => rw [e] at q; exact q.elim
 | ok p h1 =>
  obtain ⟨xs, w⟩ := p
  rw [e] at q
  dsimp only at q ⊢
  cases e2 : yaB (jf.map (·.1)) en w xs cc ce xs [] h1 with
  | bad => rw [e2] at q; exact q
  | ex c h1 => rw [e2] at q; exact q.elim
  | ok ys h2 =>
   rw [e2] at q
   intro ι' H' D vs g S' r hD nD hn
   obtain ⟨n, en1, _⟩ := g.pre
   have S2 : Sim T (ι'.add D) (h2 ++ [.lst ys]) H' := S'.adopt (Ix.nr nD) hD ⟨vs, rfl, r.ext Ext.adopt⟩
   refine q (ι'.add D) H' _ ⟨⟨n ++ [D], ?_, hn n en1⟩, g.priv, g.keep, g.live⟩ S2 (.ref ?_)
   ·show ι'.refs ++ [D] = _; rw [en1]; simp
   ·show (ι'.refs ++ [D])[h2.length]? = some D
    have : ι'.refs.length = h2.length := S'.len
    rw [<- this]; simp
theorem zaS : PTs X [] (tT T E sYes) := fun pins s σ H Q I ⟨ι, h, en, S, er, q⟩ => zh0 pins s σ H Q I (q.now S rfl)
theorem zid {c : Expr} (hc : PTA T E X c cc) : PTs X [c] (tT T E cc) := zh1 hc
structure CompOk (X : Cx) (x₁ : Str) (jf : List (Nat × Str)) (scope : Scope) : Prop where
 hN : (x₁ :: jf.map (·.2)).Nodup
 hx : scope.names.lookup x₁ = some .local
 hjf : ∀ p ∈ jf, X.N[p.1]? = some p.2
 hjl : ∀ p ∈ jf, scope.names.lookup p.2 = some .free
 hkind : scope.kind = .function
 hcell : ∀ y ∈ scope.names, y.2 ≠ .cell
 hfr : ∀ y ∈ scope.names, y.2 = .free -> X.env.kindOf y.1 = some .cell \/ X.env.kindOf y.1 = some .free
 hnames : ∀ y ∈ scope.names, y.2 = .local -> scope.names.lookup y.1 = some .local
theorem yer (C : CompOk X x₁ jf scope) (hcalm : X.calm = true) (hi : PIA T X (.Name x₁ px) iter it) (hc : ∀ pins cl s H fp, PTs (yaR X pins x₁ jf scope cl s H fp) ifs (tT T EN cc)) (he : ∀ pins cl s H fp, PEA T EN (yaR X pins x₁ jf scope cl s H fp) elt ce)
  (hs : ∀ x, foldedSetIterable iter X.env x = pure x := by intro _; rfl) : PEA T E X (.ListComp elt [⟨.Name x₁ px, iter, ifs, 0⟩] scope pos) (yaY (jf.map (·.1)) it cc ce) :=
 yaJ (zeB hcalm hi hc he C.hN C.hx C.hjf C.hjl C.hkind C.hcell C.hfr C.hnames hs) fun _ _ _ q => zeK q
theorem zie (C : CompOk X x₁ jf scope) (hcalm : X.calm = true) (hi : PIA T X (.Name x₁ px) iter it) (hc : ∀ pins cl s H fp, PTs (yaR X pins x₁ jf scope cl s H fp) ifs (tT T EN cc)) (he : ∀ pins cl s H fp, PEA T EN (yaR X pins x₁ jf scope cl s H fp) elt ce)
  (hs : ∀ x, foldedSetIterable iter X.env x = pure x := by intro _; rfl) : PEA T E X (.ListComp elt [⟨.Name x₁ px, iter, ifs, 0⟩] scope pos) (ycU (jf.map (·.1)) it cc ce) :=
 yaJ (zeB hcalm hi hc he C.hN C.hx C.hjf C.hjl C.hkind C.hcell C.hfr C.hnames hs) fun _ _ _ q => zg9 q
theorem zeL {y : Str} {py spos : Pos} {i : Nat} (C : CompOk X x₁ jf scope) (hcalm : X.calm = true) (hi : PIA T X (.Name x₁ px) iter it) (hc : ∀ pins cl s H fp, PTs (yaR X pins x₁ jf scope cl s H fp) ifs (tT T EN cc)) (he : ∀ pins cl s H fp, PEA T EN (yaR X pins x₁ jf scope cl s H fp) elt ce)
  (hNX : X.N.Nodup) (hi' : X.N[i]? = some y := by rfl) (hy : X.env.scope.names.lookup y = some .local := by rfl) (hsw : swapsWith (.ListComp elt [⟨.Name x₁ px, iter, ifs, 0⟩] scope pos) (some (.Name y py)) spos.line X.env = pure true := by rfl) (hs : ∀ x, foldedSetIterable iter X.env x = pure x := by intro _; rfl) :
  PSA T E X (.Assign [.Name y py] (.ListComp elt [⟨.Name x₁ px, iter, ifs, 0⟩] scope pos) spos) (sSet i (yaY (jf.map (·.1)) it cc ce)) :=
 ybS (zh2 hcalm hi hc he C.hN C.hx C.hjf C.hjl C.hkind C.hcell C.hfr C.hnames hNX hi' hy hsw hs) fun D σ H q => zeK (ye2 q)
end
def spA (T : Tb) (F : Fn) : Sp := fun vs H Q E => ∃ ι h args, Sim T ι h H /\ RVs T ι H args vs /\ Post T ι H E (RV T) (F args h) Q
def yhc (F : Fn) (n : Nat) : Prop := ∀ args h, args.length ≠ n -> F args h = .bad
theorem zcJ (n m : Nat) (b : SS) : yhc (mkFn n m b) n := fun args h hl => by
 unfold mkFn
 rw [if_neg hl]
theorem okA {P : Program} {w : World} {K : PySem.W.Frag} {mg : Str -> Option Value} {base : Heap} {T : Tb} {x qual : Str} {st : Stmt} {f : Addr} {fd : FuncData} {N ps : List Str} {k : Nat} {b : SS} (F : Fun K x qual st f fd) (hK : K = T.K) (S : FnScope N ps (yaf st))
  (hbody : ∀ (cdv : Value) (A : Around) (outer : List Env) (s : Shared) (H : Hp) (E : XK), Room k (A.deeper (PyProof.Rows.envOfC qual (yaf st) s.heap.objs.size f cdv)) -> CA T (fun _ => E) (cxOf (CXE P w) P w K mg base N qual (yaf st) f cdv A outer s H E) ->
   PSsA T (fun _ => E) (cxOf (CXE P w) P w K mg base N qual (yaf st) f cdv A outer s H E) (ybL st) b) : FnOk P w K mg base (CXE P w) (k + 1) f fd ps (spA T (mkFn ps.length N.length b)) := by
 refine F.okE S (fun vs H Q E h => ?_) (fun cdv A outer s H vs Q E hr h => ?_)
 ·obtain ⟨ι, h, args, _, r, q⟩ := h
  by_cases hl : args.length = ps.length
  ·rw [<- hl, r.length]
  ·rw [zcJ _ _ _ args h hl] at q; exact q.elim
 ·obtain ⟨ι, h, args, Si, r, q⟩ := h
  refine ⟨_, hbody cdv A outer s H E hr ⟨hK, zh4⟩, ι, h, args.map some ++ List.replicate (N.length - ps.length) none, Si, ?_, ?_⟩
  ·by_cases hl : args.length = ps.length
   ·refine ⟨by simp [L2.start, r.length, <- hl], fun i v e => ?_⟩
    unfold L2.start
    by_cases hi : i < args.length
    ·rw [List.getElem?_append_left (by simpa using hi), List.getElem?_map] at e
     rw [List.getElem?_append_left (by simpa [<- r.length] using hi), List.getElem?_map]
     obtain ⟨x, e1, e2⟩ := Option.map_eq_some_iff.mp e
     cases e2
     obtain ⟨u, e3, r3⟩ := r.get e1
     exact ⟨u, by rw [e3]; rfl, r3⟩
    ·rw [List.getElem?_append_right (by simpa using hi), List.getElem?_replicate] at e
     split at e
     ·cases e
     ·cases e
   ·rw [zcJ _ _ _ args h hl] at q; exact q.elim
  ·unfold mkFn at q
   split at q
   ·split at q
    ·rename_i e1 h1 he
     rw [he]
     exact fun ι' H' σ' g S' er => q ι' H' _ g S' .non
    ·rename_i v h1 he
     rw [he]
     exact q
    ·rename_i c e1 h1 he
     rw [he]
     exact fun ι' H' σ' C g S' er ec => q ι' H' C g S' ec
    ·exact q.elim
   ·exact q.elim
structure GF (P : Program) (w : World) (T : Tb) (mg : Str -> Option Value) (base : Heap) (k : Nat) (x : Str) (F : Fn) : Prop where
 ex : ∃ f fd ps, mg x = some (.ref f) /\ PySem.W.keepIn T.K (.ref f) = true /\ Binds T.K fd ps [] /\ FnOk P w T.K mg base (CXE P w) k f fd ps (spA T F)
structure GM (P : Program) (w : World) (T : Tb) (mg : Str -> Option Value) (base : Heap) (k : Nat) (c : Nat) (m : Str) (F : Fn) : Prop where
 ex : ∃ C f fd ps, T.cls c = some C /\ Cls T.K C /\ Meth T.K C m f /\ Binds T.K fd ps [] /\ FnOk P w T.K mg base (CXE P w) k f fd ps (spA T F)
 no : m ∉ T.fields c
section
variable {T : Tb} {E : St -> XK} {X : Cx} {pos p apos : Pos} {e o a : Expr} {es : List Expr} {x m : Str} {F : Fn} {k c : Nat} {as : SL} {so sa : SE}
theorem yam (hK : X.K = T.K) (C : CA T E X) (G : GF X.prog X.w T X.mg X.base k x F) (hr : Room k X.A) (hg : Gl X x) (ha : PAA T E X (e :: es) as) (hdb : (x == ("__debug__" : Str)) = false := by decide)
  (he : starEach (e :: es) X.env = (false, eval e X.env) :: starEach es X.env := by rfl) (hpl : (backTo pos (starEach es X.env)).any (·.1) = false := by rfl) : PEA T E X (.Call (.Name x p) (e :: es) [] pos) (yae F as) := by
 obtain ⟨f, fd, ps, h1, h2, h3, h4⟩ := G.ex
 refine yaJ (zg2 (Ex := E) (dvs := []) (hK ▸ h4) hr hg h1 (hK ▸ h2) (hK ▸ h3) .nil C.pass ha hdb he hpl) fun σ H Q ⟨ι, h, en, S, er, q⟩ => ⟨ι, h, en, S, er, q.bind fun xs h1 ι1 H1 us g1 S1 r1 q1 => ?_⟩
 rw [List.append_nil]
 exact ⟨ι1, h1, xs, S1, r1, q1⟩
theorem zeM {C : Addr} {σ : St} {H : Hp} {Q : VK} (hc : T.cls c = some C) (no : m ∉ T.fields c) (q : tE T E (yai c F so as) σ H Q) : yeV C m (spA T F) [] E (tE T E so) (tA T E as) σ H Q := by
 obtain ⟨ι, h, en, S, er, q⟩ := q
 refine ⟨ι, h, en, S, er, q.bind fun x h1 ι1 H1 u g1 S1 r1 q1 => ?_⟩
 split at q1
 ·rename_i n
  split at q1
  ·rename_i c' fs hn
   split at q1
   ·rename_i ec
    subst ec
    cases r1 with
    | @ref _ a hr =>
     obtain ⟨o, e1, C', dx, fus, hC, rfl, nd, hw, hl, _⟩ := S1.obj n _ a hn hr
     rw [hc] at hC; cases hC
     refine ⟨a, dx, fus, rfl, e1, ?_, ι1, h1, en, S1, er.mono g1, q1.bind fun xs h2 ι2 H2 us g2 S2 r2 q2 => ?_⟩
     ·cases e : fus.lookup m with
      | none => rfl
      | some v =>
       have := PySem.mem_of_lookup e
       exact absurd (hw _ this) no
     ·rw [List.append_nil]
      exact ⟨ι2, h2, .ref n :: xs, S2, .cons (.ref (g2.at hr)) r2, q2⟩
   ·exact q1.elim
  ·exact q1.elim
 ·exact q1.elim
theorem yah {pl : Sem Bool} (hK : X.K = T.K) (CC : CA T E X) (G : GM X.prog X.w T X.mg X.base k c m F) (hr : Room k X.A) (ho : PEA T E X o so) (ha : PAA T E X (e :: es) as)
  (hst : starEach (e :: es) X.env = (false, eval e X.env) :: starEach es X.env := by rfl) (hpl : (backTo pos (starEach es X.env)).any (·.1) = false := by rfl)
  (ht : eval (.Call (.Attribute o m apos) (e :: es) [] pos) X.env = (do
   let ov <- eval o X.env
   standAt apos.atName
   let (f, first) <- holding [ov] (getMethod ov m pl)
   callWith pos f first (backTo pos (starEach (e :: es) X.env)) (backToKw pos (keywordEach [] X.env))) := by rfl) : PEA T E X (.Call (.Attribute o m apos) (e :: es) [] pos) (yai c F so as) := by
 obtain ⟨C, f, fd, ps, h1, h2, h3, h4, h5⟩ := G.ex
 exact yaJ (zg3 (Ex := E) (dvs := []) (pl := pl) ho (hK ▸ h2) (hK ▸ h3) (hK ▸ h5) hr (hK ▸ h4) .nil CC.pass ha hst hpl ht) fun σ H Q q => zeM h1 G.no q
theorem zeN {pl : Sem Bool} (hK : X.K = T.K) (CC : CA T E X) (G : GM X.prog X.w T X.mg X.base k c m F) (hr : Room k X.A) (ho : PEA T E X o so)
  (ht : eval (.Call (.Attribute o m apos) [] [] pos) X.env = (do
   let ov <- eval o X.env
   standAt apos.atName
   let (f, first) <- holding [ov] (getMethod ov m pl)
   callWith pos f first (backTo pos (starEach [] X.env)) (backToKw pos (keywordEach [] X.env))) := by rfl) : PEA T E X (.Call (.Attribute o m apos) [] [] pos) (yai c F so sNil) := by
 obtain ⟨C, f, fd, ps, h1, h2, h3, h4, h5⟩ := G.ex
 intro pins s σ H Q I q
 have q' := zeM (C := C) h1 G.no q
 refine PySem.W.methodCall_KW (pl := pl) (thn (ho pins s σ H _ I q') fun u s1 ⟨x, H1, I1, rx, a, dx, fs, ex, ea, l, q⟩ => ?_) ht
 subst ex
 obtain rfl : u = Value.ref a := rx
 refine zcE I1 ea (hK ▸ h2) (hK ▸ h3) l ?_
 obtain ⟨ι, h, en, S, er, q⟩ := q
 refine PySem.W.callWith_K0 (first := [.ref a]) I1.kIn (hK ▸ h3.kp) (zcV (dvs := []) (us := [.ref a]) (vs := [.ref a]) (hK ▸ h5) hr (hK ▸ h4) .nil CC.pass I1 (.cons rfl .nil) (q.now S .nil))
structure CF (T : Tb) (c : Nat) : Prop where
 ex : ∃ C, T.cls c = some C /\ Cls T.K C /\ ∀ f ∈ T.fields c, NoAttr T.K C f
structure GK (P : Program) (w : World) (T : Tb) (mg : Str -> Option Value) (base : Heap) (k : Nat) (c : Nat) (x : Str) (F : Fn) : Prop where
 ex : ∃ C f fd ps, T.cls c = some C /\ mg x = some (.ref C) /\ Mk T.K C f /\ Binds T.K fd ps [] /\ FnOk P w T.K mg base (CXE P w) k f fd ps (spA T F)
theorem zgh {CX : CXT} {C f : Addr} {fd : FuncData} {ps : List Str} {sp : Sp} {dvs : List V} {ds : List Value} {pins : List (Addr × Obj)} {σ : St} {H : Hp} {s : Shared} {Q : VK} {us : List Value} {vs : List V} (M : Mk X.K C f) (F : FnOk X.prog X.w X.K X.mg X.base CX k f fd ps sp) (hr : Room (k + 1) X.A) (hb : Binds X.K fd ps ds) (hd : Vals dvs ds)
  (hx : ydf CX X E) (I : L2.Inv X pins σ H s) (r : Vals vs us)
  (h : ∀ x dx, H x = none -> H dx = none -> dx ≠ x -> sp (.ref x :: (vs ++ dvs)) (upd (upd H dx (.own x)) x (.ins C dx [])) (fun v H2 => v = .non /\ Q (.ref x) H2) (E σ)) :
  wpAny (model X.prog X.w) X.A (call (.ref C) us) (EP X pins σ Q) X.xe s := by
 have hq := h (s.heap.objs.size + 1) s.heap.objs.size (I.hok.fresh (Nat.le_succ _)) (I.hok.fresh (Nat.le_refl _)) (Nat.ne_of_lt (Nat.lt_succ_self _))
 have I2 := Inv.made (C := C) I
 have r2 : Vals (V.ref (s.heap.objs.size + 1) :: (vs ++ dvs)) (Value.ref (s.heap.objs.size + 1) :: (us ++ ds)) := .cons rfl (r.append hd)
 have hl : (Value.ref (s.heap.objs.size + 1) :: us ++ ds).length = ps.length := by
  have e := r2.length
  rw [F.len _ _ _ _ hq] at e
  exact e.symm
 refine wpAny_call (zgK (f := f) I.kIn M.makes M.init (beq_iff_eq.mp M.fn) (codeAny_mono (F.run _ X.stack _ _ ⟨Value.ref (s.heap.objs.size + 1) :: us, []⟩ (Value.ref (s.heap.objs.size + 1) :: (us ++ ds)) _ _ (E σ) (hr.make C us [])
  (I2.env0.make C us []) (hb _ (Value.ref (s.heap.objs.size + 1) :: us) I2.kIn hl) r2 hq) fun r s' hq' => ?_))
 cases r with
 | error e => exact hx pins σ _ _ e s' I2 hq'
 | ok fl =>
  cases fl with
  | ret u =>
   obtain ⟨v, H', I3, rv, ev, q3⟩ := I2.after hq'
   subst ev
   exact ⟨rv, ⟨V.ref (s.heap.objs.size + 1), H', I3, rfl, q3⟩⟩
  | next => exact False.elim hq'
  | brk => exact False.elim hq'
  | cont => exact False.elim hq'
theorem zif {C : Addr} {xs : List AV} {us : List V} {H : Hp} {Q : VK} {ι : Ix} {h : AH} {E : XK} {n : Nat} (hc : T.cls c = some C) (hn : (T.fields c).length = n) (S : Sim T ι h H) (r : RVs T ι H xs us)
  (q : Post T ι H E (RV T) (match F (.ref h.length :: xs) (h ++ [.ins c (List.replicate n none)]) with | .ok .non h2 => Out.ok (AV.ref h.length) h2 | .ex c h2 => .ex c h2 | _ => .bad) Q) :
  ∀ x dx, H x = none -> H dx = none -> dx ≠ x -> spA T F (.ref x :: us) (upd (upd H dx (.own x)) x (.ins C dx [])) (fun v H2 => v = .non /\ Q (.ref x) H2) E := by
 intro x dx nx ndx ne
 have nx' : (upd H dx (.own x)) x = none := by rw [yar (Ne.symm ne)]; exact nx
 have S1 := S.new (o := .own x) ndx
 have g1 := S.growNew (o := .own x) ndx
 have g2 := S1.growAdd (u := .ins C dx []) nx'
 have S2 : Sim T (ι.add x) (h ++ [.ins c (List.replicate n none)]) (upd (upd H dx (.own x)) x (.ins C dx [])) := S1.add nx' ⟨C, dx, [], hc, rfl, by simp, by simp, by simp [hn], fun i v e => by
  rw [List.getElem?_replicate] at e
  split at e
  ·cases e
  ·cases e⟩
 refine ⟨ι.add x, _, .ref h.length :: xs, S2, .cons (.ref S.addAt) (r.mono (g1.trans g2)), ?_⟩
 have q2 := q.shift (g1.trans g2)
 cases e : F (.ref h.length :: xs) (h ++ [.ins c (List.replicate n none)]) with
 | bad => rw [e] at q2; exact q2
 | ex c' h2 => rw [e] at q2; exact q2
 | ok v h2 =>
  rw [e] at q2
  cases v with
  | non => exact fun ι' H' u g S' r' => ⟨yep r', q2 ι' H' _ g S' (.ref (g.at S.addAt))⟩
  | _ => exact (show False from q2).elim
theorem zig {n : Nat} (hK : X.K = T.K) (CC : CA T E X) (G : GK X.prog X.w T X.mg X.base k c x F) (hr : Room (k + 1) X.A) (hg : Gl X x) (hn : (T.fields c).length = n := by rfl) (hdb : (x == ("__debug__" : Str)) = false := by decide) : PEA T E X (.Call (.Name x p) [] [] pos) (yeg c n F sNil) := by
 obtain ⟨C, f, fd, ps, h1, h2, h3, h4, h5⟩ := G.ex
 intro pins s σ H Q I ⟨ι, h, en, S, er, q⟩
 refine wpAny_Call_Name_kw (zbX I hg h2 ?_ hdb)
 have M : Mk X.K C f := hK ▸ h3
 exact PySem.W.callWith_K0 I.kIn M.kp (zgh (us := []) (vs := []) (dvs := []) M (hK ▸ h5) hr (hK ▸ h4) .nil CC.pass I .nil (zif h1 hn S .nil q))
theorem yaA {i : Nat} {f : Str} (hK : X.K = T.K) (CFc : CF T c) (ho : PEA T E X o so) (hf : (T.fields c)[i]? = some f := by rfl) (hb : attributeBase o f X.env (eval o X.env) = eval o X.env := by rfl) : PEA T E X (.Attribute o f pos) (Sm.sFld c i so) := by
 obtain ⟨C, hC, hcl, hna⟩ := CFc.ex
 refine yaJ (yfZ ho hb) fun σ H Q ⟨ι, h, en, S, er, q⟩ => ⟨ι, h, en, S, er, q.bind fun x h1 ι1 H1 u g1 S1 r1 q1 => ?_⟩
 split at q1
 ·rename_i n
  split at q1
  ·rename_i c' fs hn
   split at q1
   ·rename_i ec
    subst ec
    split at q1
    ·rename_i v hv
     cases r1 with
     | @ref _ a hr =>
      obtain ⟨o, e1, C', dx, fus, hC', rfl, nd, hw, hl, hr2⟩ := S1.obj n _ a hn hr
      rw [hC] at hC'; cases hC'
      obtain ⟨f', u, e2, e3, r3⟩ := hr2 i v hv
      rw [hf] at e2; cases e2
      exact ⟨a, _, dx, fus, u, rfl, e1, hK ▸ hcl, hK ▸ hna f (List.mem_of_getElem? hf), e3, q1.now S1 r3⟩
    ·exact q1.elim
   ·exact q1.elim
  ·exact q1.elim
 ·exact q1.elim
theorem zdl (f : Str) (v : V) : ∀ {fs : List (Str × V)}, (fs.map (·.1)).Nodup -> ((putF f v fs).map (·.1)).Nodup /\ ∀ g, g ∈ (putF f v fs).map (·.1) -> g = f \/ g ∈ fs.map (·.1)
 | [], _ => by simp [putF]
 | (g, x) :: r, n => by
  obtain ⟨n1, n2⟩ := List.nodup_cons.mp (show (g :: r.map (·.1)).Nodup from n)
  unfold putF
  split
  ·rename_i e
   subst e
   exact ⟨n, fun k hk => .inr hk⟩
  ·rename_i e
   obtain ⟨h1, h2⟩ := zdl f v (fs := r) n2
   refine ⟨List.nodup_cons.mpr ⟨fun z => ?_, h1⟩, fun k hk => ?_⟩
   ·rcases h2 g z with z | z
    ·exact e z
    ·exact n1 z
   ·rcases List.mem_cons.mp hk with z | z
    ·exact .inr (by rw [z]; simp)
    ·rcases h2 k z with z | z
     ·exact .inl z
     ·exact .inr (List.mem_cons_of_mem _ z)
theorem zdO : ∀ {l m : List Str}, l.Nodup -> (∀ x ∈ l, x ∈ m) -> l.length <= m.length
 | [], m, _, _ => Nat.zero_le _
 | x :: l, m, n, h => by
  obtain ⟨n1, n2⟩ := List.nodup_cons.mp n
  have hx := h x (by simp)
  have := zdO (l := l) (m := m.erase x) n2 fun y hy => by
   have ne : y ≠ x := fun z => n1 (z ▸ hy)
   exact (List.mem_erase_of_ne ne).mpr (h y (by simp [hy]))
  rw [List.length_erase_of_mem hx] at this
  have : 0 < m.length := List.length_pos_of_mem hx
  simp only [List.length_cons]
  omega
theorem zaD {i : Nat} {f : Str} {p' : Pos} (hK : X.K = T.K) (CFc : CF T c) (ho : PEA T E X o so) (ha : PEA T E X a sa) (hf : (T.fields c)[i]? = some f := by rfl) (hs : swapsWith a (some (.Attribute o f p')) pos.line X.env = pure false := by rfl) :
  PSA T E X (.Assign [.Attribute o f p'] a pos) (yb0 c i so sa) := by
 obtain ⟨C, hC, hcl, hna⟩ := CFc.ex
 refine ybS (yf0 ho ha hs) fun D σ H ⟨ι, h, en, S, er, q⟩ => ⟨ι, h, en, S, er, q.go er fun y h1 ι1 H1 v g1 S1 r1 q1 => ⟨ι1, h1, en, S1, er.mono g1, q1.go (er.mono g1) fun x h2 ι2 H2 u g2 S2 r2 q2 => ?_⟩⟩
 split at q2
 ·rename_i n
  split at q2
  ·rename_i c' fs hn
   split at q2
   ·rename_i ec
    subst ec
    cases r2 with
    | @ref _ a hr =>
     obtain ⟨o, e1, C', dx, fus, hC', rfl, nd, hw, hl, hr2⟩ := S2.obj n _ a hn hr
     rw [hC] at hC'; cases hC'
     have hmem : f ∈ T.fields c' := List.mem_of_getElem? hf
     have hlen : fus.length < 1000 := by
      have := zdO nd (m := T.fields c') (fun x hx => by
       obtain ⟨p, hp, rfl⟩ := List.mem_map.mp hx
       exact hw p hp)
      have := T.few c'
      rw [List.length_map] at *
      omega
     obtain ⟨k1, k2⟩ := zdl f v nd
     have g3 := S2.growSet (u := .ins C dx (putF f v fus)) hr
     refine ⟨a, C, dx, fus, rfl, e1, hK ▸ hcl, hK ▸ hna f hmem, hlen, q2 ι2 _ σ g3 (S2.set hr ⟨C, dx, putF f v fus, hC, rfl, k1, fun p hp => ?_, by simp [hl], fun j w hj => ?_⟩) (er.mono (g1.trans (g2.trans g3)))⟩
     ·rcases k2 p.1 (List.mem_map.mpr ⟨p, hp, rfl⟩) with z | z
      ·rw [z]; exact hmem
      ·obtain ⟨p', hp', e⟩ := List.mem_map.mp z
       rw [<- e]; exact hw p' hp'
     ·by_cases hji : j = i
      ·subst hji
       have hjl : j < fs.length := by
        have := (List.getElem?_eq_some_iff.mp hj).1
        simpa using this
       rw [List.getElem?_set_self hjl] at hj
       cases hj
       exact ⟨f, v, hf, by rw [zaW, if_pos rfl], r1.mono (g2.trans g3)⟩
      ·rw [List.getElem?_set_ne (Ne.symm hji)] at hj
       obtain ⟨f', u, e2, e3, r3⟩ := hr2 j w hj
       have ne : f' ≠ f := fun z => hji (zco (T.nd c') e2 (z ▸ hf))
       exact ⟨f', u, e2, by rw [zaW, if_neg ne]; exact e3, r3.mono g3⟩
   ·exact (show False from q2).elim
  ·exact (show False from q2).elim
 ·exact (show False from q2).elim
end
end Sm
namespace Sm
open PySem PySem.Spec L2
theorem yeD {T : Tb} {ι : Ix} {H : Hp} {k : Key} {u : V} (r : RV T ι H (kA k) u) : u = kV k := by
 cases k with
 | inl i => exact yax r
 | inr x => exact (ya8 r).1
theorem yes {k j : Key} (e : kA k = kA j) : k = j := by
 cases k <;> cases j <;> simp [kA] at e <;> simp [e]
theorem zc1 : ∀ {ks js : List Key}, ks.map kA = js.map kA -> ks = js
 | [], [], _ => rfl
 | [], _ :: _, e => by simp at e
 | _ :: _, [], e => by simp at e
 | k :: ks, j :: js, e => by
  simp only [List.map_cons, List.cons.injEq] at e
  rw [yes e.1, zc1 e.2]
theorem ye4 {T : Tb} {ι : Ix} {H : Hp} : ∀ {ks : List Key} {us : List V}, RVs T ι H (ks.map kA) us -> us = ks.map kV
 | [], _, .nil => rfl
 | k :: ks, _, .cons r rs => by rw [yeD r, ye4 rs]; rfl
theorem zbv {v : AV} {k : Key} (e : keyOf? v = some k) : v = kA k := by
 unfold keyOf? at e
 split at e <;> cases e <;> rfl
theorem zaX : ∀ {vs : List AV} {ks : List Key}, keysOf? vs = some ks -> vs = ks.map kA
 | [], _, e => by cases e; rfl
 | v :: vs, ks, e => by
  unfold keysOf? at e
  split at e
  ·rename_i k ks' e1 e2
   cases e
   rw [zbv e1, zaX e2]; rfl
  ·cases e
theorem yd6 {κ : Type} [DecidableEq κ] {T : Tb} {ι : Ix} {H : Hp} {f : κ -> AV} (hf : ∀ {a b}, f a = f b -> a = b) {k : κ} : ∀ {kvs : List (AV × AV)} {kus : List (κ × V)}, Paired (fun (p : AV × AV) (q : κ × V) => p.1 = f q.1 /\ RV T ι H p.2 q.2) kvs kus ->
  (valA kvs (f k) = none /\ valV kus k = none) \/ ∃ v u, valA kvs (f k) = some v /\ valV kus k = some u /\ RV T ι H v u
 | _, _, .nil => .inl ⟨rfl, rfl⟩
 | (a, v) :: kvs, (j, u) :: kus, .cons ⟨e, r⟩ rs => by
  by_cases h : j = k
  ·subst h
   replace e : a = f j := e
   subst e
   exact .inr ⟨v, u, by simp [valA], zbs rfl, r⟩
  ·have h' : ¬ a = f k := fun z => h (hf (e.symm.trans z))
   rcases yd6 hf rs (k := k) with ⟨h1, h2⟩ | ⟨v', u', h1, h2, h3⟩
   ·refine .inl ⟨?_, by rw [za6 h]; exact h2⟩
    unfold valA at h1 ⊢
    rw [List.find?_cons, decide_eq_false h']
    exact h1
   ·refine .inr ⟨v', u', ?_, by rw [za6 h]; exact h2, h3⟩
    unfold valA at h1 ⊢
    rw [List.find?_cons, decide_eq_false h']
    exact h1
theorem zb4 {kvs : List (AV × AV)} {k : AV} : (kvs.any fun p => decide (p.1 = k)) = (valA kvs k).isSome := by
 induction kvs with
 | nil => rfl
 | cons p r ih =>
  unfold valA at ih ⊢
  rw [List.any_cons, List.find?_cons, ih]
  cases h : decide (p.1 = k) <;> simp
theorem ye5 {κ : Type} [DecidableEq κ] {T : Tb} {ι : Ix} {H : Hp} {f : κ -> AV} (hf : ∀ {a b}, f a = f b -> a = b) {k : κ} {v : AV} {u : V} (rv : RV T ι H v u) {kvs : List (AV × AV)} {kus : List (κ × V)} (r : Paired (fun (p : AV × AV) (q : κ × V) => p.1 = f q.1 /\ RV T ι H p.2 q.2) kvs kus) :
  Paired (fun (p : AV × AV) (q : κ × V) => p.1 = f q.1 /\ RV T ι H p.2 q.2) (putA kvs (f k) v) (putK kus k u) := by
 have e : (kvs.any fun p => decide (p.1 = f k)) = kus.any fun kv => decide (kv.1 = k) := by
  rw [zb4, zcs]
  rcases yd6 hf r (k := k) with ⟨h1, h2⟩ | ⟨v', u', h1, h2, h3⟩
  ·rw [h1, h2]; rfl
  ·rw [h1, h2]; rfl
 unfold putA putK
 rw [e]
 by_cases h : (kus.any fun kv => decide (kv.1 = k)) = true
 ·rw [if_pos h, if_pos h]
  clear e h
  induction r with
  | nil => exact .nil
  | cons p rs ih =>
   rename_i a b l1 l2
   refine .cons ?_ ih
   obtain ⟨e1, r1⟩ := p
   dsimp only
   by_cases hk : b.1 = k
   ·rw [if_pos hk, if_pos (by rw [e1, hk])]
    exact ⟨e1, rv⟩
   ·rw [if_neg hk, if_neg (fun z => hk (hf (e1.symm.trans z)))]
    exact ⟨e1, r1⟩
 ·rw [if_neg h, if_neg h]
  have app : ∀ {l1 : List (AV × AV)} {l2 : List (κ × V)}, Paired (fun (p : AV × AV) (q : κ × V) => p.1 = f q.1 /\ RV T ι H p.2 q.2) l1 l2 -> Paired (fun (p : AV × AV) (q : κ × V) => p.1 = f q.1 /\ RV T ι H p.2 q.2) (l1 ++ [(f k, v)]) (l2 ++ [(k, u)]) := fun z => by
   induction z with
   | nil => exact .cons ⟨rfl, rv⟩ .nil
   | cons p _ ih => exact .cons p ih
  exact app r
section
variable {T : Tb} {ι : Ix} {h : AH} {H : Hp}
theorem keyT {xs : List AV} {u : V} {ks : List Key} (r : RV T ι H (.tup xs) u) (e : keysOf? xs = some ks) : ∃ b, u = .ref b /\ KTup H b ks := by
 have := zaX e
 subst this
 cases r with
 | tup n q r => exact ⟨_, rfl, .of (by rw [<- ye4 r]; exact q)⟩
theorem zeO {n : Nat} {t : Bool} {kvs : List (AV × AV)} {y : AV} {a : Addr} {w : V} (S : Sim T ι h H) (hn : h[n]? = some (.dct t kvs)) (hr : ι.refs[n]? = some a) (ry : RV T ι H y w) (hk : ybA t y = true) :
  ∃ o, DGet H a w o /\ ((valA kvs y = none /\ o = none) \/ ∃ v u, valA kvs y = some v /\ o = some u /\ RV T ι H v u) := by
 obtain ⟨ob, e1, r⟩ := S.obj n _ a hn hr
 cases t with
 | false =>
  obtain ⟨kus, rfl, r⟩ := r
  have hk' : (keyOf? y).isSome = true := hk
  obtain ⟨k, ek⟩ := Option.isSome_iff_exists.mp hk'
  have := zbv ek
  subst this
  rw [yeD ry]
  refine ⟨valV kus k, .k e1, ?_⟩
  rcases yd6 yes r (k := k) with ⟨h1, h2⟩ | ⟨v', u', h1, h2, h3⟩
  ·exact .inl ⟨h1, h2⟩
  ·exact .inr ⟨v', u', h1, h2, h3⟩
 | true =>
  obtain ⟨kus, rfl, r⟩ := r
  unfold ybA at hk
  split at hk
  ·rename_i hh; cases hh
  ·rename_i xs hh
   obtain ⟨ks, ek⟩ := Option.isSome_iff_exists.mp hk
   obtain ⟨b, rfl, hb⟩ := keyT ry ek
   have := zaX ek
   subst this
   refine ⟨valV kus ks, .t e1 hb, ?_⟩
   rcases yd6 (f := fun ks : List Key => AV.tup (ks.map kA)) (fun e => zc1 (by injection e)) r (k := ks) with ⟨h1, h2⟩ | ⟨v', u', h1, h2, h3⟩
   ·exact .inl ⟨h1, h2⟩
   ·exact .inr ⟨v', u', h1, h2, h3⟩
  ·cases hk
theorem zih {n : Nat} {t : Bool} {kvs : List (AV × AV)} {y z : AV} {a : Addr} {w u : V} (S : Sim T ι h H) (hn : h[n]? = some (.dct t kvs)) (hr : ι.refs[n]? = some a) (ry : RV T ι H y w) (rz : RV T ι H z u) (hk : ybA t y = true) (hl : kvs.length < sizeLine) :
  ∃ H', DPut H a w u H' /\ Grow ι H ι H' /\ Sim T ι (h.set n (.dct t (putA kvs y z))) H' := by
 obtain ⟨ob, e1, r⟩ := S.obj n _ a hn hr
 cases t with
 | false =>
  obtain ⟨kus, rfl, r⟩ := r
  have hk' : (keyOf? y).isSome = true := hk
  obtain ⟨k, ek⟩ := Option.isSome_iff_exists.mp hk'
  have := zbv ek
  subst this
  rw [yeD ry]
  have g := S.growSet (u := .dK (putK kus k u)) hr
  exact ⟨_, .k e1 (by rw [<- Paired.length r]; exact hl), g, S.set hr ⟨_, rfl, ye5 yes (rz.mono g) (Paired.mapP r fun _ _ ⟨p, q⟩ => ⟨p, q.mono g⟩)⟩⟩
 | true =>
  obtain ⟨kus, rfl, r⟩ := r
  unfold ybA at hk
  split at hk
  ·rename_i hh; cases hh
  ·rename_i xs hh
   obtain ⟨ks, ek⟩ := Option.isSome_iff_exists.mp hk
   obtain ⟨b, rfl, hb⟩ := keyT ry ek
   have := zaX ek
   subst this
   have g := S.growSet (u := .dT (putK kus ks u)) hr
   exact ⟨_, .t e1 hb (by rw [<- Paired.length r]; exact hl), g, S.set hr ⟨_, rfl, ye5 (f := fun ks : List Key => AV.tup (ks.map kA)) (fun e => zc1 (by injection e)) (rz.mono g) (Paired.mapP r fun _ _ ⟨p, q⟩ => ⟨p, q.mono g⟩)⟩⟩
  ·cases hk
theorem RVs.atI {xs : List AV} {us : List V} {i : Int} {v : AV} (r : RVs T ι H xs us) (e : atI xs i = some v) : ∃ u, L2.atI us i = some u /\ RV T ι H v u := by
 unfold L2.atI at e ⊢
 rw [<- r.length]
 obtain ⟨j, e1, e2⟩ := Option.bind_eq_some_iff.mp e
 obtain ⟨u, e3, r3⟩ := r.get e2
 exact ⟨u, by rw [e1]; exact e3, r3⟩
end
section
variable {T : Tb} {E : St -> XK} {X : Cx} {pos : Pos} {a b c : Expr} {sa sb sc : SE}
theorem yhd {e : Expr} {t t' : TE} (h : PE X e t) (h' : PE X e t') : PE X e (fun σ H Q => t σ H Q \/ t' σ H Q) := fun pins s σ H Q I q => q.elim (h pins s σ H Q I) (h' pins s σ H Q I)
theorem yhe {e : Stmt} {t t' : TS} (h : PS X e t) (h' : PS X e t') : PS X e (fun D σ H => t D σ H \/ t' D σ H) := fun pins s σ H Q I q => q.elim (h pins s σ H Q I) (h' pins s σ H Q I)
theorem r_ix (hK : X.K = T.K) (hu : X.A.units + 64 < cLine) (ha : PEA T E X a sa) (hb : PEA T E X b sb) (hs : yez b := by exact fun _ _ => rfl) : PEA T E X (.Subscript a b pos) (sOp2 fIx sa sb) := by
 refine yaJ (yhd (ygZ yf4 ha hb hs) (zhX (Nat.lt_of_le_of_lt (Nat.add_le_add_left (by decide : 1 <= 64) _) hu) ha hb hs)) fun σ H Q q => ?_
 obtain ⟨ι, h, en, S, er, q⟩ := q
 have left : (∀ x h1 y h2, sa en h = .ok x h1 -> sb en h1 = .ok y h2 -> ∀ n t kvs, x = .ref n -> h2[n]? = some (.dct t kvs) -> False) -> tOp (rIx X.K) (tE T E sa) (tE T E sb) σ H Q := fun no => by
  refine ⟨ι, h, en, S, er, ?_⟩
  unfold sOp2 at q
  cases e1 : sa en h with
  | bad => rw [e1] at q; exact q
  | ex c h1 => rw [e1] at q; exact q
  | ok x h1 =>
   rw [e1] at q
   intro ι1 H1 u g1 S1 r1
   refine ⟨ι1, h1, en, S1, er.mono g1, ?_⟩
   dsimp only [Out.bind] at q
   cases e2 : sb en h1 with
   | bad => rw [e2] at q; exact q
   | ex c h2 => rw [e2] at q; exact Post.shift (R := RV T) (o := .ex c h2) q g1
   | ok y h2 =>
    rw [e2] at q
    intro ι2 H2 w g2 S2 r2
    have q2 := Post.shift q (g1.trans g2)
    have r1' := r1.mono g2
    dsimp only at q2
    unfold fIx at q2
    split at q2
    ·rename_i z i
     split at q2
     ·rename_i cc hc
      obtain ⟨rfl, zl, zo⟩ := ya8 r1'
      rw [yax r2]
      refine .inr (.inr ⟨z, i, cc, rfl, rfl, zl, hc, q2.now S2 (.str (show 1 <= sizeLine by decide) ?_)⟩)
      obtain ⟨j, _, e3, _⟩ := zb0 hc
      have m : cc ∈ z.cps := by
       have := List.mem_of_getElem? e3
       simpa using this
      have := Array.all_eq_true_iff_forall_mem.mp zo _ m
      simpa using this
     ·exact q2.elim
    ·rename_i xs i
     split at q2
     ·rename_i v hv
      obtain ⟨b, us, rfl, sq, rs⟩ := ycE r1'
      obtain ⟨u2, e3, r3⟩ := rs.atI hv
      rw [yax r2]
      exact .inr (.inl ⟨b, us, i, u2, rfl, rfl, hK ▸ sq, e3, q2.now S2 r3⟩)
     ·exact q2.elim
    ·rename_i xs i
     split at q2
     ·rename_i v hv
      obtain ⟨b, us, rfl, sq, rs⟩ := ybE S2 r1' rfl
      obtain ⟨u2, e3, r3⟩ := rs.atI hv
      rw [yax r2]
      exact .inl ⟨b, us, i, u2, rfl, rfl, hK ▸ sq, e3, q2.now S2 r3⟩
     ·exact q2.elim
    ·rename_i n
     split at q2
     ·rename_i xs hn
      split at q2
      ·rename_i i
       split at q2
       ·rename_i v hv
        obtain ⟨b, us, rfl, sq, rs⟩ := ybE (xs := xs) S2 r1' (by simp [ycx, hn])
        obtain ⟨u2, e3, r3⟩ := rs.atI hv
        rw [yax r2]
        exact .inl ⟨b, us, i, u2, rfl, rfl, hK ▸ sq, e3, q2.now S2 r3⟩
       ·exact q2.elim
      ·exact q2.elim
     ·rename_i t kvs hn
      exact (no _ h1 _ h2 e1 e2 n t kvs rfl hn).elim
     ·exact q2.elim
    ·exact q2.elim
 by_cases dd : ∃ x h1 y h2, sa en h = .ok x h1 /\ sb en h1 = .ok y h2 /\ ∃ n t kvs, x = .ref n /\ h2[n]? = some (.dct t kvs)
 ·obtain ⟨x, h1, y, h2, e1, e2, n, t, kvs, rfl, hn⟩ := dd
  refine .inr ⟨ι, h, en, S, er, ?_⟩
  unfold sOp2 at q
  rw [e1] at q ⊢
  intro ι1 H1 u g1 S1 r1
  refine ⟨ι1, h1, en, S1, er.mono g1, ?_⟩
  dsimp only [Out.bind] at q
  rw [e2] at q ⊢
  intro ι2 H2 w g2 S2 r2
  have q2 := Post.shift q (g1.trans g2)
  have r1' := r1.mono g2
  dsimp only at q2
  unfold fIx at q2
  simp only [hn] at q2
  split at q2
  ·rename_i hk
   cases r1' with
   | @ref _ ad hr =>
    obtain ⟨o, dg, alt⟩ := zeO S2 hn hr r2 hk
    rcases alt with ⟨v1, rfl⟩ | ⟨v, u, v1, rfl, r3⟩
    ·rw [v1] at q2; exact q2.elim
    ·rw [v1] at q2
     exact ⟨ad, u, rfl, dg, q2.now S2 r3⟩
  ·exact q2.elim
 ·exact .inl (left fun x h1 y h2 e1 e2 n t kvs e3 e4 => dd ⟨x, h1, y, h2, e1, e2, n, t, kvs, e3, e4⟩)
theorem zbn {p' : Pos} (hu : X.A.units + 64 < cLine) (ho : PEA T E X a sa) (hi : PEA T E X b sb) (hv : PEA T E X c sc) (hs : swapsWith c (some (.Subscript a b p')) pos.line X.env = pure false := by rfl) (hs' : swapsWithSole [.Subscript a b p'] c pos.line X.env = pure false := by rfl) (hw : swappedStores [.Subscript a b p'] c X.env = pure none := by rfl)
  (h1 : (assignEach [.Subscript a b p'] X.env).map (·.2) = [assign (.Subscript a b p') X.env] := by rfl)
  (has : ∀ v, assign (.Subscript a b p') X.env v = (do
   let ov <- holding [v] (eval a X.env)
   let iv <- holding [v, ov] (eval b X.env)
   standAt p'
   holding [v, ov, iv] (setItem ov iv v)
   release [v, ov, iv] []) := by intro _; rfl) : PSA T E X (.Assign [.Subscript a b p'] c pos) (ybm sa sb sc) := by
 refine ybS (yhe (yeN hv (yfQ ho hi zgN has) hs' hw h1) (zhY (Nat.lt_of_le_of_lt (Nat.add_le_add_left (by decide : 1 <= 64) _) hu) ho hi hv hs)) fun D σ H q => ?_
 obtain ⟨ι, h, en, S, er, q⟩ := q
 unfold ybm at q
 by_cases dd : ∃ z h1 x h2 y h3, sc en h = .ok z h1 /\ sa en h1 = .ok x h2 /\ sb en h2 = .ok y h3 /\ ∃ n t kvs, x = .ref n /\ h3[n]? = some (.dct t kvs)
 ·obtain ⟨z, h1, x, h2, y, h3, e1, e2, e3, n, t, kvs, rfl, hn⟩ := dd
  refine .inr ⟨ι, h, en, S, er, ?_⟩
  rw [e1] at q ⊢
  intro ι1 H1 u g1 S1 r1
  refine ⟨ι1, h1, en, S1, er.mono g1, ?_⟩
  dsimp only [Out.go] at q
  rw [e2] at q ⊢
  intro ι2 H2 w g2 S2 r2
  refine ⟨ι2, h2, en, S2, er.mono (g1.trans g2), ?_⟩
  dsimp only at q
  rw [e3] at q ⊢
  intro ι3 H3 j g3 S3 r3
  have q2 := PostS.shift q (g1.trans (g2.trans g3))
  simp only [hn] at q2
  split at q2
  ·rename_i hk
   cases (r2.mono g3) with
   | @ref _ ad hr =>
    obtain ⟨H4, dp, g4, S4⟩ := zih S3 hn hr r3 (r1.mono (g2.trans g3)) hk.1 hk.2
    exact ⟨ad, H4, rfl, dp, q2 ι3 H4 σ g4 S4 (er.mono (g1.trans (g2.trans (g3.trans g4))))⟩
  ·exact q2.elim
 ·refine .inl ⟨ι, h, en, S, er, ?_⟩
  cases e1 : sc en h with
  | bad => rw [e1] at q; exact q
  | ex cc h1 => rw [e1] at q; exact fun i2 H2 C g S e => q i2 H2 σ C g S (er.mono g) e
  | ok z h1 =>
   rw [e1] at q
   intro ι1 H1 u g1 S1 r1
   refine ⟨ι1, h1, en, S1, er.mono g1, ?_⟩
   dsimp only [Out.go] at q
   cases e2 : sa en h1 with
   | bad => rw [e2] at q; exact q
   | ex cc h2 => rw [e2] at q; exact fun i2 H2 C g S e => q i2 H2 σ C (g1.trans g) S (er.mono (g1.trans g)) e
   | ok x h2 =>
    rw [e2] at q
    intro ι2 H2 w g2 S2 r2
    refine ⟨ι2, h2, en, S2, er.mono (g1.trans g2), ?_⟩
    dsimp only at q
    cases e3 : sb en h2 with
    | bad => rw [e3] at q; exact q
    | ex cc h3 => rw [e3] at q; exact fun i2 H2 C g S e => q i2 H2 σ C (g1.trans (g2.trans g)) S (er.mono (g1.trans (g2.trans g))) e
    | ok y h3 =>
     rw [e3] at q
     intro ι3 H3 j g3 S3 r3
     have q2 := PostS.shift q (g1.trans (g2.trans g3))
     dsimp only at q2
     split at q2
     ·rename_i n
      split at q2
      ·rename_i xs hn
       split at q2
       ·rename_i k
        split at q2
        ·rename_i jj hj
         cases (r2.mono g3) with
         | @ref _ ad hr =>
          obtain ⟨o, e4, us, rfl, rs⟩ := S3.obj n _ ad hn hr
          have g4 := S3.growSet (u := .lst (us.set jj u)) hr
          rw [yax r3]
          exact ⟨ad, us, k, jj, rfl, rfl, e4, by rw [<- rs.length]; exact hj, q2 ι3 _ σ g4 (S3.set hr ⟨_, rfl, RVs.set (r1.mono (g2.trans (g3.trans g4))) jj (rs.mono g4)⟩) (er.mono (g1.trans (g2.trans (g3.trans g4))))⟩
        ·exact q2.elim
       ·exact q2.elim
      ·rename_i t kvs hn
       exact (dd ⟨_, h1, _, h2, _, h3, e1, e2, e3, n, t, kvs, rfl, hn⟩).elim
      ·exact q2.elim
     ·exact q2.elim
theorem zeP {g : Value -> Value -> Sem Value} {r : R2} {neg : Bool} (hK : X.K = T.K)
  (h1 : ∀ (i j : Str) H Q, Q (V.bl (if neg then !(!(Builtin.Str.occurrences j i 0 j.length 1).isEmpty) else !(Builtin.Str.occurrences j i 0 j.length 1).isEmpty)) H -> r (.str i) (.str j) H Q)
  (h2 : ∀ x y H Q p xs d ds, y = V.ref p -> SqL T.K H p xs -> DaV T.K H x d -> DaVs T.K H xs ds -> d.canLay0 = true -> (∀ e ∈ ds, e.canLay0 = true /\ e.depth <= 30) -> Q (V.bl (if neg then !(ds.any fun e => PyData.eqv e d) else ds.any fun e => PyData.eqv e d)) H -> r x y H Q)
  (h2t : ∀ x y H Q p xs d ds, y = V.ref p -> SqT T.K H p xs -> DaV T.K H x d -> DaVs T.K H xs ds -> d.canLay0 = true -> (∀ e ∈ ds, e.canLay0 = true /\ e.depth <= 30) -> Q (V.bl (if neg then !(ds.any fun e => PyData.eqv e d) else ds.any fun e => PyData.eqv e d)) H -> r x y H Q)
  (h3 : ∀ (y : V) (a : Addr) o H Q, DGet H a y o -> Q (V.bl (if neg then !o.isSome else o.isSome)) H -> r y (.ref a) H Q) :
  OpS T (fun x y h => match inA x y h with | some b => .ok (.bl (if neg then !b else b)) h | none => .bad) r := by
 intro ι h H x y u w E Q S rx ry p
 dsimp only at p
 cases hb : inA x y h with
 | none => rw [hb] at p; exact p.elim
 | some b =>
  rw [hb] at p
  dsimp only at p
  unfold inA at hb
  split at hb
  ·cases hb
   obtain ⟨rfl, _⟩ := ya8 rx
   obtain ⟨rfl, _⟩ := ya8 ry
   exact h1 _ _ _ _ (p.now S (.bl _))
  ·rename_i n
   split at hb
   ·rename_i t kvs hn
    split at hb
    ·rename_i hk
     cases hb
     cases ry with
     | @ref _ ad hr =>
      obtain ⟨o, dg, alt⟩ := zeO S hn hr rx hk
      refine h3 u ad o H Q dg ?_
      rcases alt with ⟨v1, rfl⟩ | ⟨v, u', v1, rfl, r3⟩
      ·rw [v1] at p; exact p.now S (.bl _)
      ·rw [v1] at p; exact p.now S (.bl _)
    ·cases hb
   ·rename_i xs hn
    split at hb
    ·rename_i d ds e1 e2
     cases hb
     obtain ⟨a, us, rfl, sq, rs⟩ := ybE (xs := xs) S ry (by simp [ycx, hn])
     obtain ⟨q1, q2, q3⟩ := ych S 8 rx e1
     obtain ⟨q4, q5⟩ := zbm (n := 8) (fun r e => ych S 8 r e) rs e2
     exact h2 _ _ _ _ a us d ds rfl sq q1 q4 q2 (fun e he => ⟨(q5 e he).1, by have := (q5 e he).2; omega⟩) (p.now S (.bl _))
    ·cases hb
   ·cases hb
  ·rename_i xs
   split at hb
   ·rename_i d ds e1 e2
    cases hb
    obtain ⟨a, us, rfl, sq, rs⟩ := ybE S ry rfl
    obtain ⟨q1, q2, q3⟩ := ych S 8 rx e1
    obtain ⟨q4, q5⟩ := zbm (n := 8) (fun r e => ych S 8 r e) rs e2
    exact h2 _ _ _ _ a us d ds rfl sq q1 q4 q2 (fun e he => ⟨(q5 e he).1, by have := (q5 e he).2; omega⟩) (p.now S (.bl _))
   ·cases hb
  ·rename_i xs
   split at hb
   ·rename_i d ds e1 e2
    cases hb
    obtain ⟨a, us, rfl, sq, rs⟩ := ycE ry
    obtain ⟨q1, q2, q3⟩ := ych S 8 rx e1
    obtain ⟨q4, q5⟩ := zbm (n := 8) (fun r e => ych S 8 r e) rs e2
    exact h2t _ _ _ _ a us d ds rfl sq q1 q4 q2 (fun e he => ⟨(q5 e he).1, by have := (q5 e he).2; omega⟩) (p.now S (.bl _))
   ·cases hb
  ·cases hb
end
end Sm
namespace L2
open PySem PySem.Spec PyProof.Rows
section
variable {X : Cx} {pins : List (Addr × Obj)} {σ : St} {H : Hp} {s : Shared}
theorem zbN (I : Inv X pins σ H s) (hu : X.A.units + 64 < cLine) {xs : List V} {ds : List PyData} {its : List Value} {d : PyData} {v : Value} {as : List Addr} (ra : Reads s.heap v d as) (hds : DaVs X.K H xs ds) (r : Vals xs its) (cd : d.canLay0 = true) (cds : ∀ e ∈ ds, e.canLay0 = true /\ e.depth <= 30) :
  (∀ y, y ∈ its.toArray -> SeqAt.EqAt X.A.in1 s y v (isD s.heap d y)) /\ its.toArray.any (isD s.heap d) = ds.any fun e => PyData.eqv e d := by
 obtain ⟨hl, hat⟩ := zcW I hds r
 constructor
 ·intro y hy
  have hy' : y ∈ its := by simpa using hy
  obtain ⟨j, hj⟩ := List.getElem?_of_mem hy'
  have hlt := (List.getElem?_eq_some_iff.mp hj).1
  have hdj : ds[j]? = some (ds[j]'(by omega)) := List.getElem?_eq_getElem (by omega)
  obtain ⟨bs, rb⟩ := hat j _ _ hj hdj
  have cj := cds _ (List.mem_of_getElem? hdj)
  rw [ydX cj.1 rb]
  exact SeqAt.eqAt_reads _ _ _ _ _ _ _ _ rb ra cj.1 cd (by
   have := Nat.min_le_left (ds[j]'(by omega)).depth d.depth
   show X.A.units + 1 + _ < cLine
   omega)
 ·rw [<- Array.any_toList]
  refine zcX hl fun j u e h1 h2 => ?_
  obtain ⟨bs, rb⟩ := hat j _ _ h1 h2
  exact ydX (cds _ (List.mem_of_getElem? h2)).1 rb
def yfC (K : PySem.W.Frag) : R2 := fun x y H Q => ∃ p xs d ds, y = .ref p /\ SqL K H p xs /\ DaV K H x d /\ DaVs K H xs ds /\ d.canLay0 = true /\ (∀ e ∈ ds, e.canLay0 = true /\ e.depth <= 30) /\ Q (.bl (!(ds.any fun e => PyData.eqv e d))) H
def yhf (K : PySem.W.Frag) : R2 := fun x y H Q => ∃ p xs d ds, y = .ref p /\ SqT K H p xs /\ DaV K H x d /\ DaVs K H xs ds /\ d.canLay0 = true /\ (∀ e ∈ ds, e.canLay0 = true /\ e.depth <= 30) /\ Q (.bl (ds.any fun e => PyData.eqv e d)) H
def yfk (K : PySem.W.Frag) : R2 := fun x y H Q => ∃ p xs d ds, y = .ref p /\ SqT K H p xs /\ DaV K H x d /\ DaVs K H xs ds /\ d.canLay0 = true /\ (∀ e ∈ ds, e.canLay0 = true /\ e.depth <= 30) /\ Q (.bl (!(ds.any fun e => PyData.eqv e d))) H
theorem zgi (hu : X.A.units + 64 < cLine) : OpR X (compareOp .NotIn) (yfC X.K) := by
 intro pins s σ H x y v u Q I rx ry h
 obtain ⟨p, xs, d, ds, rfl, hq, hd, hds, cd, cds, q⟩ := h
 cases ry
 obtain ⟨its, r, pl, hz⟩ := I.list hq
 obtain ⟨as, ra⟩ := hd.reads I rx
 obtain ⟨h1, h2⟩ := zbN I hu ra hds r cd cds
 exact SeqAt.notIn_listAt (isD s.heap d) pl.isList h1 ⟨.bl _, H, I, rfl, by rw [h2]; exact q⟩
theorem zii (hu : X.A.units + 64 < cLine) : OpR X (compareOp .In) (yhf X.K) := by
 intro pins s σ H x y v u Q I rx ry h
 obtain ⟨p, xs, d, ds, rfl, hq, hd, hds, cd, cds, q⟩ := h
 cases ry
 obtain ⟨its, r, pl, hz⟩ := I.tuple hq
 obtain ⟨as, ra⟩ := hd.reads I rx
 obtain ⟨h1, h2⟩ := zbN I hu ra hds r cd cds
 exact SeqAt.in_tupleAt (isD s.heap d) pl h1 ⟨.bl _, H, I, rfl, by rw [h2]; exact q⟩
theorem zfA (hu : X.A.units + 64 < cLine) : OpR X (compareOp .NotIn) (yfk X.K) := by
 intro pins s σ H x y v u Q I rx ry h
 obtain ⟨p, xs, d, ds, rfl, hq, hd, hds, cd, cds, q⟩ := h
 cases ry
 obtain ⟨its, r, pl, hz⟩ := I.tuple hq
 obtain ⟨as, ra⟩ := hd.reads I rx
 obtain ⟨h1, h2⟩ := zbN I hu ra hds r cd cds
 exact SeqAt.notIn_tupleAt (isD s.heap d) pl h1 ⟨.bl _, H, I, rfl, by rw [h2]; exact q⟩
theorem zgj (hu : X.A.units + 64 < cLine) : OpR X (compareOp .In) (fun x y H Q => ∃ a o, y = .ref a /\ DGet H a x o /\ Q (.bl o.isSome) H) := by
 intro pins s σ H x y v u Q I rx ry h
 obtain ⟨a, o, rfl, g, q⟩ := h
 cases ry
 exact d_in (Nat.lt_of_le_of_lt (Nat.add_le_add_left (by decide : 1 <= 64) _) hu) I g rx fun s' I' => ⟨.bl _, H, I', rfl, q⟩
theorem zdP (hu : X.A.units + 64 < cLine) : OpR X (compareOp .NotIn) (fun x y H Q => ∃ a o, y = .ref a /\ DGet H a x o /\ Q (.bl (!o.isSome)) H) := by
 intro pins s σ H x y v u Q I rx ry h
 obtain ⟨a, o, rfl, g, q⟩ := h
 cases ry
 exact zhV (Nat.lt_of_le_of_lt (Nat.add_le_add_left (by decide : 1 <= 64) _) hu) I g rx fun s' I' => ⟨.bl _, H, I', rfl, q⟩
end
end L2
namespace Sm
open PySem PySem.Spec L2
section
variable {T : Tb} {E : St -> XK} {X : Cx}
theorem o_in (hK : X.K = T.K) (hu : X.A.units + 64 < cLine) : Op T X (compareOp .In) fIn := by
 refine ⟨_, zfU.or ((yge hu).or ((zii hu).or (zgj hu))), zeP (neg := false) (g := compareOp .In) hK ?_ ?_ ?_ ?_⟩
 ·exact fun i j H Q q => .inl ⟨i, j, rfl, rfl, q⟩
 ·exact fun x y H Q p xs d ds e1 e2 e3 e4 e5 e6 q => .inr (.inl ⟨p, xs, d, ds, e1, hK ▸ e2, hK ▸ e3, hK ▸ e4, e5, e6, q⟩)
 ·exact fun x y H Q p xs d ds e1 e2 e3 e4 e5 e6 q => .inr (.inr (.inl ⟨p, xs, d, ds, e1, hK ▸ e2, hK ▸ e3, hK ▸ e4, e5, e6, q⟩))
 ·exact fun y a o H Q g q => .inr (.inr (.inr ⟨a, o, rfl, g, q⟩))
theorem zc2 (hK : X.K = T.K) (hu : X.A.units + 64 < cLine) : Op T X (compareOp .NotIn) yb5 := by
 refine ⟨_, zdH.or ((zgi hu).or ((zfA hu).or (zdP hu))), zeP (neg := true) (g := compareOp .NotIn) hK ?_ ?_ ?_ ?_⟩
 ·exact fun i j H Q q => .inl ⟨i, j, rfl, rfl, q⟩
 ·exact fun x y H Q p xs d ds e1 e2 e3 e4 e5 e6 q => .inr (.inl ⟨p, xs, d, ds, e1, hK ▸ e2, hK ▸ e3, hK ▸ e4, e5, e6, q⟩)
 ·exact fun x y H Q p xs d ds e1 e2 e3 e4 e5 e6 q => .inr (.inr (.inl ⟨p, xs, d, ds, e1, hK ▸ e2, hK ▸ e3, hK ▸ e4, e5, e6, q⟩))
 ·exact fun y a o H Q g q => .inr (.inr (.inr ⟨a, o, rfl, g, q⟩))
end
end Sm
namespace Sm
open PySem PySem.Spec L2
abbrev ErrC (x : Str) (C : Addr) (mg : Str -> Option Value) (base : Heap) : Prop := PyProof.Rows.OwnCls x C [.type "ValueError", .type "Exception", .type "BaseException", .type "object"] "ValueError.__new__" mg base
structure GX (T : Tb) (mg : Str -> Option Value) (base : Heap) (c : Nat) (x : Str) : Prop where
 ex : ∃ C, T.exc c = some C /\ ErrC x C mg base
section
variable {T : Tb} {E : St -> XK} {X : Cx} {pos np cpos : Pos} {e : Expr} {es : List Expr} {x : Str} {c : Nat} {as : SL}
theorem zaL (G : GX T X.mg X.base c x) (hr : yec X E) (hg : Gl X x) (ha : PAA T E X (e :: es) as) (hc : X.calm = true := by rfl) (hex : X.ex = [] := by rfl)
  (hdb : (x == ("__debug__" : Str)) = false := by decide) (he : starEach (e :: es) X.env = (false, eval e X.env) :: starEach es X.env := by rfl) (hpl : (backTo cpos (starEach es X.env)).any (·.1) = false := by rfl) :
  PSA T E X (.Raise (some (.Call (.Name x np) (e :: es) [] cpos)) none pos) (ycg c as) := by
 obtain ⟨C, h1, O⟩ := G.ex
 refine ybS (zg1 O PySem.F.excBase_ValueError hc hex hr hg ha hdb he hpl) fun D σ H ⟨ι, h, en, S, er, q⟩ => ⟨ι, h, en, S, er, q.go er fun xs h1' ι1 H1 us g1 S1 r1 q1 => ?_⟩
 split at q1
 ·rename_i hl
  exact ⟨by rw [<- r1.length]; exact hl, q1 ι1 H1 σ C S1.refl S1 (er.mono g1) h1⟩
 ·exact q1.elim
end
def ydo (T : Tb) (f : Fn) (r : List V -> Hp -> VK -> Prop) : Prop := ∀ (ι : Ix) (h : AH) (H : Hp) (xs : List AV) (us : List V) (E : XK) (Q : VK), Sim T ι h H -> RVs T ι H xs us -> Post T ι H E (RV T) (f xs h) Q -> r us H Q
section
variable {T : Tb} {E : St -> XK} {X : Cx} {pos p : Pos} {e a : Expr} {es : List Expr} {x : Str} {as : SL} {sa : SE}
theorem yhg {f : Fn} {r : List V -> Hp -> VK -> Prop} (hs : ydo T f r) {σ : St} {H : Hp} {Q : VK} (q : tE T E (yae f as) σ H Q) : tCB r (tA T E as) σ H Q := by
 obtain ⟨ι, h, en, S, er, q⟩ := q
 exact ⟨ι, h, en, S, er, q.bind fun xs h1 ι1 H1 us g1 S1 r1 q1 => hs ι1 h1 H1 xs us _ Q S1 r1 q1⟩
theorem r_bi {id : String} {f : Fn} (hc : ∃ r, CallR X (.builtin id) r /\ ydo T f r) (hg : Gl X x) (hm : X.mg x = none) (hv : bootBuiltins x = some (.builtin id)) (ha : PAA T E X (e :: es) as) (hn : x ≠ "__name__" := by decide) (hdb : (x == ("__debug__" : Str)) = false := by decide)
  (he : starEach (e :: es) X.env = (false, eval e X.env) :: starEach es X.env := by rfl) (hpl : (backTo pos (starEach es X.env)).any (·.1) = false := by rfl) : PEA T E X (.Call (.Name x p) (e :: es) [] pos) (yae f as) := by
 obtain ⟨r, h1, h2⟩ := hc
 exact yaJ (zdF h1 hg hm hv ha hn hdb he hpl) fun σ H Q q => yhg h2 q
theorem b_len (hK : X.K = T.K) : ∃ r, CallR X (.builtin "len") r /\ ydo T fLen r := by
 refine ⟨_, zdJ.or (zdI.or zf5), fun ι h H xs us E Q S r q => ?_⟩
 unfold fLen at q
 split at q
 ·cases r with
  | cons r r' =>
   cases r'
   obtain ⟨rfl, n, _⟩ := ya8 r
   exact .inl ⟨_, rfl, n, q.now S (.int _)⟩
 ·cases r with
  | cons r r' =>
   cases r'
   obtain ⟨a, us, rfl, sq, rs⟩ := ycE r
   exact .inr (.inl ⟨a, us, rfl, .inr (hK ▸ sq), by rw [<- rs.length]; exact q.now S (.int _)⟩)
 ·cases r with
  | cons r r' =>
   cases r'
   obtain ⟨a, us, rfl, sq, rs⟩ := ybE S r rfl
   exact .inr (.inl ⟨a, us, rfl, .inl (hK ▸ sq), by rw [<- rs.length]; exact q.now S (.int _)⟩)
 ·rename_i n
  cases r with
  | cons r r' =>
   cases r'
   split at q
   ·rename_i xs hn
    obtain ⟨a, us, rfl, sq, rs⟩ := ybE (xs := xs) S r (by simp [ycx, hn])
    exact .inr (.inl ⟨a, us, rfl, .inl (hK ▸ sq), by rw [<- rs.length]; exact q.now S (.int _)⟩)
   ·rename_i kvs hn
    cases r with
    | @ref _ ad hr =>
     obtain ⟨o, e1, kus, rfl, rs⟩ := S.obj n _ ad hn hr
     exact .inr (.inr ⟨ad, kus, rfl, e1, by rw [<- Paired.length rs]; exact q.now S (.int _)⟩)
   ·exact q.elim
 ·exact q.elim
theorem b_abs : ∃ r, CallR X (.builtin "abs") r /\ ydo T fAbs r := by
 refine ⟨_, zgI, fun ι h H xs us E Q S r q => ?_⟩
 unfold fAbs at q
 split at q
 ·cases r with
  | cons r r' => cases r'; rw [yax r]; exact ⟨_, rfl, q.now S (.int _)⟩
 ·exact q.elim
theorem yd7 (hc : X.calm = true := by rfl) : ∃ r, CallR X (.builtin "max") r /\ ydo T ybo r := by
 refine ⟨_, zfV hc, fun ι h H xs us E Q S r q => ?_⟩
 unfold ybo at q
 split at q
 ·cases r with
  | cons r r' => cases r' with
   | cons r1 r2 => cases r2; rw [yax r, yax r1]; exact ⟨_, _, rfl, q.now S (.int _)⟩
 ·exact q.elim
theorem zdQ {ι : Ix} {H : Hp} : ∀ {xs : List AV} {us : List V} {bs : List Bool}, RVs T ι H xs us -> ycr xs = some bs -> us = bs.map V.bl
 | _, _, _, .nil, e => by cases e; rfl
 | _, _, bs, .cons (x := x) r rs, e => by
  unfold ycr at e
  split at e
  ·rename_i hh; cases hh
  ·rename_i b r' hh
   cases hh
   obtain ⟨bs', e1, rfl⟩ := Option.map_eq_some_iff.mp e
   rw [ycy r, zdQ rs e1]; rfl
  ·cases e
theorem b_all (hK : X.K = T.K) (hc : X.calm = true := by rfl) : ∃ r, CallR X (.builtin "all") r /\ ydo T fAll r := by
 refine ⟨_, zgW hc, fun ι h H xs us E Q S r q => ?_⟩
 unfold fAll at q
 split at q
 ·split at q
  ·rename_i bs hb
   cases r with
   | cons r r' =>
    cases r'
    obtain ⟨a, us, rfl, sq, rs⟩ := ybE S r rfl
    rw [zdQ rs hb] at sq
    exact ⟨a, bs, rfl, hK ▸ sq, q.now S (.bl _)⟩
  ·exact q.elim
 ·exact q.elim
abbrev tys : List String := ["NoneType", "bool", "int", "str", "list", "tuple", "dict"]
theorem ye6 (K : PySem.W.Frag) : ∀ n ∈ tys, ∀ t ∈ tys, PySem.W.kitOne K (.type n) (.type t) = some (n == t || (t == "int" && n == "bool")) := by
 intro n hn t ht
 simp only [tys, List.mem_cons, List.not_mem_nil, or_false] at hn ht
 rcases hn with rfl | rfl | rfl | rfl | rfl | rfl | rfl <;> rcases ht with rfl | rfl | rfl | rfl | rfl | rfl | rfl <;> rfl
theorem zgk {c : V} {cv : Value} (rc : ∀ u, RelV c u -> u = cv) :
  CallR X (.builtin "isinstance") (fun xs H Q => ∃ a us r, xs = [.ref a, c] /\ SqL X.K H a us /\ PySem.W.kitOne X.K (.type "list") cv = some r /\ Q (.bl r) H) := by
 intro pins s σ H xs us Q I r h
 obtain ⟨a, ws, k, rfl, sq, hk, q⟩ := h
 obtain ⟨u, w', rfl, rx, ry⟩ := yeB r
 obtain rfl := rc _ ry
 obtain rfl : u = Value.ref a := rx
 obtain ⟨its, _, ⟨o, n, e1, e2, _⟩, _⟩ := I.list sq
 exact PySem.W.kia_one PySem.W.kitx_list I.kIn ⟨_, e1, e2⟩ hk (fun z => nomatch z) fun tk => ⟨.bl k, H, I.tok _, rfl, q⟩
theorem yhh {ι : Ix} {h : AH} {H : Hp} {v : AV} {u : V} {n : String} (S : Sim T ι h H) (r : RV T ι H v u) (e : tyN v h = some n) : (TyOf T.K H u (.type n) \/ (n = "list" /\ ∃ a us, u = .ref a /\ SqL T.K H a us)) /\ n ∈ tys := by
 unfold tyN at e
 cases r with
 | non => cases e; exact ⟨.inl .non, by decide⟩
 | bl b => cases e; exact ⟨.inl (.bl b), by decide⟩
 | int b => cases e; exact ⟨.inl (.int b), by decide⟩
 | str n o => cases e; exact ⟨.inl (.str _), by decide⟩
 | tup n q r => cases e; exact ⟨.inl (.tup q), by decide⟩
 | fl n q r => cases e; exact ⟨.inr ⟨rfl, _, _, rfl, .inl q⟩, by decide⟩
 | kfl q r => cases e; exact ⟨.inr ⟨rfl, _, _, rfl, .inr q⟩, by decide⟩
 | @ref k a q =>
  dsimp only at e
  split at e
  ·rename_i xs hn
   cases e
   obtain ⟨o, e1, us, rfl, rs⟩ := S.obj k _ a hn q
   exact ⟨.inl (.lst e1), by decide⟩
  ·rename_i t kvs hn
   cases e
   obtain ⟨o, e1, r⟩ := S.obj k _ a hn q
   cases t with
   | false => obtain ⟨kus, rfl, rs⟩ := r; exact ⟨.inl (.dK e1), by decide⟩
   | true => obtain ⟨kus, rfl, rs⟩ := r; exact ⟨.inl (.dT e1), by decide⟩
  ·cases e
 | exc _ _ _ => cases e
theorem yei {t : Str} {id : String} {p2 : Pos} (hK : X.K = T.K) (hg : Gl X "isinstance") (hm : X.mg "isinstance" = none) (ha : PEA T E X a sa) (hgt : Gl X t) (hmt : X.mg t = none) (hvt : bootBuiltins t = some (.type id)) (hid : id ∈ tys) (hnt : t ≠ "__name__" := by decide) (hdt : (t == ("__debug__" : Str)) = false := by decide)
  (he : starEach [a, .Name t p2] X.env = (false, eval a X.env) :: starEach [.Name t p2] X.env := by rfl) : PEA T E X (.Call (.Name "isinstance" p) [a, .Name t p2] [] pos) (sIsB id sa) := by
 refine yaJ (zdF ((zgV (X := X) (yfq id)).or (zgk (X := X) (yfq id))) hg hm PyProof.Rows.boot_isinstance (zcU ha (zcU (zhG (v := .ty id) hgt hmt hvt rfl hnt hdt) yeQ) he) (he := he)) fun σ H Q ⟨ι, h, en, S, er, q⟩ => ⟨ι, h, en, S, er, q.bind fun v h1 ι1 H1 u g1 S1 r1 q1 => ?_⟩
 split at q1
 ·rename_i n hn
  obtain ⟨ty, hmem⟩ := yhh S1 r1 hn
  rcases ty with ty | ⟨rfl, ad, us, rfl, sq⟩
  ·exact .inl ⟨u, .type n, _, rfl, hK ▸ ty, ye6 _ n hmem id hid, q1.now S1 (.bl _)⟩
  ·exact .inr ⟨ad, us, _, rfl, hK ▸ sq, ye6 _ _ hmem id hid, q1.now S1 (.bl _)⟩
 ·exact q1.elim
def MtS (T : Tb) (f : FM) (r : V -> List V -> Hp -> VK -> Prop) : Prop := ∀ (ι : Ix) (h : AH) (H : Hp) (x : AV) (xs : List AV) (u : V) (us : List V) (E : XK) (Q : VK), Sim T ι h H -> RV T ι H x u -> RVs T ι H xs us -> Post T ι H E (RV T) (f x xs h) Q -> r u us H Q
def ChkS (T : Tb) (chk : AV -> AH -> Bool) (n : String) : Prop := ∀ (ι : Ix) (h : AH) (H : Hp) (x : AV) (u : V), Sim T ι h H -> RV T ι H x u -> chk x h = true -> tyV T.K n u H
theorem zat : ChkS T ya6 "list" := fun ι h H x u S r e => by
 obtain ⟨xs, e1⟩ := Option.isSome_iff_exists.mp e
 obtain ⟨a, us, rfl, sq, rs⟩ := ybE S r e1
 exact .inl ⟨rfl, us, sq⟩
theorem zeQ : ChkS T yb1 "str" := fun ι h H x u S r e => by
 unfold yb1 at e
 split at e
 ·obtain ⟨rfl, _⟩ := ya8 r; rfl
 ·cases e
variable {o : Expr} {so : SE} {name : Str} {apos : Pos} {chk : AV -> AH -> Bool} {f : FM} {tn id : String}
theorem r_bm (hK : X.K = T.K) (pa : PlainAttrs tn) (slot : Slot tn name id) (hty : typeOf (.builtin id) = pure (.type "method_descriptor")) (hm : ∃ r, MtR X id r /\ MtS T f r) (hc : ChkS T chk tn) (ho : PEA T E X o so) (ha : PAA T E X (e :: es) as)
  (hbase : attributeBase o name X.env (eval o X.env) = eval o X.env := by rfl)
  (hfew : ((backTo pos (starEach (e :: es) X.env)).all (fun x => !x.1) && (backToKw pos (keywordEach [] X.env)).all (fun x => x.1.isSome)
   && decide ((e :: es).length + ([] : List Keyword).length + (if ([] : List Keyword).isEmpty then 0 else 1) < 30)) = true := by rfl)
  (hline : (apos.endLine == pos.line) = true := by rfl) (hs : starEach (e :: es) X.env = (false, eval e X.env) :: starEach es X.env := by rfl) (hplain : (backTo pos (starEach es X.env)).any (·.1) = false := by rfl) :
  PEA T E X (.Call (.Attribute o name apos) (e :: es) [] pos) (sBM chk f so as) := by
 obtain ⟨r, h1, h2⟩ := hm
 refine yaJ (yg1 pa slot hty h1 ho ha hbase hfew hline hs hplain) fun σ H Q ⟨ι, h, en, S, er, q⟩ => ⟨ι, h, en, S, er, q.bind fun x h1 ι1 H1 u g1 S1 r1 q1 => ?_⟩
 by_cases hx : chk x h1 = true
 ·rw [if_pos hx] at q1
  exact ⟨hK ▸ hc ι1 h1 H1 x u S1 r1 hx, ι1, h1, en, S1, er.mono g1, q1.bind fun xs h2' ι2 H2 us g2 S2 r2 q2 => h2 ι2 h2' H2 x xs u us _ Q S2 (r1.mono g2) r2 q2⟩
 ·rw [if_neg hx] at q1; exact q1.elim
theorem yhi (hK : X.K = T.K) (pa : PlainAttrs tn) (slot : Slot tn name id) (hty : typeOf (.builtin id) = pure (.type "method_descriptor")) (hm : ∃ r, MtR X id r /\ MtS T f r) (hc : ChkS T chk tn) (ho : PEA T E X o so)
  (hbase : attributeBase o name X.env (eval o X.env) = eval o X.env := by rfl) (hline : (apos.endLine == pos.line) = true := by rfl) : PEA T E X (.Call (.Attribute o name apos) [] [] pos) (sBM0 chk f so) := by
 obtain ⟨r, h1, h2⟩ := hm
 refine yaJ (yf5 pa slot hty h1 ho hbase hline) fun σ H Q ⟨ι, h, en, S, er, q⟩ => ⟨ι, h, en, S, er, q.bind fun x h1 ι1 H1 u g1 S1 r1 q1 => ?_⟩
 by_cases hx : chk x h1 = true
 ·rw [if_pos hx] at q1
  exact ⟨hK ▸ hc ι1 h1 H1 x u S1 r1 hx, h2 ι1 h1 H1 x [] u [] _ Q S1 r1 .nil q1⟩
 ·rw [if_neg hx] at q1; exact q1.elim
theorem zav : ∃ r, MtR X "list.append" r /\ MtS T ybc r := by
 refine ⟨_, zbK, fun ι h H x xs u us E Q S rx rs q => ?_⟩
 unfold ybc at q
 split at q
 ·rename_i n y
  split at q
  ·rename_i ys hn
   split at q
   ·rename_i hl
    cases rx with
    | @ref _ ad hr =>
     cases rs with
     | @cons _ uu _ _ r r' =>
      cases r'
      obtain ⟨o, e1, ws, rfl, rw_⟩ := S.obj n _ ad hn hr
      have g := S.growSet (u := .lst (ws ++ [uu])) hr
      exact ⟨ad, ws, _, rfl, rfl, e1, by rw [<- rw_.length]; exact hl, q ι _ _ g (S.set hr ⟨_, rfl, (rw_.mono g).append (.cons (r.mono g) .nil)⟩) .non⟩
   ·exact q.elim
  ·exact q.elim
 ·exact q.elim
theorem zdR : ∃ r, MtR X "str.count" r /\ MtS T ybi r := by
 refine ⟨_, zdL, fun ι h H x xs u us E Q S rx rs q => ?_⟩
 unfold ybi at q
 split at q
 ·cases rs with
  | cons r r' =>
   cases r'
   obtain ⟨rfl, _⟩ := ya8 rx
   obtain ⟨rfl, _⟩ := ya8 r
   exact ⟨_, _, rfl, rfl, q.now S (.int _)⟩
 ·exact q.elim
end
end Sm
namespace Sm
open PySem PySem.Spec L2
theorem Out.bind_assoc {α β γ : Type} (o : Out α) (f : α -> AH -> Out β) (g : β -> AH -> Out γ) : (o.bind f).bind g = o.bind fun a h => (f a h).bind g := by cases o <;> rfl
section
variable {T : Tb} {E : St -> XK} {X : Cx} {pos p2 : Pos} {a b : Expr} {sa sb : SE}
def tO (T : Tb) (E : St -> XK) : Option SE -> TO
 | none => yey
 | some s => yfo (tE T E s)
abbrev POA (T : Tb) (E : St -> XK) (X : Cx) (e : Option Expr) (s : Option SE) : Prop := PO X e (tO T E s)
theorem zb5 : POA T E X none none := zhQ
theorem za5 (h : PEA T E X a sa) : POA T E X (some a) (some sa) := zhR h
@[simp] def yej (s : Option SE) : En -> AH -> Out (Option Int) := fun en h => match s with
 | none => .ok none h
 | some l => (l en h).bind fun v h2 => match v with | .int i => .ok (some i) h2 | _ => .bad
theorem zeR {s : Option SE} {σ : St} {H : Hp} {ι : Ix} {h : AH} {en : En} {γ δ : Type} {R' : Ix -> Hp -> γ -> δ -> Prop} {Q0 : δ -> Hp -> Prop} {f : Option Int -> AH -> Out γ} {Q : Option Int -> Hp -> Prop} (S : Sim T ι h H) (er : ER T ι H en σ) (q : Post T ι H (E σ) R' ((yej s en h).bind f) Q0)
  (k : ∀ l h' ι' H', Grow ι H ι' H' -> Sim T ι' h' H' -> Post T ι' H' (E σ) R' (f l h') Q0 -> Q l H') : tO T E s σ H Q := by
 cases s with
 | none => exact k none h ι H S.refl S q
 | some l =>
  refine ⟨ι, h, en, S, er, ?_⟩
  unfold yej at q
  dsimp only at q
  rw [Out.bind_assoc] at q
  refine q.bind fun v h1 ι1 H1 u g1 S1 r1 q1 => ?_
  split at q1
  ·rw [yax r1]
   exact ⟨_, rfl, k _ _ ι1 H1 g1 S1 q1⟩
  ·exact q1.elim
@[simp] def ybB (x : AV) (l u : Option Int) (h : AH) : Out AV := match x with
 | .fl xs => .ok (.fl (cutA xs l u)) h
 | .str z => .ok (.str (cutS z l u)) h
 | .tup xs => if ¬ (HT.sIx xs.length 0 l = 0 /\ HT.sIx xs.length xs.length u = xs.length) then .ok (.tup (cutA xs l u)) h else .bad
 | .ref n => match h[n]? with
  | some (.lst xs) => .ok (.fl (cutA xs l u)) h
  | _ => .bad
 | _ => .bad
@[simp] def sCut (a : SE) (lo hi : Option SE) : SE := fun en h => (a en h).bind fun x h1 => (yej lo en h1).bind fun l h2 => (yej hi en h2).bind fun u h3 => ybB x l u h3
theorem RVs.cut {ι : Ix} {H : Hp} {xs : List AV} {us : List V} {lo hi : Option Int} (r : RVs T ι H xs us) : RVs T ι H (cutA xs lo hi) (cutV us lo hi) := by
 unfold cutA cutV
 rw [<- r.length]
 exact (r.drop _).take _
theorem ygl {ι : Ix} {H : Hp} {z : Str} {l u : Option Int} (hz : z.length <= sizeLine) (hc : z.cps.all (· < 0x110000) = true) : RV T ι H (.str (cutS z l u)) (.str (cutS z l u)) := by
 refine .str ?_ ?_
 ·refine Nat.le_trans ?_ hz
  simp [cutS, Str.length]; omega
 ·simp only [cutS, List.all_toArray, List.all_eq_true]
  intro c h
  have hm : c ∈ z.cps.toList := List.mem_of_mem_drop (List.mem_of_mem_take h)
  exact (Array.all_eq_true_iff_forall_mem.mp hc) c (by simpa using hm)
theorem zbo {lo hi : Option Expr} {sl sh : Option SE} (hK : X.K = T.K) (ha : PEA T E X a sa) (hl : POA T E X lo sl) (hh : POA T E X hi sh) : PEA T E X (.Subscript a (.Slice lo hi none p2) pos) (sCut sa sl sh) := by
 refine yaJ (zgM (zhU.or (sl_tup.or ygf)) ha hl hh) fun σ H Q ⟨ι, h, en, S, er, q⟩ => ⟨ι, h, en, S, er, q.bind fun x h1 ι1 H1 u g1 S1 r1 q1 => ?_⟩
 refine zeR (E := E) S1 (er.mono g1) q1 fun l h2 ι2 H2 g2 S2 q2 => zeR (E := E) S2 (er.mono (g1.trans g2)) q2 fun w h3 ι3 H3 g3 S3 q3 => ?_
 have r3 := r1.mono (g2.trans g3)
 unfold ybB at q3
 split at q3
 ·obtain ⟨ad, us, rfl, sq, rs⟩ := ybE S3 r3 rfl
  exact .inl ⟨ad, us, rfl, hK ▸ sq, fun p n => yd1 S3 rs.cut n q3⟩
 ·obtain ⟨rfl, hz, hc⟩ := ya8 r3
  exact .inr (.inr ⟨_, rfl, hz, q3.now S3 (ygl hz hc)⟩)
 ·rename_i xs
  split at q3
  ·rename_i hz
   obtain ⟨ad, us, rfl, sq, rs⟩ := ycE r3
   exact .inr (.inl ⟨ad, us, rfl, hK ▸ sq, by rw [<- rs.length]; exact hz, fun p n => zcY S3 rs.cut n q3⟩)
  ·exact q3.elim
 ·split at q3
  ·rename_i xs hn
   obtain ⟨ad, us, rfl, sq, rs⟩ := ybE (xs := xs) S3 r3 (by simp [ycx, hn])
   exact .inl ⟨ad, us, rfl, hK ▸ sq, fun p n => yd1 S3 rs.cut n q3⟩
  ·exact q3.elim
 ·exact q3.elim
theorem r_gI {x : Str} {i : Int} {p : Pos} (hg : Gl X x) (hm : ∃ t, X.mg x = some (.int i t)) (hd : (x == ("__debug__" : Str)) = false := by decide) : PEA T E X (.Name x p) (sLit (.int i)) := by
 obtain ⟨t, hm⟩ := hm
 exact zh7 hg hm hd
end
def DG (K : PySem.W.Frag) (mg : Str -> Option Value) (x : Str) (st : Stmt) (ps : List Str) : Prop := ∃ f fd, mg x = some (.ref f) /\ PySem.W.keepIn K (.ref f) = true /\ Binds K fd ps [] /\ Fun K x x st f fd
end Sm
namespace Sm
open PySem PySem.Spec L2
def yed (N : List Str) (sc : Scope) (x₁ : Str) (jf : List (Nat × Str)) (scope : Scope) : Bool :=
 decide (x₁ :: jf.map (·.2)).Nodup && (scope.names.lookup x₁ == some .local) && jf.all (fun p => N[p.1]? == some p.2) && jf.all (fun p => scope.names.lookup p.2 == some .free) && (scope.kind == .function) &&
 scope.names.all (fun y => y.2 != .cell) && scope.names.all (fun y => y.2 != .free || sc.names.lookup y.1 == some .cell || sc.names.lookup y.1 == some .free) && scope.names.all (fun y => y.2 != .local || scope.names.lookup y.1 == some .local)
theorem zaE {X : Cx} {N : List Str} {sc scope : Scope} {x₁ : Str} {jf : List (Nat × Str)} (hN : X.N = N) (hk : ∀ x, X.env.kindOf x = sc.names.lookup x) (h : yed N sc x₁ jf scope = true) : CompOk X x₁ jf scope := by
 unfold yed at h
 simp only [Bool.and_eq_true, decide_eq_true_eq, List.all_eq_true, beq_iff_eq, bne_iff_ne, Bool.or_eq_true] at h
 obtain ⟨⟨⟨⟨⟨⟨⟨h1, h2⟩, h3⟩, h4⟩, h5⟩, h6⟩, h7⟩, h8⟩ := h
 refine ⟨h1, h2, fun p hp => by rw [hN]; exact h3 p hp, h4, h5, fun y hy => h6 y hy, fun y hy e => ?_, fun y hy e => ?_⟩
 ·rw [hk]
  rcases h7 y hy with (z | z) | z
  ·exact absurd e z
  ·exact .inl z
  ·exact .inr z
 ·rcases h8 y hy with z | z
  ·exact absurd e z
  ·exact z
end Sm
namespace Sm
open PySem PySem.Spec L2
theorem zc3 {T : Tb} {ι : Ix} {H : Hp} : ∀ ns : List Int, RVs T ι H (ns.map AV.int) (ns.map V.int)
 | [] => .nil
 | n :: ns => .cons (.int n) (zc3 ns)
theorem sim0 {T : Tb} {H : Hp} : Sim T ⟨[], []⟩ [] H := ⟨rfl, List.nodup_nil, (fun _ z => nomatch z), (fun i o a e => by simp at e)⟩
def spL (K : PySem.W.Frag) : Sp := fun vs H Q _ => ∃ (a : Addr) (ns : List Int), vs = [.ref a] /\ SqL K H a (ns.map V.int) /\ ns.length <= 63 /\ ∀ H', Q (.bl true) H'
theorem zij {T : Tb} {F : Fn} (ht : ∀ ns : List Int, ns.length <= 63 -> ∃ h', F [.fl (ns.map AV.int)] [] = .ok (.bl true) h') : ∀ vs H Q E, spL T.K vs H Q E -> spA T F vs H Q E := by
 rintro vs H Q E ⟨a, ns, rfl, hs, hl, q⟩
 obtain ⟨h', e⟩ := ht ns hl
 refine ⟨⟨[], []⟩, [], [.fl (ns.map AV.int)], sim0, .cons ?_ .nil, ?_⟩
 ·rcases hs with hs | hs
  ·exact .fl (by simp [Ix.all]) hs (zc3 ns)
  ·exact .kfl hs (zc3 ns)
 ·rw [e]
  intro ι' H' u g S r
  rw [ycy r]
  exact q H'
theorem zgl {P : Program} {w : World} {outer : List Env} {H : Hp} {s s' : Shared} {e : Value} (h : CXE P w outer H s (fun _ _ _ => False) e s') : False := by
 obtain ⟨_, _, _, _, _, _, _, _, _, _, _, _, _, _, q⟩ := h
 exact q
end Sm
namespace Sm
open PySem PySem.Spec L2
@[simp] def ydD : List AV -> Option (List Int)
 | [] => some []
 | .int i :: r => (ydD r).map (i :: ·)
 | _ => none
@[simp] def fSum : Fn := fun args h => match args with
 | [.fl xs] => match ydD xs with
  | some ns => .ok (.int ns.sum) h
  | none => .bad
 | _ => .bad
@[simp] def ycS (a b c : SE) : SI := fun en h => (a en h).bind fun v h1 => (b en h1).bind fun w h2 => (c en h2).bind fun z h3 => match v, w, z with
 | .int i, .int j, .int k => if i.natAbs < 2 ^ 40 /\ j.natAbs < 2 ^ 40 /\ 0 < k /\ k < 2 ^ 20 then .ok ((List.range (if i < j then (j - i - 1) / k + 1 else 0 : Int).toNat).map (fun m : Nat => .int (i + m * k)), none) h3 else .bad
 | _, _, _ => .bad
section
variable {T : Tb} {E : St -> XK} {X : Cx} {pos p : Pos} {e a b c : Expr} {sa sb sc : SE}
theorem zeS {ι : Ix} {H : Hp} : ∀ {xs : List AV} {us : List V} {bs : List Int}, RVs T ι H xs us -> ydD xs = some bs -> us = bs.map V.int
 | _, _, _, .nil, e => by cases e; rfl
 | _, _, bs, .cons (x := x) r rs, e => by
  unfold ydD at e
  split at e
  ·rename_i hh; cases hh
  ·rename_i b r' hh
   cases hh
   obtain ⟨bs', e1, rfl⟩ := Option.map_eq_some_iff.mp e
   rw [yax r, zeS rs e1]; rfl
  ·cases e
theorem b_sum (hK : X.K = T.K) (hc : X.calm = true := by rfl) : ∃ r, CallR X (.builtin "sum") r /\ ydo T fSum r := by
 refine ⟨_, zg5 hc, fun ι h H xs us E Q S r q => ?_⟩
 unfold fSum at q
 split at q
 ·split at q
  ·rename_i bs hb
   cases r with
   | cons r r' =>
    cases r'
    obtain ⟨a, us, rfl, sq, rs⟩ := ybE S r rfl
    rw [zeS rs hb] at sq
    exact ⟨a, bs, rfl, hK ▸ sq, q.now S (.int _)⟩
  ·exact q.elim
 ·exact q.elim
theorem zfB {ι : Ix} {H : Hp} {lo c : Int} {n : Nat} : ItR T (Itr3 lo c n) ι H ((List.range n).map (fun m : Nat => AV.int (lo + m * c))) none := by
 constructor
 ·intro i ι' h' H' y g S _ e
  rw [List.getElem?_map] at e
  obtain ⟨m, e1, rfl⟩ := Option.map_eq_some_iff.mp e
  have hi : i < n := by
   have := (List.getElem?_eq_some_iff.mp e1).1
   simpa using this
  rw [List.getElem?_range hi] at e1
  cases e1
  refine ⟨hi, ?_⟩
  rintro u H2 ⟨rfl, rfl⟩
  exact ⟨S.refl, S, .int _⟩
 ·intro i ι' h' H' g S _ hl
  have hl' : n <= i := by simpa using hl
  exact hl'
theorem zgm {tg : Expr} {p : Pos} (hg : Gl X "range") (hm : X.mg "range" = none) (ha : PEA T E X a sa) (hb : PEA T E X b sb) (hc : PEA T E X c sc) (hs : starEach [a, b, c] X.env = [(false, eval a X.env), (false, eval b X.env), (false, eval c X.env)] := by rfl) (hs2 : starEach [b, c] X.env = [(false, eval b X.env), (false, eval c X.env)] := by rfl) (hs3 : starEach [c] X.env = [(false, eval c X.env)] := by rfl) :
  PIA T X tg (.Call (.Name "range" p) [a, b, c] [] pos) (ycS sa sb sc) :=
 ydC (zgd hg hm (zaa ha (zaa hb (zaa hc yab hs3) (by rw [hs2, hs3])) (by rw [hs, hs2])) hs hs2) fun σ H R ⟨ι, h, en, S, er, q⟩ => by
  unfold ycS at q
  refine ⟨ι, h, en, S, er, ?_⟩
  unfold sCons
  cases e : sa en h with
  | bad => rw [e] at q; exact q
  | ex c h1 => rw [e] at q; exact q.elim
  | ok v h1 =>
   rw [e] at q
   dsimp only [Out.bind] at q ⊢
   cases e' : sb en h1 with
   | bad => rw [e'] at q; exact q
   | ex c h1 => rw [e'] at q; exact q.elim
   | ok v' h2 =>
    rw [e'] at q
    dsimp only at q ⊢
    cases e'' : sc en h2 with
    | bad => rw [e''] at q; exact q
    | ex c h1 => rw [e''] at q; exact q.elim
    | ok v'' h3 =>
     rw [e''] at q
     dsimp only at q
     intro ι1 H1 u g1 S1 r1
     split at q
     ·rename_i hx
      split at hx
      ·split at hx
       ·rename_i hb
        cases hx
        cases r1 with
        | cons r r' =>
         cases r' with
         | cons r2 r3 =>
          cases r3 with
          | cons r4 r5 =>
           cases r5
           rw [yax r, yax r2, yax r4]
           exact ⟨_, _, _, rfl, hb, q ι1 H1 _ g1 S1 zfB⟩
       ·cases hx
      ·cases hx
     ·exact q.elim
theorem ydg {sts : List Stmt} {E : St -> XK} : PSsA T E X sts (fun _ _ => .bad) := fun pins s σ H D I ⟨ι, h, en, S, er, q⟩ => q.elim
theorem yhx {ι : Ix} {H : Hp} {z : Str} (hz : z.length <= sizeLine) (hc : z.cps.all (· < 0x110000) = true) : RV T ι H (.str (revS z)) (.str (revS z)) := by
 refine .str ?_ ?_
 ·refine Nat.le_trans ?_ hz
  simp [revS, Str.length]
 ·simp only [revS, List.all_toArray, List.all_eq_true, List.mem_reverse]
  intro c h
  exact (Array.all_eq_true_iff_forall_mem.mp hc) c (by simpa using h)
end
theorem el1 : ∀ {us : List Value}, us.length = 1 -> ∃ a : Value, us = [a]
 | [a], _ => ⟨a, rfl⟩
theorem el2 : ∀ {us : List Value}, us.length = 2 -> ∃ a b : Value, us = [a, b]
 | [a, b], _ => ⟨a, b, rfl⟩
theorem el3 : ∀ {us : List Value}, us.length = 3 -> ∃ a b c : Value, us = [a, b, c]
 | [a, b, c], _ => ⟨a, b, c, rfl⟩
theorem el4 : ∀ {us : List Value}, us.length = 4 -> ∃ a b c d : Value, us = [a, b, c, d]
 | [a, b, c, d], _ => ⟨a, b, c, d, rfl⟩
theorem el5 : ∀ {us : List Value}, us.length = 5 -> ∃ a b c d e : Value, us = [a, b, c, d, e]
 | [a, b, c, d, e], _ => ⟨a, b, c, d, e, rfl⟩
@[simp] def yc3 : FM := fun x vs h => match x, vs with
 | .ref n, [.ref k] => match h[n]?, h[k]? with
  | some (.lst xs), some (.lst ys) => if xs.length + ys.length <= sizeLine then .ok .non (h.set n (.lst (xs ++ ys))) else .bad
  | _, _ => .bad
 | _, _ => .bad
theorem ye7 {T : Tb} {X : Cx} : ∃ r, MtR X "list.extend" r /\ MtS T yc3 r := by
 refine ⟨_, zf0, fun ι h H x xs u us E Q S rx rs q => ?_⟩
 unfold yc3 at q
 split at q
 ·rename_i n k
  split at q
  ·rename_i ys zs hn hk
   split at q
   ·rename_i hl
    cases rx with
    | @ref _ ad hr =>
     cases rs with
     | @cons _ uu _ _ r r' =>
      cases r'
      cases r with
      | @ref _ bd hb =>
       obtain ⟨o, e1, ws, rfl, rw_⟩ := S.obj n _ ad hn hr
       obtain ⟨o2, e2, ws2, rfl, rw2⟩ := S.obj k _ bd hk hb
       have g := S.growSet (u := .lst (ws ++ ws2)) hr
       exact ⟨ad, bd, ws, ws2, rfl, rfl, e1, e2, by rw [<- rw_.length, <- rw2.length]; exact hl, q ι _ _ g (S.set hr ⟨_, rfl, (rw_.mono g).append (rw2.mono g)⟩) .non⟩
   ·exact q.elim
  ·exact q.elim
 ·exact q.elim
theorem ygm {T : Tb} {ι : Ix} {H : Hp} {z : Str} {n : Nat} (hl : z.length * n <= 1000000) (hc : z.cps.all (· < 0x110000) = true) : RV T ι H (.str (repS z n)) (.str (repS z n)) := by
 refine .str ?_ ?_
 ·refine Nat.le_trans ?_ (Nat.le_trans hl (by decide))
  simp [repS, Str.length, Nat.mul_comm]
 ·simp only [repS, List.all_toArray, List.all_eq_true, List.mem_flatten, List.mem_replicate]
  rintro c ⟨l, ⟨_, rfl⟩, hm⟩
  exact (Array.all_eq_true_iff_forall_mem.mp hc) c (by simpa using hm)
def yek : Nat := 100000000
end Sm
namespace Sm
open PySem PySem.Spec L2
open PySem.Builtin PySem.Builtin.Str
def yhy : FM := fun x vs h => match x, vs with
 | .str z, [y] => match ycx y h with
  | some xs => match ye1 xs with
   | some zs => if JoinOk z zs = true /\ (glued z zs).length <= sizeLine /\ (glued z zs).cps.all (· < 0x110000) = true then .ok (.str (glued z zs)) h else .bad
   | none => .bad
  | none => .bad
 | _, _ => .bad
def ydp : F2 := fun x y h => match x, y with
 | .str z, .int n => if (1 <= n /\ n <= 1000 /\ 1 <= z.length /\ z.length <= 1000) /\ z.length * n.toNat <= 1000000 then .ok (.str (repS z n.toNat)) h else .bad
 | _, _ => .bad
section
variable {T : Tb} {E : St -> XK} {X : Cx} {pos : Pos}
theorem ygn : Op T X (binaryOp .Mult) ydp := by
 refine ⟨_, zfw, fun ι h H x y u w E Q S rx ry p => ?_⟩
 unfold ydp at p
 split at p
 ·rename_i z n
  split at p
  ·rename_i hz
   obtain ⟨rfl, _, hc⟩ := ya8 rx
   rw [yax ry]
   refine ⟨_, _, rfl, rfl, hz.1, fun r hr => ?_⟩
   have e : r = repS z n.toNat := by
    cases r
    simp only [repS, Str.mk.injEq]
    rw [<- hr]
   rw [e]
   exact p.now S (ygm hz.2 hc)
  ·exact p.elim
 ·exact p.elim
end
end Sm
namespace Sm
open PySem PySem.Spec L2
def un2 {α : Type} (c : En -> AH -> Out α) : En -> AH -> Out α := fun en h => match en with
 | some (.tup [y, z]) :: r => c (some y :: some z :: r) h
 | _ => .bad
theorem ygo {α : Type} (c : En -> AH -> Out α) (x : AV) : (∃ y z, x = .tup [y, z]) \/ ∀ r h, un2 c (some x :: r) h = .bad := by
 match x with
 | .tup [y, z] => exact .inl ⟨y, z, rfl⟩
 | .tup [] => exact .inr fun _ _ => rfl
 | .tup [_] => exact .inr fun _ _ => rfl
 | .tup (_ :: _ :: _ :: _) => exact .inr fun _ _ => rfl
 | .non => exact .inr fun _ _ => rfl
 | .exc _ => exact .inr fun _ _ => rfl
 | .bl _ => exact .inr fun _ _ => rfl
 | .int _ => exact .inr fun _ _ => rfl
 | .str _ => exact .inr fun _ _ => rfl
 | .fl _ => exact .inr fun _ _ => rfl
 | .ref _ => exact .inr fun _ _ => rfl
@[simp] theorem yhz {α : Type} (c : En -> AH -> Out α) (y z : AV) (r : En) (h : AH) : un2 c (some (.tup [y, z]) :: r) h = c (some y :: some z :: r) h := rfl
@[simp] def ybT (js : List Nat) (it : SI) (c : SB) (e : SE) : SE := yaY js it (un2 c) (un2 e)
section
variable {T : Tb} {E : St -> XK} {X : Cx} {pos px p1 p2 : Pos} {kk : Nat} {iter elt : Expr} {ifs : List Expr} {scope : Scope} {x₁ x₂ : Str} {jf : List (Nat × Str)} {it : SI} {cc : SB} {ce : SE}
theorem ER.comp2 {ι : Ix} {H : Hp} {en : En} {σ : St} {x y : AV} {u v : V} {jf : List (Nat × Str)} (er : ER T ι H en σ) (r : RV T ι H x u) (r2 : RV T ι H y v) : ER T ι H (some x :: some y :: (jf.map (·.1)).map fun j => (en[j]?).join) (ya5 (some u) (some v) jf σ) := by
 obtain ⟨h1, h2⟩ := ER.comp (jf := jf) er r2
 refine ⟨by simp [ya5], fun i v e => ?_⟩
 cases i with
 | zero => simp at e; subst e; exact ⟨u, rfl, r⟩
 | succ i => exact h2 i v (by simpa using e)
theorem zha {jf : List (Nat × Str)} {it : SI} {cc : SB} {ce : SE} {σ : St} {H : Hp} {Q : VK} {ι : Ix} {h : AH} {en : En} (S : Sim T ι h H) (er : ER T ι H en σ)
  (q : match it en h with | .ok (xs, w) h1 => (match yaB (jf.map (·.1)) en w xs (un2 cc) (un2 ce) xs [] h1 with | .ok ys h2 => ∀ ι' H' D vs, Grow ι H ι' H' -> Sim T (ι'.hide D) h2 H' -> RVs T (ι'.hide D) H' ys vs -> H' D = some (.lst vs) -> D ∉ ι'.all -> (∀ n, ι'.refs = ι.refs ++ n -> ∀ a ∈ n ++ [D], H a = none) -> Q (.ref D) H' | _ => False) | _ => False) :
  ydY T.K jf (tI T it) (tT T EN cc) (tE T EN ce) σ H Q := by
 refine ⟨ι, h, en, S, er, ?_⟩
 cases e : it en h with
 | bad => rw [e] at q; exact q
 | ex c h1 => rw [e] at q; exact q
 | ok p h1 =>
  obtain ⟨xs, w⟩ := p
  rw [e] at q
  dsimp only at q
  intro ι1 H1 J g1 S1 IR D hD
  refine ⟨fun i m ys H2 => m = xs.length - i /\ i <= xs.length /\ H2 D = some (.lst ys) /\ ∃ ι' h' vs, Grow ι1 H1 ι' H2 /\ Ext ι1 H1 (ι'.hide D) H2 /\ Sim T (ι'.hide D) h' H2 /\ ER T (ι'.hide D) H2 en σ /\ RVs T (ι'.hide D) H2 vs ys /\ D ∉ ι'.refs /\
   (match yaB (jf.map (·.1)) en w xs (un2 cc) (un2 ce) (xs.drop i) vs h' with | .ok ys h2 => ∀ ι' H' D vs, Grow ι H ι' H' -> Sim T (ι'.hide D) h2 H' -> RVs T (ι'.hide D) H' ys vs -> H' D = some (.lst vs) -> D ∉ ι'.all -> (∀ n, ι'.refs = ι.refs ++ n -> ∀ a ∈ n ++ [D], H a = none) -> Q (.ref D) H' | _ => False), ?_, ?_⟩
  ·exact ⟨xs.length, by simp, Nat.zero_le _, zam, ι1, h1, [], S1.growNew hD, Ext.hide hD, S1.hide hD, (er.mono g1).ext (Ext.hide hD), .nil, fun z => S1.fresh hD (List.mem_append_left _ z), q⟩
  ·rintro i m ys H2 ⟨rfl, hi, hH2, ι', h', vs, g', x', S', er', rv', nD', q'⟩
   refine ⟨hH2, ?_⟩
   by_cases hl : i < xs.length
   ·rw [zbM hl] at q'
    unfold yaB at q'
    by_cases hs : ybx w xs h' = true /\ vs.length < sizeLine
    ·rw [if_pos hs] at q'
     obtain ⟨hs1, hs2⟩ := hs
     obtain ⟨go, yld⟩ := IR.go i _ h' H2 xs[i] x' S' hs1 (by simp [hl])
     refine .inr ⟨go, by rw [<- rv'.length]; exact hs2, fun x H3 y => ?_⟩
     obtain ⟨g3, S3, r3⟩ := yld x H3 y
     have er3 := er'.mono g3
     obtain ⟨y1, y2, exi⟩ : ∃ y1 y2, xs[i] = .tup [y1, y2] := by
      rcases ygo cc xs[i] with z | z
      ·exact z
      ·rw [z] at q'; exact q'.elim
     rw [exi] at r3
     simp only [exi, un2] at q'
     obtain ⟨aa, us, rfl, sq, rss⟩ := ycE r3
     cases rss with
     | cons rA rB' => cases rB' with
       | cons rB rN =>
     cases rN
     refine ⟨aa, _, _, rfl, sq, ι'.hide D, h', _, S3, ER.comp2 er3 rA rB, ?_⟩
     cases ec : cc (some y1 :: some y2 :: (jf.map (·.1)).map fun j => (en[j]?).join) h' with
     | bad => rw [ec] at q'; exact q'
     | ex c h5 => rw [ec] at q'; exact q'.elim
     | ok bb h5 =>
      rw [ec] at q'
      intro ι5 H5 b5 g5 S5 r5
      subst r5
      have g35 := g3.trans g5
      have hD5 : H5 D = some (.lst ys) := g35.keep D _ nD' hH2
      have eι : ι5 = Ix.hide ⟨ι5.refs, ι'.priv⟩ D := by
       have := g5.priv
       cases ι5
       simp only at this
       subst this
       rfl
      have nD5 : D ∉ ι5.refs := g35.outR nD' hH2
      have gG5 : Grow ι1 H1 ⟨ι5.refs, ι'.priv⟩ H5 := by
       obtain ⟨n, en1, hn⟩ := g'.pre
       obtain ⟨k, ek, hk⟩ := g35.pre
       refine ⟨⟨n ++ k, ?_, fun a ha => ?_⟩, g'.priv, fun a o na ea => ?_, fun a ha => ?_⟩
       ·show ι5.refs = _; rw [ek]; show ι'.refs ++ k = _; rw [en1]; simp
       ·rcases List.mem_append.mp ha with z | z
        ·exact hn a z
        ·have z2 := hk a z
         by_cases hr : a ∈ ι1.refs
         ·exact absurd z2 (g'.live a (List.mem_append_left _ hr))
         ·cases e9 : H1 a with
          | none => rfl
          | some o => rw [g'.keep a o hr e9] at z2; cases z2
       ·exact g35.keep a o (g'.outR na ea) (g'.keep a o na ea)
       ·have : a ∈ (ι'.hide D).all := by
         rcases List.mem_append.mp ha with z | z
         ·exact List.mem_append_left _ (by show a ∈ ι'.refs; rw [en1]; exact List.mem_append_left _ z)
         ·exact List.mem_append_right _ (List.mem_cons_of_mem _ (by rw [g'.priv]; exact z))
        exact g35.live a this
      have x5 : Ext ι1 H1 (Ix.hide ⟨ι5.refs, ι'.priv⟩ D) H5 := eι ▸ x'.trans g35.ext
      have er5 := er3.mono g5
      have rv5 := (rv'.mono g35)
      cases bb with
      | false =>
       rw [if_neg Bool.false_ne_true]
       refine ⟨xs.length - (i + 1), by omega, rfl, hl, hD5, ⟨ι5.refs, ι'.priv⟩, h5, vs, gG5, x5, eι ▸ S5, eι ▸ er5, eι ▸ rv5, nD5, q'⟩
      | true =>
       rw [if_pos rfl]
       refine ⟨ι5, h5, _, S5, (ER.comp2 er3 rA rB).mono g5, ?_⟩
       dsimp only at q'
       cases ee : ce (some y1 :: some y2 :: (jf.map (·.1)).map fun j => (en[j]?).join) h5 with
       | bad => rw [ee] at q'; exact q'
       | ex c h6 => rw [ee] at q'; exact q'.elim
       | ok v h6 =>
        rw [ee] at q'
        intro ι6 H6 u6 g6 S6 r6
        have g56 := g6
        have hD6 : H6 D = some (.lst ys) := g56.keep D _ nD5 hD5
        have eι6 : ι6 = Ix.hide ⟨ι6.refs, ι'.priv⟩ D := by
         have h1 := g6.priv
         have h2 := g5.priv
         rw [h2] at h1
         cases ι6
         simp only at h1
         subst h1
         rfl
        have nD6 : D ∉ ι6.refs := g56.outR nD5 hD5
        have gG6 : Grow ι1 H1 ⟨ι6.refs, ι'.priv⟩ (upd H6 D (.lst (ys ++ [u6]))) := by
         obtain ⟨n, en1, hn⟩ := gG5.pre
         obtain ⟨k, ek, hk⟩ := g56.pre
         have hD1 : ∀ a o, H1 a = some o -> a ≠ D := fun a o ea => zao ea hD
         refine ⟨⟨n ++ k, ?_, fun a ha => ?_⟩, g'.priv, fun a o na ea => ?_, fun a ha => ?_⟩
         ·show ι6.refs = _; rw [ek]; have z : ι5.refs = ι1.refs ++ n := en1; rw [z]; simp
         ·rcases List.mem_append.mp ha with z | z
          ·exact hn a z
          ·have z2 := hk a z
           by_cases hr : a ∈ ι1.refs
           ·exact absurd z2 (gG5.live a (List.mem_append_left _ hr))
           ·cases e9 : H1 a with
            | none => rfl
            | some o => rw [gG5.keep a o hr e9] at z2; cases z2
         ·rw [yar (hD1 a o ea)]
          exact g56.keep a o (gG5.outR na ea) (gG5.keep a o na ea)
         ·by_cases zD : a = D
          ·subst zD; rw [zam]; simp
          ·rw [yar zD]
           have : a ∈ ι5.all := by
            rcases List.mem_append.mp ha with z | z
            ·exact List.mem_append_left _ (by have z' : ι5.refs = ι1.refs ++ n := en1; rw [z']; exact List.mem_append_left _ z)
            ·rw [eι]; exact List.mem_append_right _ (List.mem_cons_of_mem _ (by show a ∈ ι'.priv; rw [g'.priv]; exact z))
           exact g56.live a this
        refine ⟨hD6, xs.length - (i + 1), by omega, rfl, hl, zam, ⟨ι6.refs, ι'.priv⟩, h6, vs ++ [v], gG6, ?_, ?_, ?_, ?_, nD6, q'⟩
        ·exact (eι6 ▸ (x'.trans (g35.ext.trans g6.ext))).trans Ext.poke
        ·exact Sim.poke (eι6 ▸ S6) nD6
        ·exact ER.ext (eι6 ▸ er5.mono g6) Ext.poke
        ·have : RVs T ι6 H6 (vs ++ [v]) (ys ++ [u6]) := (rv5.mono g6).append (.cons r6 .nil)
         exact RVs.ext Ext.poke (eι6 ▸ this)
    ·rw [if_neg hs] at q'; exact q'.elim
   ·have ei : i = xs.length := by omega
    subst ei
    rw [List.drop_length] at q'
    unfold yaB at q'
    by_cases hs : ybx w xs h' = true
    ·rw [if_pos hs] at q'
     have hp : D ∉ ι'.priv := fun z => by rw [g'.priv] at z; exact S1.plive D z hD
     refine .inl ⟨IR.stop _ _ h' H2 x' S' hs (Nat.le_refl _), q' ι' H2 D ys (g1.trans g') S' rv' hH2 (fun z => (List.mem_append.mp z).elim nD' hp) fun n en1 a ha => ?_⟩
     obtain ⟨k, ek, hk⟩ := (g1.trans g').pre
     have : n = k := List.append_cancel_left (en1.symm.trans ek)
     subst this
     rcases List.mem_append.mp ha with z | z
     ·exact hk a z
     ·have z' : a = D := by simpa using z
      subst z'
      cases e9 : H a with
      | none => rfl
      | some o =>
       by_cases hr : a ∈ ι.refs
       ·have z1 : a ∈ ι1.refs := by
         obtain ⟨k1, ek1, _⟩ := g1.pre
         rw [ek1]; exact List.mem_append_left _ hr
        exact absurd hD (S1.live a (List.mem_append_left _ z1))
       ·rw [g1.keep a o hr e9] at hD; cases hD
    ·rw [if_neg hs] at q'; exact q'.elim
theorem zhb {σ : St} {H : Hp} {Q : VK} (q : tE T E (yaY (jf.map (·.1)) it (un2 cc) (un2 ce)) σ H Q) : ydY T.K jf (tI T it) (tT T EN cc) (tE T EN ce) σ H Q := by
 obtain ⟨ι, h, en, S, er, q⟩ := q
 refine zha S er ?_
 unfold yaY at q
 cases e : it en h with
 | bad => rw [e] at q; exact q
 | ex c h1 => rw [e] at q; exact q.elim
 | ok p h1 =>
  obtain ⟨xs, w⟩ := p
  rw [e] at q
  dsimp only at q ⊢
  cases e2 : yaB (jf.map (·.1)) en w xs (un2 cc) (un2 ce) xs [] h1 with
  | bad => rw [e2] at q; exact q
  | ex c h1 => rw [e2] at q; exact q.elim
  | ok ys h2 =>
   rw [e2] at q
   exact fun ι' H' D vs g S' r hD nD _ => q ι' H' _ g S'.show (.fl nD (.inl hD) (r.ext Ext.show))
structure CompOk2 (X : Cx) (x₁ x₂ : Str) (jf : List (Nat × Str)) (scope : Scope) : Prop where
 hN : (x₁ :: x₂ :: jf.map (·.2)).Nodup
 hx : scope.names.lookup x₁ = some .local
 hx2 : scope.names.lookup x₂ = some .local
 hjf : ∀ p ∈ jf, X.N[p.1]? = some p.2
 hjl : ∀ p ∈ jf, scope.names.lookup p.2 = some .free
 hkind : scope.kind = .function
 hcell : ∀ y ∈ scope.names, y.2 ≠ .cell
 hfr : ∀ y ∈ scope.names, y.2 = .free -> X.env.kindOf y.1 = some .cell \/ X.env.kindOf y.1 = some .free
 hnames : ∀ y ∈ scope.names, y.2 = .local -> scope.names.lookup y.1 = some .local
theorem zeT (hK : X.K = T.K) (C : CompOk2 X x₁ x₂ jf scope) (hcalm : X.calm = true) (hi : PIA T X (.Tuple [.Name x₁ p1, .Name x₂ p2] kk px) iter it) (hc : ∀ pins cl s H fp, PTs (yaS X pins x₁ x₂ jf scope cl s H fp) ifs (tT T EN cc)) (he : ∀ pins cl s H fp, PEA T EN (yaS X pins x₁ x₂ jf scope cl s H fp) elt ce)
  (hs : ∀ x, foldedSetIterable iter X.env x = pure x := by intro _; rfl) : PEA T E X (.ListComp elt [⟨.Tuple [.Name x₁ p1, .Name x₂ p2] kk px, iter, ifs, 0⟩] scope pos) (ybT (jf.map (·.1)) it cc ce) :=
 yaJ (zg8 hcalm hi hc he C.hN C.hx C.hx2 C.hjf C.hjl C.hkind C.hcell C.hfr C.hnames hs) fun _ _ _ q => hK ▸ zhb q
end
def yet (N : List Str) (sc : Scope) (x₁ x₂ : Str) (jf : List (Nat × Str)) (scope : Scope) : Bool :=
 yed N sc x₁ jf scope && decide (x₁ :: x₂ :: jf.map (·.2)).Nodup && (scope.names.lookup x₂ == some .local)
theorem zcK {X : Cx} {N : List Str} {sc scope : Scope} {x₁ x₂ : Str} {jf : List (Nat × Str)} (hN : X.N = N) (hk : ∀ x, X.env.kindOf x = sc.names.lookup x) (h : yet N sc x₁ x₂ jf scope = true) : CompOk2 X x₁ x₂ jf scope := by
 unfold yet at h
 simp only [Bool.and_eq_true, decide_eq_true_eq, beq_iff_eq] at h
 obtain ⟨⟨h1, h2⟩, h3⟩ := h
 have C := zaE hN hk h1
 exact ⟨h2, C.hx, h3, C.hjf, C.hjl, C.hkind, C.hcell, C.hfr, C.hnames⟩
section
variable {T : Tb} {E : St -> XK} {X : Cx} {pos p pos' p' : Pos} {a : Expr} {sa : SE}
end
end Sm
namespace L2
open PySem PySem.Spec PyProof.Rows
section
variable {X : Cx}
end
end L2
namespace Sm
open PySem PySem.Spec L2
@[simp] def yhv : FM := fun x vs h => match x, vs with
 | .ref n, [.int i, v] => match h[n]? with
  | some (.lst xs) => if 0 <= i /\ i < 2 ^ 40 /\ i.toNat <= xs.length /\ xs.length < sizeLine then .ok .non (h.set n (.lst (xs.take i.toNat ++ v :: xs.drop i.toNat))) else .bad
  | _ => .bad
 | _, _ => .bad
@[simp] def ycs : FM := fun x vs h => match x, vs with
 | .ref n, [] => match h[n]? with
  | some (.lst xs) => .ok .non (h.set n (.lst xs.reverse))
  | _ => .bad
 | _, _ => .bad
theorem zgn {T : Tb} {X : Cx} : ∃ r, MtR X "list.reverse" r /\ MtS T ycs r := by
 refine ⟨_, zfv, fun ι h H x xs u us E Q S rx rs q => ?_⟩
 unfold ycs at q
 split at q
 ·rename_i n
  split at q
  ·rename_i ys hn
   cases rx with
   | @ref _ ad hr =>
    cases rs
    obtain ⟨o, e1, ws, rfl, rw_⟩ := S.obj n _ ad hn hr
    have g := S.growSet (u := .lst ws.reverse) hr
    exact ⟨ad, ws, rfl, rfl, e1, q ι _ _ g (S.set hr ⟨_, rfl, (rw_.mono g).reverse⟩) .non⟩
  ·exact q.elim
 ·exact q.elim
end Sm
namespace L2
open PySem PySem.Spec
theorem Room.m {j k : Nat} {A : Around} (hr : Room k A) (h : Nat.ble j k = true := by rfl) : Room j A := hr.mono (Nat.le_of_ble_eq_true h)
end L2
namespace Sm
open PySem PySem.Spec L2
def DK (K : PySem.W.Frag) (x : Str) (st : Stmt) : Prop := ∃ f fd, PySem.W.nsIn K mainGlobals x = some (some (.ref f)) /\ Fun K x x st f fd
def DN (K : PySem.W.Frag) (C : Addr) (m q : Str) (st : Stmt) : Prop := ∃ f fd, Meth K C m f /\ Fun K m q st f fd
def DMm (K : PySem.W.Frag) (cls : Nat -> Option Addr) (c : Nat) (m q : Str) (st : Stmt) (ps : List Str) : Prop := ∃ C f fd, cls c = some C /\ Cls K C /\ Meth K C m f /\ Binds K fd ps [] /\ Fun K m q st f fd
def DI (K : PySem.W.Frag) (cls : Nat -> Option Addr) (mg : Str -> Option Value) (c : Nat) (x q : Str) (st : Stmt) (ps : List Str) : Prop := ∃ C f fd, cls c = some C /\ mg x = some (.ref C) /\ Mk K C f /\ Binds K fd ps [] /\ Fun K "__init__" q st f fd
section
variable {P : Program} {w : World} {K : PySem.W.Frag} {mg : Str -> Option Value} {base h : Heap} {T : Tb} {x m q : Str} {st : Stmt} {f C : Addr} {N ps : List Str} {k c : Nat} {b : SS} {cls : Nat -> Option Addr}
section
variable {oc : Value} {od an : Option Addr} {osl : Array (Option Value)} {kV doc pm cdv ct : Value}
theorem dk (a : PySem.W.nsIn K mainGlobals x = some (some (.ref f))) (l : K.lookup f = some ⟨oc, od, .func (PySem.W.fnOf x x (ycq st) (ybL st) (yaf st) .none kV doc pm an cdv ct), osl⟩)
  (c : PySem.W.codeIn K cdv x = true) (k : PySem.W.keepIn K (.ref f) = true) : DK K x st := ⟨f, _, a, yeT l c k⟩
theorem dn (a : PySem.W.findIn K (.ref C) m = some (some (.ref f))) (i : PySem.W.isFn K (.ref f) = true) (l : K.lookup f = some ⟨oc, od, .func (PySem.W.fnOf m q (ycq st) (ybL st) (yaf st) .none kV doc pm an cdv ct), osl⟩)
  (c : PySem.W.codeIn K cdv q = true) (k : PySem.W.keepIn K (.ref f) = true) : DN K C m q st := ⟨f, _, ⟨a, i, k⟩, yeT l c k⟩
end
abbrev BA (x q : Str) (st : Stmt) (us : List Value) (r : List (Str × Value)) : Prop := ∀ (kV doc pm : Value) (an : Option Addr) (cdv ct : Value), bindArgs (PySem.W.fnOf x q (ycq st) (ybL st) (yaf st) .none kV doc pm an cdv ct) ⟨us, []⟩ = pure r
def BL (x q : Str) (st : Stmt) (ps : List Str) : Prop := ∀ (us : List Value), us.length = ps.length -> BA x q st us (ps.zip us)
theorem bl1 {p1 : Str} (h : ∀ a, BA x q st [a] [(p1, a)] := by exact fun _ _ _ _ _ _ _ => rfl) : BL x q st [p1] := fun us e => by obtain ⟨_, rfl⟩ := el1 e; exact h _
theorem bl2 {p1 p2 : Str} (h : ∀ a b, BA x q st [a, b] [(p1, a), (p2, b)] := by exact fun _ _ _ _ _ _ _ _ => rfl) : BL x q st [p1, p2] := fun us e => by obtain ⟨_, _, rfl⟩ := el2 e; exact h _ _
theorem bl3 {p1 p2 p3 : Str} (h : ∀ a b c, BA x q st [a, b, c] [(p1, a), (p2, b), (p3, c)] := by exact fun _ _ _ _ _ _ _ _ _ => rfl) : BL x q st [p1, p2, p3] := fun us e => by obtain ⟨_, _, _, rfl⟩ := el3 e; exact h _ _ _
theorem bl4 {p1 p2 p3 p4 : Str} (h : ∀ a b c d, BA x q st [a, b, c, d] [(p1, a), (p2, b), (p3, c), (p4, d)] := by exact fun _ _ _ _ _ _ _ _ _ _ => rfl) : BL x q st [p1, p2, p3, p4] := fun us e => by obtain ⟨_, _, _, _, rfl⟩ := el4 e; exact h _ _ _ _
theorem bl5 {p1 p2 p3 p4 p5 : Str} (h : ∀ a b c d e, BA x q st [a, b, c, d, e] [(p1, a), (p2, b), (p3, c), (p4, d), (p5, e)] := by exact fun _ _ _ _ _ _ _ _ _ _ _ => rfl) : BL x q st [p1, p2, p3, p4, p5] := fun us e => by obtain ⟨_, _, _, _, _, rfl⟩ := el5 e; exact h _ _ _ _ _
theorem dg (X : K.In h) (G : h.Ns mainGlobals mg) (d : DK K x st) (hb : BL x x st ps) : DG K mg x st ps := by
 obtain ⟨f, fd, a, F⟩ := d
 exact ⟨f, fd, PySem.W.mg_of X G a, F.kp, F.binds fun _ _ _ _ _ _ us hl => hb us hl _ _ _ _ _ _, F⟩
theorem dm (hc : cls c = some C) (k : Cls K C) (d : DN K C m q st) (hb : BL m q st ps) : DMm K cls c m q st ps := by
 obtain ⟨f, fd, M, F⟩ := d
 exact ⟨C, f, fd, hc, k, M, F.binds fun _ _ _ _ _ _ us hl => hb us hl _ _ _ _ _ _, F⟩
theorem di (hc : cls c = some C) (hx : mg x = some (.ref C)) (mk : PySem.W.makesIn K C = true) (kc : PySem.W.keepIn K (.ref C) = true) (d : DN K C "__init__" q st) (hb : BL "__init__" q st ps) : DI K cls mg c x q st ps := by
 obtain ⟨f, fd, M, F⟩ := d
 exact ⟨C, f, fd, hc, hx, ⟨mk, M.at_, M.fn, kc⟩, F.binds fun _ _ _ _ _ _ us hl => hb us hl _ _ _ _ _ _, F⟩
theorem dlaw {fa : Addr} {p : Str} (X : K.In h) (G : h.Ns mainGlobals mg) (hfa : mg x = some (.ref fa)) (d : DK K x st) (hb : BL x x st [p]) : ∃ fd : FuncData, (∀ (s : Shared) (v : Value), BindsTo s fd ⟨[v], []⟩ [(p, v)]) /\ Fun K x x st fa fd := by
 obtain ⟨f, fd, a, F⟩ := d
 have e := hfa.symm.trans (PySem.W.mg_of X G a)
 cases e
 refine ⟨fd, fun s v => ?_, F⟩
 obtain ⟨oc, od, kV, doc, pm, an, cdv, ct, osl, rfl, lk, hcd⟩ := F.ex
 exact .of_eq (hb [v] rfl _ _ _ _ _ _)
theorem fsk {sc : Scope} (h1 : sc.kind = .function := by rfl) (h2 : sc.isCoroutine = false := by rfl) (h3 : sc.isGenerator = false := by rfl) (h4 : N.Nodup := by decide +kernel) (h5 : N.take ps.length = ps := by rfl)
  (h6 : ∀ x ∈ ps, sc.names.lookup x = some .local \/ sc.names.lookup x = some .cell := by decide +kernel) (h7 : ∀ y ∈ sc.names, y.2 ≠ .free := by decide +kernel) : FnScope N ps sc := ⟨h1, h2, h3, h4, h5, h6, h7⟩
abbrev yel (P : Program) (w : World) (mg : Str -> Option Value) (base : Heap) (T : Tb) (q : Str) (st : Stmt) (f : Addr) (N : List Str) (k : Nat) (b : SS) : Prop :=
 ∀ {cdv : Value} {A : Around} {outer : List Env} {s : Shared} {H : Hp} {E : XK}, Room k (A.deeper (PyProof.Rows.envOfC q (yaf st) s.heap.objs.size f cdv)) -> CA T (fun _ => E) (cxOf (CXE P w) P w T.K mg base N q (yaf st) f cdv A outer s H E) ->
  (A.deeper (PyProof.Rows.envOfC q (yaf st) s.heap.objs.size f cdv)).units + 64 < cLine -> N.Nodup -> PSsA T (fun _ => E) (cxOf (CXE P w) P w T.K mg base N q (yaf st) f cdv A outer s H E) (ybL st) b
theorem gf (d : DG T.K mg x st ps) (S : FnScope N ps (yaf st)) (hb : ∀ {f}, yel P w mg base T x st f N k b) : GF P w T mg base (k + 1) x (mkFn ps.length N.length b) := by
 obtain ⟨f, fd, h1, h2, h3, h4⟩ := d
 exact ⟨f, fd, _, h1, h2, h3, okA h4 rfl S fun cdv A outer s H E hr C => hb hr C (hu64 hr) S.nd⟩
theorem gm (d : DMm T.K T.cls c m q st ps) (S : FnScope N ps (yaf st)) (no : m ∉ T.fields c) (hb : ∀ {f}, yel P w mg base T q st f N k b) : GM P w T mg base (k + 1) c m (mkFn ps.length N.length b) := by
 obtain ⟨C, f, fd, h0, hc, h1, h3, h4⟩ := d
 exact ⟨⟨C, f, fd, _, h0, hc, h1, h3, okA h4 rfl S fun cdv A outer s H E hr C => hb hr C (hu64 hr) S.nd⟩, no⟩
theorem gk (d : DI T.K T.cls mg c x q st ps) (S : FnScope N ps (yaf st)) (hb : ∀ {f}, yel P w mg base T q st f N k b) : GK P w T mg base (k + 1) c x (mkFn ps.length N.length b) := by
 obtain ⟨C, f, fd, h0, h1, h2, h3, h4⟩ := d
 exact ⟨C, f, fd, _, h0, h1, h2, h3, okA h4 rfl S fun cdv A outer s H E hr C => hb hr C (hu64 hr) S.nd⟩
theorem gl {f : Addr} {fd : FuncData} (h4 : Fun T.K x x st f fd) (S : FnScope N ps (yaf st)) (hb : yel P w mg base T x st f N k b) : FnOk P w T.K mg base (CXE P w) (k + 1) f fd ps (spA T (mkFn ps.length N.length b)) :=
 okA h4 rfl S fun cdv A outer s H E hr C => hb hr C (hu64 hr) S.nd
def XI (K : PySem.W.Frag) (X : Addr) : Prop := PySem.W.excIn K X [.type "ValueError", .type "Exception", .type "BaseException", .type "object"] "ValueError.__new__" = true
theorem xi {X : Addr} (h : PySem.W.excIn K X [.type "ValueError", .type "Exception", .type "BaseException", .type "object"] "ValueError.__new__" = true) : XI K X := h
theorem gx {X : Addr} {n : Nat} {g : Heap} (KB : K.In g) (KX : K.In h) (G : h.Ns mainGlobals mg) (hc : T.exc n = some X) (e : PySem.W.nsIn K mainGlobals x = some (some (.ref X))) (hx : XI K X) : GX T mg g n x := ⟨X, hc, zg4 KB (PySem.W.mg_of KX G e) hx⟩
def NA (K : PySem.W.Frag) (x : Str) (v : Option Value) : Prop := PySem.W.nsIn K mainGlobals x = some v
theorem na {v : Option Value} (h : PySem.W.nsIn K mainGlobals x = some v) : NA K x v := h
def FA (K : PySem.W.Frag) (C : Addr) (x : Str) : Prop := PySem.W.findIn K (.ref C) x = some none
theorem fatt (h : PySem.W.findIn K (.ref C) x = some none) : FA K C x := h
end
end Sm
namespace Sk
open PySem PySem.Spec L2 Sm
abbrev yfD : Nat := 0
abbrev yhu : Nat := 1
abbrev yhj : Nat := 2
abbrev yfl : Nat := 3
abbrev yeE : Nat := 4
abbrev yeF : Nat := 5
def ybU : Fn := mkFn 1 1
  (sSeq (yb0 0 0 (sVar 0) (ybz sNil))
  (sSeq (yb0 0 1 (sVar 0) (ydL true))
  (sSeq (yb0 0 2 (sVar 0) (ybz (sCons (sLit (.int 0)) sNil)))
  (sSeq (yb0 0 3 (sVar 0) (ybz (sCons (sLit (.int 0)) sNil)))
  (sSeq (yb0 0 4 (sVar 0) (ybz (sCons (sLit (.int 0)) sNil)))
  (sSeq (yb0 0 5 (sVar 0) (ybz (sCons (sOp1 fNeg (sLit (.int 1))) sNil)))
  (sSeq (yb0 0 6 (sVar 0) (ybz (sCons (sLit (.int 0)) sNil)))
  (yb0 0 7 (sVar 0) (ybz (sCons (sLit (.int 0)) sNil))))))))))
def ycz : Fn := mkFn 2 3
  (sSeq (sSet 2 (sOp2 fMod (sOp2 fMul (sOp2 fAdd (sOp2 fAdd (sOp2 fMod (sVar 0) (sLit (.int 1000000007))) (sOp2 fMul (sLit (.int 7919)) (sVar 1))) (sLit (.int 101))) (sLit (.int 48271))) (sLit (.int 2147483647))))
  (sRet (sOp2 fMod (sOp2 fMul (sOp2 fMod (sOp2 fMul (sVar 2) (sVar 2)) (sLit (.int 2147483629))) (sLit (.int 69621))) (sLit (.int 2147483647)))))
def ybM : SS :=
  (sSet 2 (sOp2 fAdd (sOp2 fMul (sVar 2) (sLit (.int 2147483647))) (yae ycz (sCons (sOp2 fAdd (sVar 0) (sOp2 fMul (sLit (.int 1009)) (sVar 1))) (sCons (sVar 3) sNil)))))
def ycH : Fn := mkFn 2 4
  (sSeq (sSet 0 (sOp2 fMod (sVar 0) (sOp2 fMul (sOp2 fPow (sLit (.int 10)) (sLit (.int 60))) (sOp2 fPow (sLit (.int 10)) (sLit (.int 60))))))
  (sSeq (sIf (yap (sOp2 fGe (sVar 0) (sOp2 fPow (sLit (.int 10)) (sLit (.int 18))))) (sRet (ybz (sCons (sVar 0) sNil))) yaz)
  (sSeq (sSet 2 (sLit (.int 0)))
  (sSeq (sFor (yaZ (sLit (.int 12))) (.nm 3) ybM)
  (sRet (ybz (sCons (sVar 2) sNil)))))))
def yby : Fn := mkFn 1 1
  (sRet (sOrV (sOp2 fEq (sVar 0) (sLit (.str "\n"))) (ybD fLe fLe (sLit (.str " ")) (sVar 0) (sLit (.str "~")))))
def yci : Fn := mkFn 1 1
  (sSeq (sIf (sNot (ybG (sIsB "str" (sVar 0)))) (sRet (sLit (.bl false))) yaz)
  (sRet (yae fAll (sCons (yaY [] (iVal (sVar 0)) sYes (yae yby (sCons (sVar 0) sNil))) sNil))))
def ycO : Fn := mkFn 1 1
  (sRet (ydM (yae yci (sCons (sVar 0) sNil)) (ybD fLe fLe (sLit (.int 1)) (yae fLen (sCons (sVar 0) sNil)) (sLit (.int 8)))))
def yb6 : Fn := mkFn 2 3
  (sSeq (yaN (sBM ya6 ybc (Sm.sFld 0 0 (sVar 0)) (sCons (sVar 1) sNil)))
  (sSeq (sSet 2 (yae fLen (sCons (Sm.sFld 0 0 (sVar 0)) sNil)))
  (sSeq (ybm (Sm.sFld 0 1 (sVar 0)) (sVar 1) (sVar 2))
  (sRet (sVar 2)))))
def yc4 : Fn := mkFn 1 1
  (sRet (sBM yb1 ybi (sVar 0) (sCons (sLit (.str "\n")) sNil)))
def ybs : Fn := mkFn 2 4
  (sSeq (sSet 2 (yai 0 yb6 (sVar 0) (sCons (sVar 1) sNil)))
  (sSeq (sSet 3 (sOp2 fIx (sVar 1) (sLit (.int 1))))
  (sSeq (yaN (sBM ya6 ybc (Sm.sFld 0 2 (sVar 0)) (sCons (yae fLen (sCons (sVar 3) sNil)) sNil)))
  (sSeq (yaN (sBM ya6 ybc (Sm.sFld 0 3 (sVar 0)) (sCons (yae yc4 (sCons (sVar 3) sNil)) sNil)))
  (sSeq (yaN (sBM ya6 ybc (Sm.sFld 0 4 (sVar 0)) (sCons (sLit (.int 1)) sNil)))
  (sSeq (yaN (sBM ya6 ybc (Sm.sFld 0 5 (sVar 0)) (sCons (sLit (.int 0)) sNil)))
  (sSeq (yaN (sBM ya6 ybc (Sm.sFld 0 6 (sVar 0)) (sCons (sVar 2) sNil)))
  (yaN (sBM ya6 ybc (Sm.sFld 0 7 (sVar 0)) (sCons (sVar 2) sNil))))))))))
def yat : Fn := mkFn 2 3
  (sSeq (sIf (sNot (ybG (yae ycO (sCons (sVar 1) sNil)))) (ycg 1 (sCons (sLit (.str "a leaf is a plain text of one to eight signs")) sNil)) yaz)
  (sSeq (sSet 2 (sTup (sCons (sLit (.str "leaf")) (sCons (sVar 1) sNil))))
  (sSeq (sIf (yap (sOp2 yb5 (sVar 2) (Sm.sFld 0 1 (sVar 0)))) (yaN (yai 0 ybs (sVar 0) (sCons (sVar 2) sNil))) yaz)
  (sRet (sOp2 fIx (Sm.sFld 0 1 (sVar 0)) (sVar 2))))))
def yaj : Fn := mkFn 2 3
  (sSeq (sSet 2 (sOp2 fMod (sOp2 fIx (sVar 0) (sLit (.int 0))) (sVar 1)))
  (sSeq (ybm (sVar 0) (sLit (.int 0)) (sOp2 fDiv (sOp2 fIx (sVar 0) (sLit (.int 0))) (sVar 1)))
  (sRet (sVar 2))))
def ycP : Fn := mkFn 1 1
  (sRet (ydM (sIsB "int" (sVar 0)) (yfr (sIsB "bool" (sVar 0)))))
def ybC : Fn := mkFn 2 2
  (sRet (ydM (yae ycP (sCons (sVar 1) sNil)) (ybD fLe fLe (sLit (.int 1)) (sVar 1) (yae fLen (sCons (Sm.sFld 0 0 (sVar 0)) sNil)))))
def yaT : Fn := mkFn 2 2
  (sIf (sNot (ybG (yai 0 ybC (sVar 0) (sCons (sVar 1) sNil)))) (ycg 2 (sCons (sLit (.str "no piece of the shelf has this number")) sNil)) yaz)
def yaQ : Fn := mkFn 3 4
  (sSeq (yaN (yai 0 yaT (sVar 0) (sCons (sVar 1) sNil)))
  (sSeq (yaN (yai 0 yaT (sVar 0) (sCons (sVar 2) sNil)))
  (sSeq (sSet 3 (sOp2 fAdd (sOp2 fIx (Sm.sFld 0 2 (sVar 0)) (sOp2 fIx (Sm.sFld 0 7 (sVar 0)) (sVar 1))) (sOp2 fIx (Sm.sFld 0 2 (sVar 0)) (sOp2 fIx (Sm.sFld 0 6 (sVar 0)) (sVar 2)))))
  (sSeq (sIf (yap (sOp2 fLe (sVar 3) (sLit (.int 8)))) (ycg 3 (sCons (sLit (.str "the leaves where the parts meet have no more than eight signs together")) sNil)) yaz)
  (sSeq (sIf (yap (sOp2 fGt (yae fAbs (sCons (sOp2 fSub (sOp2 fIx (Sm.sFld 0 5 (sVar 0)) (sVar 1)) (sOp2 fIx (Sm.sFld 0 5 (sVar 0)) (sVar 2))) sNil)) (sLit (.int 1)))) (ycg 4 (sCons (sLit (.str "the heights of the parts differ by more than one")) sNil)) yaz)
  (sIf (yap (sOp2 fGt (sOp2 fAdd (sOp2 fIx (Sm.sFld 0 2 (sVar 0)) (sVar 1)) (sOp2 fIx (Sm.sFld 0 2 (sVar 0)) (sVar 2))) (sLit (.int 1000000000000000000)))) (ycg 5 (sCons (sLit (.str "the fork would have more than 10 ** 18 signs")) sNil)) yaz))))))
def ybt : Fn := mkFn 2 4
  (sSeq (yaN (yai 0 yb6 (sVar 0) (sCons (sVar 1) sNil)))
  (sSeq (sSet 2 (sOp2 fIx (sVar 1) (sLit (.int 1))))
  (sSeq (sSet 3 (sOp2 fIx (sVar 1) (sLit (.int 2))))
  (sSeq (yaN (sBM ya6 ybc (Sm.sFld 0 2 (sVar 0)) (sCons (sOp2 fAdd (sOp2 fIx (Sm.sFld 0 2 (sVar 0)) (sVar 2)) (sOp2 fIx (Sm.sFld 0 2 (sVar 0)) (sVar 3))) sNil)))
  (sSeq (yaN (sBM ya6 ybc (Sm.sFld 0 3 (sVar 0)) (sCons (sOp2 fAdd (sOp2 fIx (Sm.sFld 0 3 (sVar 0)) (sVar 2)) (sOp2 fIx (Sm.sFld 0 3 (sVar 0)) (sVar 3))) sNil)))
  (sSeq (yaN (sBM ya6 ybc (Sm.sFld 0 4 (sVar 0)) (sCons (sOp2 fAdd (sOp2 fIx (Sm.sFld 0 4 (sVar 0)) (sVar 2)) (sOp2 fIx (Sm.sFld 0 4 (sVar 0)) (sVar 3))) sNil)))
  (sSeq (yaN (sBM ya6 ybc (Sm.sFld 0 5 (sVar 0)) (sCons (sOp2 fAdd (yae ybo (sCons (sOp2 fIx (Sm.sFld 0 5 (sVar 0)) (sVar 2)) (sCons (sOp2 fIx (Sm.sFld 0 5 (sVar 0)) (sVar 3)) sNil))) (sLit (.int 1))) sNil)))
  (sSeq (yaN (sBM ya6 ybc (Sm.sFld 0 6 (sVar 0)) (sCons (sOp2 fIx (Sm.sFld 0 6 (sVar 0)) (sVar 2)) sNil)))
  (yaN (sBM ya6 ybc (Sm.sFld 0 7 (sVar 0)) (sCons (sOp2 fIx (Sm.sFld 0 7 (sVar 0)) (sVar 3)) sNil)))))))))))
def yad : Fn := mkFn 3 4
  (sSeq (yaN (yai 0 yaQ (sVar 0) (sCons (sVar 1) (sCons (sVar 2) sNil))))
  (sSeq (sSet 3 (sTup (sCons (sLit (.str "fork")) (sCons (sVar 1) (sCons (sVar 2) sNil)))))
  (sSeq (sIf (yap (sOp2 yb5 (sVar 3) (Sm.sFld 0 1 (sVar 0)))) (yaN (yai 0 ybt (sVar 0) (sCons (sVar 3) sNil))) yaz)
  (sRet (sOp2 fIx (Sm.sFld 0 1 (sVar 0)) (sVar 3))))))
def ybH (G : Fn) : Fn := mkFn 5 8
  (sSeq (sIf (yap (sOp2 yb5 (sTup (sCons (sVar 1) (sCons (sVar 2) sNil))) (sVar 4))) (sIf (yap (sOp2 fEq (sVar 1) (sLit (.int 0)))) (ybm (sVar 4) (sTup (sCons (sLit (.int 0)) (sCons (sVar 2) sNil))) (sTup (sCons (yai 0 yat (sVar 0) (sCons (sOp2 ydp (sLit (.str "x")) (sOp2 fIx (sLst (sCons (sLit (.int 1)) (sCons (sLit (.int 8)) sNil))) (sVar 2))) sNil)) (sCons (sOp2 fIx (sLst (sCons (sLit (.int 1)) (sCons (sLit (.int 8)) sNil))) (sVar 2)) (sCons (sLit (.int 1)) sNil))))) (sSeq (sSet 5 (ybz (sCons (sOp2 fSub (sVar 1) (sLit (.int 1))) (sCons (yae ybo (sCons (sLit (.int 0)) (sCons (sOp2 fSub (sVar 1) (sLit (.int 2))) sNil))) sNil))))
  (sSeq (sIf (ybG (sVar 3)) (yaN (sBM0 ya6 ycs (sVar 5))) yaz)
  (sSeq (sSet 6 (yae G (sCons (sVar 0) (sCons (sOp2 fIx (sVar 5) (sLit (.int 0))) (sCons (sVar 2) (sCons (sVar 3) (sCons (sVar 4) sNil)))))))
  (sSeq (sSet 7 (yae G (sCons (sVar 0) (sCons (sOp2 fIx (sVar 5) (sLit (.int 1))) (sCons (sOp2 fMod (sOp2 fAdd (sVar 2) (sOp2 fIx (sVar 6) (sLit (.int 2)))) (sLit (.int 2))) (sCons (sVar 3) (sCons (sVar 4) sNil)))))))
  (ybm (sVar 4) (sTup (sCons (sVar 1) (sCons (sVar 2) sNil))) (sTup (sCons (yai 0 yad (sVar 0) (sCons (sOp2 fIx (sVar 6) (sLit (.int 0))) (sCons (sOp2 fIx (sVar 7) (sLit (.int 0))) sNil))) (sCons (sOp2 fAdd (sOp2 fIx (sVar 6) (sLit (.int 1))) (sOp2 fIx (sVar 7) (sLit (.int 1)))) (sCons (sOp2 fAdd (sOp2 fIx (sVar 6) (sLit (.int 2))) (sOp2 fIx (sVar 7) (sLit (.int 2)))) sNil)))))))))) yaz)
  (sRet (sOp2 fIx (sVar 4) (sTup (sCons (sVar 1) (sCons (sVar 2) sNil))))))
def yaC : Nat -> Fn
 | 0 => mkFn 5 8 (fun _ _ => .bad)
 | d + 1 => ybH (yaC d)
def ybg : SS :=
  (sSeq (sSet 3 (yai 0 yad (sVar 0) (sCons (sVar 3) (sCons (sVar 3) sNil))))
  (sSet 7 (sOp2 fMul (sVar 7) (sLit (.int 2)))))
def ybp : Fn := mkFn 2 8
  (sSeq (sIf (yap (sOp2 fEq (yae yaj (sCons (sVar 1) (sCons (sLit (.int 2)) sNil))) (sLit (.int 0)))) (sSeq (sSet 2 (yae yaj (sCons (sVar 1) (sCons (sLit (.int 2)) sNil))))
  (sSeq (ydN (.tup [3, 4, 5]) (yae (yaC 90) (sCons (sVar 0) (sCons (yae yaj (sCons (sVar 1) (sCons (sLit (.int 81)) sNil))) (sCons (sVar 2) (sCons (sOp2 fEq (yae yaj (sCons (sVar 1) (sCons (sLit (.int 2)) sNil))) (sLit (.int 1))) (sCons (ydL true) sNil)))))))
  (sRet (sTup (sCons (sVar 3) (sCons (sLst (sCons (sTup (sCons (sLit (.str "x")) (sCons (sVar 4) sNil))) sNil)) sNil)))))) yaz)
  (sSeq (sSet 6 (sOp2 fIx (sTup (sCons (sOp2 fAdd (sLit (.str "abcdefg")) (sLit (.str "\n"))) (sCons (sLit (.str "aaaaaaaa")) (sCons (sLit (.str "abababab")) sNil)))) (yae yaj (sCons (sVar 1) (sCons (sLit (.int 3)) sNil)))))
  (sSeq (sSet 3 (yai 0 yat (sVar 0) (sCons (sVar 6) sNil)))
  (sSeq (sSet 7 (sLit (.int 1)))
  (sSeq (sFor (yaZ (yae yaj (sCons (sVar 1) (sCons (sLit (.int 56)) sNil)))) (.nm 2) ybg)
  (sRet (sTup (sCons (sVar 3) (sCons (sLst (sCons (sTup (sCons (sVar 6) (sCons (sVar 7) sNil))) sNil)) sNil)))))))))
def ycA : Fn := mkFn 1 2
  (sSeq (sSet 1 (sLit (.str "abcdefghijklmnopqrstuvwxyzABCDEFGHIJKLMNOPQRSTUVWXYZ0123456789 !#$&'()*+,-./:;<=>?\x40[]^_{|}~")))
  (sRet (sOp2 fIx (sLst (sCons (sLit (.str "ab")) (sCons (sOp2 fAdd (sLit (.str "ab")) (sLit (.str "\n"))) (sCons (sOp2 fAdd (sOp2 fAdd (sOp2 fAdd (sOp2 fAdd (sVar 1) (sLit (.str "\n"))) (sLit (.str "\\"))) (sLit (.str "\""))) (sLit (.str "`"))) (sCons (sLit (.str "a")) sNil))))) (sVar 0))))
def ybj : SS :=
  (sSet 3 (sOp2 fAdd (sVar 3) (sOp2 fIx (sVar 2) (yae yaj (sCons (sVar 0) (sCons (yae fLen (sCons (sVar 2) sNil)) sNil))))))
def ybq : Fn := mkFn 2 5
  (sSeq (sSet 2 (yae ycA (sCons (yae yaj (sCons (sVar 0) (sCons (sLit (.int 4)) sNil))) sNil)))
  (sSeq (sSet 3 (sLit (.str "")))
  (sSeq (sFor (yaZ (yae yaj (sCons (sVar 0) (sCons (sOp2 fAdd (sVar 1) (sLit (.int 1))) sNil)))) (.nm 4) ybj)
  (sRet (sVar 3)))))
def ydR (G : Fn) : Fn := mkFn 2 3
  (sSeq (sIf (yap (sOp2 fEq (yae fLen (sCons (sVar 1) sNil)) (sLit (.int 1)))) (sRet (sOp2 fIx (sVar 1) (sLit (.int 0)))) yaz)
  (sSeq (sSet 2 (sOp2 fDiv (yae fLen (sCons (sVar 1) sNil)) (sLit (.int 2))))
  (sRet (yai 0 yad (sVar 0) (sCons (yae G (sCons (sVar 0) (sCons (sCut (sVar 1) none (some (sVar 2))) sNil))) (sCons (yae G (sCons (sVar 0) (sCons (sCut (sVar 1) (some (sVar 2)) none) sNil))) sNil))))))
def ybu : Nat -> Fn
 | 0 => mkFn 2 3 (fun _ _ => .bad)
 | d + 1 => ydR (ybu d)
def ydh : Fn := mkFn 2 3
  (sSeq (sIf (sNot (ybG (yae yci (sCons (sVar 1) sNil)))) (ycg 1 (sCons (sLit (.str "a text is built of a plain text")) sNil)) yaz)
  (sSeq (sIf (yap (sOp2 fGt (yae fLen (sCons (sVar 1) sNil)) (sLit (.int 10000)))) (ycg 5 (sCons (sLit (.str "a text is built of ten thousand signs at most")) sNil)) yaz)
  (sSeq (sIf (yap (sOp2 fEq (sVar 1) (sLit (.str "")))) (sRet (sLit (.int 0))) yaz)
  (sSeq (sSet 2 (yaY [0, 1] (ycS (sLit (.int 0)) (yae fLen (sCons (sVar 1) sNil)) (sLit (.int 8))) sYes (yai 0 yat (sVar 1) (sCons (sCut (sVar 2) (some (sVar 0)) (some (sOp2 fAdd (sVar 0) (sLit (.int 8))))) sNil))))
  (sRet (yae (ybu 20) (sCons (sVar 0) (sCons (sVar 2) sNil))))))))
def ybV : Fn := mkFn 1 1
  (sRet (yae fLen (sCons (Sm.sFld 0 0 (sVar 0)) sNil)))
def yb2 : Fn := mkFn 1 1
  (sIf (yap (sOp2 fGt (sVar 0) (sLit (.int 1000000000000000000)))) (ycg 5 (sCons (sLit (.str "the text would have more than 10 ** 18 signs")) sNil)) yaz)
def yaL : Fn := mkFn 2 2
  (sIf (yap (sOp2 fNe (sVar 1) (sLit (.int 0)))) (yaN (yai 0 yaT (sVar 0) (sCons (sVar 1) sNil))) yaz)
def yaW : Fn := mkFn 2 2
  (sSeq (yaN (yai 0 yaL (sVar 0) (sCons (sVar 1) sNil)))
  (sRet (sOp2 fIx (Sm.sFld 0 2 (sVar 0)) (sVar 1))))
def ybn : Fn := mkFn 2 2
  (sSeq (yaN (yai 0 yaL (sVar 0) (sCons (sVar 1) sNil)))
  (sRet (sOp2 fIx (Sm.sFld 0 7 (sVar 0)) (sVar 1))))
def ybh : Fn := mkFn 2 2
  (sSeq (yaN (yai 0 yaL (sVar 0) (sCons (sVar 1) sNil)))
  (sRet (sOp2 fIx (Sm.sFld 0 6 (sVar 0)) (sVar 1))))
def ycB : Fn := mkFn 3 3
  (sRet (sOp2 fGt (sOp2 fAdd (yai 0 yaW (sVar 0) (sCons (yai 0 ybn (sVar 0) (sCons (sVar 1) sNil)) sNil)) (yai 0 yaW (sVar 0) (sCons (yai 0 ybh (sVar 0) (sCons (sVar 2) sNil)) sNil))) (sLit (.int 8))))
def yau : Fn := mkFn 2 2
  (sSeq (yaN (yai 0 yaT (sVar 0) (sCons (sVar 1) sNil)))
  (sRet (sOp2 fIx (Sm.sFld 0 0 (sVar 0)) (sOp2 fSub (sVar 1) (sLit (.int 1))))))
def yc6 (G : Fn) : Fn := mkFn 3 4
  (sSeq (sSet 3 (yai 0 yau (sVar 0) (sCons (sVar 1) sNil)))
  (sSeq (sIf (yap (sOp2 fEq (sOp2 fIx (sVar 3) (sLit (.int 0))) (sLit (.str "leaf")))) (sRet (sVar 2)) yaz)
  (sRet (yai 0 yad (sVar 0) (sCons (sOp2 fIx (sVar 3) (sLit (.int 1))) (sCons (yae G (sCons (sVar 0) (sCons (sOp2 fIx (sVar 3) (sLit (.int 2))) (sCons (sVar 2) sNil)))) sNil))))))
def yaX : Nat -> Fn
 | 0 => mkFn 3 4 (fun _ _ => .bad)
 | d + 1 => yc6 (yaX d)
def yay : Fn := mkFn 2 2
  (sSeq (yaN (yai 0 yaL (sVar 0) (sCons (sVar 1) sNil)))
  (sRet (sOp2 fIx (Sm.sFld 0 5 (sVar 0)) (sVar 1))))
def yaH : Fn := mkFn 3 7
  (sSeq (sIf (yap (sOp2 fLt (sOp2 fSub (yai 0 yay (sVar 0) (sCons (sVar 2) sNil)) (yai 0 yay (sVar 0) (sCons (sVar 1) sNil))) (sLit (.int 2)))) (sRet (yai 0 yad (sVar 0) (sCons (sVar 1) (sCons (sVar 2) sNil)))) yaz)
  (sSeq (sSet 3 (yai 0 yau (sVar 0) (sCons (sVar 2) sNil)))
  (sSeq (sSet 4 (sOp2 fIx (sVar 3) (sLit (.int 1))))
  (sSeq (sSet 5 (sOp2 fIx (sVar 3) (sLit (.int 2))))
  (sSeq (sIf (yap (sOp2 fLe (yai 0 yay (sVar 0) (sCons (sVar 4) sNil)) (yai 0 yay (sVar 0) (sCons (sVar 5) sNil)))) (sRet (yai 0 yad (sVar 0) (sCons (yai 0 yad (sVar 0) (sCons (sVar 1) (sCons (sVar 4) sNil))) (sCons (sVar 5) sNil)))) yaz)
  (sSeq (sSet 6 (yai 0 yau (sVar 0) (sCons (sVar 4) sNil)))
  (sRet (yai 0 yad (sVar 0) (sCons (yai 0 yad (sVar 0) (sCons (sVar 1) (sCons (sOp2 fIx (sVar 6) (sLit (.int 1))) sNil))) (sCons (yai 0 yad (sVar 0) (sCons (sOp2 fIx (sVar 6) (sLit (.int 2))) (sCons (sVar 5) sNil))) sNil))))))))))
def ybQ (G : Fn) : Fn := mkFn 2 4
  (sSeq (sSet 2 (yai 0 yau (sVar 0) (sCons (sVar 1) sNil)))
  (sSeq (sIf (yap (sOp2 fEq (sOp2 fIx (sVar 2) (sLit (.int 0))) (sLit (.str "leaf")))) (sRet (sLit (.int 0))) yaz)
  (sSeq (sSet 3 (yae G (sCons (sVar 0) (sCons (sOp2 fIx (sVar 2) (sLit (.int 1))) sNil))))
  (sSeq (sIf (yap (sOp2 fEq (sVar 3) (sLit (.int 0)))) (sRet (sOp2 fIx (sVar 2) (sLit (.int 2)))) yaz)
  (sRet (yae yaH (sCons (sVar 0) (sCons (sVar 3) (sCons (sOp2 fIx (sVar 2) (sLit (.int 2))) sNil)))))))))
def yav : Nat -> Fn
 | 0 => mkFn 2 4 (fun _ _ => .bad)
 | d + 1 => ybQ (yav d)
def yaP : Fn := mkFn 3 7
  (sSeq (sIf (yap (sOp2 fLt (sOp2 fSub (yai 0 yay (sVar 0) (sCons (sVar 1) sNil)) (yai 0 yay (sVar 0) (sCons (sVar 2) sNil))) (sLit (.int 2)))) (sRet (yai 0 yad (sVar 0) (sCons (sVar 1) (sCons (sVar 2) sNil)))) yaz)
  (sSeq (sSet 3 (yai 0 yau (sVar 0) (sCons (sVar 1) sNil)))
  (sSeq (sSet 4 (sOp2 fIx (sVar 3) (sLit (.int 1))))
  (sSeq (sSet 5 (sOp2 fIx (sVar 3) (sLit (.int 2))))
  (sSeq (sIf (yap (sOp2 fLe (yai 0 yay (sVar 0) (sCons (sVar 5) sNil)) (yai 0 yay (sVar 0) (sCons (sVar 4) sNil)))) (sRet (yai 0 yad (sVar 0) (sCons (sVar 4) (sCons (yai 0 yad (sVar 0) (sCons (sVar 5) (sCons (sVar 2) sNil))) sNil)))) yaz)
  (sSeq (sSet 6 (yai 0 yau (sVar 0) (sCons (sVar 5) sNil)))
  (sRet (yai 0 yad (sVar 0) (sCons (yai 0 yad (sVar 0) (sCons (sVar 4) (sCons (sOp2 fIx (sVar 6) (sLit (.int 1))) sNil))) (sCons (yai 0 yad (sVar 0) (sCons (sOp2 fIx (sVar 6) (sLit (.int 2))) (sCons (sVar 2) sNil))) sNil))))))))))
def ydq (G : Fn) : Fn := mkFn 3 5
  (sSeq (sSet 3 (sOp2 fSub (yai 0 yay (sVar 0) (sCons (sVar 1) sNil)) (yai 0 yay (sVar 0) (sCons (sVar 2) sNil))))
  (sSeq (sIf (yap (sOp2 fGt (sVar 3) (sLit (.int 1)))) (sSeq (sSet 4 (yai 0 yau (sVar 0) (sCons (sVar 1) sNil)))
  (sRet (yae yaH (sCons (sVar 0) (sCons (sOp2 fIx (sVar 4) (sLit (.int 1))) (sCons (yae G (sCons (sVar 0) (sCons (sOp2 fIx (sVar 4) (sLit (.int 2))) (sCons (sVar 2) sNil)))) sNil)))))) yaz)
  (sSeq (sIf (yap (sOp2 fLt (sVar 3) (sOp1 fNeg (sLit (.int 1))))) (sSeq (sSet 4 (yai 0 yau (sVar 0) (sCons (sVar 2) sNil)))
  (sRet (yae yaP (sCons (sVar 0) (sCons (yae G (sCons (sVar 0) (sCons (sVar 1) (sCons (sOp2 fIx (sVar 4) (sLit (.int 1))) sNil)))) (sCons (sOp2 fIx (sVar 4) (sLit (.int 2))) sNil)))))) yaz)
  (sRet (yai 0 yad (sVar 0) (sCons (sVar 1) (sCons (sVar 2) sNil)))))))
def yaV : Nat -> Fn
 | 0 => mkFn 3 5 (fun _ _ => .bad)
 | d + 1 => ydq (yaV d)
def ycc : Fn := mkFn 3 6
  (sSeq (sSet 3 (sOp2 fAdd (sOp2 fIx (yai 0 yau (sVar 0) (sCons (yai 0 ybn (sVar 0) (sCons (sVar 1) sNil)) sNil)) (sLit (.int 1))) (sOp2 fIx (yai 0 yau (sVar 0) (sCons (yai 0 ybh (sVar 0) (sCons (sVar 2) sNil)) sNil)) (sLit (.int 1)))))
  (sSeq (sSet 4 (yae (yaX 90) (sCons (sVar 0) (sCons (sVar 1) (sCons (yai 0 yat (sVar 0) (sCons (sVar 3) sNil)) sNil)))))
  (sSeq (sSet 5 (yae (yav 90) (sCons (sVar 0) (sCons (sVar 2) sNil))))
  (sSeq (sIf (yap (sOp2 fEq (sVar 5) (sLit (.int 0)))) (sRet (sVar 4)) yaz)
  (sRet (yae (yaV 90) (sCons (sVar 0) (sCons (sVar 4) (sCons (sVar 5) sNil)))))))))
def ybv : Fn := mkFn 3 3
  (sSeq (yaN (yae yb2 (sCons (sOp2 fAdd (yai 0 yaW (sVar 0) (sCons (sVar 1) sNil)) (yai 0 yaW (sVar 0) (sCons (sVar 2) sNil))) sNil)))
  (sSeq (sIf (yap (sOp2 fEq (sVar 1) (sLit (.int 0)))) (sRet (sVar 2)) yaz)
  (sSeq (sIf (yap (sOp2 fEq (sVar 2) (sLit (.int 0)))) (sRet (sVar 1)) yaz)
  (sSeq (sIf (ybG (yae ycB (sCons (sVar 0) (sCons (sVar 1) (sCons (sVar 2) sNil))))) (sRet (yae (yaV 90) (sCons (sVar 0) (sCons (sVar 1) (sCons (sVar 2) sNil))))) yaz)
  (sRet (yae ycc (sCons (sVar 0) (sCons (sVar 1) (sCons (sVar 2) sNil)))))))))
def ycQ (G : Fn) : Fn := mkFn 3 7
  (sSeq (sIf (yap (sOp2 fIn (sVar 1) (sVar 2))) (sRet (sOp2 fIx (sVar 2) (sVar 1))) yaz)
  (sSeq (sSet 3 (yai 0 yau (sVar 0) (sCons (sVar 1) sNil)))
  (sSeq (sSet 4 (sTup sNil))
  (sSeq (sIf (sAnd (yap (sOp2 fEq (sOp2 fIx (sVar 3) (sLit (.int 0))) (sLit (.str "leaf")))) (sAnd (ybG (sIsB "str" (sOp2 fIx (sVar 3) (sLit (.int 1))))) (yap (ybD fLt fLt (sLit (.int 0)) (yae fLen (sCons (sOp2 fIx (sVar 3) (sLit (.int 1))) sNil)) (sLit (.int 9)))))) (sSet 4 (sTup (sCons (sLit (.int 0)) (sCons (yae fLen (sCons (sOp2 fIx (sVar 3) (sLit (.int 1))) sNil)) (sCons (yae fLen (sCons (sOp2 fIx (sVar 3) (sLit (.int 1))) sNil)) (sCons (yae fLen (sCons (sOp2 fIx (sVar 3) (sLit (.int 1))) sNil)) (sCons (sLit (.int 1)) sNil))))))) yaz)
  (sSeq (sIf (sAnd (yap (sOp2 fEq (sOp2 fIx (sVar 3) (sLit (.int 0))) (sLit (.str "fork")))) (sAnd (yap (ybD fLt fLt (sLit (.int 0)) (sOp2 fIx (sVar 3) (sLit (.int 1))) (sVar 1))) (yap (ybD fLt fLt (sLit (.int 0)) (sOp2 fIx (sVar 3) (sLit (.int 2))) (sVar 1))))) (sSeq (sSet 5 (yae G (sCons (sVar 0) (sCons (sOp2 fIx (sVar 3) (sLit (.int 1))) (sCons (sVar 2) sNil)))))
  (sSeq (sSet 6 (yae G (sCons (sVar 0) (sCons (sOp2 fIx (sVar 3) (sLit (.int 2))) (sCons (sVar 2) sNil)))))
  (sIf (sAnd (yap (sOp2 fNe (sVar 5) (sTup sNil))) (sAnd (yap (sOp2 fNe (sVar 6) (sTup sNil))) (sAnd (yap (sOp2 fLt (yae fAbs (sCons (sOp2 fSub (sOp2 fIx (sVar 5) (sLit (.int 0))) (sOp2 fIx (sVar 6) (sLit (.int 0)))) sNil)) (sLit (.int 2)))) (yap (sOp2 fGt (sOp2 fAdd (sOp2 fIx (sVar 5) (sLit (.int 3))) (sOp2 fIx (sVar 6) (sLit (.int 2)))) (sLit (.int 8))))))) (sSet 4 (sTup (sCons (sOp2 fAdd (sLit (.int 1)) (yae ybo (sCons (sOp2 fIx (sVar 5) (sLit (.int 0))) (sCons (sOp2 fIx (sVar 6) (sLit (.int 0))) sNil)))) (sCons (sOp2 fAdd (sOp2 fIx (sVar 5) (sLit (.int 1))) (sOp2 fIx (sVar 6) (sLit (.int 1)))) (sCons (sOp2 fIx (sVar 5) (sLit (.int 2))) (sCons (sOp2 fIx (sVar 6) (sLit (.int 3))) (sCons (sOp2 fAdd (sOp2 fIx (sVar 5) (sLit (.int 4))) (sOp2 fIx (sVar 6) (sLit (.int 4)))) sNil))))))) yaz))) yaz)
  (sSeq (ybm (sVar 2) (sVar 1) (sVar 4))
  (sRet (sVar 4))))))))
def yaM : Nat -> Fn
 | 0 => mkFn 3 7 (fun _ _ => .bad)
 | d + 1 => ycQ (yaM d)
def yb7 : Fn := mkFn 2 2
  (sRet (sOrV (sOp2 fEq (sVar 1) (sLit (.int 0))) (sOp2 fNe (yae (yaM 90) (sCons (sVar 0) (sCons (sVar 1) (sCons (ydL false) sNil)))) (sTup sNil))))
def yc5 : Fn := mkFn 4 4
  (sRet (ydM (yae yb7 (sCons (sVar 0) (sCons (sVar 1) sNil))) (sOp2 fLe (sOp2 fSub (yai 0 ybV (sVar 0) sNil) (sVar 2)) (sOp2 fMul (sLit (.int 16)) (sOp2 fAdd (sVar 3) (sLit (.int 1)))))))
def ybW : Fn := mkFn 3 6
  (sSeq (sSet 3 (yai 0 ybV (sVar 0) sNil))
  (sSeq (sSet 4 (yae ybo (sCons (yai 0 yay (sVar 0) (sCons (sVar 1) sNil)) (sCons (yai 0 yay (sVar 0) (sCons (sVar 2) sNil)) sNil))))
  (sSeq (sSet 5 (yae ybv (sCons (sVar 0) (sCons (sVar 1) (sCons (sVar 2) sNil)))))
  (sRet (sTup (sCons (sVar 5) (sCons (yae yc5 (sCons (sVar 0) (sCons (sVar 5) (sCons (sVar 3) (sCons (sVar 4) sNil))))) sNil)))))))
def ybF : Fn := mkFn 1 1
  (sRet (yae fSum (sCons (ybT [] (ybw (sVar 0)) sYes (sOp2 fMul (yae fLen (sCons (sVar 0) sNil)) (sVar 1))) sNil)))
def ybk : SS :=
  (sSeq (sSet 4 (sOp2 fAdd (sVar 4) (sOp2 fMul (yae fLen (sCons (sVar 5) sNil)) (sVar 6))))
  (yaN (sBM ya6 yc3 (sVar 3) (sCons (ybz (sCons (sOp2 fSub (sVar 4) (sLit (.int 1))) (sCons (sVar 4) (sCons (sOp2 fSub (sVar 4) (yae fLen (sCons (sVar 5) sNil))) sNil)))) sNil))))
def ycC : Fn := mkFn 2 7
  (sSeq (sSet 2 (yae ybF (sCons (sVar 0) sNil)))
  (sSeq (sSet 3 (ybz (sCons (sLit (.int 0)) (sCons (sOp2 fSub (sVar 2) (sLit (.int 1))) sNil))))
  (sSeq (sSet 4 (sLit (.int 0)))
  (sSeq (sFor (ybw (sCut (sVar 0) none (some (sLit (.int 12))))) (.tup [5, 6]) ybk)
  (sSeq (yaN (sBM ya6 yc3 (sVar 3) (sCons (ycU [1, 2] (yaZ (sLit (.int 3))) sYes (yae yaj (sCons (sVar 1) (sCons (sVar 2) sNil)))) sNil)))
  (sRet (yaY [2] (iVal (sVar 3)) (yap (ybD fLe fLt (sLit (.int 0)) (sVar 0) (sVar 1))) (sVar 0))))))))
def ycj : Fn := mkFn 2 2
  (sSeq (yaN (yai 0 yaL (sVar 0) (sCons (sVar 1) sNil)))
  (sRet (sOp2 fIx (Sm.sFld 0 3 (sVar 0)) (sVar 1))))
def ya9 : SS :=
  (sSeq (sSet 5 (sOp2 fIx (sOp2 fIx (sVar 3) (sOp2 fIx (sVar 4) (sLit (.int 1)))) (sLit (.int 1))))
  (sSeq (sIf (yap (sOp2 fLt (sVar 2) (sVar 5))) (sSet 1 (sOp2 fIx (sVar 4) (sLit (.int 1)))) (sSeq (sSet 1 (sOp2 fIx (sVar 4) (sLit (.int 2))))
  (sSet 2 (sOp2 fSub (sVar 2) (sVar 5)))))
  (sSet 4 (yai 0 yau (sVar 0) (sCons (sVar 1) sNil)))))
def ybI : Fn := mkFn 4 6
  (sSeq (sSet 4 (yai 0 yau (sVar 0) (sCons (sVar 1) sNil)))
  (sSeq (ybJ (yap (sOp2 fEq (sOp2 fIx (sVar 4) (sLit (.int 0))) (sLit (.str "fork")))) ya9 yek)
  (sRet (sOp2 fIx (sOp2 fIx (sVar 4) (sLit (.int 1))) (sVar 2)))))
def yaF : SS :=
  (sSeq (sIf (yap (sOp2 fLt (sVar 1) (sOp2 fMul (yae fLen (sCons (sVar 2) sNil)) (sVar 3)))) (sRet (sOp2 fIx (sVar 2) (sOp2 fMod (sVar 1) (yae fLen (sCons (sVar 2) sNil))))) yaz)
  (sSet 1 (sOp2 fSub (sVar 1) (sOp2 fMul (yae fLen (sCons (sVar 2) sNil)) (sVar 3)))))
def ya3 : Fn := mkFn 2 4
  (sSeq (sFor (ybw (sVar 0)) (.tup [2, 3]) yaF)
  (sRet (sLit (.str ""))))
def ybe : Fn := mkFn 4 8
  (sSeq (sSet 4 (yae ybF (sCons (sVar 2) sNil)))
  (sSeq (sIf (sOr (yap (sOp2 fEq (sVar 1) (sLit (.int 0)))) (yap (sOp2 fEq (sVar 4) (sLit (.int 0))))) (sRet (ydM (sOp2 fEq (sVar 1) (sLit (.int 0))) (sOp2 fEq (sVar 4) (sLit (.int 0))))) yaz)
  (sSeq (sSet 5 (ydL false))
  (sSeq (sSet 6 (yae (yaM 90) (sCons (sVar 0) (sCons (sVar 1) (sCons (sVar 5) sNil)))))
  (sSeq (sIf (sOr (yap (sOp2 fEq (sVar 6) (sTup sNil))) (sOr (yap (sOp2 fNe (sOp2 fIx (sVar 6) (sLit (.int 1))) (sVar 4))) (yap (sOp2 fNe (yai 0 yaW (sVar 0) (sCons (sVar 1) sNil)) (sVar 4))))) (sRet (sLit (.bl false))) yaz)
  (sSeq (sIf (yap (sOp2 fNe (yai 0 ycj (sVar 0) (sCons (sVar 1) sNil)) (yae fSum (sCons (ybT [] (ybw (sVar 2)) sYes (sOp2 fMul (sBM yb1 ybi (sVar 0) (sCons (sLit (.str "\n")) sNil)) (sVar 1))) sNil)))) (sRet (sLit (.bl false))) yaz)
  (sSeq (sSet 7 (yae ycC (sCons (sVar 2) (sCons (sVar 3) sNil))))
  (sRet (yae fAll (sCons (yaY [0, 1, 5, 2] (iVal (sVar 7)) sYes (sOp2 fEq (yae ybI (sCons (sVar 1) (sCons (sVar 2) (sCons (sVar 0) (sCons (sVar 3) sNil))))) (yae ya3 (sCons (sVar 4) (sCons (sVar 0) sNil))))) sNil))))))))))
def ya1 : SS :=
  (sSeq (sSet 8 (yae ydh (sCons (sVar 0) (sCons (sOp2 fIx (sVar 2) (sVar 7)) sNil))))
  (sSeq (sIf (yap (sOp2 fEq (sOp2 fMod (sOp2 fAdd (sVar 7) (sVar 6)) (sLit (.int 2))) (sLit (.int 0)))) (sSeq (ydN (.tup [4, 9]) (yae ybW (sCons (sVar 0) (sCons (sVar 4) (sCons (sVar 8) sNil)))))
  (sSet 5 (sOp2 fAdd (sVar 5) (sLst (sCons (sTup (sCons (sOp2 fIx (sVar 2) (sVar 7)) (sCons (sLit (.int 1)) sNil))) sNil))))) (sSeq (ydN (.tup [4, 9]) (yae ybW (sCons (sVar 0) (sCons (sVar 8) (sCons (sVar 4) sNil)))))
  (sSet 5 (sOp2 fAdd (sLst (sCons (sTup (sCons (sOp2 fIx (sVar 2) (sVar 7)) (sCons (sLit (.int 1)) sNil))) sNil)) (sVar 5)))))
  (sIf (sOr (sNot (ybG (sVar 9))) (sNot (ybG (yae ybe (sCons (sVar 0) (sCons (sVar 4) (sCons (sVar 5) (sCons (sVar 3) sNil)))))))) (sRet (sLit (.bl false))) yaz)))
def yb8 : Fn := mkFn 4 10
  (sSeq (ydN (.tup [4, 5]) (sVar 1))
  (sSeq (sSet 6 (yae yaj (sCons (sVar 3) (sCons (sLit (.int 2)) sNil))))
  (sSeq (sFor (yaZ (sLit (.int 2))) (.nm 7) ya1)
  (sRet (sLit (.bl true))))))
def yct : SS :=
  (sSeq (sSet 4 (yae ycH (sCons (sVar 3) (sCons (sVar 2) sNil))))
  (sSeq (ydN (.tup [5, 6]) (yae ybp (sCons (sVar 1) (sCons (sVar 4) sNil))))
  (sSeq (sSet 7 (yaY [4] (yaZ (sLit (.int 2))) sYes (yae ybq (sCons (sVar 1) (sCons (sOp2 fIx (sLst (sCons (sLit (.int 5)) (sCons (sLit (.int 40)) sNil))) (yae yaj (sCons (sVar 1) (sCons (sLit (.int 2)) sNil)))) sNil)))))
  (sIf (sOr (sNot (ybG (yae yb8 (sCons (sVar 1) (sCons (sTup (sCons (sVar 5) (sCons (sVar 6) sNil))) (sCons (sVar 7) (sCons (sVar 4) sNil))))))) (sNot (ybG (yae ybe (sCons (sVar 1) (sCons (sVar 5) (sCons (sVar 6) (sCons (sVar 4) sNil)))))))) (sRet (sLit (.bl false))) yaz))))
def yeG : Fn := mkFn 1 8
  (sSeq (sSet 1 (yeg 0 8 ybU sNil))
  (sSeq (sFor (Sm.iEnum (sOp2 fAdd (sCut (sVar 0) none (some (sLit (.int 40)))) (sLst (sCons (sLit (.int 0)) (sCons (sLit (.int 1)) sNil))))) (.tup [2, 3]) yct)
  (sRet (sLit (.bl true)))))
end Sk
set_option exponentiation.threshold 2000
namespace Sk
open PySem PySem.Spec L2 Sm
theorem zeU {w : Option Nat} {all : List AV} {t : Tg} {b : SS} (P : Nat -> En -> AH -> Prop) : ∀ (xs : List AV) (i : Nat) (en : En) (h : AH), P i en h ->
  (∀ i en h, P i en h -> ybx w all h = true) ->
  (∀ (j : Nat) (x : AV) (en : En) (h : AH), xs[j]? = some x -> P (i + j) en h -> ∃ e1 e2 h2, setT t x en = some e1 /\ (b e1 h = .nx e2 h2 \/ b e1 h = .ct e2 h2) /\ P (i + j + 1) e2 h2) ->
  ∃ e' h', ybf w all t b xs en h = .nx e' h' /\ P (i + xs.length) e' h'
 | [], i, en, h, p, lv, _ => ⟨en, h, by unfold ybf; rw [if_pos (lv _ _ _ p)], p⟩
 | x :: xs, i, en, h, p, lv, s => by
  obtain ⟨e1, e2, h2, q1, q2, q3⟩ := s 0 x en h rfl p
  obtain ⟨e', h', r1, r2⟩ := zeU P xs (i + 1) e2 h2 q3 lv fun j y en h e q => by
   have := s (j + 1) y en h (by simpa using e) (by rw [show i + (j + 1) = i + 1 + j by lia]; exact q)
   rw [show i + (j + 1) + 1 = i + 1 + j + 1 by lia] at this
   exact this
  refine ⟨e', h', ?_, by rw [List.length_cons, show i + (xs.length + 1) = i + 1 + xs.length by lia]; exact r2⟩
  unfold ybf
  rw [if_pos (lv _ _ _ p)]
  simp only [q1]
  rcases q2 with q2 | q2
  ·rw [q2]; exact r1
  ·rw [q2]; exact r1
theorem zaM {α : Type} {js : List Nat} {en : En} {w : Option Nat} {all : List AV} {c : SB} {e : SE} {g f : α -> AV} {p : α -> Bool} {h : AH} (lv : ybx w all h = true) : ∀ (cs : List α) (ys : List AV), (∀ x ∈ cs, c (some (g x) :: js.map fun j => (en[j]?).join) h = .ok (p x) h) -> (∀ x ∈ cs, p x = true -> e (some (g x) :: js.map fun j => (en[j]?).join) h = .ok (f x) h) -> ys.length + cs.length <= sizeLine ->
  yaB js en w all c e (cs.map g) ys h = .ok (ys ++ (cs.filter p).map f) h
 | [], ys, _, _, _ => by rw [List.map_nil]; unfold yaB; rw [if_pos lv]; simp
 | x :: xs, ys, hc, he, hl => by
  have hl' : ys.length < sizeLine := by simp at hl; lia
  rw [List.map_cons]
  unfold yaB
  rw [if_pos ⟨lv, hl'⟩, hc x (by simp)]
  cases hp : p x with
  | false =>
   dsimp only
   rw [zaM lv xs ys (fun y hy => hc y (by simp [hy])) (fun y hy => he y (by simp [hy])) (by simp at hl ⊢; lia)]
   simp [List.filter_cons, hp]
  | true =>
   dsimp only
   rw [he x (by simp) hp]
   dsimp only
   rw [zaM lv xs (ys ++ [f x]) (fun y hy => hc y (by simp [hy])) (fun y hy => he y (by simp [hy])) (by simp at hl ⊢; lia)]
   simp [List.filter_cons, hp]
theorem zhc {α : Type} {js : List Nat} {en : En} {w : Option Nat} {all : List AV} {e : SE} {g f : α -> AV} {h : AH} (lv : ybx w all h = true) (cs : List α) (ys : List AV) (he : ∀ x ∈ cs, e (some (g x) :: js.map fun j => (en[j]?).join) h = .ok (f x) h) (hl : ys.length + cs.length <= sizeLine) :
  yaB js en w all sYes e (cs.map g) ys h = .ok (ys ++ cs.map f) h := by
 rw [zaM (p := fun _ => true) lv cs ys (fun _ _ => rfl) (fun x hx _ => he x hx) hl, List.filter_eq_self.mpr (fun _ _ => rfl)]
theorem zdm {c : SB} {b : SS} (P : Nat -> En -> AH -> Prop) (Q : En -> AH -> Prop) : ∀ (fuel n : Nat) (en : En) (h : AH), P n en h -> n < fuel ->
  (∀ n en h, P n en h -> (∃ h1, c en h = .ok false h1 /\ Q en h1) \/ (∃ n' h1 e2 h2, n' < n /\ c en h = .ok true h1 /\ (b en h1 = .nx e2 h2 \/ b en h1 = .ct e2 h2) /\ P n' e2 h2)) ->
  ∃ e' h', ybJ c b fuel en h = .nx e' h' /\ Q e' h'
 | 0, n, en, h, _, l, _ => absurd l (Nat.not_lt_zero _)
 | fuel + 1, n, en, h, p, l, s => by
  rcases s n en h p with ⟨h1, q1, q2⟩ | ⟨n', h1, e2, h2, q0, q1, q2, q3⟩
  ·refine ⟨en, h1, ?_, q2⟩
   unfold ybJ; rw [q1]
  ·obtain ⟨e', h', r1, r2⟩ := zdm P Q fuel n' e2 h2 q3 (by lia) s
   refine ⟨e', h', ?_, r2⟩
   unfold ybJ; rw [q1]
   rcases q2 with q2 | q2
   ·simp only [q2]; exact r1
   ·simp only [q2]; exact r1
@[simp] def thn (o : OutS) (Q : En -> AH -> Prop) : Prop := match o with
 | .nx e h => Q e h
 | .ct e h => Q e h
 | _ => False
theorem ye8 {o : OutS} {Q : En -> AH -> Prop} (t : thn o Q) : ∃ e h, (o = .nx e h \/ o = .ct e h) /\ Q e h := by
 cases o with
 | nx e h => exact ⟨e, h, .inl rfl, t⟩
 | ct e h => exact ⟨e, h, .inr rfl, t⟩
 | _ => exact t.elim
@[simp] def ygp (o : Option En) (Q : En -> Prop) : Prop := match o with
 | some e => Q e
 | none => False
theorem yd8 {w : Option Nat} {all : List AV} {t : Tg} {b : SS} {xs : List AV} {en : En} {h : AH} (P : Nat -> En -> AH -> Prop) (p0 : P 0 en h) (lv : ∀ i en h, P i en h -> ybx w all h = true)
  (st : ∀ (j : Nat) (x : AV) (en : En) (h : AH), xs[j]? = some x -> P j en h -> ygp (setT t x en) fun e1 => thn (b e1 h) (P (j + 1))) :
  ∃ e' h', ybf w all t b xs en h = .nx e' h' /\ P xs.length e' h' := by
 have := zeU (w := w) (all := all) (t := t) (b := b) P xs 0 en h p0 lv fun j x en h hx hp => by
  have q := st j x en h hx (by simpa using hp)
  cases z : setT t x en with
  | none => rw [z] at q; exact q.elim
  | some e1 =>
   rw [z] at q
   obtain ⟨e, h2, a, c⟩ := ye8 q
   exact ⟨e1, e, h2, rfl, a, by simpa using c⟩
 simpa using this
theorem zik {c : SB} {b : SS} {fuel n : Nat} {en : En} {h : AH} (P : Nat -> En -> AH -> Prop) (Q : En -> AH -> Prop) (p0 : P n en h) (hn : n < fuel)
  (st : ∀ n en h, P n en h -> match c en h with
   | .ok true h1 => thn (b en h1) fun e2 h2 => ∃ n', n' < n /\ P n' e2 h2
   | .ok false h1 => Q en h1
   | _ => False) :
  ∃ e' h', ybJ c b fuel en h = .nx e' h' /\ Q e' h' := by
 refine zdm P Q fuel n en h p0 hn fun n en h p => ?_
 have q := st n en h p
 cases z : c en h with
 | ok x h1 =>
  rw [z] at q
  cases x with
  | true =>
   obtain ⟨e, h2, a, n', l, c⟩ := ye8 q
   exact .inr ⟨n', h1, e, h2, l, rfl, a, c⟩
  | false => exact .inl ⟨h1, rfl, q⟩
 | ex _ _ => rw [z] at q; exact q.elim
 | bad => rw [z] at q; exact q.elim
@[simp] def yhk (o : Out AV) (Q : AV -> AH -> Prop) : Prop := match o with
 | .ok v h => Q v h
 | _ => False
theorem zeV {js : List Nat} {en : En} {all : List AV} {e : SE} (P : Nat -> List AV -> AH -> Prop) : ∀ (xs ys : List AV) (i : Nat) (h : AH), P i ys h ->
  (∀ j x ys h, xs[j]? = some x -> P (i + j) ys h -> ∃ v h2, e (some x :: js.map fun j => (en[j]?).join) h = .ok v h2 /\ P (i + j + 1) (ys ++ [v]) h2) -> ys.length + xs.length <= sizeLine ->
  ∃ zs h', yaB js en none all sYes e xs ys h = .ok zs h' /\ P (i + xs.length) zs h'
 | [], ys, i, h, p, _, _ => ⟨ys, h, by simp [yaB], p⟩
 | x :: xs, ys, i, h, p, s, hl => by
  obtain ⟨v, h2, q1, q2⟩ := s 0 x ys h rfl p
  obtain ⟨zs, h', r1, r2⟩ := zeV P xs (ys ++ [v]) (i + 1) h2 q2 (fun j y ys h hy hp => by
   have := s (j + 1) y ys h (by simpa using hy) (by rw [show i + (j + 1) = i + 1 + j by lia]; exact hp)
   rw [show i + (j + 1) + 1 = i + 1 + j + 1 by lia] at this
   exact this) (by simp at hl ⊢; lia)
  refine ⟨zs, h', ?_, by rw [List.length_cons, show i + (xs.length + 1) = i + 1 + xs.length by lia]; exact r2⟩
  unfold yaB
  rw [if_pos ⟨rfl, by simp at hl; lia⟩]
  simp only [sYes]
  rw [q1]
  exact r1
theorem ye9 {js : List Nat} {en : En} {all : List AV} {e : SE} {xs : List AV} {h : AH} (P : Nat -> List AV -> AH -> Prop) (p0 : P 0 [] h)
  (st : ∀ j x ys h, xs[j]? = some x -> P j ys h -> yhk (e (some x :: js.map fun j => (en[j]?).join) h) fun v h2 => P (j + 1) (ys ++ [v]) h2) (hl : xs.length <= sizeLine) :
  ∃ zs h', yaB js en none all sYes e xs [] h = .ok zs h' /\ P xs.length zs h' := by
 have := zeV (js := js) (en := en) (all := all) (e := e) P xs [] 0 h p0 (fun j x ys h hx p => by
  have q := st j x ys h hx (by simpa using p)
  cases z : e (some x :: js.map fun j => (en[j]?).join) h with
  | ok v h2 => rw [z] at q; exact ⟨v, h2, rfl, by simpa using q⟩
  | ex _ _ => rw [z] at q; exact q.elim
  | bad => rw [z] at q; exact q.elim) (by simpa using hl)
 simpa using this
theorem zbO : ∀ (n : Nat) (lo : Int) (i : Nat), (yaO lo n)[i]? = if i < n then some (.int (lo + i)) else none
 | 0, lo, i => by simp [yaO]
 | n + 1, lo, 0 => by simp [yaO]
 | n + 1, lo, i + 1 => by
  unfold yaO
  rw [List.getElem?_cons_succ, zbO n (lo + 1) i]
  by_cases q : i < n
  ·rw [if_pos q, if_pos (by lia)]; congr 2; lia
  ·rw [if_neg q, if_neg (by lia)]
theorem zaO : ∀ (n : Nat) (lo : Int), (yaO lo n).length = n
 | 0, _ => rfl
 | n + 1, lo => by unfold yaO; rw [List.length_cons, zaO n]
theorem zaN {a : SE} {en : En} {h h1 : AH} {n : Nat} (e : a en h = .ok (.int n) h1) (hn : n <= 10000000) : yaZ a en h = .ok (yaO 0 n, none) h1 := by
 have h1' : (n : Int).natAbs < 2 ^ 62 := by lia
 simp only [yaZ, e, Out.bind]
 rw [if_pos h1']; rfl
theorem ycW {it : SI} {t : Tg} {b : SS} {en : En} {h h1 : AH} {xs : List AV} {w : Option Nat} (e : it en h = .ok (xs, w) h1) : sFor it t b en h = ybf w xs t b xs en h1 := by simp only [sFor, e]
theorem yfa {i j : Int} {h : AH} (hi : i.natAbs < 2 ^ 64) : fMul (.int i) (.int j) h = .ok (.int (i * j)) h := if_pos (.inl (.inl hi))
theorem ygq {i j : Int} {h : AH} (hj : j.natAbs < 2 ^ 64) : fMul (.int i) (.int j) h = .ok (.int (i * j)) h := if_pos (.inl (.inr hj))
end Sk
set_option exponentiation.threshold 5000
namespace Sk
open PySem PySem.Spec L2 Sm
def ydi (c : Nat) : Bool := decide (c = 10) || (decide (32 <= c) && decide (c <= 126))
theorem lt1 (a b : Nat) : ([a] < [b]) ↔ a < b := by
 simp [List.cons_lt_cons_iff]
theorem yeu : (Str.ofString "\n") = ⟨#[10]⟩ := by decide +kernel
theorem ygr : (Str.ofString " ") = ⟨#[32]⟩ := by decide +kernel
theorem ygs : (Str.ofString "~") = ⟨#[126]⟩ := by decide +kernel
theorem ygt (c : Nat) (h : AH) : yby [.str ⟨#[c]⟩] h = .ok (.bl (ydi c)) h := by
 simp [yby, yeu, ygr, ygs, lt1, ydi]
 by_cases h1 : c = 10
 ·simp [h1]
 ·by_cases h2 : c < 32
  ·have : ¬ 32 <= c := by lia
   simp [h1, h2, this]
  ·have h3 : 32 <= c := by lia
   by_cases h4 : c <= 126
   ·have : ¬ 126 < c := by lia
    simp [h1, h2, h3, h4, this]
   ·have : 126 < c := by lia
    simp [h1, h2, h3, h4, this]
theorem zdS {α : Type} {js : List Nat} {en : En} {all : List AV} {e : SE} {g f : α -> AV} {h : AH} : ∀ (cs : List α) (ys : List AV), (∀ c ∈ cs, e (some (g c) :: js.map fun j => (en[j]?).join) h = .ok (f c) h) -> ys.length + cs.length <= sizeLine -> yaB js en none all sYes e (cs.map g) ys h = .ok (ys ++ cs.map f) h
 | [], ys, _, _ => by simp [yaB]
 | x :: xs, ys, he, hl => by
  have hl' : ys.length < sizeLine := by simp at hl; lia
  rw [List.map_cons]
  unfold yaB
  rw [if_pos ⟨rfl, hl'⟩]
  simp only [sYes]
  rw [he x (by simp)]
  dsimp only
  rw [zdS xs (ys ++ [f x]) (fun y hy => he y (by simp [hy])) (by simp at hl ⊢; lia)]
  simp
theorem zdn (f : Nat -> Bool) : ∀ cs : List Nat, ycr (cs.map fun c => .bl (f c)) = some (cs.map f)
 | [] => rfl
 | c :: cs => by simp [zdn f cs]
def yaD (x : Str) : Bool := x.cps.toList.all ydi
theorem zeW (x : Str) (h : AH) (hl : x.length <= sizeLine) : yci [.str x] h = .ok (.bl (yaD x)) h := by
 have e := zdS (js := []) (en := [some (.str x)]) (all := x.cps.toList.map fun c => AV.str ⟨#[c]⟩) (e := yae yby (sCons (sVar 0) sNil)) (g := fun c => AV.str ⟨#[c]⟩) (f := fun c => AV.bl (ydi c)) (h := h) x.cps.toList [] (by
  intro c hc
  simp [ygt]) (by simp; exact hl)
 simp only [List.nil_append] at e
 simp [yci]
 rw [e]
 simp [zdn, yaD]
def yba (x : Str) : Bool := yaD x && (decide (1 <= x.length) && decide (x.length <= 8))
theorem zeX (x : Str) (h : AH) (hl : x.length <= sizeLine) : ycO [.str x] h = .ok (.bl (yba x)) h := by
 simp [ycO, zeW x h hl, yba]
 by_cases h1 : yaD x = true
 ·by_cases h2 : 1 <= x.length
  ·have : (1 : Int) <= x.length := by lia
   by_cases h3 : x.length <= 8
   ·have : (x.length : Int) <= 8 := by lia
    simp [*]
   ·have : ¬ (x.length : Int) <= 8 := by lia
    simp [*]
  ·have : ¬ (1 : Int) <= x.length := by lia
   simp [*]
 ·simp [h1]
def ycD (x : Str) : Nat := (Builtin.Str.occurrences x ⟨#[10]⟩ 0 x.length (x.length + 1)).length
theorem ygu (x : Str) (h : AH) : yc4 [.str x] h = .ok (.int (ycD x)) h := by
 simp [yc4, yeu, ycD]
theorem zil (i : Int) (h : AH) : ycP [.int i] h = .ok (.bl true) h := by
 simp [ycP]
inductive Pc where
 | leaf (x : Str)
 | fork (a b : Nat)
 deriving DecidableEq
def Pc.av : Pc -> AV
 | .leaf x => .tup [.str "leaf", .str x]
 | .fork a b => .tup [.str "fork", .int a, .int b]
theorem Pc.av_inj : ∀ {p q : Pc}, p.av = q.av -> p = q
 | .leaf x, .leaf y, e => by simp [Pc.av] at e; rw [e]
 | .leaf x, .fork a b, e => by simp [Pc.av] at e
 | .fork a b, .leaf x, e => by simp [Pc.av] at e
 | .fork a b, .fork c d, e => by simp [Pc.av] at e; rw [Int.ofNat.inj e.1, Int.ofNat.inj e.2]
structure Ms where
 sg : Nat
 en : Nat
 lv : Nat
 ht : Int
 fl : Nat
 ll : Nat
def ms0 : Ms := ⟨0, 0, 0, -1, 0, 0⟩
def yck (ms : List Ms) : Pc -> Ms
 | .leaf x => ⟨x.length, ycD x, 1, 0, ms.length, ms.length⟩
 | .fork a b => ⟨(ms.getD a ms0).sg + (ms.getD b ms0).sg, (ms.getD a ms0).en + (ms.getD b ms0).en, (ms.getD a ms0).lv + (ms.getD b ms0).lv, max (ms.getD a ms0).ht (ms.getD b ms0).ht + 1, (ms.getD a ms0).fl, (ms.getD b ms0).ll⟩
def meas (ps : List Pc) : List Ms := ps.foldl (fun ms q => ms ++ [yck ms q]) [ms0]
theorem zbP (ps : List Pc) (q : Pc) : meas (ps ++ [q]) = meas ps ++ [yck (meas ps) q] := by simp [meas]
theorem zal : ∀ ps : List Pc, (meas ps).length = ps.length + 1 := by
 have all : ∀ (ps : List Pc) (ms : List Ms), (ps.foldl (fun ms q => ms ++ [yck ms q]) ms).length = ms.length + ps.length := by
  intro ps
  induction ps with
  | nil => intro ms; rfl
  | cons q r ih => intro ms; rw [List.foldl_cons, ih]; simp; lia
 intro ps
 rw [meas, all]; simp; lia
def ybd (k : Nat) : List Pc -> List (AV × AV)
 | [] => []
 | q :: r => (q.av, .int k) :: ybd (k + 1) r
def tab (ps : List Pc) : List (AV × AV) := ybd 1 ps
theorem zaP (q : Pc) : ∀ (ps : List Pc) (k : Nat), ybd k (ps ++ [q]) = ybd k ps ++ [(q.av, .int ((k + ps.length : Nat) : Int))]
 | [], k => by simp [ybd]
 | p :: r, k => by
  simp only [List.cons_append, ybd, zaP q r (k + 1)]
  rw [show k + 1 + r.length = k + (p :: r).length by simp; lia]
theorem zeY : ∀ (ps : List Pc) (k : Nat), (ybd k ps).length = ps.length
 | [], _ => rfl
 | p :: r, k => by simp [ybd, zeY r]
theorem zbw {q : Pc} : ∀ {ps : List Pc} {k : Nat}, q ∉ ps -> valA (ybd k ps) q.av = none
 | [], k, _ => rfl
 | p :: r, k, h => by
  have h1 : ¬ p.av = q.av := fun e => h (by rw [Pc.av_inj e]; simp)
  have h2 := zbw (q := q) (ps := r) (k := k + 1) fun z => h (by simp [z])
  unfold valA at h2 ⊢
  simp only [ybd, List.find?_cons, decide_eq_false h1]
  exact h2
theorem zct {q : Pc} : ∀ {ps : List Pc} {k i : Nat}, ps.Nodup -> ps[i]? = some q -> valA (ybd k ps) q.av = some (.int ((k + i : Nat) : Int))
 | [], k, i, _, e => by simp at e
 | p :: r, k, 0, n, e => by simp at e; subst e; simp [valA, ybd]
 | p :: r, k, i + 1, n, e => by
  simp at e
  have h1 : ¬ p.av = q.av := fun z => (List.nodup_cons.mp n).1 (by rw [Pc.av_inj z]; exact List.mem_of_getElem? e)
  have h2 := zct (q := q) (k := k + 1) (List.nodup_cons.mp n).2 e
  unfold valA at h2 ⊢
  simp only [ybd, List.find?_cons, decide_eq_false h1]
  rw [h2]
  congr 3
  lia
theorem zim {q : Pc} {ps : List Pc} (h : q ∉ ps) : putA (tab ps) q.av (.int ((ps.length + 1 : Nat) : Int)) = tab (ps ++ [q]) := by
 unfold putA
 rw [zb4, tab, zbw h, tab, zaP]
 simp [Nat.add_comm]
structure ShelfAt (h : AH) (p : Nat) (ps : List Pc) : Prop where
 ob : h[p]? = some (.ins 0 [some (.ref (p + 1)), some (.ref (p + 2)), some (.ref (p + 3)), some (.ref (p + 4)), some (.ref (p + 5)), some (.ref (p + 6)), some (.ref (p + 7)), some (.ref (p + 8))])
 h1 : h[p + 1]? = some (.lst (ps.map Pc.av))
 h2 : h[p + 2]? = some (.dct true (tab ps))
 h3 : h[p + 3]? = some (.lst ((meas ps).map fun m => .int m.sg))
 h4 : h[p + 4]? = some (.lst ((meas ps).map fun m => .int m.en))
 h5 : h[p + 5]? = some (.lst ((meas ps).map fun m => .int m.lv))
 h6 : h[p + 6]? = some (.lst ((meas ps).map fun m => .int m.ht))
 h7 : h[p + 7]? = some (.lst ((meas ps).map fun m => .int m.fl))
 h8 : h[p + 8]? = some (.lst ((meas ps).map fun m => .int m.ll))
def ybR (h : AH) (p : Nat) (ps : List Pc) : AH :=
 (((((((h.set (p + 1) (.lst (ps.map Pc.av))).set (p + 2) (.dct true (tab ps))).set (p + 3) (.lst ((meas ps).map fun m => .int m.sg))).set (p + 4) (.lst ((meas ps).map fun m => .int m.en))).set (p + 5) (.lst ((meas ps).map fun m => .int m.lv))).set
  (p + 6) (.lst ((meas ps).map fun m => .int m.ht))).set (p + 7) (.lst ((meas ps).map fun m => .int m.fl))).set (p + 8) (.lst ((meas ps).map fun m => .int m.ll))
theorem ya2 {h : AH} {i : Nat} {o : AO} (e : h[i]? = some o) : i < h.length := (List.getElem?_eq_some_iff.mp e).1
theorem zbf (h : AH) (p : Nat) (ps : List Pc) : (ybR h p ps).length = h.length := by simp [ybR]
theorem zbx {h : AH} {p q : Nat} {ps : List Pc} (hq : q <= p \/ p + 8 < q) : (ybR h p ps)[q]? = h[q]? := by
 unfold ybR
 repeat rw [List.getElem?_set_ne (by lia)]
theorem zaT {h : AH} {p : Nat} {ps ps' : List Pc} (S : ShelfAt h p ps) : ShelfAt (ybR h p ps') p ps' := by
 have b := ya2 S.h8
 have l1 : p + 1 < h.length := Nat.lt_of_le_of_lt (Nat.add_le_add_left (by decide) p) b
 have l2 : p + 2 < h.length := Nat.lt_of_le_of_lt (Nat.add_le_add_left (by decide) p) b
 have l3 : p + 3 < h.length := Nat.lt_of_le_of_lt (Nat.add_le_add_left (by decide) p) b
 have l4 : p + 4 < h.length := Nat.lt_of_le_of_lt (Nat.add_le_add_left (by decide) p) b
 have l5 : p + 5 < h.length := Nat.lt_of_le_of_lt (Nat.add_le_add_left (by decide) p) b
 have l6 : p + 6 < h.length := Nat.lt_of_le_of_lt (Nat.add_le_add_left (by decide) p) b
 have l7 : p + 7 < h.length := Nat.lt_of_le_of_lt (Nat.add_le_add_left (by decide) p) b
 have ob := S.ob
 constructor <;> simp [ybR, List.getElem?_set, l1, l2, l3, l4, l5, l6, l7, b, ob, -List.getElem?_eq_getElem]
theorem yfb {h : AH} {p : Nat} {ps : List Pc} (S : ShelfAt h p ps) : ybV [.ref p] h = .ok (.int ps.length) h := by
 simp [ybV, S.ob, S.h1]
theorem yhl {h : AH} {p : Nat} {ps : List Pc} {i : Int} (S : ShelfAt h p ps) : ybC [.ref p, .int i] h = .ok (.bl (decide (1 <= i /\ i <= ps.length))) h := by
 simp [ybC, zil, S.ob, S.h1]
 by_cases h1 : 1 <= i <;> simp [h1]
theorem zby {h : AH} {p : Nat} {ps : List Pc} {i : Int} (S : ShelfAt h p ps) (hi : 1 <= i /\ i <= ps.length) : yaT [.ref p, .int i] h = .ok .non h := by
 simp [yaT, yhl S, S.ob, hi.1, hi.2]
theorem zag {α : Type} {f : α -> AV} {l : List α} {j : Nat} {q : α} (e : l[j]? = some q) : atI (l.map f) (j : Int) = some (f q) := zb1 (by simp [e])
theorem zin {h : AH} {p : Nat} {ps : List Pc} {j : Nat} {q : Pc} (S : ShelfAt h p ps) (e : ps[j]? = some q) : yau [.ref p, .int ((j : Int) + 1)] h = .ok q.av h := by
 have hj := (List.getElem?_eq_some_iff.mp e).1
 have h1 := zby S (i := (j : Int) + 1) ⟨by lia, by lia⟩
 simp [yau, h1, S.ob, S.h1, zag e]
theorem yfx {h : AH} {p : Nat} {ps : List Pc} {q : Pc} (S : ShelfAt h p ps) (hq : q ∉ ps) (hl : ps.length < 16000000) :
  yb6 [.ref p, q.av] h = .ok (.int ((ps.length + 1 : Nat) : Int)) ((h.set (p + 1) (.lst ((ps ++ [q]).map Pc.av))).set (p + 2) (.dct true (tab (ps ++ [q])))) := by
 have b := ya2 S.h8
 have hs : ps.length < sizeLine := Nat.lt_trans hl (by decide)
 have ht : (tab ps).length < sizeLine := by rw [tab, zeY]; exact hs
 have hk : ybA true q.av = true := by cases q <;> simp [Pc.av]
 have e1 : (h.set (p + 1) (.lst (ps.map Pc.av ++ [q.av])))[p]? = h[p]? := List.getElem?_set_ne (by lia)
 have e2 : (h.set (p + 1) (.lst (ps.map Pc.av ++ [q.av])))[p + 1]? = some (.lst (ps.map Pc.av ++ [q.av])) := List.getElem?_set_self (by lia)
 have e3 : (h.set (p + 1) (.lst (ps.map Pc.av ++ [q.av])))[p + 2]? = h[p + 2]? := List.getElem?_set_ne (by lia)
 have tp := zim hq
 simp [yb6, S.ob, S.h1, hs, e1, e2, e3, S.h2, hk, ht, -ybA]
 rw [show ((ps.length : Int) + 1) = ((ps.length + 1 : Nat) : Int) by simp, tp]
theorem zgo {h : AH} {p : Nat} {ps : List Pc} {x : Str} (S : ShelfAt h p ps) (hq : Pc.leaf x ∉ ps) (hl : ps.length < 16000000) :
  ybs [.ref p, (Pc.leaf x).av] h = .ok .non (ybR h p (ps ++ [.leaf x])) := by
 have b := ya2 S.h8
 have hs : ps.length + 1 < sizeLine := Nat.lt_of_lt_of_le (Nat.succ_lt_succ hl) (by decide)
 have hm : (meas ps).length < sizeLine := by rw [zal]; exact hs
 have e := yfx S hq hl
 have b2 : ((meas ps).length : Int) = (ps.length : Int) + 1 := by rw [zal]; simp
 have e2 : fIx (Pc.leaf x).av (.int 1) = fun h => Out.ok (.str x) h := by funext h; rfl
 have l1 : p + 1 < h.length := by lia
 have l2 : p + 2 < h.length := by lia
 have l3 : p + 3 < h.length := by lia
 have l4 : p + 4 < h.length := by lia
 have l5 : p + 5 < h.length := by lia
 have l6 : p + 6 < h.length := by lia
 have l7 : p + 7 < h.length := by lia
 simp [ybs, e, S.ob, S.h3, S.h4, S.h5, S.h6, S.h7, S.h8, hm, ygu, List.getElem?_set, zbP, yck, ybR, e2, zal, hs, -fIx, -List.getElem?_eq_getElem]
theorem zeZ {α : Type} {l : List α} {i : Nat} {d x : α} (e : l[i]? = some x) : l.getD i d = x := by simp [List.getD, e]
theorem zgp {h : AH} {p : Nat} {ps : List Pc} {a b : Nat} {ma mb : Ms} (S : ShelfAt h p ps) (hq : Pc.fork a b ∉ ps) (hl : ps.length < 16000000) (ha : (meas ps)[a]? = some ma) (hb : (meas ps)[b]? = some mb) :
  ybt [.ref p, (Pc.fork a b).av] h = .ok .non (ybR h p (ps ++ [.fork a b])) := by
 have bb := ya2 S.h8
 have hs : ps.length + 1 < sizeLine := Nat.lt_of_lt_of_le (Nat.succ_lt_succ hl) (by decide)
 have hm : (meas ps).length < sizeLine := by rw [zal]; exact hs
 have e := yfx S hq hl
 have e2 : fIx (Pc.fork a b).av (.int 1) = fun h => Out.ok (.int a) h := by funext h; rfl
 have e3 : fIx (Pc.fork a b).av (.int 2) = fun h => Out.ok (.int b) h := by funext h; rfl
 have l1 : p + 1 < h.length := by lia
 have l2 : p + 2 < h.length := by lia
 have l3 : p + 3 < h.length := by lia
 have l4 : p + 4 < h.length := by lia
 have l5 : p + 5 < h.length := by lia
 have l6 : p + 6 < h.length := by lia
 have l7 : p + 7 < h.length := by lia
 have fx : ∀ (n : Nat) (g : Ms -> AV) (h' : AH), h'[n]? = some (.lst ((meas ps).map g)) -> fIx (.ref n) (.int a) h' = .ok (g ma) h' /\ fIx (.ref n) (.int b) h' = .ok (g mb) h' := fun n g h' e => by
  simp [fIx, e, zag ha, zag hb]
 have f3 := fun (h' : AH) (e : h'[p + 3]? = some (.lst ((meas ps).map fun m => .int m.sg))) => fx _ _ h' e
 have f4 := fun (h' : AH) (e : h'[p + 4]? = some (.lst ((meas ps).map fun m => .int m.en))) => fx _ _ h' e
 have f5 := fun (h' : AH) (e : h'[p + 5]? = some (.lst ((meas ps).map fun m => .int m.lv))) => fx _ _ h' e
 have f6 := fun (h' : AH) (e : h'[p + 6]? = some (.lst ((meas ps).map fun m => .int m.ht))) => fx _ _ h' e
 have f7 := fun (h' : AH) (e : h'[p + 7]? = some (.lst ((meas ps).map fun m => .int m.fl))) => fx _ _ h' e
 have f8 := fun (h' : AH) (e : h'[p + 8]? = some (.lst ((meas ps).map fun m => .int m.ll))) => fx _ _ h' e
 have hmax : ∀ i j : Int, (if j > i then j else i) = max i j := fun i j => by split <;> lia
 simp [ybt, e, S.ob, S.h3, S.h4, S.h5, S.h6, S.h7, S.h8, hm, List.getElem?_set, zbP, yck, ybR, e2, e3, zal, hs, zag ha, zag hb, zeZ ha, zeZ hb, -fIx, -List.getElem?_eq_getElem, -List.getD_eq_getElem?_getD, f3, f4, f5, f6, f7, f8, hmax]
theorem za2 {h : AH} {p : Nat} {ps : List Pc} {x : Str} {i : Nat} (S : ShelfAt h p ps) (nd : ps.Nodup) (hx : yba x = true) (hl : x.length <= sizeLine) (e : ps[i]? = some (.leaf x)) : yat [.ref p, .str x] h = .ok (.int ((i + 1 : Nat) : Int)) h := by
 have t := zct (k := 1) nd e
 have t' : valA (tab ps) (.tup [.str "leaf", .str x]) = some (.int ((i + 1 : Nat) : Int)) := by rw [Nat.add_comm]; exact t
 simp [yat, zeX x h hl, hx, S.ob, S.h2, t']
theorem zcL {h : AH} {p : Nat} {ps : List Pc} {x : Str} (S : ShelfAt h p ps) (hx : yba x = true) (hl : x.length <= sizeLine) (hq : Pc.leaf x ∉ ps) (hz : ps.length < 16000000) : yat [.ref p, .str x] h = .ok (.int ((ps.length + 1 : Nat) : Int)) (ybR h p (ps ++ [.leaf x])) := by
 have t : valA (tab ps) (.tup [.str "leaf", .str x]) = none := zbw (q := .leaf x) (k := 1) hq
 have S2 := zaT (ps' := ps ++ [.leaf x]) S
 have e := zgo S hq hz
 have t2 : valA (tab (ps ++ [.leaf x])) (.tup [.str "leaf", .str x]) = some (.int ((ps.length + 1 : Nat) : Int)) := by
  unfold tab
  rw [zaP]
  unfold valA at t ⊢
  rw [List.find?_append]
  have t3 : (ybd 1 ps).find? (fun p => decide (p.1 = .tup [.str "leaf", .str x])) = none := by simpa [tab] using t
  rw [t3]
  simp [Pc.av, Nat.add_comm]
 have e' : ybs [.ref p, .tup [.str "leaf", .str x]] h = .ok .non (ybR h p (ps ++ [.leaf x])) := e
 simp [yat, zeX x h hl, hx, S.ob, S.h2, t, e', S2.ob, S2.h2, t2]
theorem zhd {h : AH} {p : Nat} {ps : List Pc} {a b : Nat} {ma mb la fb : Ms} (S : ShelfAt h p ps) (ha : (meas ps)[a]? = some ma) (hb : (meas ps)[b]? = some mb) (pa : 1 <= a) (pb : 1 <= b) (hla : (meas ps)[ma.ll]? = some la) (hfb : (meas ps)[mb.fl]? = some fb) :
  yaQ [.ref p, .int a, .int b] h = if la.sg + fb.sg <= 8 then .ex yfl h else if 1 < (ma.ht - mb.ht).natAbs then .ex yeE h else if 1000000000000000000 < ma.sg + mb.sg then .ex yeF h else .ok .non h := by
 have la_ := (List.getElem?_eq_some_iff.mp ha).1
 have lb_ := (List.getElem?_eq_some_iff.mp hb).1
 rw [zal] at la_ lb_
 have c1 := zby S (i := (a : Int)) ⟨by lia, by lia⟩
 have c2 := zby S (i := (b : Int)) ⟨by lia, by lia⟩
 by_cases d1 : la.sg + fb.sg <= 8
 ·have d1' : ((la.sg : Int) + fb.sg) <= 8 := by lia
  simp [yaQ, c1, c2, S.ob, S.h3, S.h5, S.h6, S.h7, S.h8, zag ha, zag hb, zag hla, zag hfb, d1, d1']
 ·have d1' : ¬ ((la.sg : Int) + fb.sg) <= 8 := by lia
  by_cases d2 : 1 < (ma.ht - mb.ht).natAbs
  ·have d2' : (1 : Int) < (if ma.ht - mb.ht < 0 then -(ma.ht - mb.ht) else ma.ht - mb.ht) := by split <;> lia
   simp [yaQ, c1, c2, S.ob, S.h3, S.h5, S.h6, S.h7, S.h8, zag ha, zag hb, zag hla, zag hfb, d1, d1', d2, d2', -Int.neg_sub]
  ·have d2' : ¬ (1 : Int) < (if ma.ht - mb.ht < 0 then -(ma.ht - mb.ht) else ma.ht - mb.ht) := by split <;> lia
   by_cases d3 : 1000000000000000000 < ma.sg + mb.sg
   ·have d3' : (1000000000000000000 : Int) < (ma.sg : Int) + mb.sg := by lia
    simp [yaQ, c1, c2, S.ob, S.h3, S.h5, S.h6, S.h7, S.h8, zag ha, zag hb, zag hla, zag hfb, d1, d1', d2, d2', d3, d3', -Int.neg_sub]
   ·have d3' : ¬ (1000000000000000000 : Int) < (ma.sg : Int) + mb.sg := by lia
    simp [yaQ, c1, c2, S.ob, S.h3, S.h5, S.h6, S.h7, S.h8, zag ha, zag hb, zag hla, zag hfb, d1, d1', d2, d2', d3, d3', -Int.neg_sub]
structure ForkOk (ps : List Pc) (a b : Nat) : Prop where
 pa : 1 <= a
 pb : 1 <= b
 ex : ∃ ma mb la fb, (meas ps)[a]? = some ma /\ (meas ps)[b]? = some mb /\ (meas ps)[ma.ll]? = some la /\ (meas ps)[mb.fl]? = some fb /\ 8 < la.sg + fb.sg /\ (ma.ht - mb.ht).natAbs <= 1 /\ ma.sg + mb.sg <= 1000000000000000000
theorem zci {h : AH} {p : Nat} {ps : List Pc} {a b : Nat} (S : ShelfAt h p ps) (F : ForkOk ps a b) : yaQ [.ref p, .int a, .int b] h = .ok .non h := by
 obtain ⟨ma, mb, la, fb, h1, h2, h3, h4, h5, h6, h7⟩ := F.ex
 rw [zhd S h1 h2 F.pa F.pb h3 h4, if_neg (by lia), if_neg (by lia), if_neg (by lia)]
theorem za3 {h : AH} {p : Nat} {ps : List Pc} {a b i : Nat} (S : ShelfAt h p ps) (nd : ps.Nodup) (F : ForkOk ps a b) (e : ps[i]? = some (.fork a b)) : yad [.ref p, .int a, .int b] h = .ok (.int ((i + 1 : Nat) : Int)) h := by
 have t := zct (k := 1) nd e
 have t' : valA (tab ps) (.tup [.str "fork", .int a, .int b]) = some (.int ((i + 1 : Nat) : Int)) := by rw [Nat.add_comm]; exact t
 simp [yad, zci S F, S.ob, S.h2, t']
theorem zcM {h : AH} {p : Nat} {ps : List Pc} {a b : Nat} (S : ShelfAt h p ps) (F : ForkOk ps a b) (hq : Pc.fork a b ∉ ps) (hz : ps.length < 16000000) : yad [.ref p, .int a, .int b] h = .ok (.int ((ps.length + 1 : Nat) : Int)) (ybR h p (ps ++ [.fork a b])) := by
 have t : valA (tab ps) (.tup [.str "fork", .int a, .int b]) = none := zbw (q := .fork a b) (k := 1) hq
 have S2 := zaT (ps' := ps ++ [.fork a b]) S
 obtain ⟨ma, mb, la, fb, h1, h2, _⟩ := F.ex
 have e := zgp S hq hz h1 h2
 have t2 : valA (tab (ps ++ [.fork a b])) (.tup [.str "fork", .int a, .int b]) = some (.int ((ps.length + 1 : Nat) : Int)) := by
  unfold tab
  rw [zaP]
  unfold valA at t ⊢
  rw [List.find?_append]
  have t3 : (ybd 1 ps).find? (fun p => decide (p.1 = .tup [.str "fork", .int a, .int b])) = none := by simpa [tab] using t
  rw [t3]
  simp [Pc.av, Nat.add_comm]
 have e' : ybt [.ref p, .tup [.str "fork", .int a, .int b]] h = .ok .non (ybR h p (ps ++ [.fork a b])) := e
 simp [yad, zci S F, S.ob, S.h2, t, e', S2.ob, S2.h2, t2]
def ycb (n : Nat) : List AO := [.ins 0 [some (.ref (n + 1)), some (.ref (n + 2)), some (.ref (n + 3)), some (.ref (n + 4)), some (.ref (n + 5)), some (.ref (n + 6)), some (.ref (n + 7)), some (.ref (n + 8))], .lst [], .dct true [], .lst [.int 0], .lst [.int 0], .lst [.int 0], .lst [.int (-1)], .lst [.int 0], .lst [.int 0]]
theorem zio {h : AH} {o o' : AO} {r : AH} : (h ++ o :: r).set h.length o' = h ++ o' :: r := by
 induction h with
 | nil => rfl
 | cons x t ih => simp [ih]
theorem ygv (en : En) (h : AH) : yeg 0 8 ybU sNil en h = .ok (.ref h.length) (h ++ ycb h.length) := by
 simp [ybU, ycb, List.getElem?_append, zio]
theorem yfc {h r : AH} {k : Nat} : (h ++ r)[h.length + k]? = r[k]? := by
 rw [List.getElem?_append_right (by lia)]; simp
theorem ygw (h r : AH) : ShelfAt (h ++ (ycb h.length ++ r)) h.length [] := by
 refine ⟨?_, ?_, ?_, ?_, ?_, ?_, ?_, ?_, ?_⟩
 ·rw [show h.length = h.length + 0 from rfl, yfc]; rfl
 all_goals (rw [yfc]; rfl)
theorem ze0 (x : Str) (c i : Nat) (hi : i < x.length) : Builtin.Str.subAt x ⟨#[c]⟩ i = decide (x.cps.toList[i]? = some c) := by
 have hi' : i < x.cps.size := hi
 unfold Builtin.Str.subAt
 have e : x.cps.extract i (i + 1) = #[x.cps[i]] := by
  apply Array.ext
  ·simp; lia
  ·intro j h1 h2
   have : j = 0 := by simp at h2; lia
   subst this
   simp
 show (x.cps.extract i (i + 1) == #[c]) = _
 rw [e]
 have : x.cps.toList[i]? = some x.cps[i] := by simp [hi']
 rw [this]
 by_cases q : x.cps[i] = c
 ·simp [q]
 ·simp [q]
theorem yd9 (x : Str) (c : Nat) : ∀ (n i : Nat) (st : Array Nat × Nat), i + n = x.length + 1 -> st.2 <= i -> st.1.size <= i -> (forIn (List.range' i n) st (StrLaws.occBody x ⟨#[c]⟩ x.length (x.length + 1))).run.fst.size = st.1.size + (x.cps.toList.drop i).count c
 | 0, i, st, hn, _, _ => by
  rw [List.drop_of_length_le (by simp; simp only [Str.length] at hn; lia)]
  simp
 | n + 1, i, st, hn, h2, h3 => by
  rw [List.range'_succ, List.forIn_cons]
  unfold StrLaws.occBody
  by_cases hi : i < x.length
  ·have hi' : i < x.cps.size := hi
   have hd : x.cps.toList.drop i = x.cps[i]'hi' :: x.cps.toList.drop (i + 1) := by
    rw [List.drop_eq_getElem_cons (show i < x.cps.toList.length by simpa using hi')]; simp
   have hg : x.cps.toList[i]? = some (x.cps[i]'hi') := by
    simp [hi']
   by_cases q : x.cps[i]'hi' = c
   ·have hs : Builtin.Str.subAt x ⟨#[c]⟩ i = true := by rw [ze0 x c i hi, hg, q]; simp
    rw [if_pos ⟨⟨⟨by lia, h2⟩, hi⟩, hs⟩]
    show (forIn (List.range' (i + 1) n) (st.1.push i, i + 1) (StrLaws.occBody x ⟨#[c]⟩ x.length (x.length + 1))).run.fst.size = _
    rw [yd9 x c n (i + 1) _ (by lia) (Nat.le_refl _) (by simp; lia), hd, q]
    simp; lia
   ·have hs : Builtin.Str.subAt x ⟨#[c]⟩ i = false := by rw [ze0 x c i hi, hg]; simp [q]
    rw [if_neg (by simp [hs])]
    show (forIn (List.range' (i + 1) n) (st.1, st.2) (StrLaws.occBody x ⟨#[c]⟩ x.length (x.length + 1))).run.fst.size = _
    rw [yd9 x c n (i + 1) _ (by lia) (by show st.2 <= i + 1; lia) (by show st.1.size <= i + 1; lia), hd]
    simp [q]
  ·rw [if_neg (by rintro ⟨⟨_, z⟩, _⟩; exact hi z)]
   show (forIn (List.range' (i + 1) n) (st.1, st.2) (StrLaws.occBody x ⟨#[c]⟩ x.length (x.length + 1))).run.fst.size = _
   rw [yd9 x c n (i + 1) _ (by lia) (by show st.2 <= i + 1; lia) (by show st.1.size <= i + 1; lia)]
   rw [List.drop_of_length_le (by simp; simp only [Str.length] at hi; lia), List.drop_of_length_le (by simp; simp only [Str.length] at hi; lia)]
theorem zgq (x : Str) (c : Nat) : (Builtin.Str.occurrences x ⟨#[c]⟩ 0 x.length (x.length + 1)).length = x.cps.toList.count c := by
 rw [StrLaws.occ_eq, Array.length_toList]
 rw [show x.length + 1 - 0 = x.length + 1 from rfl, yd9 x c (x.length + 1) 0 _ (by lia) (Nat.le_refl _) (by simp)]
 simp
theorem zaQ (x : Str) : ycD x = x.cps.toList.count 10 := zgq x 10
theorem zap (x y : Str) : (x ++ y).cps.toList = x.cps.toList ++ y.cps.toList := by
 show (x.cps ++ y.cps).toList = _
 simp
theorem zhe (x y : Str) : ycD (x ++ y) = ycD x + ycD y := by
 rw [zaQ, zaQ, zaQ, zap, List.count_append]
theorem zaf (x : Str) : x.length = x.cps.toList.length := by simp [Str.length]
theorem zaq (x y : Str) : (x ++ y).length = x.length + y.length := by
 rw [zaf, zaf, zaf, zap, List.length_append]
def ydr (rs : List Str) : Pc -> Str
 | .leaf x => x
 | .fork a b => rs.getD a "" ++ rs.getD b ""
def reads (ps : List Pc) : List Str := ps.foldl (fun rs q => rs ++ [ydr rs q]) [""]
theorem zfC (ps : List Pc) (q : Pc) : reads (ps ++ [q]) = reads ps ++ [ydr (reads ps) q] := by simp [reads]
theorem za9 {α β : Type} (g : List β -> α -> β) : ∀ (qs : List α) (ms : List β), ∃ r, qs.foldl (fun ms q => ms ++ [g ms q]) ms = ms ++ r /\ r.length = qs.length
 | [], ms => ⟨[], by simp, rfl⟩
 | q :: qs, ms => by
  obtain ⟨r, e, l⟩ := za9 g qs (ms ++ [g ms q])
  exact ⟨g ms q :: r, by rw [List.foldl_cons, e]; simp, by simp [l]⟩
theorem zbg (ps : List Pc) : (reads ps).length = ps.length + 1 := by
 obtain ⟨r, e, l⟩ := za9 ydr ps [""]
 rw [reads, e]; simp [l, Nat.add_comm]
theorem zhf (ps qs : List Pc) : ∃ r, meas (ps ++ qs) = meas ps ++ r := by
 unfold meas
 rw [List.foldl_append]
 obtain ⟨r, e, _⟩ := za9 yck qs (ps.foldl (fun ms q => ms ++ [yck ms q]) [ms0])
 exact ⟨r, e⟩
theorem zgr (ps qs : List Pc) : ∃ r, reads (ps ++ qs) = reads ps ++ r := by
 unfold reads
 rw [List.foldl_append]
 obtain ⟨r, e, _⟩ := za9 ydr qs (ps.foldl (fun ms q => ms ++ [ydr ms q]) [""])
 exact ⟨r, e⟩
theorem zac {ps ps' : List Pc} (h : ps <+: ps') {n : Nat} {m : Ms} (e : (meas ps)[n]? = some m) : (meas ps')[n]? = some m := by
 obtain ⟨qs, rfl⟩ := h
 obtain ⟨r, q⟩ := zhf ps qs
 rw [q, List.getElem?_append_left (List.getElem?_eq_some_iff.mp e).1]; exact e
theorem zbh {ps ps' : List Pc} (h : ps <+: ps') {n : Nat} {m : Str} (e : (reads ps)[n]? = some m) : (reads ps')[n]? = some m := by
 obtain ⟨qs, rfl⟩ := h
 obtain ⟨r, q⟩ := zgr ps qs
 rw [q, List.getElem?_append_left (List.getElem?_eq_some_iff.mp e).1]; exact e
theorem zbz (ps : List Pc) (i : Nat) : ps.take i <+: ps := List.take_prefix i ps
theorem zcu {ps : List Pc} {i : Nat} {q : Pc} (e : ps[i]? = some q) : (ps.take i ++ [q]) <+: ps /\ (ps.take i).length = i := by
 have hi := (List.getElem?_eq_some_iff.mp e).1
 have : ps.take (i + 1) = ps.take i ++ [q] := by
  rw [List.take_succ, e]; rfl
 exact ⟨this ▸ List.take_prefix _ _, by simp; lia⟩
theorem ze1 {ps : List Pc} {i : Nat} {q : Pc} (e : ps[i]? = some q) : (meas ps)[i + 1]? = some (yck (meas (ps.take i)) q) := by
 obtain ⟨h, l⟩ := zcu e
 refine zac h ?_
 rw [zbP, List.getElem?_append_right (by rw [zal, l]; lia), zal, l]
 simp
theorem zdT {ps : List Pc} {i : Nat} {q : Pc} (e : ps[i]? = some q) : (reads ps)[i + 1]? = some (ydr (reads (ps.take i)) q) := by
 obtain ⟨h, l⟩ := zcu e
 refine zbh h ?_
 rw [zfC, List.getElem?_append_right (by rw [zbg, l]; lia), zbg, l]
 simp
def PcOk (ps : List Pc) : Pc -> Prop
 | .leaf x => yba x = true
 | .fork a b => ForkOk ps a b
inductive Good : List Pc -> Prop
 | nil : Good []
 | snoc {ps : List Pc} {q : Pc} : Good ps -> q ∉ ps -> PcOk ps q -> Good (ps ++ [q])
theorem Good.nodup {ps : List Pc} (g : Good ps) : ps.Nodup := by
 induction g with
 | nil => exact List.nodup_nil
 | snoc g n ok ih => exact List.nodup_append.mpr ⟨ih, by simp, fun a ha b hb => by simp at hb; subst hb; exact fun e => n (e ▸ ha)⟩
theorem Good.get {ps : List Pc} (g : Good ps) : ∀ {i : Nat} {q : Pc}, ps[i]? = some q -> PcOk (ps.take i) q := by
 induction g with
 | nil => intro i q e; simp at e
 | @snoc ps q' g n ok ih =>
  intro i q e
  by_cases hi : i < ps.length
  ·rw [List.getElem?_append_left hi] at e
   rw [List.take_append_of_le_length (by lia)]
   exact ih e
  ·have hi2 : i = ps.length := by
    have := (List.getElem?_eq_some_iff.mp e).1
    simp at this; lia
   subst hi2
   simp at e
   subst e
   simpa using ok
theorem ForkOk.pre {ps ps' : List Pc} {a b : Nat} (F : ForkOk ps a b) (h : ps <+: ps') : ForkOk ps' a b := by
 obtain ⟨ma, mb, la, fb, h1, h2, h3, h4, h5⟩ := F.ex
 exact ⟨F.pa, F.pb, ma, mb, la, fb, zac h h1, zac h h2, zac h h3, zac h h4, h5⟩
structure Ky (ps : List Pc) (m : Ms) (x : Str) (f l : Ms) : Prop where
 fl : (meas ps)[m.fl]? = some f
 ll : (meas ps)[m.ll]? = some l
 sg : m.sg = x.length
 en : m.en = ycD x
 f1 : 1 <= f.sg
 f8 : f.sg <= 8
 l1 : 1 <= l.sg
 l8 : l.sg <= 8
 lv : 1 <= m.lv
 ht : 0 <= m.ht
 most : m.sg <= 1000000000000000000
 cnt : ∃ k, (m.lv = 2 * k + 1 /\ 9 * k + f.sg <= m.sg /\ 9 * k + l.sg <= m.sg) \/ (m.lv = 2 * k + 2 /\ 9 * k + 9 <= m.sg /\ 9 * k + f.sg + l.sg <= m.sg)
 pl : yaD x = true
structure Tx (ps : List Pc) (n : Nat) (m : Ms) (x : Str) (f l : Ms) : Prop where
 n1 : 1 <= n
 ms : (meas ps)[n]? = some m
 rd : (reads ps)[n]? = some x
 ky : Ky ps m x f l
theorem Ky.pre {ps ps' : List Pc} {m : Ms} {x : Str} {f l : Ms} (k : Ky ps m x f l) (h : ps <+: ps') : Ky ps' m x f l :=
 { k with fl := zac h k.fl, ll := zac h k.ll }
theorem Tx.pre {ps ps' : List Pc} {n : Nat} {m : Ms} {x : Str} {f l : Ms} (k : Tx ps n m x f l) (h : ps <+: ps') : Tx ps' n m x f l :=
 ⟨k.n1, zac h k.ms, zbh h k.rd, k.ky.pre h⟩
theorem Tx.le {ps : List Pc} {n : Nat} {m : Ms} {x : Str} {f l : Ms} (k : Tx ps n m x f l) : n <= ps.length := by
 have := (List.getElem?_eq_some_iff.mp k.ms).1
 rw [zal] at this; lia
def ycX (ma mb : Ms) : Ms := ⟨ma.sg + mb.sg, ma.en + mb.en, ma.lv + mb.lv, max ma.ht mb.ht + 1, ma.fl, mb.ll⟩
theorem zaY (x y : Str) : yaD (x ++ y) = (yaD x && yaD y) := by unfold yaD; rw [zap, List.all_append]
theorem kf1 {n n' s s' f l f' l' : Nat} (a : ∃ k, (n = 2 * k + 1 /\ 9 * k + f <= s /\ 9 * k + l <= s) \/ (n = 2 * k + 2 /\ 9 * k + 9 <= s /\ 9 * k + f + l <= s)) (b : ∃ k, (n' = 2 * k + 1 /\ 9 * k + f' <= s' /\ 9 * k + l' <= s') \/ (n' = 2 * k + 2 /\ 9 * k + 9 <= s' /\ 9 * k + f' + l' <= s')) (hs : 8 < l + f') :
  ∃ k, (n + n' = 2 * k + 1 /\ 9 * k + f <= s + s' /\ 9 * k + l' <= s + s') \/ (n + n' = 2 * k + 2 /\ 9 * k + 9 <= s + s' /\ 9 * k + f + l' <= s + s') := by
 obtain ⟨k, ⟨rfl, a1, a2⟩ | ⟨rfl, a1, a2⟩⟩ := a <;> obtain ⟨k', ⟨rfl, b1, b2⟩ | ⟨rfl, b1, b2⟩⟩ := b
 ·exact ⟨k + k', .inr ⟨by lia, by lia, by lia⟩⟩
 ·exact ⟨k + k' + 1, .inl ⟨by lia, by lia, by lia⟩⟩
 ·exact ⟨k + k' + 1, .inl ⟨by lia, by lia, by lia⟩⟩
 ·exact ⟨k + k' + 1, .inr ⟨by lia, by lia, by lia⟩⟩
theorem Ky.sg1 {ps : List Pc} {m : Ms} {x : Str} {f l : Ms} (k : Ky ps m x f l) : 1 <= m.sg := by
 have f1 := k.f1
 obtain ⟨k, ⟨_, a, _⟩ | ⟨_, a, _⟩⟩ := k.cnt
 ·exact Nat.le_trans f1 (Nat.le_trans (Nat.le_add_left _ _) a)
 ·exact Nat.le_trans (Nat.le_add_left 1 (9 * k + 8)) a
theorem Ky.fork {ps : List Pc} {ma mb fa la fb lb : Ms} {x y : Str} (A : Ky ps ma x fa la) (B : Ky ps mb y fb lb) (hs : 8 < la.sg + fb.sg) (hm : ma.sg + mb.sg <= 1000000000000000000) : Ky ps (ycX ma mb) (x ++ y) fa lb := by
 have k := kf1 A.cnt B.cnt hs
 refine ⟨A.fl, B.ll, ?_, ?_, A.f1, A.f8, B.l1, B.l8, Nat.le_trans A.lv (Nat.le_add_right _ _), ?_, hm, k, ?_⟩
 ·show ma.sg + mb.sg = _; rw [zaq, A.sg, B.sg]
 ·show ma.en + mb.en = _; rw [zhe, A.en, B.en]
 ·have a4 := A.ht
  show 0 <= max ma.ht mb.ht + 1
  clear k hs hm; lia
 ·rw [zaY, A.pl, B.pl]; rfl
theorem zbi {x : Str} (h : yba x = true) : 1 <= x.length /\ x.length <= 8 /\ yaD x = true := by
 simp [yba] at h; exact ⟨h.2.1, h.2.2, h.1⟩
theorem zaZ {α : Type} {l : List α} {i : Nat} {d x : α} (e : l[i]? = some x) : l.getD i d = x := by simp [List.getD, e]
def lfMs (x : Str) (n : Nat) : Ms := ⟨x.length, ycD x, 1, 0, n, n⟩
theorem zaU {ps : List Pc} (g : Good ps) {i : Nat} {x : Str} (e : ps[i]? = some (.leaf x)) : Tx ps (i + 1) (lfMs x (i + 1)) x (lfMs x (i + 1)) (lfMs x (i + 1)) := by
 have hi := (List.getElem?_eq_some_iff.mp e).1
 have ok : yba x = true := g.get e
 obtain ⟨s1, s2, s3⟩ := zbi ok
 have li : (ps.take i).length = i := by simp; lia
 have ml : (meas (ps.take i)).length = i + 1 := by rw [zal, li]
 have e1' : (meas ps)[i + 1]? = some (lfMs x (i + 1)) := by rw [ze1 e]; simp only [yck, lfMs]; rw [ml]
 exact ⟨by lia, e1', zdT e, ⟨e1', e1', rfl, rfl, s1, s2, s1, s2, Nat.le_refl 1, Int.le_refl 0, by show x.length <= _; lia, ⟨0, .inl ⟨rfl, Nat.le_of_eq (Nat.zero_add _), Nat.le_of_eq (Nat.zero_add _)⟩⟩, s3⟩⟩
theorem zaV {ps : List Pc} (g : Good ps) {i a b : Nat} {ma mb fa la fb lb : Ms} {x y : Str} (e : ps[i]? = some (.fork a b)) (A : Tx ps a ma x fa la) (B : Tx ps b mb y fb lb) : Tx ps (i + 1) (ycX ma mb) (x ++ y) fa lb := by
 have hi := (List.getElem?_eq_some_iff.mp e).1
 have ok' : ForkOk (ps.take i) a b := g.get e
 have li : (ps.take i).length = i := by simp; lia
 have tp := zbz ps i
 obtain ⟨ma', mb', la', fb', q1, q2, q3, q4, q5, q6, q7⟩ := ok'.ex
 have ba := (List.getElem?_eq_some_iff.mp q1).1
 have bb := (List.getElem?_eq_some_iff.mp q2).1
 rw [zal, li] at ba bb
 have z1 := A.ms.symm.trans (zac tp q1); cases z1
 have z2 := B.ms.symm.trans (zac tp q2); cases z2
 have z3 := A.ky.ll.symm.trans (zac tp q3); cases z3
 have z4 := B.ky.fl.symm.trans (zac tp q4); cases z4
 have r1 : (reads (ps.take i))[a]? = some x := by
  obtain ⟨w, ew⟩ : ∃ w, (reads (ps.take i))[a]? = some w := ⟨(reads (ps.take i))[a]'(by rw [zbg, li]; lia), by simp⟩
  have := (zbh tp ew).symm.trans A.rd; cases this; exact ew
 have r2 : (reads (ps.take i))[b]? = some y := by
  obtain ⟨w, ew⟩ : ∃ w, (reads (ps.take i))[b]? = some w := ⟨(reads (ps.take i))[b]'(by rw [zbg, li]; lia), by simp⟩
  have := (zbh tp ew).symm.trans B.rd; cases this; exact ew
 refine ⟨by lia, ?_, ?_, A.ky.fork B.ky q5 q7⟩
 ·rw [ze1 e]; simp only [yck, zaZ q1, zaZ q2]; rfl
 ·rw [zdT e]; simp only [ydr, zaZ r1, zaZ r2]
theorem Good.tx {ps : List Pc} (g : Good ps) : ∀ n, 1 <= n -> n <= ps.length -> ∃ m x f l, Tx ps n m x f l := by
 intro n
 induction n using Nat.strongRecOn with
 | ind n ih =>
  intro h1 h2
  obtain ⟨i, rfl⟩ : ∃ i, n = i + 1 := ⟨n - 1, (Nat.sub_add_cancel h1).symm⟩
  obtain ⟨q, eq⟩ : ∃ q, ps[i]? = some q := ⟨ps[i], by simp⟩
  have ok := g.get eq
  have li : (ps.take i).length = i := (zcu eq).2
  cases q with
  | leaf x => exact ⟨_, _, _, _, zaU g eq⟩
  | fork a b =>
   have ok' : ForkOk (ps.take i) a b := ok
   obtain ⟨ma, mb, la, fb, q1, q2, _⟩ := ok'.ex
   have ba := (List.getElem?_eq_some_iff.mp q1).1
   have bb := (List.getElem?_eq_some_iff.mp q2).1
   rw [zal, li] at ba bb
   obtain ⟨_, _, _, _, A⟩ := ih a ba ok'.pa (Nat.le_trans (Nat.le_of_lt ba) h2)
   obtain ⟨_, _, _, _, B⟩ := ih b bb ok'.pb (Nat.le_trans (Nat.le_of_lt bb) h2)
   exact ⟨_, _, _, _, zaV g eq A B⟩
structure Dd (p : Nat) (h h' : AH) (ps ps' : List Pc) (k : Nat) : Prop where
 sh : ShelfAt h' p ps'
 gd : Good ps'
 pre : ps <+: ps'
 len : ps'.length <= ps.length + k
 fr : ∀ i, i <= p \/ p + 8 < i -> h'[i]? = h[i]?
 hl : h'.length = h.length
theorem zdo {h : AH} {p : Nat} {ps : List Pc} {x : Str} (S : ShelfAt h p ps) (g : Good ps) (hx : yba x = true) (hz : ps.length < 16000000) :
  ∃ (n : Nat) (ps' : List Pc) (h' : AH), yat [.ref p, .str x] h = .ok (.int n) h' /\ Dd p h h' ps ps' 1 /\ Tx ps' n (lfMs x n) x (lfMs x n) (lfMs x n) := by
 obtain ⟨s1, s2, s3⟩ := zbi hx
 have hs : x.length <= sizeLine := Nat.le_trans s2 (by decide)
 by_cases hq : Pc.leaf x ∈ ps
 ·obtain ⟨i, hi, e⟩ := List.getElem_of_mem hq
  have e' : ps[i]? = some (.leaf x) := by rw [List.getElem?_eq_getElem hi, e]
  exact ⟨i + 1, ps, h, za2 S g.nodup hx hs e', ⟨S, g, List.prefix_refl _, by lia, fun _ _ => rfl, rfl⟩, zaU g e'⟩
 ·have g' : Good (ps ++ [.leaf x]) := .snoc g hq hx
  have e' : (ps ++ [Pc.leaf x])[ps.length]? = some (.leaf x) := by simp
  exact ⟨ps.length + 1, _, _, zcL S hx hs hq hz, ⟨zaT S, g', List.prefix_append _ _, by simp, fun i hi => zbx hi, zbf _ _ _⟩, zaU g' e'⟩
theorem ShelfAt.keep {h h' : AH} {p : Nat} {ps : List Pc} (S : ShelfAt h p ps) (e : ∀ i, p <= i -> i <= p + 8 -> h'[i]? = h[i]?) : ShelfAt h' p ps := by
 have k : ∀ j, j <= 8 -> h'[p + j]? = h[p + j]? := fun j hj => e _ (Nat.le_add_right p j) (Nat.add_le_add_left hj p)
 exact ⟨(k 0 (by decide)).trans S.ob, (k 1 (by decide)).trans S.h1, (k 2 (by decide)).trans S.h2, (k 3 (by decide)).trans S.h3, (k 4 (by decide)).trans S.h4, (k 5 (by decide)).trans S.h5, (k 6 (by decide)).trans S.h6, (k 7 (by decide)).trans S.h7, (k 8 (by decide)).trans S.h8⟩
theorem ShelfAt.app {h : AH} {p : Nat} {ps : List Pc} (S : ShelfAt h p ps) (r : AH) : ShelfAt (h ++ r) p ps := by
 have := ya2 S.h8
 exact S.keep fun i _ b => List.getElem?_append_left (Nat.lt_of_le_of_lt b this)
structure Wk (p r : Nat) (h h' : AH) (ps ps' : List Pc) (k : Nat) : Prop where
 sh : ShelfAt h' p ps'
 gd : Good ps'
 pre : ps <+: ps'
 len : ps'.length <= ps.length + k
 row : ∃ N : Int, h'[r]? = some (.lst [.int N])
 fr : ∀ i, i <= p \/ p + 8 < i -> i ≠ r -> h'[i]? = h[i]?
 hl : h'.length = h.length
theorem Wk.refl {p r : Nat} {h : AH} {ps : List Pc} (S : ShelfAt h p ps) (g : Good ps) (e : ∃ N : Int, h[r]? = some (.lst [.int N])) : Wk p r h h ps ps 0 :=
 ⟨S, g, List.prefix_refl _, by lia, e, fun _ _ _ => rfl, rfl⟩
theorem zba {h : AH} {p : Nat} {ps : List Pc} {i : Nat} (S : ShelfAt h p ps) (hi : i <= ps.length) : yaL [.ref p, .int i] h = .ok .non h := by
 by_cases z : i = 0
 ·subst z; simp [yaL]
 ·have c := zby S (i := (i : Int)) ⟨by lia, by lia⟩
  simp [yaL, z, S.ob, c]
theorem zaH {h : AH} {p : Nat} {ps : List Pc} {i : Nat} {m : Ms} (S : ShelfAt h p ps) (e : (meas ps)[i]? = some m) : yaW [.ref p, .int i] h = .ok (.int m.sg) h := by
 have hi := (List.getElem?_eq_some_iff.mp e).1
 rw [zal] at hi
 simp [yaW, zba S (show i <= ps.length by lia), S.ob, S.h3, zag e]
theorem ziq {h : AH} {p : Nat} {ps : List Pc} {i : Nat} {m : Ms} (S : ShelfAt h p ps) (e : (meas ps)[i]? = some m) : ycj [.ref p, .int i] h = .ok (.int m.en) h := by
 have hi := (List.getElem?_eq_some_iff.mp e).1
 rw [zal] at hi
 simp [ycj, zba S (show i <= ps.length by lia), S.ob, S.h4, zag e]
theorem zad {h : AH} {p : Nat} {ps : List Pc} {i : Nat} {m : Ms} (S : ShelfAt h p ps) (e : (meas ps)[i]? = some m) : yay [.ref p, .int i] h = .ok (.int m.ht) h := by
 have hi := (List.getElem?_eq_some_iff.mp e).1
 rw [zal] at hi
 simp [yay, zba S (show i <= ps.length by lia), S.ob, S.h6, zag e]
theorem ze2 {h : AH} {p : Nat} {ps : List Pc} {i : Nat} {m : Ms} (S : ShelfAt h p ps) (e : (meas ps)[i]? = some m) : ybh [.ref p, .int i] h = .ok (.int m.fl) h := by
 have hi := (List.getElem?_eq_some_iff.mp e).1
 rw [zal] at hi
 simp [ybh, zba S (show i <= ps.length by lia), S.ob, S.h7, zag e]
theorem yfd {h : AH} {p : Nat} {ps : List Pc} {i : Nat} {m : Ms} (S : ShelfAt h p ps) (e : (meas ps)[i]? = some m) : ybn [.ref p, .int i] h = .ok (.int m.ll) h := by
 have hi := (List.getElem?_eq_some_iff.mp e).1
 rw [zal] at hi
 simp [ybn, zba S (show i <= ps.length by lia), S.ob, S.h8, zag e]
def lp : Nat -> Nat × Nat
 | 0 => (1, 2)
 | n + 1 => ((lp n).2, (lp n).1 + (lp n).2)
def ll (n : Nat) : Nat := (lp n).1
def ls (n : Nat) : Nat := 9 * (ll n / 2) + ll n % 2
theorem ll_2 (n : Nat) : ll (n + 2) = ll n + ll (n + 1) := rfl
theorem yhm (n : Nat) : ll (n + 2) = ll (n + 1) + ll n := Nat.add_comm _ _
theorem zdU : ∀ n, ll n <= ll (n + 1)
 | 0 => by decide
 | n + 1 => by rw [show n + 1 + 1 = n + 2 from rfl, ll_2]; lia
theorem zir {a b : Nat} (h : a <= b) : ll a <= ll b := by
 induction h with
 | refl => exact Nat.le_refl _
 | step h ih => exact Nat.le_trans ih (zdU _)
theorem ze3 {a b : Nat} (h : a <= b) : ls a <= ls b := by
 have := zir h
 unfold ls; lia
theorem ygx {i j a b : Nat} (h1 : i <= j + 1) (h2 : j <= i + 1) (u1 : ll i <= a) (u2 : ll j <= b) : ll (max i j + 1) <= a + b := by
 rcases Nat.lt_trichotomy i j with c | c | c
 ·have e' : j = i + 1 := Nat.le_antisymm h2 c
  subst e'
  rw [Nat.max_eq_right (Nat.le_succ i), ll_2]; exact Nat.add_le_add u1 u2
 ·subst c
  rw [Nat.max_self]
  refine Nat.le_trans ?_ (Nat.add_le_add u1 u2)
  cases i with
  | zero => exact Nat.le_refl 2
  | succ k => rw [show k + 1 + 1 = k + 2 from rfl, ll_2]; exact Nat.add_le_add_right (zdU k) _
 ·have e' : i = j + 1 := Nat.le_antisymm h1 c
  subst e'
  rw [Nat.max_eq_left (Nat.le_succ j), ll_2, Nat.add_comm]; exact Nat.add_le_add u1 u2
theorem ygy {x y : Int} {a b : Nat} (hx : 0 <= x) (hy : 0 <= y) (q : (x - y).natAbs <= 1) (u1 : ll x.toNat <= a) (u2 : ll y.toNat <= b) : ll (max x y + 1).toNat <= a + b := by
 obtain ⟨i, rfl⟩ := Int.eq_ofNat_of_zero_le hx
 obtain ⟨j, rfl⟩ := Int.eq_ofNat_of_zero_le hy
 have e : (max (i : Int) j + 1).toNat = max i j + 1 := by clear u1 u2 q; lia
 rw [e]
 exact ygx (by clear u1 u2 e; lia) (by clear u1 u2 e; lia) u1 u2
theorem Good.lv {ps : List Pc} (g : Good ps) : ∀ n m x f l, Tx ps n m x f l -> ll m.ht.toNat <= m.lv := by
 intro n
 induction n using Nat.strongRecOn with
 | ind n ih =>
  intro m x f l T
  have hn := T.n1
  have hle := T.le
  obtain ⟨i, rfl⟩ : ∃ i, n = i + 1 := ⟨n - 1, by lia⟩
  obtain ⟨q, eq⟩ : ∃ q, ps[i]? = some q := ⟨ps[i], by simp⟩
  cases q with
  | leaf y =>
   have z := (zaU g eq).ms.symm.trans T.ms; cases z
   exact Nat.le_refl 1
  | fork a b =>
   have ok' : ForkOk (ps.take i) a b := g.get eq
   have li : (ps.take i).length = i := by simp; lia
   obtain ⟨ma, mb, la, fb, q1, q2, q3, q4, q5, q6, q7⟩ := ok'.ex
   have ba := (List.getElem?_eq_some_iff.mp q1).1
   have bb := (List.getElem?_eq_some_iff.mp q2).1
   rw [zal, li] at ba bb
   obtain ⟨ma', x1, fa, la', A⟩ := g.tx a ok'.pa (by lia)
   obtain ⟨mb', y1, fb', lb, B⟩ := g.tx b ok'.pb (by lia)
   have tp := zbz ps i
   have z1 := A.ms.symm.trans (zac tp q1); cases z1
   have z2 := B.ms.symm.trans (zac tp q2); cases z2
   have u1 := ih a (by lia) _ _ _ _ A
   have u2 := ih b (by lia) _ _ _ _ B
   have z := (zaV g eq A B).ms.symm.trans T.ms; cases z
   exact ygy A.ky.ht B.ky.ht q6 u1 u2
theorem Tx.ls {ps : List Pc} (g : Good ps) {n : Nat} {m : Ms} {x : Str} {f l : Ms} (T : Tx ps n m x f l) : Sk.ls m.ht.toNat <= m.sg := by
 have u := g.lv _ _ _ _ _ T
 have f1 := T.ky.f1
 unfold Sk.ls
 obtain ⟨k, ⟨e, a, _⟩ | ⟨e, a, _⟩⟩ := T.ky.cnt
 ·rw [e] at u; generalize ll m.ht.toNat = q at *; clear e; lia
 ·rw [e] at u; generalize ll m.ht.toNat = q at *; clear e; lia
theorem yhn : 1000000000000000000 < ls 101 := by decide +kernel
theorem zhg {ps : List Pc} (g : Good ps) {n : Nat} {m : Ms} {x : Str} {f l : Ms} (T : Tx ps n m x f l) : m.ht.toNat <= 200 := by
 refine Nat.le_of_not_lt fun z => ?_
 have a := T.ls g
 have b := ze3 (show 101 <= m.ht.toNat by lia)
 have c := yhn
 have d := T.ky.most
 lia
theorem Good.kind {ps : List Pc} (g : Good ps) {n : Nat} {m : Ms} {x : Str} {f l : Ms} (T : Tx ps n m x f l) :
  (ps[n - 1]? = some (.leaf x) /\ m.ht = 0 /\ m = lfMs x n /\ 1 <= x.length /\ x.length <= 8) \/ ∃ a b ma mb y z fa la fb lb, ps[n - 1]? = some (.fork a b) /\ a < n /\ b < n /\ Tx ps a ma y fa la /\ Tx ps b mb z fb lb /\ x = y ++ z /\ m = ycX ma mb /\ (ma.ht - mb.ht).natAbs <= 1 := by
 have hn := T.n1
 have hle := T.le
 obtain ⟨i, rfl⟩ : ∃ i, n = i + 1 := ⟨n - 1, by lia⟩
 obtain ⟨q, eq⟩ : ∃ q, ps[i]? = some q := ⟨ps[i], by simp⟩
 cases q with
 | leaf y =>
  have L := zaU g eq
  have z := L.ms.symm.trans T.ms; cases z
  have z2 := L.rd.symm.trans T.rd; cases z2
  have ok : yba x = true := g.get eq
  obtain ⟨s1, s2, s3⟩ := zbi ok
  exact .inl ⟨eq, rfl, rfl, s1, s2⟩
 | fork a b =>
  have ok' : ForkOk (ps.take i) a b := g.get eq
  have li : (ps.take i).length = i := by simp; lia
  obtain ⟨ma, mb, la, fb, q1, q2, q3, q4, q5, q6, q7⟩ := ok'.ex
  have ba := (List.getElem?_eq_some_iff.mp q1).1
  have bb := (List.getElem?_eq_some_iff.mp q2).1
  rw [zal, li] at ba bb
  obtain ⟨ma', y, fa, la', A⟩ := g.tx a ok'.pa (by lia)
  obtain ⟨mb', z, fb', lb, B⟩ := g.tx b ok'.pb (by lia)
  have tp := zbz ps i
  have z1 := A.ms.symm.trans (zac tp q1); cases z1
  have z2 := B.ms.symm.trans (zac tp q2); cases z2
  have F := zaV g eq A B
  have z3 := F.ms.symm.trans T.ms; cases z3
  have z4 := F.rd.symm.trans T.rd; cases z4
  exact .inr ⟨a, b, ma, mb, y, z, fa, la', fb', lb, eq, by lia, by lia, A, B, rfl, rfl, q6⟩
theorem zbb {h : AH} {p : Nat} {ps : List Pc} {n : Nat} {q : Pc} (S : ShelfAt h p ps) (n1 : 1 <= n) (e : ps[n - 1]? = some q) : yau [.ref p, .int n] h = .ok q.av h := by
 have := zin S e
 rw [show ((n - 1 : Nat) : Int) + 1 = (n : Int) by lia] at this
 exact this
theorem hs1 {m a b : Int} (e : m = max a b + 1) (ha : 0 <= a) (hb : 0 <= b) : ∃ j : Nat, m.toNat = j + 1 /\ a.toNat <= j /\ b.toNat <= j /\ 0 < m := by
 obtain ⟨x, rfl⟩ := Int.eq_ofNat_of_zero_le ha
 obtain ⟨y, rfl⟩ := Int.eq_ofNat_of_zero_le hb
 subst e
 exact ⟨max x y, by lia, Nat.le_max_left _ _, Nat.le_max_right _ _, by lia⟩
end Sk
namespace Sk
open PySem PySem.Spec L2 Sm
theorem zay {x y : Str} (e : x.cps.toList = y.cps.toList) : x = y := by
 cases x; cases y
 simpa using e
theorem zaj (x y z : Str) : (x ++ y) ++ z = x ++ (y ++ z) := zay (by simp only [zap, List.append_assoc])
theorem ls83 : 1000000000000000000 < ls 83 := by decide +kernel
theorem ht82 {ps : List Pc} (g : Good ps) {n : Nat} {m : Ms} {x : Str} {f l : Ms} (T : Tx ps n m x f l) : m.ht <= 82 := by
 have h1 := T.ls g
 have h2 := T.ky.most
 have h3 := T.ky.ht
 apply Classical.byContradiction
 intro h4
 have := ze3 (show 83 <= m.ht.toNat by lia)
 have := ls83
 lia
theorem Good.cut {ps : List Pc} (g : Good ps) {n : Nat} {m : Ms} {x : Str} {f l : Ms} (T : Tx ps n m x f l) (hh : 0 < m.ht) :
  ∃ a b ma mb y z la fb, ps[n - 1]? = some (.fork a b) /\ Tx ps a ma y f la /\ Tx ps b mb z fb l /\ x = y ++ z /\ m = ycX ma mb /\ -1 <= ma.ht - mb.ht /\ ma.ht - mb.ht <= 1 /\ 8 < la.sg + fb.sg := by
 rcases g.kind T with ⟨_, e, _⟩ | ⟨a, b, ma, mb, y, z, fa, la, fb, lb, e1, e2, e3, A, B, e4, e5, e6⟩
 ·lia
 ·have ok : ForkOk (ps.take (n - 1)) a b := g.get e1
  obtain ⟨ma', mb', la', fb', q1, q2, q3, q4, q5, _⟩ := (ok.pre (zbz ps _)).ex
  have z1 := A.ms.symm.trans q1; cases z1
  have z2 := B.ms.symm.trans q2; cases z2
  have z3 := A.ky.ll.symm.trans q3; cases z3
  have z4 := B.ky.fl.symm.trans q4; cases z4
  have f1 := T.ky.fl
  have l1 := T.ky.ll
  rw [e5] at f1 l1
  have z5 := f1.symm.trans A.ky.fl; cases z5
  have z6 := l1.symm.trans B.ky.ll; cases z6
  exact ⟨a, b, ma, mb, y, z, la, fb, e1, A, B, e4, e5, by lia, by lia, q5⟩
structure Dn (F : AH -> Out AV) (p : Nat) (h h' : AH) (ps ps' : List Pc) (k n : Nat) : Prop where
 ev : F h = .ok (.int n) h'
 dd : Dd p h h' ps ps' k
 re : ∀ h2 ps2, ShelfAt h2 p ps2 -> Good ps2 -> ps' <+: ps2 -> F h2 = .ok (.int n) h2
theorem Dd.trans {p : Nat} {h h' h'' : AH} {ps ps' ps'' : List Pc} {k k' k2 : Nat} (a : Dd p h h' ps ps' k) (b : Dd p h' h'' ps' ps'' k') (hk : k + k' <= k2) : Dd p h h'' ps ps'' k2 :=
 ⟨b.sh, b.gd, a.pre.trans b.pre, by have := a.len; have := b.len; lia, fun i hi => (b.fr i hi).trans (a.fr i hi), b.hl.trans a.hl⟩
theorem Dd.refl {p : Nat} {h : AH} {ps : List Pc} (S : ShelfAt h p ps) (g : Good ps) : Dd p h h ps ps 0 := ⟨S, g, List.prefix_refl _, by lia, fun _ _ => rfl, rfl⟩
theorem Dn.seq {F F1 : AH -> Out AV} {F2 : AV -> AH -> Out AV} {p : Nat} {h h1 h2 : AH} {ps ps1 ps2 : List Pc} {k1 k2 k n1 n2 : Nat} (S : ShelfAt h p ps) (g : Good ps) (d1 : Dn F1 p h h1 ps ps1 k1 n1) (d2 : Dn (F2 (.int n1)) p h1 h2 ps1 ps2 k2 n2)
  (eq : ∀ hh pp, ShelfAt hh p pp -> Good pp -> ps <+: pp -> F hh = (F1 hh).bind F2) (hk : k1 + k2 <= k) : Dn F p h h2 ps ps2 k n2 := by
 refine ⟨?_, d1.dd.trans d2.dd hk, fun h3 ps3 S3 g3 p3 => ?_⟩
 ·rw [eq h ps S g (List.prefix_refl _), d1.ev]; exact d2.ev
 ·rw [eq h3 ps3 S3 g3 (d1.dd.pre.trans (d2.dd.pre.trans p3)), d1.re h3 ps3 S3 g3 (d2.dd.pre.trans p3)]
  exact d2.re h3 ps3 S3 g3 p3
theorem Dn.as {F F1 : AH -> Out AV} {p : Nat} {h h1 : AH} {ps ps1 : List Pc} {k1 k n1 : Nat} (S : ShelfAt h p ps) (g : Good ps) (d1 : Dn F1 p h h1 ps ps1 k1 n1) (eq : ∀ hh pp, ShelfAt hh p pp -> Good pp -> ps <+: pp -> F hh = F1 hh) (hk : k1 <= k) : Dn F p h h1 ps ps1 k n1 := by
 refine ⟨?_, { d1.dd with len := Nat.le_trans d1.dd.len (Nat.add_le_add_left hk _) }, fun h3 ps3 S3 g3 p3 => ?_⟩
 ·rw [eq h ps S g (List.prefix_refl _)]; exact d1.ev
 ·rw [eq h3 ps3 S3 g3 (d1.dd.pre.trans p3)]; exact d1.re h3 ps3 S3 g3 p3
theorem Dn.val {F : AH -> Out AV} {p n : Nat} {h : AH} {ps : List Pc} (S : ShelfAt h p ps) (g : Good ps) (eq : ∀ hh pp, ShelfAt hh p pp -> Good pp -> ps <+: pp -> F hh = .ok (.int n) hh) : Dn F p h h ps ps 0 n :=
 ⟨eq h ps S g (List.prefix_refl _), Dd.refl S g, fun h3 ps3 S3 g3 p3 => eq h3 ps3 S3 g3 p3⟩
theorem ya0 {ps ps' : List Pc} (h : ps <+: ps') {i : Nat} {q : Pc} (e : ps[i]? = some q) : ps'[i]? = some q := by
 obtain ⟨r, rfl⟩ := h
 rw [List.getElem?_append_left (List.getElem?_eq_some_iff.mp e).1]; exact e
theorem ze4 {h : AH} {p : Nat} {ps : List Pc} {x : Str} (S : ShelfAt h p ps) (g : Good ps) (hx : yba x = true) (hz : ps.length < 16000000) :
  ∃ (n : Nat) (ps' : List Pc) (h' : AH), Dn (yat [.ref p, .str x]) p h h' ps ps' 1 n /\ Tx ps' n (lfMs x n) x (lfMs x n) (lfMs x n) := by
 obtain ⟨s1, s2, s3⟩ := zbi hx
 have hs : x.length <= sizeLine := Nat.le_trans s2 (by decide)
 by_cases hq : Pc.leaf x ∈ ps
 ·obtain ⟨i, hi, e⟩ := List.getElem_of_mem hq
  have e' : ps[i]? = some (.leaf x) := by rw [List.getElem?_eq_getElem hi, e]
  exact ⟨i + 1, ps, h, ⟨za2 S g.nodup hx hs e', ⟨S, g, List.prefix_refl _, by lia, fun _ _ => rfl, rfl⟩, fun h2 ps2 S2 g2 p2 => za2 S2 g2.nodup hx hs (ya0 p2 e')⟩, zaU g e'⟩
 ·have g' : Good (ps ++ [.leaf x]) := .snoc g hq hx
  have e' : (ps ++ [Pc.leaf x])[ps.length]? = some (.leaf x) := by simp
  exact ⟨ps.length + 1, _, _, ⟨zcL S hx hs hq hz, ⟨zaT S, g', List.prefix_append _ _, by simp, fun i hi => zbx hi, zbf _ _ _⟩, fun h2 ps2 S2 g2 p2 => za2 S2 g2.nodup hx hs (ya0 p2 e')⟩, zaU g' e'⟩
theorem zaw {h : AH} {p : Nat} {ps : List Pc} {a b : Nat} {ma mb fa la fb lb : Ms} {x y : Str} (S : ShelfAt h p ps) (g : Good ps) (A : Tx ps a ma x fa la) (B : Tx ps b mb y fb lb) (hc : 8 < la.sg + fb.sg) (v1 : -1 <= ma.ht - mb.ht) (v2 : ma.ht - mb.ht <= 1) (hm : ma.sg + mb.sg <= 1000000000000000000) (hz : ps.length < 16000000) :
  ∃ (n : Nat) (ps' : List Pc) (h' : AH), Dn (yad [.ref p, .int a, .int b]) p h h' ps ps' 1 n /\ Tx ps' n (ycX ma mb) (x ++ y) fa lb := by
 have F : ForkOk ps a b := ⟨A.n1, B.n1, ma, mb, la, fb, A.ms, B.ms, A.ky.ll, B.ky.fl, hc, by lia, hm⟩
 by_cases hq : Pc.fork a b ∈ ps
 ·obtain ⟨i, hi, e⟩ := List.getElem_of_mem hq
  have e' : ps[i]? = some (.fork a b) := by rw [List.getElem?_eq_getElem hi, e]
  exact ⟨i + 1, ps, h, ⟨za3 S g.nodup F e', ⟨S, g, List.prefix_refl _, by lia, fun _ _ => rfl, rfl⟩, fun h2 ps2 S2 g2 p2 => za3 S2 g2.nodup (F.pre p2) (ya0 p2 e')⟩, zaV g e' A B⟩
 ·have g' : Good (ps ++ [.fork a b]) := .snoc g hq F
  have e' : (ps ++ [Pc.fork a b])[ps.length]? = some (.fork a b) := by simp
  have pr : ps <+: ps ++ [Pc.fork a b] := List.prefix_append _ _
  exact ⟨ps.length + 1, _, _, ⟨zcM S F hq hz, ⟨zaT S, g', pr, by simp, fun i hi => zbx hi, zbf _ _ _⟩, fun h2 ps2 S2 g2 p2 => za3 S2 g2.nodup (F.pre (pr.trans p2)) (ya0 p2 e')⟩, zaV g' e' (A.pre pr) (B.pre pr)⟩
theorem fmS (ma mb : Ms) : (ycX ma mb).sg = ma.sg + mb.sg := rfl
theorem fmH (ma mb : Ms) : (ycX ma mb).ht = max ma.ht mb.ht + 1 := rfl
theorem i1 (s : Str) (a b : Int) (h : AH) : fIx (.tup [.str s, .int a, .int b]) (.int 1) h = .ok (.int a) h := rfl
theorem i2 (s : Str) (a b : Int) (h : AH) : fIx (.tup [.str s, .int a, .int b]) (.int 2) h = .ok (.int b) h := rfl
theorem zaB {h : AH} {p : Nat} {ps : List Pc} {n a b : Nat} (S : ShelfAt h p ps) (n1 : 1 <= n) (e : ps[n - 1]? = some (.fork a b)) : yau [.ref p, .int n] h = .ok (.tup [.str "fork", .int a, .int b]) h := zbb S n1 e
theorem tl_1 {h : AH} {p : Nat} {ps : List Pc} {a b : Nat} {ma mb : Ms} (S : ShelfAt h p ps) (ea : (meas ps)[a]? = some ma) (eb : (meas ps)[b]? = some mb) (hd : mb.ht - ma.ht < 2) :
  yaH [.ref p, .int a, .int b] h = yad [.ref p, .int a, .int b] h := by
 have f1 := zad S ea
 have f2 := zad S eb
 generalize hF : yad [.ref p, .int a, .int b] h = R
 simp [yaH, S.ob, f1, f2, hd, hF]
 cases R <;> rfl
theorem tl_2 {h : AH} {p : Nat} {ps : List Pc} {a b c d : Nat} {ma mb mc md : Ms} (S : ShelfAt h p ps) (b1 : 1 <= b) (ea : (meas ps)[a]? = some ma) (eb : (meas ps)[b]? = some mb) (e : ps[b - 1]? = some (.fork c d)) (ec : (meas ps)[c]? = some mc) (ed : (meas ps)[d]? = some md) (hd : ¬ mb.ht - ma.ht < 2) (hh : mc.ht <= md.ht) :
  yaH [.ref p, .int a, .int b] h = (yad [.ref p, .int a, .int c] h).bind fun v h1 => yad [.ref p, v, .int d] h1 := by
 have f1 := zad S ea
 have f2 := zad S eb
 have f3 := zaB S b1 e
 have f4 := zad S ec
 have f5 := zad S ed
 generalize hF : yad [.ref p, .int a, .int c] h = R
 simp [yaH, S.ob, f1, f2, hd, f3, i1, i2, f4, f5, hh, hF, -fIx]
 cases R with
 | ok v h1 => dsimp only; cases yad [.ref p, v, .int d] h1 <;> rfl
 | ex c h1 => rfl
 | bad => rfl
def onSh (p : Nat) (F : AH -> Out AV) (h : AH) : Out AV := match h[p]? with
 | some (.ins c' _) => if c' = 0 then F h else .bad
 | _ => .bad
theorem ze5 {h : AH} {p : Nat} {ps : List Pc} (S : ShelfAt h p ps) (F : AH -> Out AV) : onSh p F h = F h := by simp [onSh, S.ob]
theorem tl_3 {h : AH} {p : Nat} {ps : List Pc} {a b c d i j : Nat} {ma mb mc md : Ms} (S : ShelfAt h p ps) (b1 : 1 <= b) (c1 : 1 <= c) (ea : (meas ps)[a]? = some ma) (eb : (meas ps)[b]? = some mb) (e : ps[b - 1]? = some (.fork c d)) (ec : (meas ps)[c]? = some mc) (ed : (meas ps)[d]? = some md) (e2 : ps[c - 1]? = some (.fork i j)) (hd : ¬ mb.ht - ma.ht < 2) (hh : ¬ mc.ht <= md.ht) :
  yaH [.ref p, .int a, .int b] h = (yad [.ref p, .int a, .int i] h).bind fun v h1 => (onSh p (yad [.ref p, .int j, .int d]) h1).bind fun w h2 => yad [.ref p, v, w] h2 := by
 have f1 := zad S ea
 have f2 := zad S eb
 have f3 := zaB S b1 e
 have f4 := zad S ec
 have f5 := zad S ed
 have f6 := zaB S c1 e2
 generalize hF : yad [.ref p, .int a, .int i] h = R
 simp [yaH, S.ob, f1, f2, hd, f3, i1, i2, f4, f5, hh, f6, hF, -fIx]
 cases R with
 | ok v h1 =>
  unfold onSh
  dsimp only
  cases hx : h1[p]? with
  | none => rfl
  | some o =>
   cases o with
   | lst l => rfl
   | dct q l => rfl
   | ins c' l =>
    dsimp only
    by_cases z : c' = 0
    ·rw [if_pos z]
     cases yad [.ref p, .int j, .int d] h1 with
     | ok w h2 => dsimp only; cases yad [.ref p, v, w] h2 <;> rfl
     | ex c h2 => rfl
     | bad => rfl
    ·rw [if_neg z]
 | ex c h1 => rfl
 | bad => rfl
theorem tlh1 {a b m : Int} (h1 : -1 <= b - a) (h2 : b - a < 2) (e : m = max a b + 1) : max a b <= m /\ m <= max a b + 1 /\ (b - a <= 1 -> m = max a b + 1) := by lia
theorem ze6 {h : AH} {p : Nat} {ps : List Pc} {a b : Nat} {ma mb fa la fb lb : Ms} {x y : Str} (S : ShelfAt h p ps) (g : Good ps) (A : Tx ps a ma x fa la) (B : Tx ps b mb y fb lb) (hc : 8 < la.sg + fb.sg) (v1 : -1 <= mb.ht - ma.ht) (v2 : mb.ht - ma.ht <= 2) (hm : ma.sg + mb.sg <= 1000000000000000000) (hz : ps.length + 3 < 16000000) :
  ∃ (n : Nat) (ps' : List Pc) (h' : AH) (m : Ms), Dn (yaH [.ref p, .int a, .int b]) p h h' ps ps' 3 n /\ Tx ps' n m (x ++ y) fa lb /\ max ma.ht mb.ht <= m.ht /\ m.ht <= max ma.ht mb.ht + 1 /\ (mb.ht - ma.ht <= 1 -> m.ht = max ma.ht mb.ht + 1) := by
 by_cases q : mb.ht - ma.ht < 2
 ·obtain ⟨n, ps', h', d, T⟩ := zaw S g A B hc (by lia) (by lia) hm (by lia)
  exact ⟨n, ps', h', _, d.as S g (fun hh pp S' _ pr => tl_1 S' (zac pr A.ms) (zac pr B.ms) q) (by lia), T, tlh1 v1 q (fmH ma mb)⟩
 ·obtain ⟨c, d, mc, md, y1, y2, lc, fd, e, C, D, rfl, em, w1, w2, w3⟩ := g.cut B (by have := A.ky.ht; lia)
  have sg := congrArg Ms.sg em
  have ht := congrArg Ms.ht em
  rw [fmS] at sg
  rw [fmH] at ht
  by_cases r : mc.ht <= md.ht
  ·obtain ⟨n1, ps1, h1, d1, T1⟩ := zaw S g A C hc (by lia) (by lia) (by lia) (by lia)
   obtain ⟨n2, ps2, h2, d2, T2⟩ := zaw d1.dd.sh d1.dd.gd T1 (D.pre d1.dd.pre) w3 (by rw [fmH]; lia) (by rw [fmH]; lia) (by rw [fmS]; lia) (by have := d1.dd.len; lia)
   rw [zaj] at T2
   refine ⟨n2, ps2, h2, _, Dn.seq S g d1 d2 (fun hh pp S' _ pr => tl_2 S' B.n1 (zac pr A.ms) (zac pr B.ms) (ya0 pr e) (zac pr C.ms) (zac pr D.ms) q r) (by lia), T2, ?_⟩
   rw [fmH, fmH]; lia
  ·obtain ⟨i, j, mi, mj, z1, z2, li, fj, e2, I, J, rfl, em2, u1, u2, u3⟩ := g.cut C (by have := D.ky.ht; lia)
   have sg2 := congrArg Ms.sg em2
   have ht2 := congrArg Ms.ht em2
   rw [fmS] at sg2
   rw [fmH] at ht2
   obtain ⟨n1, ps1, h1, d1, T1⟩ := zaw S g A I hc (by lia) (by lia) (by lia) (by lia)
   obtain ⟨n2, ps2, h2, d2, T2⟩ := zaw d1.dd.sh d1.dd.gd (J.pre d1.dd.pre) (D.pre d1.dd.pre) w3 (by lia) (by lia) (by lia) (by have := d1.dd.len; lia)
   obtain ⟨n3, ps3, h3, d3, T3⟩ := zaw d2.dd.sh d2.dd.gd (T1.pre d2.dd.pre) T2 u3 (by rw [fmH, fmH]; lia) (by rw [fmH, fmH]; lia) (by rw [fmS, fmS]; lia) (by have := d1.dd.len; have := d2.dd.len; lia)
   have d2' : Dn (onSh p (yad [.ref p, .int j, .int d])) p h1 h2 ps1 ps2 1 n2 := d2.as d1.dd.sh d1.dd.gd (fun hh pp S' _ _ => ze5 S' _) (Nat.le_refl _)
   have d23 := Dn.seq (F := fun h1 => (onSh p (yad [.ref p, .int j, .int d]) h1).bind fun w h2 => yad [.ref p, .int n1, w] h2) (F2 := fun w h2 => yad [.ref p, .int n1, w] h2) d1.dd.sh d1.dd.gd d2' d3 (fun _ _ _ _ _ => rfl) (k := 2) (by lia)
   have ea : (x ++ z1) ++ (z2 ++ y2) = x ++ (z1 ++ z2 ++ y2) := by rw [zaj, zaj]
   rw [ea] at T3
   refine ⟨n3, ps3, h3, _, Dn.seq (F2 := fun v h1 => (onSh p (yad [.ref p, .int j, .int d]) h1).bind fun w h2 => yad [.ref p, v, w] h2) S g d1 d23 (fun hh pp S' _ pr => tl_3 S' B.n1 C.n1 (zac pr A.ms) (zac pr B.ms) (ya0 pr e) (zac pr C.ms) (zac pr D.ms) (ya0 pr e2) q r) (by lia), T3, ?_⟩
   rw [fmH, fmH, fmH]; lia
theorem tr_1 {h : AH} {p : Nat} {ps : List Pc} {a b : Nat} {ma mb : Ms} (S : ShelfAt h p ps) (ea : (meas ps)[a]? = some ma) (eb : (meas ps)[b]? = some mb) (hd : ma.ht - mb.ht < 2) :
  yaP [.ref p, .int a, .int b] h = yad [.ref p, .int a, .int b] h := by
 have f1 := zad S ea
 have f2 := zad S eb
 generalize hF : yad [.ref p, .int a, .int b] h = R
 simp [yaP, S.ob, f1, f2, hd, hF]
 cases R <;> rfl
theorem tr_2 {h : AH} {p : Nat} {ps : List Pc} {a b c d : Nat} {ma mb mc md : Ms} (S : ShelfAt h p ps) (a1 : 1 <= a) (ea : (meas ps)[a]? = some ma) (eb : (meas ps)[b]? = some mb) (e : ps[a - 1]? = some (.fork c d)) (ec : (meas ps)[c]? = some mc) (ed : (meas ps)[d]? = some md) (hd : ¬ ma.ht - mb.ht < 2) (hh : md.ht <= mc.ht) :
  yaP [.ref p, .int a, .int b] h = (yad [.ref p, .int d, .int b] h).bind fun v h1 => yad [.ref p, .int c, v] h1 := by
 have f1 := zad S ea
 have f2 := zad S eb
 have f3 := zaB S a1 e
 have f4 := zad S ec
 have f5 := zad S ed
 generalize hF : yad [.ref p, .int d, .int b] h = R
 simp [yaP, S.ob, f1, f2, hd, f3, i1, i2, f4, f5, hh, hF, -fIx]
 cases R with
 | ok v h1 => dsimp only; cases yad [.ref p, .int c, v] h1 <;> rfl
 | ex c h1 => rfl
 | bad => rfl
theorem tr_3 {h : AH} {p : Nat} {ps : List Pc} {a b c d i j : Nat} {ma mb mc md : Ms} (S : ShelfAt h p ps) (a1 : 1 <= a) (d1 : 1 <= d) (ea : (meas ps)[a]? = some ma) (eb : (meas ps)[b]? = some mb) (e : ps[a - 1]? = some (.fork c d)) (ec : (meas ps)[c]? = some mc) (ed : (meas ps)[d]? = some md) (e2 : ps[d - 1]? = some (.fork i j)) (hd : ¬ ma.ht - mb.ht < 2) (hh : ¬ md.ht <= mc.ht) :
  yaP [.ref p, .int a, .int b] h = (yad [.ref p, .int c, .int i] h).bind fun v h1 => (onSh p (yad [.ref p, .int j, .int b]) h1).bind fun w h2 => yad [.ref p, v, w] h2 := by
 have f1 := zad S ea
 have f2 := zad S eb
 have f3 := zaB S a1 e
 have f4 := zad S ec
 have f5 := zad S ed
 have f6 := zaB S d1 e2
 generalize hF : yad [.ref p, .int c, .int i] h = R
 simp [yaP, S.ob, f1, f2, hd, f3, i1, i2, f4, f5, hh, f6, hF, -fIx]
 cases R with
 | ok v h1 =>
  unfold onSh
  dsimp only
  cases hx : h1[p]? with
  | none => rfl
  | some o =>
   cases o with
   | lst l => rfl
   | dct q l => rfl
   | ins c' l =>
    dsimp only
    by_cases z : c' = 0
    ·rw [if_pos z]
     cases yad [.ref p, .int j, .int b] h1 with
     | ok w h2 => dsimp only; cases yad [.ref p, v, w] h2 <;> rfl
     | ex c h2 => rfl
     | bad => rfl
    ·rw [if_neg z]
 | ex c h1 => rfl
 | bad => rfl
theorem zhh {h : AH} {p : Nat} {ps : List Pc} {a b : Nat} {ma mb fa la fb lb : Ms} {x y : Str} (S : ShelfAt h p ps) (g : Good ps) (A : Tx ps a ma x fa la) (B : Tx ps b mb y fb lb) (hc : 8 < la.sg + fb.sg) (v1 : -1 <= ma.ht - mb.ht) (v2 : ma.ht - mb.ht <= 2) (hm : ma.sg + mb.sg <= 1000000000000000000) (hz : ps.length + 3 < 16000000) :
  ∃ (n : Nat) (ps' : List Pc) (h' : AH) (m : Ms), Dn (yaP [.ref p, .int a, .int b]) p h h' ps ps' 3 n /\ Tx ps' n m (x ++ y) fa lb /\ max ma.ht mb.ht <= m.ht /\ m.ht <= max ma.ht mb.ht + 1 /\ (ma.ht - mb.ht <= 1 -> m.ht = max ma.ht mb.ht + 1) := by
 by_cases q : ma.ht - mb.ht < 2
 ·obtain ⟨n, ps', h', d, T⟩ := zaw S g A B hc (by lia) (by lia) hm (by lia)
  refine ⟨n, ps', h', _, d.as S g (fun hh pp S' _ pr => tr_1 S' (zac pr A.ms) (zac pr B.ms) q) (by lia), T, ?_⟩
  rw [fmH]; lia
 ·obtain ⟨c, d, mc, md, y1, y2, lc, fd, e, C, D, rfl, em, w1, w2, w3⟩ := g.cut A (by have := B.ky.ht; lia)
  have sg := congrArg Ms.sg em
  have ht := congrArg Ms.ht em
  rw [fmS] at sg
  rw [fmH] at ht
  by_cases r : md.ht <= mc.ht
  ·obtain ⟨n1, ps1, h1, d1, T1⟩ := zaw S g D B hc (by lia) (by lia) (by lia) (by lia)
   obtain ⟨n2, ps2, h2, d2, T2⟩ := zaw d1.dd.sh d1.dd.gd (C.pre d1.dd.pre) T1 w3 (by rw [fmH]; lia) (by rw [fmH]; lia) (by rw [fmS]; lia) (by have := d1.dd.len; lia)
   rw [<- zaj] at T2
   refine ⟨n2, ps2, h2, _, Dn.seq (F2 := fun v h1 => yad [.ref p, .int c, v] h1) S g d1 d2 (fun hh pp S' _ pr => tr_2 S' A.n1 (zac pr A.ms) (zac pr B.ms) (ya0 pr e) (zac pr C.ms) (zac pr D.ms) q r) (by lia), T2, ?_⟩
   rw [fmH, fmH]; lia
  ·obtain ⟨i, j, mi, mj, z1, z2, li, fj, e2, I, J, rfl, em2, u1, u2, u3⟩ := g.cut D (by have := C.ky.ht; lia)
   have sg2 := congrArg Ms.sg em2
   have ht2 := congrArg Ms.ht em2
   rw [fmS] at sg2
   rw [fmH] at ht2
   obtain ⟨n1, ps1, h1, d1, T1⟩ := zaw S g C I w3 (by lia) (by lia) (by lia) (by lia)
   obtain ⟨n2, ps2, h2, d2, T2⟩ := zaw d1.dd.sh d1.dd.gd (J.pre d1.dd.pre) (B.pre d1.dd.pre) hc (by lia) (by lia) (by lia) (by have := d1.dd.len; lia)
   obtain ⟨n3, ps3, h3, d3, T3⟩ := zaw d2.dd.sh d2.dd.gd (T1.pre d2.dd.pre) T2 u3 (by rw [fmH, fmH]; lia) (by rw [fmH, fmH]; lia) (by rw [fmS, fmS]; lia) (by have := d1.dd.len; have := d2.dd.len; lia)
   have d2' : Dn (onSh p (yad [.ref p, .int j, .int b])) p h1 h2 ps1 ps2 1 n2 := d2.as d1.dd.sh d1.dd.gd (fun hh pp S' _ _ => ze5 S' _) (Nat.le_refl _)
   have d23 := Dn.seq (F := fun h1 => (onSh p (yad [.ref p, .int j, .int b]) h1).bind fun w h2 => yad [.ref p, .int n1, w] h2) (F2 := fun w h2 => yad [.ref p, .int n1, w] h2) d1.dd.sh d1.dd.gd d2' d3 (fun _ _ _ _ _ => rfl) (k := 2) (by lia)
   have ea : (y1 ++ z1) ++ (z2 ++ y) = y1 ++ (z1 ++ z2) ++ y := by rw [zaj, zaj, zaj]
   rw [ea] at T3
   refine ⟨n3, ps3, h3, _, Dn.seq (F2 := fun v h1 => (onSh p (yad [.ref p, .int j, .int b]) h1).bind fun w h2 => yad [.ref p, v, w] h2) S g d1 d23 (fun hh pp S' _ pr => tr_3 S' A.n1 D.n1 (zac pr A.ms) (zac pr B.ms) (ya0 pr e) (zac pr C.ms) (zac pr D.ms) (ya0 pr e2) q r) (by lia), T3, ?_⟩
   rw [fmH, fmH, fmH]; lia
end Sk
namespace Sk
open PySem PySem.Spec L2 Sm
theorem Dn.seq' {F F1 F2 : AH -> Out AV} {p : Nat} {h h1 h2 : AH} {ps ps1 ps2 : List Pc} {k1 k2 k n1 n2 : Nat} (S : ShelfAt h p ps) (g : Good ps) (d1 : Dn F1 p h h1 ps ps1 k1 n1) (d2 : Dn F2 p h1 h2 ps1 ps2 k2 n2)
  (eq : ∀ hh hh1 pp, ShelfAt hh p pp -> Good pp -> ps <+: pp -> F1 hh = .ok (.int n1) hh1 -> F hh = F2 hh1) (hk : k1 + k2 <= k) : Dn F p h h2 ps ps2 k n2 := by
 refine ⟨?_, d1.dd.trans d2.dd hk, fun h3 ps3 S3 g3 p3 => ?_⟩
 ·rw [eq h h1 ps S g (List.prefix_refl _) d1.ev]; exact d2.ev
 ·rw [eq h3 h3 ps3 S3 g3 (d1.dd.pre.trans (d2.dd.pre.trans p3)) (d1.re h3 ps3 S3 g3 (d2.dd.pre.trans p3))]
  exact d2.re h3 ps3 S3 g3 p3
theorem lk_1 {h : AH} {p : Nat} {ps : List Pc} {a b d : Nat} {ma mb : Ms} (S : ShelfAt h p ps) (ea : (meas ps)[a]? = some ma) (eb : (meas ps)[b]? = some mb) (h1 : ma.ht - mb.ht <= 1) (h2 : -1 <= ma.ht - mb.ht) :
  yaV (d + 1) [.ref p, .int a, .int b] h = yad [.ref p, .int a, .int b] h := by
 have f1 := zad S ea
 have f2 := zad S eb
 have c1 : ¬ 1 < ma.ht - mb.ht := by lia
 have c2 : ¬ ma.ht - mb.ht < -1 := by lia
 generalize hF : yad [.ref p, .int a, .int b] h = R
 simp [yaV, ydq, S.ob, f1, f2, c1, c2, hF]
 cases R <;> rfl
theorem lk_2 {h h1 : AH} {p : Nat} {ps : List Pc} {a b c e d : Nat} {v : Int} {ma mb : Ms} (S : ShelfAt h p ps) (a1 : 1 <= a) (ea : (meas ps)[a]? = some ma) (eb : (meas ps)[b]? = some mb) (ep : ps[a - 1]? = some (.fork c e)) (hd : 1 < ma.ht - mb.ht) (ev : yaV d [.ref p, .int e, .int b] h = .ok (.int v) h1) :
  yaV (d + 1) [.ref p, .int a, .int b] h = yaH [.ref p, .int c, .int v] h1 := by
 have f1 := zad S ea
 have f2 := zad S eb
 have f3 := zaB S a1 ep
 generalize hF : yaH [.ref p, .int c, .int v] h1 = R
 simp [yaV, ydq, S.ob, f1, f2, hd, f3, i1, i2, ev, hF, -fIx]
 cases R <;> rfl
theorem lk_3 {h h1 : AH} {p : Nat} {ps : List Pc} {a b c e d : Nat} {v : Int} {ma mb : Ms} (S : ShelfAt h p ps) (b1 : 1 <= b) (ea : (meas ps)[a]? = some ma) (eb : (meas ps)[b]? = some mb) (ep : ps[b - 1]? = some (.fork c e)) (hd : ma.ht - mb.ht < -1) (ev : yaV d [.ref p, .int a, .int c] h = .ok (.int v) h1) :
  yaV (d + 1) [.ref p, .int a, .int b] h = yaP [.ref p, .int v, .int e] h1 := by
 have f1 := zad S ea
 have f2 := zad S eb
 have f3 := zaB S b1 ep
 have c1 : ¬ 1 < ma.ht - mb.ht := by lia
 generalize hF : yaP [.ref p, .int v, .int e] h1 = R
 simp [yaV, ydq, S.ob, f1, f2, c1, hd, f3, i1, i2, ev, hF, -fIx]
 cases R <;> rfl
theorem zbA {p : Nat} : ∀ (d t : Nat) {h : AH} {ps : List Pc} {a b : Nat} {ma mb fa la fb lb : Ms} {x y : Str} (S : ShelfAt h p ps) (g : Good ps) (A : Tx ps a ma x fa la) (B : Tx ps b mb y fb lb) (hc : 8 < la.sg + fb.sg) (hm : ma.sg + mb.sg <= 1000000000000000000)
  (ht : (ma.ht - mb.ht).natAbs <= t) (hd : t < d) (hz : ps.length + 3 * t + 4 < 16000000),
  ∃ (n : Nat) (ps' : List Pc) (h' : AH) (m : Ms), Dn (yaV d [.ref p, .int a, .int b]) p h h' ps ps' (3 * t + 1) n /\ Tx ps' n m (x ++ y) fa lb /\ max ma.ht mb.ht <= m.ht /\ m.ht <= max ma.ht mb.ht + 1
 | 0, t, h, ps, a, b, ma, mb, fa, la, fb, lb, x, y, S, g, A, B, hc, hm, ht, hd, hz => absurd hd (Nat.not_lt_zero t)
 | d + 1, t, h, ps, a, b, ma, mb, fa, la, fb, lb, x, y, S, g, A, B, hc, hm, ht, hd, hz => by
  by_cases q1 : 1 < ma.ht - mb.ht
  ·obtain ⟨c, e, mc, me, y1, y2, lc, fe, ep, C, E, rfl, em, w1, w2, w3⟩ := g.cut A (by have := B.ky.ht; lia)
   have sg := congrArg Ms.sg em
   have hh := congrArg Ms.ht em
   rw [fmS] at sg
   rw [fmH] at hh
   obtain ⟨n1, ps1, h1, m1, d1, T1, u1, u2⟩ := zbA d (t - 1) S g E B hc (by lia) (by lia) (by lia) (by lia)
   have s1 : m1.sg = me.sg + mb.sg := by rw [T1.ky.sg, zaq, <- E.ky.sg, <- B.ky.sg]
   obtain ⟨n2, ps2, h2, m2, d2, T2, u3, u4, u5⟩ := ze6 d1.dd.sh d1.dd.gd (C.pre d1.dd.pre) T1 w3 (by lia) (by lia) (by lia) (by have := d1.dd.len; lia)
   rw [<- zaj] at T2
   exact ⟨n2, ps2, h2, m2, Dn.seq' S g d1 d2 (fun hh hh1 pp S' _ pr ev => lk_2 S' A.n1 (zac pr A.ms) (zac pr B.ms) (ya0 pr ep) q1 ev) (by lia), T2, by lia, by lia⟩
  ·by_cases q2 : ma.ht - mb.ht < -1
   ·obtain ⟨c, e, mc, me, y1, y2, lc, fe, ep, C, E, rfl, em, w1, w2, w3⟩ := g.cut B (by have := A.ky.ht; lia)
    have sg := congrArg Ms.sg em
    have hh := congrArg Ms.ht em
    rw [fmS] at sg
    rw [fmH] at hh
    obtain ⟨n1, ps1, h1, m1, d1, T1, u1, u2⟩ := zbA d (t - 1) S g A C hc (by lia) (by lia) (by lia) (by lia)
    have s1 : m1.sg = ma.sg + mc.sg := by rw [T1.ky.sg, zaq, <- A.ky.sg, <- C.ky.sg]
    obtain ⟨n2, ps2, h2, m2, d2, T2, u3, u4, u5⟩ := zhh d1.dd.sh d1.dd.gd T1 (E.pre d1.dd.pre) w3 (by lia) (by lia) (by lia) (by have := d1.dd.len; lia)
    rw [zaj] at T2
    exact ⟨n2, ps2, h2, m2, Dn.seq' S g d1 d2 (fun hh hh1 pp S' _ pr ev => lk_3 S' B.n1 (zac pr A.ms) (zac pr B.ms) (ya0 pr ep) q2 ev) (by lia), T2, by lia, by lia⟩
   ·obtain ⟨n, ps', h', dn, T⟩ := zaw S g A B hc (by lia) (by lia) hm (by lia)
    exact ⟨n, ps', h', _, dn.as S g (fun hh pp S' _ pr => lk_1 S' (zac pr A.ms) (zac pr B.ms) (by lia) (by lia)) (by lia), T, by rw [fmH]; lia, by rw [fmH]; lia⟩
theorem zbp {h : AH} {p : Nat} {ps : List Pc} {n : Nat} {x : Str} (S : ShelfAt h p ps) (n1 : 1 <= n) (e : ps[n - 1]? = some (.leaf x)) : yau [.ref p, .int n] h = .ok (.tup [.str "leaf", .str x]) h := zbb S n1 e
theorem i0L (x : Str) (h : AH) : fIx (.tup [.str "leaf", .str x]) (.int 0) h = .ok (.str "leaf") h := rfl
theorem i0F (a b : Int) (h : AH) : fIx (.tup [.str "fork", .int a, .int b]) (.int 0) h = .ok (.str "fork") h := rfl
theorem i1L (x : Str) (h : AH) : fIx (.tup [.str "leaf", .str x]) (.int 1) h = .ok (.str x) h := rfl
theorem eqL (h : AH) : fEq (.str "leaf") (.str "leaf") h = .ok (.bl true) h := by simp
theorem eqF (h : AH) : fEq (.str "fork") (.str "leaf") h = .ok (.bl false) h := by
 have : ¬ (Str.ofString "fork" = Str.ofString "leaf") := by decide +kernel
 simp [this]
theorem wl_1 {h : AH} {p : Nat} {ps : List Pc} {a d : Nat} {L : Int} {x : Str} (S : ShelfAt h p ps) (a1 : 1 <= a) (ep : ps[a - 1]? = some (.leaf x)) : yaX (d + 1) [.ref p, .int a, .int L] h = .ok (.int L) h := by
 simp [yaX, yc6, S.ob, zbp S a1 ep, i0L, eqL, -fIx, -fEq]
theorem wl_2 {h h1 : AH} {p : Nat} {ps : List Pc} {a d c e : Nat} {L v : Int} (S : ShelfAt h p ps) (a1 : 1 <= a) (ep : ps[a - 1]? = some (.fork c e)) (ev : yaX d [.ref p, .int e, .int L] h = .ok (.int v) h1) :
  yaX (d + 1) [.ref p, .int a, .int L] h = yad [.ref p, .int c, .int v] h1 := by
 generalize hF : yad [.ref p, .int c, .int v] h1 = R
 simp [yaX, yc6, S.ob, zaB S a1 ep, i0F, i1, i2, eqF, ev, hF, -fIx, -fEq]
 cases R <;> rfl
theorem zbq {ps : List Pc} {n : Nat} {m : Ms} {x : Str} {f l : Ms} (T : Tx ps n m x f l) (e : m = lfMs x n) : f = m /\ l = m := by
 have h1 := T.ky.fl
 have h2 := T.ky.ll
 have h3 := T.ms
 rw [e] at h1 h2
 exact ⟨Option.some.inj (h1.symm.trans h3), Option.some.inj (h2.symm.trans h3)⟩
theorem ze7 {p : Nat} : ∀ (d : Nat) {h : AH} {ps : List Pc} {a L : Nat} {m f l : Ms} {x w : Str} (S : ShelfAt h p ps) (g : Good ps) (T : Tx ps a m x f l) (N : Tx ps L (lfMs w L) w (lfMs w L) (lfMs w L)) (hw : l.sg <= w.length) (hm : m.sg + w.length <= 1000000000000000000 + l.sg) (hd : m.ht.toNat < d) (hz : ps.length + m.ht.toNat < 16000000),
  ∃ (n : Nat) (ps' : List Pc) (h' : AH) (m' f' : Ms) (u v : Str), Dn (yaX d [.ref p, .int a, .int L]) p h h' ps ps' m.ht.toNat n /\ x = u ++ v /\ v.length = l.sg /\ Tx ps' n m' (u ++ w) f' (lfMs w L) /\ m'.ht = m.ht /\ f.sg <= f'.sg
 | 0, h, ps, a, L, m, f, l, x, w, S, g, T, N, hw, hm, hd, hz => absurd hd (Nat.not_lt_zero _)
 | d + 1, h, ps, a, L, m, f, l, x, w, S, g, T, N, hw, hm, hd, hz => by
  by_cases q : 0 < m.ht
  ·obtain ⟨c, e, mc, me, y1, y2, lc, fe, ep, C, E, rfl, em, w1, w2, w3⟩ := g.cut T q
   have sg := congrArg Ms.sg em
   have hh := congrArg Ms.ht em
   rw [fmS] at sg
   rw [fmH] at hh
   have c0 := C.ky.ht
   have e0 := E.ky.ht
   obtain ⟨n1, ps1, h1, m1, f1, u, v, d1, rfl, lv, T1, k1, k2⟩ := ze7 d S g E N hw (by lia) (by lia) (by lia)
   have s1 : m1.sg + l.sg = me.sg + w.length := by rw [T1.ky.sg, E.ky.sg, zaq, zaq]; lia
   obtain ⟨n2, ps2, h2, d2, T2⟩ := zaw d1.dd.sh d1.dd.gd (C.pre d1.dd.pre) T1 (by lia) (by lia) (by lia) (by lia) (by have := d1.dd.len; lia)
   rw [<- zaj] at T2
   exact ⟨n2, ps2, h2, _, f, y1 ++ u, v, Dn.seq' S g d1 d2 (fun hh hh1 pp S' _ pr ev => wl_2 S' T.n1 (ya0 pr ep) ev) (by lia), by rw [zaj], lv, T2, by rw [fmH, k1, hh], Nat.le_refl _⟩
  ·rcases g.kind T with ⟨e1, e2, e3, e4, e5⟩ | ⟨c, e, mc, me, y1, y2, fc, lc, fe, le, e1, e2, e3, C, E, e4, e5, e6⟩
   ·obtain ⟨z1, z2⟩ := zbq T e3
    subst z1 z2
    have em : ("" : Str) ++ x = x := zay (by rw [zap]; rfl)
    have em2 : ("" : Str) ++ w = w := zay (by rw [zap]; rfl)
    have dv : Dn (yaX (d + 1) [.ref p, .int a, .int L]) p h h ps ps 0 L := Dn.val S g fun hh pp S' _ pr => wl_1 S' T.n1 (ya0 pr e1)
    refine ⟨L, ps, h, _, _, "", x, dv.as S g (fun _ _ _ _ _ => rfl) (Nat.zero_le _), em.symm, T.ky.sg.symm, by rw [em2]; exact N, e2.symm, hw⟩
   ·have := congrArg Ms.ht e5
    rw [fmH] at this
    have c0 := C.ky.ht
    lia
theorem wf_1 {h : AH} {p : Nat} {ps : List Pc} {a d : Nat} {x : Str} (S : ShelfAt h p ps) (a1 : 1 <= a) (ep : ps[a - 1]? = some (.leaf x)) : yav (d + 1) [.ref p, .int a] h = .ok (.int (0 : Nat)) h := by
 simp [yav, ybQ, S.ob, zbp S a1 ep, i0L, eqL, -fIx, -fEq]
theorem wf_2 {h h1 : AH} {p : Nat} {ps : List Pc} {a d c e : Nat} (S : ShelfAt h p ps) (a1 : 1 <= a) (ep : ps[a - 1]? = some (.fork c e)) (ev : yav d [.ref p, .int c] h = .ok (.int (0 : Nat)) h1) :
  yav (d + 1) [.ref p, .int a] h = .ok (.int e) h1 := by
 have z : fEq (.int 0) (.int 0) h1 = .ok (.bl true) h1 := by simp
 simp [yav, ybQ, S.ob, zaB S a1 ep, i0F, i1, i2, eqF, ev, z, -fIx, -fEq]
theorem wf_3 {h h1 : AH} {p : Nat} {ps : List Pc} {a d c e v : Nat} (S : ShelfAt h p ps) (a1 : 1 <= a) (ep : ps[a - 1]? = some (.fork c e)) (v1 : 1 <= v) (ev : yav d [.ref p, .int c] h = .ok (.int v) h1) :
  yav (d + 1) [.ref p, .int a] h = yaH [.ref p, .int v, .int e] h1 := by
 have z : fEq (.int (v : Int)) (.int 0) h1 = .ok (.bl false) h1 := by
  have : ¬ (v = 0) := by lia
  simp [this]
 generalize hF : yaH [.ref p, .int v, .int e] h1 = R
 simp [yav, ybQ, S.ob, zaB S a1 ep, i0F, i1, i2, eqF, ev, z, hF, -fIx, -fEq]
 cases R <;> rfl
end Sk
namespace Sk
open PySem PySem.Spec L2 Sm
theorem zdV {p : Nat} : ∀ (d : Nat) {h : AH} {ps : List Pc} {a : Nat} {m f l : Ms} {x : Str} (S : ShelfAt h p ps) (g : Good ps) (T : Tx ps a m x f l) (hd : m.ht.toNat < d) (hz : ps.length + 3 * m.ht.toNat < 16000000),
  (m.ht = 0 /\ f.sg = x.length /\ Dn (yav d [.ref p, .int a]) p h h ps ps 0 0) \/
  (0 < m.ht /\ ∃ (n : Nat) (ps' : List Pc) (h' : AH) (m' f2 : Ms) (u v : Str), Dn (yav d [.ref p, .int a]) p h h' ps ps' (3 * m.ht.toNat) n /\ x = u ++ v /\ u.length = f.sg /\ Tx ps' n m' v f2 l /\ m.ht - 1 <= m'.ht /\ m'.ht <= m.ht /\ 8 < f.sg + f2.sg)
 | 0, h, ps, a, m, f, l, x, S, g, T, hd, hz => absurd hd (Nat.not_lt_zero _)
 | d + 1, h, ps, a, m, f, l, x, S, g, T, hd, hz => by
  by_cases q : 0 < m.ht
  ·obtain ⟨c, e, mc, me, y1, y2, lc, fe, ep, C, E, rfl, em, w1, w2, w3⟩ := g.cut T q
   have sg := congrArg Ms.sg em
   have hh := congrArg Ms.ht em
   rw [fmS] at sg
   rw [fmH] at hh
   have c0 := C.ky.ht
   have e0 := E.ky.ht
   have most := T.ky.most
   refine .inr ⟨q, ?_⟩
   rcases zdV d S g C (by lia) (by lia) with ⟨k1, k2, d1⟩ | ⟨k1, n1, ps1, h1, m1, f2, u, v, d1, rfl, lu, T1, r1, r2, r3⟩
   ·rcases g.kind C with ⟨e1, e2, e3, e4, e5⟩ | ⟨_, _, mx, my, _, _, _, _, _, _, _, _, _, X, Y, _, e5, _⟩
    ·obtain ⟨z1, z2⟩ := zbq C e3
     have dv : Dn (yav (d + 1) [.ref p, .int a]) p h h ps ps 0 e := by
      refine ⟨wf_2 S T.n1 ep d1.ev, Dd.refl S g, fun h3 ps3 S3 g3 p3 => wf_2 S3 T.n1 (ya0 p3 ep) (d1.re h3 ps3 S3 g3 p3)⟩
     exact ⟨e, ps, h, me, fe, y1, y2, dv.as S g (fun _ _ _ _ _ => rfl) (Nat.zero_le _), rfl, k2.symm, E, by lia, by lia, by rw [z1]; rw [z2] at w3; exact w3⟩
    ·have := congrArg Ms.ht e5
     rw [fmH] at this
     have := X.ky.ht
     lia
   ·have s1 : m1.sg + f.sg = mc.sg := by rw [T1.ky.sg, C.ky.sg, zaq]; lia
    obtain ⟨n2, ps2, h2, m2, d2, T2, u3, u4, u5⟩ := ze6 d1.dd.sh d1.dd.gd T1 (E.pre d1.dd.pre) w3 (by lia) (by lia) (by lia) (by have := d1.dd.len; lia)
    refine ⟨n2, ps2, h2, m2, f2, u, v ++ y2, Dn.seq' S g d1 d2 (fun hh hh1 pp S' _ pr ev => wf_3 S' T.n1 (ya0 pr ep) T1.n1 ev) (by lia), by rw [zaj], lu, T2, ?_, ?_, r3⟩
    ·lia
    ·lia
  ·rcases g.kind T with ⟨e1, e2, e3, e4, e5⟩ | ⟨_, _, mx, my, _, _, _, _, _, _, _, _, _, X, Y, _, e5, _⟩
   ·obtain ⟨z1, z2⟩ := zbq T e3
    exact .inl ⟨e2, by rw [z1]; exact T.ky.sg, Dn.val S g fun hh pp S' _ pr => wf_1 S' T.n1 (ya0 pr e1)⟩
   ·have := congrArg Ms.ht e5
    rw [fmH] at this
    have := X.ky.ht
    lia
theorem Good.ends {ps : List Pc} (g : Good ps) : ∀ (k n : Nat) {m f l : Ms} {x : Str}, n <= k -> Tx ps n m x f l ->
  (∃ w u : Str, 1 <= m.fl /\ ps[m.fl - 1]? = some (.leaf w) /\ x = w ++ u /\ w.length = f.sg) /\ (∃ w u : Str, 1 <= m.ll /\ ps[m.ll - 1]? = some (.leaf w) /\ x = u ++ w /\ w.length = l.sg)
 | 0, n, m, f, l, x, hn, T => absurd T.n1 (by lia)
 | k + 1, n, m, f, l, x, hn, T => by
  rcases g.kind T with ⟨e1, e2, e3, e4, e5⟩ | ⟨a, b, ma, mb, y, z, fa, la, fb, lb, e1, e2, e3, A, B, rfl, e5, e6⟩
  ·obtain ⟨z1, z2⟩ := zbq T e3
   have em : ("" : Str) ++ x = x := zay (by rw [zap]; rfl)
   have em2 : x ++ ("" : Str) = x := zay (by rw [zap]; simp; rfl)
   have hf : m.fl = n := by rw [e3]; rfl
   have hl : m.ll = n := by rw [e3]; rfl
   have hx := T.ky.sg
   refine ⟨⟨x, "", by rw [hf]; exact T.n1, by rw [hf]; exact e1, em2.symm, by rw [z1]; exact hx.symm⟩, ⟨x, "", by rw [hl]; exact T.n1, by rw [hl]; exact e1, em.symm, by rw [z2]; exact hx.symm⟩⟩
  ·have q1 := g.ends k a (by lia) A
   have q2 := g.ends k b (by lia) B
   obtain ⟨⟨w, u, a1, a2, rfl, a4⟩, _⟩ := q1
   obtain ⟨_, ⟨w2, u2, b1, b2, rfl, b4⟩⟩ := q2
   have f1 := T.ky.fl
   have l1 := T.ky.ll
   have hf : m.fl = ma.fl := by rw [e5]; rfl
   have hl : m.ll = mb.ll := by rw [e5]; rfl
   rw [hf] at f1
   rw [hl] at l1
   have z5 := f1.symm.trans A.ky.fl; cases z5
   have z6 := l1.symm.trans B.ky.ll; cases z6
   rw [hf, hl]
   exact ⟨⟨w, u ++ (u2 ++ w2), a1, a2, by rw [zaj], a4⟩, ⟨w2, w ++ u ++ u2, b1, b2, by rw [zaj (w ++ u)], b4⟩⟩
theorem ze8 {a b c d : Str} (e : a ++ b = c ++ d) (h : a.length = c.length) : a = c /\ b = d := by
 have := congrArg (fun z : Str => z.cps.toList) e
 simp only [zap] at this
 obtain ⟨h1, h2⟩ := List.append_inj this (by rw [<- zaf, <- zaf]; exact h)
 exact ⟨zay h1, zay h2⟩
theorem zhi {a b c d : Str} (e : a ++ b = c ++ d) (h : b.length = d.length) : a = c /\ b = d := by
 refine ze8 e ?_
 have := congrArg Str.length e
 rw [zaq, zaq] at this
 lia
theorem zis {h : AH} {p : Nat} {ps : List Pc} {a b : Nat} {ma mb la fb : Ms} (S : ShelfAt h p ps) (ea : (meas ps)[a]? = some ma) (eb : (meas ps)[b]? = some mb) (el : (meas ps)[ma.ll]? = some la) (ef : (meas ps)[mb.fl]? = some fb) :
  ycB [.ref p, .int a, .int b] h = .ok (.bl (decide (8 < la.sg + fb.sg))) h := by
 have e1 := yfd S ea
 have e2 := ze2 S eb
 have e3 := zaH S el
 have e4 := zaH S ef
 have : decide ((8 : Int) < (la.sg : Int) + fb.sg) = decide (8 < la.sg + fb.sg) := by apply decide_eq_decide.mpr; lia
 simp [ycB, S.ob, e1, e2, e3, e4, this]
theorem zhj {w v : Str} (hw : w.length + v.length <= 100) (h : AH) : fAdd (.str w) (.str v) h = .ok (.str (w ++ v)) h := by
 have : w.length + v.length <= sizeLine := Nat.le_trans hw (by decide)
 simp [fAdd, this]
theorem wd_1 {h h1 h2 h3 : AH} {p : Nat} {ps : List Pc} {a b : Nat} {L n k : Int} {ma mb : Ms} {w v : Str} (S : ShelfAt h p ps) (ea : (meas ps)[a]? = some ma) (eb : (meas ps)[b]? = some mb) (l1 : 1 <= ma.ll) (f1 : 1 <= mb.fl) (el : ps[ma.ll - 1]? = some (.leaf w)) (ef : ps[mb.fl - 1]? = some (.leaf v)) (hw : w.length + v.length <= 100)
  (e1 : yat [.ref p, .str (w ++ v)] h = .ok (.int L) h1) (e2 : yaX 90 [.ref p, .int a, .int L] h1 = .ok (.int n) h2) (e3 : yav 90 [.ref p, .int b] h2 = .ok (.int k) h3) :
  ycc [.ref p, .int a, .int b] h = if k = 0 then .ok (.int n) h3 else yaV 90 [.ref p, .int n, .int k] h3 := by
 have q1 := yfd S ea
 have q2 := ze2 S eb
 have q3 := zbp S l1 el
 have q4 := zbp S f1 ef
 have ad := zhj hw h
 unfold ycc
 generalize yaX 90 = WL at *
 generalize yav 90 = WF at *
 generalize hF : yaV 90 = LK at *
 by_cases z : k = 0
 ·subst z
  have zz : fEq (.int 0) (.int 0) h3 = .ok (.bl true) h3 := by simp
  simp [S.ob, q1, q2, q3, q4, i1L, ad, e1, e2, e3, zz, -fIx, -fEq, -fAdd]
 ·have zz : fEq (.int k) (.int 0) h3 = .ok (.bl false) h3 := by simp [z]
  rw [if_neg z]
  generalize hR : LK [.ref p, .int n, .int k] h3 = R
  simp [S.ob, q1, q2, q3, q4, i1L, ad, e1, e2, e3, zz, hR, -fIx, -fEq, -fAdd]
  cases R <;> rfl
end Sk
namespace Sk
open PySem PySem.Spec L2 Sm
theorem zgs {w v : Str} (h1 : 1 <= w.length) (h2 : w.length + v.length <= 8) (pw : yaD w = true) (pv : yaD v = true) : yba (w ++ v) = true := by
 unfold yba
 rw [zaY, zaq, pw, pv]
 simp; lia
theorem zhk {h : AH} {p : Nat} {ps : List Pc} {a b : Nat} {ma mb fa la fb lb : Ms} {x y : Str} (S : ShelfAt h p ps) (g : Good ps) (A : Tx ps a ma x fa la) (B : Tx ps b mb y fb lb) (hc : ¬ 8 < la.sg + fb.sg) (hm : ma.sg + mb.sg <= 1000000000000000000) (hz : ps.length < 15000000) :
  ∃ (n : Nat) (ps' : List Pc) (h' : AH) (m f l : Ms), Dn (ycc [.ref p, .int a, .int b]) p h h' ps ps' (7 * (max ma.ht mb.ht).toNat + 2) n /\ Tx ps' n m (x ++ y) f l /\ m.ht <= max ma.ht mb.ht + 1 := by
 obtain ⟨_, w, u, l1, el, ex, lw⟩ := g.ends a a (Nat.le_refl _) A
 obtain ⟨⟨v, t, f1, ef, ey, lv⟩, _⟩ := g.ends b b (Nat.le_refl _) B
 have a0 := A.ky.ht
 have b0 := B.ky.ht
 have ha := ht82 g A
 have hb := ht82 g B
 have px : yaD x = true := A.ky.pl
 have py : yaD y = true := B.ky.pl
 have pw : yaD w = true := by rw [ex, zaY, Bool.and_eq_true] at px; exact px.2
 have pv : yaD v = true := by rw [ey, zaY, Bool.and_eq_true] at py; exact py.1
 have la1 := A.ky.l1
 have fb1 := B.ky.f1
 have sx := A.ky.sg
 have sy := B.ky.sg
 have lx : x.length = u.length + w.length := by rw [ex, zaq]
 have ly : y.length = v.length + t.length := by rw [ey, zaq]
 have lwv : (w ++ v).length = w.length + v.length := zaq w v
 obtain ⟨L, ps1, h1, d1, N⟩ := ze4 S g (zgs (w := w) (v := v) (by lia) (by lia) pw pv) (by lia)
 have z1 := d1.dd.len
 obtain ⟨n2, ps2, h2, m2, f2, u2, v2, d2, ex2, lv2, T2, k1, k2⟩ := ze7 90 d1.dd.sh d1.dd.gd (A.pre d1.dd.pre) N (by lia) (by lia) (by lia) (by lia)
 have z2 := d2.dd.len
 obtain ⟨rfl, rfl⟩ : u = u2 /\ w = v2 := zhi (ex.symm.trans ex2) (by lia)
 have s2 : m2.sg = u.length + (w.length + v.length) := by rw [T2.ky.sg, zaq, zaq]
 have p12 := d1.dd.pre.trans d2.dd.pre
 have lm : (lfMs (w ++ v) L).sg = w.length + v.length := zaq w v
 have tb : ∀ q : Int, 0 <= q -> q <= max ma.ht mb.ht -> q.toNat <= (max ma.ht mb.ht).toNat := fun q _ _ => by lia
 rcases zdV 90 d2.dd.sh d2.dd.gd (B.pre p12) (by lia) (by lia) with ⟨r1, r2, d3⟩ | ⟨r1, n3, ps3, h3, m3, f3, u3, v3, d3, ey3, lu3, T3, r2, r3, r4⟩
 ·have t0 : t.length = 0 := by lia
  have te : t = "" := zay (by rw [zaf] at t0; rw [List.length_eq_zero_iff.mp t0]; rfl)
  have rd : u ++ (w ++ v) = x ++ y := by
   rw [ex, ey, te, zaj]
   congr 2
  rw [rd] at T2
  refine ⟨n2, ps2, h2, m2, f2, _, ⟨?_, d1.dd.trans d2.dd (by lia), fun h4 ps4 S4 g4 p4 => ?_⟩, T2, by lia⟩
  ·rw [wd_1 S A.ms B.ms l1 f1 el ef (by lia) d1.ev d2.ev d3.ev]; rfl
  ·have q1 := d1.re h4 ps4 S4 g4 (d2.dd.pre.trans p4)
   have q2 := d2.re h4 ps4 S4 g4 p4
   have q3 := d3.re h4 ps4 S4 g4 p4
   rw [wd_1 S4 (zac (p12.trans p4) A.ms) (zac (p12.trans p4) B.ms) l1 f1 (ya0 (p12.trans p4) el) (ya0 (p12.trans p4) ef) (by lia) q1 q2 q3]; rfl
 ·obtain ⟨rfl, rfl⟩ : v = u3 /\ t = v3 := ze8 (ey.symm.trans ey3) (by lia)
  have z3 := d3.dd.len
  have s3 : m3.sg = t.length := T3.ky.sg
  have m30 := T3.ky.ht
  obtain ⟨n4, ps4, h4, m4, d4, T4, r5, r6⟩ := zbA 90 (max ma.ht mb.ht).toNat d3.dd.sh d3.dd.gd (T2.pre d3.dd.pre) T3 (by lia) (by lia) (by lia) (by lia) (by lia)
  have rd : (u ++ (w ++ v)) ++ t = x ++ y := by rw [ex, ey, zaj, zaj, zaj]
  rw [rd] at T4
  have n3z : ¬ (n3 : Int) = 0 := by have := T3.n1; lia
  have p123 := p12.trans d3.dd.pre
  refine ⟨n4, ps4, h4, m4, f2, lb, ⟨?_, ((d1.dd.trans d2.dd (Nat.le_refl _)).trans d3.dd (Nat.le_refl _)).trans d4.dd (by lia), fun h5 ps5 S5 g5 p5 => ?_⟩, T4, by lia⟩
  ·rw [wd_1 S A.ms B.ms l1 f1 el ef (by lia) d1.ev d2.ev d3.ev, if_neg n3z]; exact d4.ev
  ·have p45 := d4.dd.pre.trans p5
   have q1 := d1.re h5 ps5 S5 g5 (d2.dd.pre.trans (d3.dd.pre.trans p45))
   have q2 := d2.re h5 ps5 S5 g5 (d3.dd.pre.trans p45)
   have q3 := d3.re h5 ps5 S5 g5 p45
   have q4 := d4.re h5 ps5 S5 g5 p5
   have pa := p123.trans p45
   rw [wd_1 S5 (zac pa A.ms) (zac pa B.ms) l1 f1 (ya0 pa el) (ya0 pa ef) (by lia) q1 q2 q3, if_neg n3z]; exact q4
def TxZ (ps : List Pc) (n : Nat) (y : Str) : Prop := (n = 0 /\ y = "") \/ ∃ m f l, Tx ps n m y f l
theorem TxZ.pre {ps ps' : List Pc} {n : Nat} {y : Str} (t : TxZ ps n y) (h : ps <+: ps') : TxZ ps' n y := by
 rcases t with t | ⟨m, f, l, t⟩
 ·exact .inl t
 ·exact .inr ⟨m, f, l, t.pre h⟩
theorem zbj (ps : List Pc) : (meas ps)[0]? = some ms0 := by
 obtain ⟨r, e, _⟩ := za9 yck ps [ms0]
 rw [meas, e]; rfl
def htOf (ps : List Pc) (n : Nat) : Int := ((meas ps).getD n ms0).ht
theorem ydO {ps : List Pc} {n : Nat} {m : Ms} (e : (meas ps)[n]? = some m) : htOf ps n = m.ht := by unfold htOf; rw [zaZ e]
theorem ze9 (ps : List Pc) : htOf ps 0 = -1 := ydO (zbj ps)
theorem zbB {i : Int} (hi : i <= 1000000000000000000) (h : AH) : yb2 [.int i] h = .ok .non h := by
 have : ¬ (1000000000000000000 : Int) < i := by lia
 simp [yb2, this]
theorem jn_0 {h : AH} {p : Nat} {ps : List Pc} {b : Nat} {mb : Ms} (S : ShelfAt h p ps) (eb : (meas ps)[b]? = some mb) (hm : mb.sg <= 1000000000000000000) : ybv [.ref p, .int (0 : Nat), .int b] h = .ok (.int b) h := by
 have e1 := zaH S (zbj ps)
 have e2 := zaH S eb
 have z : ms0.sg = 0 := rfl
 rw [z] at e1
 have e1' : yaW [.ref p, .int 0] h = .ok (.int 0) h := e1
 have ck := zbB (i := (0 : Int) + mb.sg) (by lia) h
 have zz : fEq (.int 0) (.int 0) h = .ok (.bl true) h := by simp
 have ad : fAdd (.int 0) (.int mb.sg) h = .ok (.int (0 + mb.sg)) h := rfl
 simp [ybv, S.ob, e1', e2, ad, ck, zz, -fEq, -fAdd, -Int.zero_add]
theorem jn_1 {h : AH} {p : Nat} {ps : List Pc} {a : Nat} {ma : Ms} (S : ShelfAt h p ps) (a1 : 1 <= a) (ea : (meas ps)[a]? = some ma) (hm : ma.sg <= 1000000000000000000) : ybv [.ref p, .int a, .int (0 : Nat)] h = .ok (.int a) h := by
 have e1 := zaH S (zbj ps)
 have e2 := zaH S ea
 have z : ms0.sg = 0 := rfl
 rw [z] at e1
 have e1' : yaW [.ref p, .int 0] h = .ok (.int 0) h := e1
 have ck := zbB (i := (ma.sg : Int) + 0) (by lia) h
 have zz : fEq (.int 0) (.int 0) h = .ok (.bl true) h := by simp
 have z2 : fEq (.int a) (.int 0) h = .ok (.bl false) h := by
  have : ¬ a = 0 := by lia
  simp [this]
 have ad : fAdd (.int ma.sg) (.int 0) h = .ok (.int (ma.sg + 0)) h := rfl
 simp [ybv, S.ob, e1', e2, ad, ck, zz, z2, -fEq, -fAdd, -Int.add_zero]
theorem jn_2 {h : AH} {p : Nat} {ps : List Pc} {a b : Nat} {ma mb la fb : Ms} (S : ShelfAt h p ps) (a1 : 1 <= a) (b1 : 1 <= b) (ea : (meas ps)[a]? = some ma) (eb : (meas ps)[b]? = some mb) (el : (meas ps)[ma.ll]? = some la) (ef : (meas ps)[mb.fl]? = some fb) (hm : ma.sg + mb.sg <= 1000000000000000000) :
  ybv [.ref p, .int a, .int b] h = if 8 < la.sg + fb.sg then yaV 90 [.ref p, .int a, .int b] h else ycc [.ref p, .int a, .int b] h := by
 have e1 := zaH S ea
 have e2 := zaH S eb
 have cl := zis S ea eb el ef
 have ck := zbB (i := (ma.sg : Int) + mb.sg) (by lia) h
 have z1 : fEq (.int a) (.int 0) h = .ok (.bl false) h := by
  have : ¬ a = 0 := by lia
  simp [this]
 have z2 : fEq (.int b) (.int 0) h = .ok (.bl false) h := by
  have : ¬ b = 0 := by lia
  simp [this]
 have ad : fAdd (.int ma.sg) (.int mb.sg) h = .ok (.int (ma.sg + mb.sg)) h := rfl
 unfold ybv
 generalize yaV 90 = LK at *
 by_cases q : 8 < la.sg + fb.sg
 ·rw [if_pos q]
  generalize hR : LK [.ref p, .int a, .int b] h = R
  simp [S.ob, e1, e2, ad, ck, z1, z2, cl, q, hR, -fEq, -fAdd]
  cases R <;> rfl
 ·rw [if_neg q]
  generalize hR : ycc [.ref p, .int a, .int b] h = R
  simp [S.ob, e1, e2, ad, ck, z1, z2, cl, q, hR, -fEq, -fAdd]
  cases R <;> rfl
theorem TxZ.meas {ps : List Pc} {n : Nat} {y : Str} (t : TxZ ps n y) : ∃ m, (meas ps)[n]? = some m /\ m.sg = y.length := by
 rcases t with ⟨rfl, rfl⟩ | ⟨m, f, l, T⟩
 ·exact ⟨ms0, zbj ps, rfl⟩
 ·exact ⟨m, T.ms, T.ky.sg⟩
theorem zhl {h : AH} {p : Nat} {ps : List Pc} {a b : Nat} {x y : Str} (S : ShelfAt h p ps) (g : Good ps) (A : TxZ ps a x) (B : TxZ ps b y) (hm : x.length + y.length <= 1000000000000000000) (hz : ps.length < 15000000) :
  ∃ (n : Nat) (ps' : List Pc) (h' : AH), Dn (ybv [.ref p, .int a, .int b]) p h h' ps ps' (16 * (max (htOf ps a) (htOf ps b) + 1).toNat) n /\ TxZ ps' n (x ++ y) := by
 rcases A with ⟨rfl, rfl⟩ | ⟨ma, fa, la, A⟩
 ·obtain ⟨mb, eb, sb⟩ := B.meas
  have em : ("" : Str) ++ y = y := zay (by rw [zap]; rfl)
  have dv : Dn (ybv [.ref p, .int (0 : Nat), .int b]) p h h ps ps 0 b := Dn.val S g fun hh pp S' _ pr => jn_0 S' (zac pr eb) (by rw [sb]; lia)
  exact ⟨b, ps, h, dv.as S g (fun _ _ _ _ _ => rfl) (Nat.zero_le _), by rw [em]; exact B⟩
 ·rcases B with ⟨rfl, rfl⟩ | ⟨mb, fb, lb, B⟩
  ·have em : x ++ ("" : Str) = x := zay (by rw [zap]; simp; rfl)
   have dv : Dn (ybv [.ref p, .int a, .int (0 : Nat)]) p h h ps ps 0 a := Dn.val S g fun hh pp S' _ pr => jn_1 S' A.n1 (zac pr A.ms) A.ky.most
   exact ⟨a, ps, h, dv.as S g (fun _ _ _ _ _ => rfl) (Nat.zero_le _), by rw [em]; exact .inr ⟨_, _, _, A⟩⟩
  ·have sa := A.ky.sg
   have sb := B.ky.sg
   have a0 := A.ky.ht
   have b0 := B.ky.ht
   have ha := ht82 g A
   have hb := ht82 g B
   rw [ydO A.ms, ydO B.ms]
   by_cases q : 8 < la.sg + fb.sg
   ·obtain ⟨n, ps', h', m, d, T, _⟩ := zbA 90 (max ma.ht mb.ht).toNat S g A B q (by lia) (by lia) (by lia) (by lia)
    exact ⟨n, ps', h', d.as S g (fun hh pp S' _ pr => by rw [jn_2 S' A.n1 B.n1 (zac pr A.ms) (zac pr B.ms) (zac pr A.ky.ll) (zac pr B.ky.fl) (by lia), if_pos q]) (by lia), .inr ⟨_, _, _, T⟩⟩
   ·obtain ⟨n, ps', h', m, f, l, d, T, _⟩ := zhk S g A B q (by lia) hz
    exact ⟨n, ps', h', d.as S g (fun hh pp S' _ pr => by rw [jn_2 S' A.n1 B.n1 (zac pr A.ms) (zac pr B.ms) (zac pr A.ky.ll) (zac pr B.ky.fl) (by lia), if_neg q]) (by lia), .inr ⟨_, _, _, T⟩⟩
end Sk
namespace Sk
open PySem PySem.Spec L2 Sm
theorem zit {b e : Nat} {y : Str} (be : b <= e) : (cutS y (some (b : Int)) (some (e : Int))).cps.toList = (y.cps.toList.drop b).take (e - b) := by
 unfold cutS
 rw [HT.sIx_nat, HT.sIx_nat]
 generalize y.cps.toList = l
 show (l.drop (min b l.length)).take (min e l.length - min b l.length) = _
 apply List.ext_getElem?
 intro i
 rw [List.getElem?_take, List.getElem?_take, List.getElem?_drop, List.getElem?_drop]
 by_cases q : b <= l.length
 ·rw [Nat.min_eq_left q]
  by_cases c1 : i < e - b
  ·rw [if_pos c1]
   by_cases c2 : i < min e l.length - b
   ·rw [if_pos c2]
   ·rw [if_neg c2, List.getElem?_eq_none (by lia)]
  ·rw [if_neg c1, if_neg (by lia)]
 ·rw [if_neg (by lia), List.getElem?_eq_none (l := l) (i := b + i) (by lia)]
  split <;> rfl
def cat : List Str -> Str
 | [] => ""
 | w :: ws => w ++ cat ws
theorem zc4 : ∀ as bs : List Str, cat (as ++ bs) = cat as ++ cat bs
 | [], bs => (zay (by rw [zap]; rfl) : cat bs = ("" : Str) ++ cat bs)
 | w :: as, bs => by
  show w ++ cat (as ++ bs) = (w ++ cat as) ++ cat bs
  rw [zc4 as bs, zaj]
theorem zfa (w : Str) : cat [w] = w := zay (by show (w ++ ("" : Str)).cps.toList = _; rw [zap]; simp; rfl)
def LS (ps : List Pc) (ns : List Nat) (ws : List Str) : Prop := ns.length = ws.length /\ ∀ (i n : Nat) (w : Str), ns[i]? = some n -> ws[i]? = some w -> Tx ps n (lfMs w n) w (lfMs w n) (lfMs w n)
theorem LS.pre {ps ps' : List Pc} {ns : List Nat} {ws : List Str} (s : LS ps ns ws) (h : ps <+: ps') : LS ps' ns ws := ⟨s.1, fun i n w a b => (s.2 i n w a b).pre h⟩
theorem LS.take {ps : List Pc} {ns : List Nat} {ws : List Str} (s : LS ps ns ws) (k : Nat) : LS ps (ns.take k) (ws.take k) := by
 refine ⟨by simp [s.1], fun i n w a b => ?_⟩
 rw [List.getElem?_take] at a b
 by_cases q : i < k
 ·rw [if_pos q] at a b; exact s.2 i n w a b
 ·rw [if_neg q] at a; cases a
theorem LS.drop {ps : List Pc} {ns : List Nat} {ws : List Str} (s : LS ps ns ws) (k : Nat) : LS ps (ns.drop k) (ws.drop k) := by
 refine ⟨by simp [s.1], fun i n w a b => ?_⟩
 rw [List.getElem?_drop] at a b
 exact s.2 _ n w a b
abbrev ivs (ns : List Nat) : List AV := ns.map fun n : Nat => AV.int (n : Int)
theorem hv_1 {h : AH} {p d n : Nat} : ybu (d + 1) [.ref p, .fl (ivs [n])] h = .ok (.int n) h := by
 have ix : fIx (.fl [.int (n : Int)]) (.int 0) h = .ok (.int n) h := rfl
 simp [ybu, ydR, ix, -fIx]
theorem zgt {α : Type} (l : List α) {k : Nat} (hk : k <= l.length) : cutA l none (some (k : Int)) = l.take k := by
 unfold cutA
 rw [HT.sIx_nat, HT.sIx_none, Nat.min_eq_left hk]; simp
theorem zgu {α : Type} (l : List α) {k : Nat} (hk : k <= l.length) : cutA l (some (k : Int)) none = l.drop k := by
 unfold cutA
 rw [HT.sIx_nat, HT.sIx_none, Nat.min_eq_left hk, List.take_of_length_le (by simp)]
theorem hv_2 {h h1 h2 : AH} {p d : Nat} {ps : List Pc} {ns : List Nat} {v1 v2 : Int} (S : ShelfAt h p ps) (hl : 2 <= ns.length) (e1 : ybu d [.ref p, .fl (ivs (ns.take (ns.length / 2)))] h = .ok (.int v1) h1) (e2 : ybu d [.ref p, .fl (ivs (ns.drop (ns.length / 2)))] h1 = .ok (.int v2) h2) :
  ybu (d + 1) [.ref p, .fl (ivs ns)] h = yad [.ref p, .int v1, .int v2] h2 := by
 have hh : ns.length / 2 <= ns.length := Nat.div_le_self _ _
 have ln : fLen [.fl (ivs ns)] h = .ok (.int ns.length) h := by simp [fLen]
 have q : fEq (.int ns.length) (.int 1) h = .ok (.bl false) h := by
  have : ¬ (ns.length : Int) = 1 := by lia
  simp [this]
 have dv : fDiv (.int ns.length) (.int 2) h = .ok (.int (ns.length / 2 : Nat)) h := rfl
 have c1 : ybB (.fl (ivs ns)) none (some (ns.length / 2 : Nat)) h = .ok (.fl (ivs (ns.take (ns.length / 2)))) h := by
  have := zgt (ivs ns) (k := ns.length / 2) (by simpa using hh)
  simp only [ybB, this, ivs, List.map_take]
 have c2 : ∀ h, ybB (.fl (ivs ns)) (some (ns.length / 2 : Nat)) none h = .ok (.fl (ivs (ns.drop (ns.length / 2)))) h := fun h => by
  have := zgu (ivs ns) (k := ns.length / 2) (by simpa using hh)
  simp only [ybB, this, ivs, List.map_drop]
 generalize hF : yad [.ref p, .int v1, .int v2] h2 = R
 unfold ybu ydR
 generalize ivs ns = Z at *
 generalize ivs (ns.take (ns.length / 2)) = Z1 at *
 generalize ivs (ns.drop (ns.length / 2)) = Z2 at *
 generalize ((ns.length / 2 : Nat) : Int) = M at *
 generalize (ns.length : Int) = K at *
 simp [S.ob, ln, q, dv, c1, c2, e1, e2, hF, -fLen, -fEq, -fDiv, -ybB]
 cases R <;> rfl
theorem pw1 {a b ha hb : Nat} (ab : b <= a + 1) (h1 : a <= 2 ^ ha) (h2 : hb = 0 \/ 2 ^ (hb - 1) < b) : hb <= ha + 1 := by
 rcases h2 with h2 | h2
 ·lia
 ·have : 2 ^ (hb - 1) <= 2 ^ ha := by lia
  have := (Nat.pow_le_pow_iff_right (a := 2) (by decide)).mp this
  lia
theorem pw2 {a b ha hb : Nat} (ab : a <= b) (h1 : b <= 2 ^ hb) (h2 : ha = 0 \/ 2 ^ (ha - 1) < a) : ha <= hb := by
 rcases h2 with h2 | h2
 ·lia
 ·have : 2 ^ (ha - 1) < 2 ^ hb := by lia
  have := (Nat.pow_lt_pow_iff_right (a := 2) (by decide)).mp this
  lia
theorem pw3 {k b hb : Nat} (h1 : k <= 2 * b) (h2 : 2 * b <= k + 1) (h3 : 2 <= k) (h4 : b <= 2 ^ hb) (h5 : hb = 0 \/ 2 ^ (hb - 1) < b) : k <= 2 ^ (hb + 1) /\ 2 ^ (hb + 1 - 1) < k := by
 rw [Nat.pow_succ, Nat.add_sub_cancel]
 refine ⟨by lia, ?_⟩
 rcases h5 with h5 | h5
 ·subst h5; simp; lia
 ·cases hb with
  | zero => simp; lia
  | succ n =>
   rw [Nat.add_sub_cancel] at h5
   rw [Nat.pow_succ]; lia
theorem pw4 {k e : Nat} (h : k <= 2 ^ (e + 1)) : k / 2 <= 2 ^ e /\ k - k / 2 <= 2 ^ e := by rw [Nat.pow_succ] at h; lia
theorem zcv {p : Nat} : ∀ (d e : Nat) {h : AH} {ps : List Pc} {ns : List Nat} {ws : List Str}, ShelfAt h p ps -> Good ps -> LS ps ns ws -> 1 <= ns.length -> ns.length <= 2 ^ e -> e < d -> (∀ (i : Nat) (w : Str), ws[i]? = some w -> i + 1 < ws.length -> w.length = 8) -> ps.length + ns.length < 16000000 -> ns.length <= 10000 ->
  ∃ (n : Nat) (ps' : List Pc) (h' : AH) (m f l : Ms) (H : Nat), ybu d [.ref p, .fl (ivs ns)] h = .ok (.int n) h' /\ Dd p h h' ps ps' (ns.length - 1) /\ Tx ps' n m (cat ws) f l /\ m.ht = H /\ ns.length <= 2 ^ H /\ (H = 0 \/ 2 ^ (H - 1) < ns.length) /\ ((∀ w ∈ ws, w.length = 8) -> l.sg = 8) /\ m.sg <= 8 * ns.length
 | 0, e, h, ps, ns, ws, S, g, LL, h1, h2, h3, h4, h5, h6 => absurd h3 (Nat.not_lt_zero _)
 | d + 1, e, h, ps, ns, ws, S, g, LL, h1, h2, h3, h4, h5, h6 => by
  by_cases q : ns.length = 1
  ·obtain ⟨n, rfl⟩ : ∃ n, ns = [n] := List.length_eq_one_iff.mp q
   obtain ⟨w, rfl⟩ : ∃ w, ws = [w] := List.length_eq_one_iff.mp (LL.1.symm.trans q)
   have T := LL.2 0 n w rfl rfl
   refine ⟨n, ps, h, _, _, _, 0, hv_1, { Dd.refl S g with len := by lia }, by rw [zfa]; exact T, rfl, by simp, .inl rfl, fun hw => hw w (by simp), ?_⟩
   have := T.ky.f8
   simpa using this
  ·have hh : 2 <= ns.length := by lia
   obtain ⟨e', rfl⟩ : ∃ e', e = e' + 1 := by
    cases e with
    | zero => simp at h2; lia
    | succ e' => exact ⟨e', rfl⟩
   obtain ⟨w1, w2⟩ := pw4 h2
   have lt : (ns.take (ns.length / 2)).length = ns.length / 2 := by rw [List.length_take]; lia
   have ld : (ns.drop (ns.length / 2)).length = ns.length - ns.length / 2 := List.length_drop ..
   have lw := LL.1
   obtain ⟨n1, ps1, hh1, m1, f1, l1, H1, a1, a2, a3, a4, a5, a6, a7, a8⟩ := zcv d e' S g (LL.take (ns.length / 2)) (by lia) (by lia) (by lia) (fun i w ew hi => by
    rw [List.getElem?_take] at ew
    split at ew
    ·rw [List.length_take] at hi; exact h4 i w ew (by lia)
    ·cases ew) (by lia) (by lia)
   have z1 := a2.len
   obtain ⟨n2, ps2, hh2, m2, f2, l2, H2, b1, b2, b3, b4, b5, b6, b7, b8⟩ := zcv d e' a2.sh a2.gd ((LL.drop (ns.length / 2)).pre a2.pre) (by lia) (by lia) (by lia) (fun i w ew hi => by
    rw [List.getElem?_drop] at ew
    rw [List.length_drop] at hi
    exact h4 _ w ew (by lia)) (by lia) (by lia)
   have z2 := b2.len
   rw [lt] at a5 a6 a8
   rw [ld] at b5 b6 b8
   have g1 := pw1 (a := ns.length / 2) (b := ns.length - ns.length / 2) (by lia) a5 b6
   have g2 := pw2 (a := ns.length / 2) (b := ns.length - ns.length / 2) (by lia) b5 a6
   have l8 : l1.sg = 8 := a7 fun w hw => by
    obtain ⟨i, hi, ei⟩ := List.getElem_of_mem hw
    have hi' := hi
    rw [List.length_take] at hi'
    have : (ws.take (ns.length / 2))[i]? = some w := by rw [List.getElem?_eq_getElem hi, ei]
    rw [List.getElem?_take] at this
    split at this
    ·exact h4 i w this (by lia)
    ·cases this
   have f1' := b3.ky.f1
   obtain ⟨n3, ps3, hh3, d3, T3⟩ := zaw b2.sh b2.gd (a3.pre b2.pre) b3 (by lia) (by lia) (by lia) (by lia) (by lia)
   have rd : cat (ws.take (ns.length / 2)) ++ cat (ws.drop (ns.length / 2)) = cat ws := by rw [<- zc4, List.take_append_drop]
   rw [rd] at T3
   have hv := hv_2 S hh a1 b1
   obtain ⟨y1, y2⟩ := pw3 (k := ns.length) (b := ns.length - ns.length / 2) (by lia) (by lia) hh b5 b6
   refine ⟨n3, ps3, hh3, _, f1, l2, H2 + 1, hv.trans d3.ev, (a2.trans b2 (Nat.le_refl _)).trans d3.dd (by lia), T3, by rw [fmH, a4, b4]; lia, y1, .inr y2, fun hw => b7 fun w hm => hw w (List.mem_of_mem_drop hm), by rw [fmS]; lia⟩
end Sk
namespace Sk
open PySem PySem.Spec L2 Sm
def ycl (x : Str) (k : Nat) : Str := cutS x (some ((8 * k : Nat) : Int)) (some ((8 * k + 8 : Nat) : Int))
theorem zbQ (x : Str) (k : Nat) : (ycl x k).cps.toList = (x.cps.toList.drop (8 * k)).take 8 := by
 unfold ycl
 rw [zit (by lia), show 8 * k + 8 - 8 * k = 8 by lia]
theorem zdp (x : Str) (k : Nat) : (ycl x k).length = min 8 (x.length - 8 * k) := by
 rw [zaf, zbQ, List.length_take, List.length_drop, <- zaf]
theorem zee {x : Str} (px : yaD x = true) (k : Nat) : yaD (ycl x k) = true := by
 unfold yaD at *
 rw [zbQ, List.all_eq_true]
 rw [List.all_eq_true] at px
 exact fun c hc => px c (List.mem_of_mem_drop (List.mem_of_mem_take hc))
theorem zcN (x : Str) : ∀ j, (cat ((List.range j).map (ycl x))).cps.toList = x.cps.toList.take (8 * j)
 | 0 => rfl
 | j + 1 => by
  rw [List.range_succ, List.map_append, zc4, zap, zcN x j]
  show _ ++ (cat [ycl x j]).cps.toList = _
  rw [zfa, zbQ, show 8 * (j + 1) = 8 * j + 8 by lia, List.take_add]
theorem zdq {α : Type} {f : Nat -> α} {N i : Nat} {w : α} (e : ((List.range N).map f)[i]? = some w) : i < N /\ w = f i := by
 rw [List.getElem?_map] at e
 obtain ⟨j, ej, ew⟩ := Option.map_eq_some_iff.mp e
 have h1 := (List.getElem?_eq_some_iff.mp ej).1
 rw [List.length_range] at h1
 rw [List.getElem?_range h1] at ej
 cases ej
 exact ⟨h1, ew.symm⟩
theorem LS.snoc {ps ps' : List Pc} {ns : List Nat} {ws : List Str} {n : Nat} {w : Str} (s : LS ps ns ws) (h : ps <+: ps') (T : Tx ps' n (lfMs w n) w (lfMs w n) (lfMs w n)) : LS ps' (ns ++ [n]) (ws ++ [w]) := by
 have l := s.1
 refine ⟨by simp [s.1], fun i a b ea eb => ?_⟩
 by_cases q : i < ns.length
 ·rw [List.getElem?_append_left q] at ea
  rw [List.getElem?_append_left (by lia)] at eb
  exact (s.2 i a b ea eb).pre h
 ·have h1 := (List.getElem?_eq_some_iff.mp ea).1
  have hi : i = ns.length := by simp at h1; lia
  subst hi
  rw [List.getElem?_append_right (by lia)] at ea eb
  simp at ea
  rw [show ns.length - ws.length = 0 by lia] at eb
  simp at eb
  subst ea eb
  exact T
theorem zef {h : AH} {p : Nat} {ps : List Pc} {x : Str} (S : ShelfAt h p ps) (g : Good ps) (px : yaD x = true) (N : Nat) (hN : 8 * N < x.length + 8) (hx : x.length <= 10000) (hz : ps.length + N < 16000000) (all : List AV) (js : List Nat) (en : En) (hj : js.map (fun j => (en[j]?).join) = [some (.ref p), some (.str x)]) :
  ∃ (ns : List Nat) (ps' : List Pc) (h' : AH), yaB js en none all sYes (yai 0 yat (sVar 1) (sCons (sCut (sVar 2) (some (sVar 0)) (some (sOp2 fAdd (sVar 0) (sLit (.int 8))))) sNil)) ((List.range N).map fun m : Nat => AV.int (0 + (m : Int) * 8)) [] h = .ok (ivs ns) h' /\ Dd p h h' ps ps' N /\ LS ps' ns ((List.range N).map (ycl x)) := by
 obtain ⟨zs, h', c1, ns, ps', e1, D, LL⟩ := ye9 (js := js) (en := en) (all := all) (e := yai 0 yat (sVar 1) (sCons (sCut (sVar 2) (some (sVar 0)) (some (sOp2 fAdd (sVar 0) (sLit (.int 8))))) sNil)) (xs := (List.range N).map fun m : Nat => AV.int (0 + (m : Int) * 8)) (h := h)
  (fun j ys h' => ∃ (ns : List Nat) (ps' : List Pc), ys = ivs ns /\ Dd p h h' ps ps' j /\ LS ps' ns ((List.range j).map (ycl x))) ⟨[], ps, rfl, Dd.refl S g, rfl, fun i n w a _ => by simp at a⟩ (by
   rintro j v ys h' hv ⟨ns, ps', rfl, D, LL⟩
   obtain ⟨jN, rfl⟩ := zdq hv
   have z := D.len
   have lc := zdp x j
   have sc : yba (ycl x j) = true := by
    unfold yba
    rw [zee px j, lc]
    simp; lia
   obtain ⟨n, ps2, h2, d2, T⟩ := ze4 D.sh D.gd sc (by lia)
   have i1 : (0 : Int) + (j : Int) * 8 = ((8 * j : Nat) : Int) := by lia
   have i2 : ((8 * j : Nat) : Int) + 8 = ((8 * j + 8 : Nat) : Int) := by lia
   have ct : ybB (.str x) (some ((8 * j : Nat) : Int)) (some ((8 * j + 8 : Nat) : Int)) h' = .ok (.str (ycl x j)) h' := rfl
   have ev := d2.ev
   rw [hj]
   have e : yai 0 yat (sVar 1) (sCons (sCut (sVar 2) (some (sVar 0)) (some (sOp2 fAdd (sVar 0) (sLit (.int 8))))) sNil) [some (.int (0 + (j : Int) * 8)), some (.ref p), some (.str x)] h' = .ok (.int n) h2 := by
    rw [i1]
    have ad : fAdd (.int ((8 * j : Nat) : Int)) (.int 8) h' = .ok (.int ((8 * j + 8 : Nat) : Int)) h' := by rw [<- i2]; rfl
    generalize ((8 * j : Nat) : Int) = B1 at *
    generalize ((8 * j + 8 : Nat) : Int) = B2 at *
    simp [D.sh.ob, ad, ct, ev, -fAdd, -ybB]
   rw [e]
   refine ⟨ns ++ [n], ps2, by simp [ivs], D.trans d2.dd (by lia), ?_⟩
   rw [List.range_succ, List.map_append]
   exact LL.snoc d2.dd.pre T) (by simp; exact Nat.le_trans (show N <= 10000 by lia) (by decide))
 rw [List.length_map, List.length_range] at D LL
 exact ⟨ns, ps', h', by rw [c1, e1], D, LL⟩
theorem ziu {h : AH} {p : Nat} {ps : List Pc} {x : Str} (S : ShelfAt h p ps) (g : Good ps) (px : yaD x = true) (hx : x.length <= 10000) (hz : ps.length + 2 * x.length < 16000000) :
  ∃ (n : Nat) (ps' : List Pc) (h' : AH), ydh [.ref p, .str x] h = .ok (.int n) h' /\ Dd p h h' ps ps' (2 * x.length) /\ TxZ ps' n x := by
 have sl : x.length <= sizeLine := Nat.le_trans hx (by decide)
 have fp := zeW x h sl
 rw [px] at fp
 have c1 : ¬ (10000 : Int) < x.length := by lia
 by_cases q : x.length = 0
 ·have xe : x = "" := zay (by rw [zaf] at q; rw [List.length_eq_zero_iff.mp q]; rfl)
  subst xe
  refine ⟨0, ps, h, ?_, { Dd.refl S g with len := by lia }, .inl ⟨rfl, rfl⟩⟩
  simp [ydh, fp, c1]
 ·obtain ⟨N, eN⟩ : ∃ N, N = (x.length - 1) / 8 + 1 := ⟨_, rfl⟩
  obtain ⟨ns, ps1, h1, e1, D1, LL⟩ := zef S g px N (by lia) hx (by lia) ((List.range N).map fun m : Nat => AV.int (0 + (m : Int) * 8)) [0, 1] [some (.ref p), some (.str x), none] rfl
  have z1 := D1.len
  have ln : ns.length = N := by rw [LL.1]; simp
  obtain ⟨n, ps2, h2, m, f, l, H, b1, b2, b3, _⟩ := zcv (p := p) 20 11 D1.sh D1.gd LL (by lia) (by rw [ln]; have : (2 : Nat) ^ 11 = 2048 := rfl; lia) (by decide) (fun i w ew hi => by
   obtain ⟨iN, rfl⟩ := zdq ew
   rw [List.length_map, List.length_range] at hi
   rw [zdp]; lia) (by lia) (by lia)
  have rd : cat ((List.range N).map (ycl x)) = x := zay (by rw [zcN, List.take_of_length_le (by rw [<- zaf]; lia)])
  rw [rd] at b3
  have ir : ycS (sLit (.int 0)) (yae fLen (sCons (sVar 1) sNil)) (sLit (.int 8)) [some (.ref p), some (.str x), none] h = .ok ((List.range N).map (fun m : Nat => AV.int (0 + (m : Int) * 8)), none) h := by
   have r1 : ((if (0 : Int) < x.length then ((x.length : Int) - 0 - 1) / 8 + 1 else 0 : Int)).toNat = N := by
    rw [if_pos (by lia)]; lia
   have r2 : (0 : Int).natAbs < 2 ^ 40 /\ (x.length : Int).natAbs < 2 ^ 40 /\ (0 : Int) < 8 /\ (8 : Int) < 2 ^ 20 := ⟨by decide, by lia, by decide, by decide⟩
   show (if _ then _ else _) = _
   rw [if_pos r2, r1]
  have cp : yaY [0, 1] (ycS (sLit (.int 0)) (yae fLen (sCons (sVar 1) sNil)) (sLit (.int 8))) sYes (yai 0 yat (sVar 1) (sCons (sCut (sVar 2) (some (sVar 0)) (some (sOp2 fAdd (sVar 0) (sLit (.int 8))))) sNil)) [some (.ref p), some (.str x), none] h = .ok (.fl (ivs ns)) h1 := by
   simp only [yaY, ir, e1]
  have ne : fEq (.str x) (.str "") h = .ok (.bl false) h := by
   have : ¬ x = Str.ofString "" := fun z => q (by rw [z]; rfl)
   simp [this]
  refine ⟨n, ps2, h2, ?_, D1.trans b2 (by lia), .inr ⟨_, _, _, b3⟩⟩
  unfold ydh
  generalize yaY [0, 1] (ycS (sLit (.int 0)) (yae fLen (sCons (sVar 1) sNil)) (sLit (.int 8))) sYes (yai 0 yat (sVar 1) (sCons (sCut (sVar 2) (some (sVar 0)) (some (sOp2 fAdd (sVar 0) (sLit (.int 8))))) sNil)) = CP at *
  generalize ybu 20 = HV at *
  simp [fp, c1, ne, cp, b1, -fEq]
end Sk
namespace Sk
open PySem PySem.Spec L2 Sm
def tkS (x : Str) (a : Nat) : Str := ⟨(x.cps.toList.take a).toArray⟩
def dpS (x : Str) (a : Nat) : Str := ⟨(x.cps.toList.drop a).toArray⟩
def cst (z : Int) : Nat := 8 * ((z + 1).toNat * (z + 2).toNat)
theorem zfb {h : AH} {st : Nat} {n : Int} (m : Nat) (e : h[st]? = some (.lst [.int n])) (hm : 0 < m) (hm2 : m <= 10 ^ 50) : ∃ v : Nat, v < m /\ yaj [.ref st, .int m] h = .ok (.int v) (h.set st (.lst [.int (n / m)])) := by
 have a0 : atI [AV.int n] 0 = some (.int n) := rfl
 have i0 : ixN 1 0 = some 0 := rfl
 have hm0 : (0 : Int) < m := Int.ofNat_lt.mpr hm
 have hm3 : m < 1606938044258990275541962092341162602522202993782792835301376 := Nat.lt_of_le_of_lt hm2 (by decide)
 refine ⟨(n % m).toNat, ?_, ?_⟩
 ·have := Int.emod_lt_of_pos n hm0; have := Int.emod_nonneg n (show (m : Int) ≠ 0 by lia); lia
 ·rw [Int.toNat_of_nonneg (Int.emod_nonneg n (show (m : Int) ≠ 0 by lia))]
  simp [yaj, e, a0, hm0, hm, hm3, i0]
theorem zhm (c k : Int) (h : AH) : ∃ m, ycz [.int c, .int k] h = .ok (.int m) h := by
 have b1 : 0 <= (c % 1000000007 + 7919 * k + 101) * 48271 % 2147483647 := Int.emod_nonneg _ (by decide)
 have b2 : (c % 1000000007 + 7919 * k + 101) * 48271 % 2147483647 < 2147483647 := Int.emod_lt_of_pos _ (by decide)
 refine ⟨(c % 1000000007 + 7919 * k + 101) * 48271 % 2147483647 * ((c % 1000000007 + 7919 * k + 101) * 48271 % 2147483647) % 2147483629 * 69621 % 2147483647, ?_⟩
 generalize he : (c % 1000000007 + 7919 * k + 101) * 48271 % 2147483647 = v at *
 have c1 : v.natAbs < 18446744073709551616 := by lia
 simp [ycz, he, c1]
theorem yho (c k : Int) (h : AH) : ∃ n, ycH [.int c, .int k] h = .ok (.ref h.length) (h ++ [.lst [.int n]]) := by
 obtain ⟨d, ed⟩ : ∃ d, d = c % 1000000000000000000000000000000000000000000000000000000000000000000000000000000000000000000000000000000000000000000000000 := ⟨_, rfl⟩
 by_cases hc : (1000000000000000000 : Int) <= d
 ·exact ⟨d, by rw [ed] at hc ⊢; simp [ycH, hc]⟩
 ·obtain ⟨e', h', r1, r2⟩ := yd8 (w := none) (all := yaO 0 12) (t := .nm 3) (b := ybM) (xs := yaO 0 12) (en := [some (.int d), some (.int k), some (.int 0), none]) (h := h)
   (fun _ en h' => h' = h /\ ∃ f o, en = [some (.int d), some (.int k), some (.int f), o]) ⟨rfl, 0, none, rfl⟩ (fun _ _ _ _ => rfl) (by
    rintro j x en h' hx ⟨rfl, f, o, rfl⟩
    rw [zbO] at hx
    split at hx
    ·cases hx
     obtain ⟨m, hm⟩ := zhm (d + 1009 * k) (0 + (j : Int)) h'
     have e : ybM [some (.int d), some (.int k), some (.int f), some (.int (0 + (j : Int)))] h' = .nx [some (.int d), some (.int k), some (.int (f * 2147483647 + m)), some (.int (0 + (j : Int)))] h' := by
      generalize (0 + (j : Int)) = jj at hm ⊢
      simp [ybM, hm]
     show thn (ybM [some (.int d), some (.int k), some (.int f), some (.int (0 + (j : Int)))] h') _
     rw [e]
     exact ⟨rfl, _, _, rfl⟩
    ·cases hx)
  obtain ⟨rfl, f, o, rfl⟩ := r2
  have f1 := (ycW (t := .nm 3) (b := ybM) (zaN (a := sLit (.int 12)) (en := [some (.int d), some (.int k), some (.int 0), none]) (h := h') (n := 12) rfl (by decide))).trans r1
  refine ⟨f, ?_⟩
  subst ed
  simp [ycH, hc, f1, -sFor]
def ydP : Str := "abcdefghijklmnopqrstuvwxyzABCDEFGHIJKLMNOPQRSTUVWXYZ0123456789 !#$&'()*+,-./:;<=>?\x40[]^_{|}~"
def sg6 : List Str := ["ab", "ab" ++ "\n", (((ydP ++ "\n") ++ "\\") ++ "\"") ++ "`", "a"]
theorem ygz : ∀ x ∈ sg6, yaD x = true /\ 1 <= x.length /\ x.length <= 200 := by decide +kernel
theorem zhn (v : Nat) (hv : v < 4) (h : AH) : ∃ x : Str, (yaD x = true /\ 1 <= x.length /\ x.length <= 200) /\ ycA [.int v] h = .ok (.str x) h := by
 have l1 : (Str.length "ab") + (Str.length "\n") <= sizeLine := by decide +kernel
 have l2 : (Str.length ydP) + (Str.length "\n") <= sizeLine := by decide +kernel
 have l3 : (ydP ++ (Str.ofString "\n")).length + (Str.length "\\") <= sizeLine := by decide +kernel
 have l4 : ((ydP ++ (Str.ofString "\n")) ++ (Str.ofString "\\")).length + (Str.length "\"") <= sizeLine := by decide +kernel
 have l5 : (((ydP ++ (Str.ofString "\n")) ++ (Str.ofString "\\")) ++ (Str.ofString "\"")).length + (Str.length "`") <= sizeLine := by decide +kernel
 have em : Str.ofString "abcdefghijklmnopqrstuvwxyzABCDEFGHIJKLMNOPQRSTUVWXYZ0123456789 !#$&'()*+,-./:;<=>?\x40[]^_{|}~" = ydP := rfl
 have : v = 0 \/ v = 1 \/ v = 2 \/ v = 3 := by lia
 refine ⟨sg6.getD v "", ygz _ ?_, ?_⟩
 ·rcases this with rfl | rfl | rfl | rfl <;> simp [sg6]
 ·rcases this with rfl | rfl | rfl | rfl <;> simp [ycA, em, l1, l2, l3, l4, l5] <;> rfl
theorem zho {x : Str} {v : Nat} (hv : v < x.length) (hx : yaD x = true) (h : AH) : ∃ c, ydi c = true /\ fIx (.str x) (.int v) h = .ok (.str ⟨#[c]⟩) h := by
 have hv' : v < x.cps.toList.length := by rw [<- zaf]; exact hv
 refine ⟨x.cps.toList[v], List.all_eq_true.mp hx _ (List.getElem_mem hv'), ?_⟩
 have e : x.cps.toList[v]? = some x.cps.toList[v] := List.getElem?_eq_getElem hv'
 simp only [fIx, zb1 e]
end Sk
namespace Sk
open PySem PySem.Spec L2 Sm
def yaU (m f l : Ms) : AV := .tup [.int m.ht, .int m.sg, .int f.sg, .int l.sg, .int m.lv]
structure KOl (ps : List Pc) (kvs : List (AV × AV)) : Prop where
 ok : ∀ (k : Int) (v : AV), valA kvs (.int k) = some v -> ∃ (n : Nat) (m : Ms) (x : Str) (f l : Ms), k = n /\ Tx ps n m x f l /\ v = yaU m f l
 nd : (kvs.map (·.1)).Nodup
 ks : ∀ q ∈ kvs, ∃ n : Nat, q.1 = .int n /\ n <= ps.length
 cl : ∀ n a b : Nat, (valA kvs (.int n)).isSome = true -> ps[n - 1]? = some (.fork a b) -> (valA kvs (.int a)).isSome = true /\ (valA kvs (.int b)).isSome = true
theorem ziv {kvs : List (AV × AV)} {k v : AV} (e : valA kvs k = none) : putA kvs k v = kvs ++ [(k, v)] := by
 unfold putA
 rw [zb4, e]; rfl
theorem zbr {kvs : List (AV × AV)} {k v j : AV} : valA (kvs ++ [(k, v)]) j = (valA kvs j).or (if k = j then some v else none) := by
 unfold valA
 rw [List.find?_append]
 cases q : kvs.find? fun p => decide (p.1 = j) with
 | some z => rfl
 | none =>
  by_cases c : k = j
  ·simp [c]
  ·simp [c]
theorem ygA {kvs : List (AV × AV)} {k : AV} (e : valA kvs k = none) : ∀ q ∈ kvs, q.1 ≠ k := fun q hq z => by
 unfold valA at e
 rw [Option.map_eq_none_iff, List.find?_eq_none] at e
 exact e q hq (by simp [z])
theorem zfc : ∀ (N : Nat) (l : List Nat), l.Nodup -> (∀ a ∈ l, a < N) -> l.length <= N
 | 0, l, _, h => by
  cases l with
  | nil => exact Nat.le_refl _
  | cons a l => exact absurd (h a (List.mem_cons_self ..)) (Nat.not_lt_zero _)
 | N + 1, l, n, h => by
  have z := zfc N (l.erase N) (n.erase N) fun a ha => by
   have h1 := h a (List.mem_of_mem_erase ha)
   have h2 := (n.mem_erase_iff.mp ha).1
   lia
  by_cases q : N ∈ l
  ·rw [List.length_erase_of_mem q] at z; lia
  ·rw [List.erase_of_not_mem q] at z; lia
def iN : AV -> Nat
 | .int i => i.toNat
 | _ => 0
theorem KOl.few {ps : List Pc} {kvs : List (AV × AV)} (K : KOl ps kvs) : kvs.length <= ps.length + 1 := by
 have z := zfc (ps.length + 1) (kvs.map fun q => iN q.1) (by
  rw [show (kvs.map fun q => iN q.1) = (kvs.map (·.1)).map iN by rw [List.map_map]; rfl]
  refine List.Pairwise.map _ ?_ (List.Pairwise.and_mem.mp K.nd)
  rintro a b ⟨ha, hb, ne⟩ e
  obtain ⟨q, hq, rfl⟩ := List.mem_map.mp ha
  obtain ⟨r, hr, rfl⟩ := List.mem_map.mp hb
  obtain ⟨i, e1, _⟩ := K.ks q hq
  obtain ⟨j, e2, _⟩ := K.ks r hr
  rw [e1, e2] at e ne
  have : i = j := by simpa [iN] using e
  exact ne (by rw [this])) fun a ha => by
  obtain ⟨q, hq, rfl⟩ := List.mem_map.mp ha
  obtain ⟨i, e1, h1⟩ := K.ks q hq
  rw [e1]
  show (i : Int).toNat < _
  lia
 simpa using z
theorem KOl.nil (ps : List Pc) : KOl ps [] := ⟨fun _ _ z => by simp [valA] at z, List.nodup_nil, fun _ h => (nomatch h), fun _ _ _ z => by simp [valA] at z⟩
theorem KOl.put {ps : List Pc} {kvs : List (AV × AV)} (K : KOl ps kvs) {n : Nat} {m : Ms} {x : Str} {f l : Ms} (T : Tx ps n m x f l) (e : valA kvs (.int n) = none)
  (c : ∀ a b : Nat, ps[n - 1]? = some (.fork a b) -> (valA kvs (.int a)).isSome = true /\ (valA kvs (.int b)).isSome = true) : KOl ps (putA kvs (.int n) (yaU m f l)) /\ (valA (putA kvs (.int n) (yaU m f l)) (.int n)).isSome = true /\ (∀ k, (valA kvs k).isSome = true -> (valA (putA kvs (.int n) (yaU m f l)) k).isSome = true) /\ ∀ k, (valA (putA kvs (.int n) (yaU m f l)) k).isSome = true -> (valA kvs k).isSome = true \/ k = .int n := by
 rw [ziv e]
 have up : ∀ k, (valA kvs k).isSome = true -> (valA (kvs ++ [(.int n, yaU m f l)]) k).isSome = true := fun k h => by
  rw [zbr]
  obtain ⟨v, e⟩ := Option.isSome_iff_exists.mp h
  rw [e]; rfl
 refine ⟨⟨fun k v hv => ?_, ?_, fun q hq => ?_, fun j a b hj hp => ?_⟩, ?_, up, fun k hk => ?_⟩
 ·rw [zbr] at hv
  cases w : valA kvs (.int k) with
  | some u => rw [w] at hv; cases hv; exact K.ok k _ w
  | none =>
   rw [w] at hv
   by_cases z : AV.int n = AV.int k
   ·rw [if_pos z] at hv
    injection z with z
    cases hv
    exact ⟨n, m, x, f, l, z.symm, T, rfl⟩
   ·rw [if_neg z] at hv; cases hv
 ·rw [List.map_append]
  refine List.nodup_append.mpr ⟨K.nd, by simp, fun a ha b hb => ?_⟩
  obtain ⟨q, hq, rfl⟩ := List.mem_map.mp ha
  simp at hb
  subst hb
  exact ygA e q hq
 ·rcases List.mem_append.mp hq with h | h
  ·exact K.ks q h
  ·simp at h; subst h; exact ⟨n, rfl, T.le⟩
 ·rw [zbr] at hj
  by_cases z : (valA kvs (.int j)).isSome = true
  ·exact ⟨up _ (K.cl j a b z hp).1, up _ (K.cl j a b z hp).2⟩
  ·cases w : valA kvs (.int j) with
   | some u => rw [w] at z; exact absurd rfl z
   | none =>
    rw [w] at hj
    by_cases y : AV.int n = AV.int j
    ·injection y with y
     have : n = j := by lia
     subst this
     exact ⟨up _ (c a b hp).1, up _ (c a b hp).2⟩
    ·rw [if_neg y] at hj; cases hj
 ·rw [zbr, e, if_pos rfl]; rfl
 ·rw [zbr] at hk
  cases w : valA kvs k with
  | some u => exact .inl rfl
  | none =>
   rw [w] at hk
   by_cases y : AV.int n = k
   ·exact .inr y.symm
   ·rw [if_neg y] at hk; cases hk
theorem zhp {h : AH} {D : Nat} {o : AO} (e : h[D]? = some o) : h.set D o = h := by
 apply List.ext_getElem?
 intro i
 by_cases q : D = i
 ·subst q; rw [List.getElem?_set_self (ya2 e), e]
 ·rw [List.getElem?_set_ne q]
theorem zfd (a b c d e : Int) (h : AH) : fNe (.tup [.int a, .int b, .int c, .int d, .int e]) (.tup []) h = .ok (.bl true) h := by
 have q : eqA (.tup [.int a, .int b, .int c, .int d, .int e]) (.tup []) h = some false := by
  show some (PyData.eqv (.tuple [.int a, .int b, .int c, .int d, .int e]) (.tuple [])) = some false
  simp [PyData.eqv, PyData.eqvAll]
 show (match eqA (.tup [.int a, .int b, .int c, .int d, .int e]) (.tup []) h with | some b => Out.ok (AV.bl (!b)) h | none => Out.bad) = _
 rw [q]; rfl
theorem ziw (m f l : Ms) (h : AH) : fEq (yaU m f l) (.tup []) h = .ok (.bl false) h := by
 have q : eqA (yaU m f l) (.tup []) h = some false := by
  show some (PyData.eqv (.tuple [.int _, .int _, .int _, .int _, .int _]) (.tuple [])) = some false
  simp [PyData.eqv, PyData.eqvAll]
 show (match eqA (yaU m f l) (.tup []) h with | some b => Out.ok (AV.bl b) h | none => Out.bad) = _
 rw [q]
theorem yhp {h : AH} {p D d n : Nat} {kvs : List (AV × AV)} {v : AV} (eD : h[D]? = some (.dct false kvs)) (e : valA kvs (.int n) = some v) : yaM (d + 1) [.ref p, .int n, .ref D] h = .ok v h := by
 simp [yaM, ycQ, eD, e, ybA]
theorem eqFL (h : AH) : fEq (.str "leaf") (.str "fork") h = .ok (.bl false) h := by
 have : ¬ (Str.ofString "leaf" = Str.ofString "fork") := by decide +kernel
 simp [this]
theorem eqFF (h : AH) : fEq (.str "fork") (.str "fork") h = .ok (.bl true) h := by simp
theorem zix {h : AH} {p D d n : Nat} {ps : List Pc} {kvs : List (AV × AV)} {x : Str} (S : ShelfAt h p ps) (n1 : 1 <= n) (ep : ps[n - 1]? = some (.leaf x)) (x1 : 1 <= x.length) (x8 : x.length <= 8) (eD : h[D]? = some (.dct false kvs)) (e : valA kvs (.int n) = none) (sz : kvs.length < sizeLine) :
  yaM (d + 1) [.ref p, .int n, .ref D] h = .ok (.tup [.int 0, .int x.length, .int x.length, .int x.length, .int 1]) (h.set D (.dct false (putA kvs (.int n) (.tup [.int 0, .int x.length, .int x.length, .int x.length, .int 1])))) := by
 have fp := zbp S n1 ep
 have c1 : 0 < x.length := by lia
 have c2 : (x.length : Int) < 9 := by lia
 have ni : fIn (.int n) (.ref D) h = .ok (.bl false) h := by simp [eD, e, ybA]
 have ii : ∀ t : String, (AV.str x |> fun v => tyN v h) = some "str" := fun _ => rfl
 unfold yaM ycQ
 generalize yaM d = G
 simp [ni, S.ob, fp, i0L, eqL, i1L, eqFL, c1, c2, eD, sz, ybA, -fIn, -fEq, -fIx]
theorem ziy {h h1 h2 : AH} {p D d n a b : Nat} {ps : List Pc} {kvs kvs2 : List (AV × AV)} {ma mb fa la fb lb : Ms} (S : ShelfAt h p ps) (n1 : 1 <= n) (ep : ps[n - 1]? = some (.fork a b)) (a1 : 1 <= a) (b1 : 1 <= b) (an : a < n) (bn : b < n) (eD : h[D]? = some (.dct false kvs)) (e : valA kvs (.int n) = none)
  (e1 : yaM d [.ref p, .int a, .ref D] h = .ok (yaU ma fa la) h1) (e2 : yaM d [.ref p, .int b, .ref D] h1 = .ok (yaU mb fb lb) h2) (v1 : -1 <= ma.ht - mb.ht) (v2 : ma.ht - mb.ht <= 1) (hc : 8 < la.sg + fb.sg) (eD2 : h2[D]? = some (.dct false kvs2)) (sz : kvs2.length < sizeLine) :
  yaM (d + 1) [.ref p, .int n, .ref D] h = .ok (.tup [.int (1 + max ma.ht mb.ht), .int (ma.sg + mb.sg), .int fa.sg, .int lb.sg, .int (ma.lv + mb.lv)]) (h2.set D (.dct false (putA kvs2 (.int n) (.tup [.int (1 + max ma.ht mb.ht), .int (ma.sg + mb.sg), .int fa.sg, .int lb.sg, .int (ma.lv + mb.lv)])))) := by
 have fp := zaB S n1 ep
 have c1 : (0 : Int) < a /\ (a : Int) < n := by lia
 have c2 : (0 : Int) < b /\ (b : Int) < n := by lia
 have c3 : (8 : Int) < (la.sg : Int) + fb.sg := by lia
 have ni : fIn (.int n) (.ref D) h = .ok (.bl false) h := by simp [eD, e, ybA]
 have la1 : fLt (.int a) (.int n) h = .ok (.bl true) h := by simp [an]
 have lb1 : fLt (.int b) (.int n) h = .ok (.bl true) h := by simp [bn]
 have la0 : fLt (.int 0) (.int a) h = .ok (.bl true) h := by simp [show 0 < a by lia]
 have lb0 : fLt (.int 0) (.int b) h = .ok (.bl true) h := by simp [show 0 < b by lia]
 have x0 : ∀ (i j k l o : Int) h, fIx (.tup [.int i, .int j, .int k, .int l, .int o]) (.int 0) h = .ok (.int i) h := fun _ _ _ _ _ _ => rfl
 have x1 : ∀ (i j k l o : Int) h, fIx (.tup [.int i, .int j, .int k, .int l, .int o]) (.int 1) h = .ok (.int j) h := fun _ _ _ _ _ _ => rfl
 have x2 : ∀ (i j k l o : Int) h, fIx (.tup [.int i, .int j, .int k, .int l, .int o]) (.int 2) h = .ok (.int k) h := fun _ _ _ _ _ _ => rfl
 have x3 : ∀ (i j k l o : Int) h, fIx (.tup [.int i, .int j, .int k, .int l, .int o]) (.int 3) h = .ok (.int l) h := fun _ _ _ _ _ _ => rfl
 have x4 : ∀ (i j k l o : Int) h, fIx (.tup [.int i, .int j, .int k, .int l, .int o]) (.int 4) h = .ok (.int o) h := fun _ _ _ _ _ _ => rfl
 have ab : fAbs [.int (ma.ht - mb.ht)] h2 = .ok (.int (if ma.ht - mb.ht < 0 then -(ma.ht - mb.ht) else ma.ht - mb.ht)) h2 := rfl
 have abl : fLt (.int (if ma.ht - mb.ht < 0 then -(ma.ht - mb.ht) else ma.ht - mb.ht)) (.int 2) h2 = .ok (.bl true) h2 := by
  have : (if ma.ht - mb.ht < 0 then -(ma.ht - mb.ht) else ma.ht - mb.ht) < 2 := by split <;> lia
  simp only [fLt, this, decide_true]
 have gt : fGt (.int ((la.sg : Int) + fb.sg)) (.int 8) h2 = .ok (.bl true) h2 := by simp [c3]
 have mx : ybo [.int ma.ht, .int mb.ht] h2 = .ok (.int (max ma.ht mb.ht)) h2 := by
  have : (if ma.ht < mb.ht then mb.ht else ma.ht) = max ma.ht mb.ht := by split <;> lia
  simp [ybo, this]
 unfold yaU at e1 e2
 unfold yaM ycQ
 generalize yaM d = G at *
 simp [ni, S.ob, fp, i0F, eqF, eqFF, i1, i2, la0, la1, lb0, lb1, e1, e2, zfd, x0, x1, x2, x3, x4, ab, abl, gt, mx, eD2, sz, ybA, -fIn, -fEq, -fIx, -fLt, -fNe, -fAbs, -fGt, -ybo]
theorem zb6 {p : Nat} : ∀ (d : Nat) {h : AH} {ps : List Pc} {n D : Nat} {m f l : Ms} {x : Str} {kvs : List (AV × AV)}, ShelfAt h p ps -> Good ps -> Tx ps n m x f l -> m.ht.toNat < d -> D < p \/ p + 8 < D -> h[D]? = some (.dct false kvs) -> KOl ps kvs -> ps.length < 16000000 ->
  ∃ kvs', yaM d [.ref p, .int n, .ref D] h = .ok (yaU m f l) (h.set D (.dct false kvs')) /\ KOl ps kvs' /\ (valA kvs' (.int n)).isSome = true /\ (∀ k, (valA kvs k).isSome = true -> (valA kvs' k).isSome = true) /\ ∀ k : Int, (valA kvs' (.int k)).isSome = true -> (valA kvs (.int k)).isSome = true \/ k <= n
 | 0, h, ps, n, D, m, f, l, x, kvs, S, g, T, hd, hD, eD, K, hl => absurd hd (Nat.not_lt_zero _)
 | d + 1, h, ps, n, D, m, f, l, x, kvs, S, g, T, hd, hD, eD, K, hl => by
  have sz : ∀ {q : List (AV × AV)}, KOl ps q -> q.length < sizeLine := fun K => by
   have := K.few
   exact Nat.lt_of_le_of_lt (m := 16000000) (by lia) (by decide)
  cases e : valA kvs (.int n) with
  | some v =>
   obtain ⟨n', m', x', f', l', q1, T', rfl⟩ := K.ok n v e
   have : n = n' := Int.ofNat.inj q1
   subst this
   have z1 := T.ms.symm.trans T'.ms; cases z1
   have z2 := T.ky.fl.symm.trans T'.ky.fl; cases z2
   have z3 := T.ky.ll.symm.trans T'.ky.ll; cases z3
   exact ⟨kvs, by rw [zhp eD]; exact yhp eD e, K, by rw [e]; rfl, fun _ h => h, fun _ h => .inl h⟩
  | none =>
   have Dl := ya2 eD
   rcases g.kind T with ⟨e1, e2, e3, e4, e5⟩ | ⟨a, b, ma, mb, y, z, fa, la, fb, lb, ep, an, bn, A, B, e4, em, _⟩
   ·obtain ⟨z1, z2⟩ := zbq T e3
    have r := zix S T.n1 e1 e4 e5 eD e (sz K) (d := d)
    have lk : AV.tup [.int 0, .int x.length, .int x.length, .int x.length, .int 1] = yaU m f l := by
     unfold yaU
     rw [z1, z2, e3]; rfl
    rw [lk] at r
    obtain ⟨K3, i1, i2, i3⟩ := K.put T e (fun a b z => by rw [e1] at z; cases z)
    exact ⟨_, r, K3, i1, i2, fun k hk => (i3 _ hk).imp id fun z => by injection z with z; lia⟩
   ·have q : 0 < m.ht := by
     have := A.ky.ht
     have : m.ht = max ma.ht mb.ht + 1 := by rw [em]; rfl
     lia
    obtain ⟨a', b', ma', mb', y', z', la', fb', ep', A', B', rfl, em', w1, w2, w3⟩ := g.cut T q
    have zz := ep.symm.trans ep'
    injection zz with zz
    injection zz with t1 t2
    subst t1 t2
    have lm : m.lv = ma'.lv + mb'.lv := by rw [em']; rfl
    have hm : m.ht = max ma'.ht mb'.ht + 1 := by rw [em']; rfl
    have sm : m.sg = ma'.sg + mb'.sg := by rw [em']; rfl
    have a0 := A'.ky.ht
    have b0 := B'.ky.ht
    obtain ⟨k1, r1, K1, c1, c2, c3⟩ := zb6 d S g A' (by lia) hD eD K hl
    have S1 : ShelfAt (h.set D (.dct false k1)) p ps := S.keep fun i i1 i2 => List.getElem?_set_ne (by lia)
    have eD1 : (h.set D (.dct false k1))[D]? = some (.dct false k1) := List.getElem?_set_self Dl
    obtain ⟨k2, r2, K2, d1, d2, d3⟩ := zb6 d S1 g B' (by lia) hD eD1 K1 hl
    rw [List.set_set] at r2
    have eD2 : (h.set D (.dct false k2))[D]? = some (.dct false k2) := List.getElem?_set_self Dl
    have r3 := ziy S T.n1 ep A'.n1 B'.n1 an bn eD e r1 r2 w1 w2 w3 eD2 (sz K2)
    have lk : AV.tup [.int (1 + max ma'.ht mb'.ht), .int (ma'.sg + mb'.sg), .int f.sg, .int l.sg, .int (ma'.lv + mb'.lv)] = yaU m f l := by
     unfold yaU
     rw [hm, sm, lm, Int.add_comm 1]; simp
    rw [lk, List.set_set] at r3
    have e2 : valA k2 (.int n) = none := by
     cases w : valA k2 (.int n) with
     | none => rfl
     | some u =>
      rcases d3 n (by rw [w]; rfl) with h1 | h1
      ·rcases c3 n h1 with h2 | h2
       ·rw [e] at h2; cases h2
       ·lia
      ·lia
    obtain ⟨K3, i1, i2, i3⟩ := K2.put T e2 (fun a2 b2 z => by
     have zz := ep.symm.trans z
     injection zz with zz
     injection zz with t1 t2
     subst t1 t2
     exact ⟨d2 _ c1, d1⟩)
    refine ⟨_, r3, K3, i1, fun k hk => i2 k (d2 k (c2 k hk)), fun k hk => ?_⟩
    rcases i3 _ hk with h1 | h1
    ·rcases d3 k h1 with h2 | h2
     ·rcases c3 k h2 with h3 | h3
      ·exact .inl h3
      ·exact .inr (by lia)
     ·exact .inr (by lia)
    ·injection h1 with h1
     exact .inr (by lia)
end Sk
namespace Sk
open PySem PySem.Spec L2 Sm
theorem zcO (ns : List Int) : ydD (ns.map AV.int) = some ns := by
 induction ns with
 | nil => rfl
 | cons n r ih => simp [ih]
theorem yfy {a b c : Nat} (e : a = b + c) (h : AH) : fSub (.int a) (.int b) h = .ok (.int c) h := by
 have : (a : Int) - b = c := by lia
 simp only [fSub, this]
theorem yeH {a b c : Nat} (e : a + b = c) (h : AH) : fAdd (.int a) (.int b) h = .ok (.int c) h := by
 have : (a : Int) + b = c := by lia
 simp only [fAdd, this]
theorem yem {a b c : Nat} (ha : a <= 1000000) (e : a * b = c) (h : AH) : fMul (.int a) (.int b) h = .ok (.int c) h := by
 rw [yfa (Nat.lt_of_le_of_lt (m := 1000000) (by lia) (by decide)), <- e]; rfl
theorem ygB {a b c : Nat} (hb : b <= 1000000) (e : a * b = c) (h : AH) : fMul (.int a) (.int b) h = .ok (.int c) h := by
 rw [ygq (Nat.lt_of_le_of_lt (m := 1000000) (by lia) (by decide)), <- e]; rfl
def rp (B : List Nat) (t : Nat) : List Nat := (List.replicate t B).flatten
theorem rp_s (B : List Nat) (t : Nat) : rp B (t + 1) = B ++ rp B t := by
 unfold rp; rw [List.replicate_succ, List.flatten_cons]
theorem yea (B : List Nat) : ∀ t : Nat, (rp B t).length = B.length * t
 | 0 => rfl
 | t + 1 => by rw [rp_s, List.length_append, yea B t, Nat.mul_succ, Nat.add_comm]
theorem yfe (B : List Nat) : ∀ t : Nat, (rp B t).count 10 = B.count 10 * t
 | 0 => rfl
 | t + 1 => by rw [rp_s, List.count_append, yfe B t, Nat.mul_succ, Nat.add_comm]
abbrev Bk := Str × Nat
abbrev bv (x : Bk) : AV := .tup [.str x.1, .int x.2]
def fB : List Bk -> List Nat
 | [] => []
 | x :: r => rp x.1.cps.toList x.2 ++ fB r
theorem yev : ∀ a b : List Bk, fB (a ++ b) = fB a ++ fB b
 | [], b => rfl
 | x :: a, b => by rw [List.cons_append, fB, fB, yev a b, List.append_assoc]
theorem yew (x : Bk) : fB [x] = rp x.1.cps.toList x.2 := by rw [fB, fB, List.append_nil]
theorem zfe (x : Bk) : (rp x.1.cps.toList x.2).length = x.1.length * x.2 := by rw [yea, <- zaf]
def BOk (bs : List Bk) : Prop := ∀ q ∈ bs, q.1.length <= 100
theorem sumB : ∀ bs : List Bk, (bs.map fun x : Bk => ((x.1.length * x.2 : Nat) : Int)).sum = ((fB bs).length : Int)
 | [] => rfl
 | x :: r => by rw [List.map_cons, List.sum_cons, sumB r, fB, List.length_append, zfe]; lia
theorem sumC : ∀ bs : List Bk, (bs.map fun x : Bk => ((x.1.cps.toList.count 10 * x.2 : Nat) : Int)).sum = ((fB bs).count 10 : Int)
 | [] => rfl
 | x :: r => by rw [List.map_cons, List.sum_cons, sumC r, fB, List.count_append, yfe]; lia
theorem zhq (x : Str) (h : AH) : ybi (.str x) [.str "\n"] h = .ok (.int ((x.cps.toList.count 10 : Nat) : Int)) h := by
 rw [<- zaQ]
 simp [ybi, yeu, ycD]
theorem zdW {h : AH} {bs : List Bk} (ok : BOk bs) (hl : bs.length <= 1000) : ybF [.fl (bs.map bv)] h = .ok (.int (fB bs).length) h := by
 have c1 := zaM (js := []) (en := [some (.fl (bs.map bv))]) (w := none) (all := bs.map bv) (c := un2 sYes) (e := un2 (sOp2 fMul (yae fLen (sCons (sVar 0) sNil)) (sVar 1))) (g := bv) (f := fun x : Bk => AV.int ((x.1.length * x.2 : Nat) : Int)) (p := fun _ => true) (h := h) rfl bs [] (fun _ _ => rfl) (by
  intro x hx _
  have b := ok x hx
  exact yem (a := x.1.length) (b := x.2) (by lia) rfl h) (by exact Nat.le_trans (m := 1000) (by simpa using hl) (by decide))
 rw [List.filter_eq_self.mpr (fun _ _ => rfl), List.nil_append] at c1
 have it : ybw (sVar 0) [some (.fl (bs.map bv))] h = .ok (bs.map bv, none) h := by
  generalize bs.map bv = Z
  simp
 have e : (bs.map fun x : Bk => AV.int ((x.1.length * x.2 : Nat) : Int)) = (bs.map fun x : Bk => ((x.1.length * x.2 : Nat) : Int)).map AV.int := by rw [List.map_map]; rfl
 rw [e] at c1
 have cp : ybT [] (ybw (sVar 0)) sYes (sOp2 fMul (yae fLen (sCons (sVar 0) sNil)) (sVar 1)) [some (.fl (bs.map bv))] h = .ok (.fl ((bs.map fun x : Bk => ((x.1.length * x.2 : Nat) : Int)).map AV.int)) h := by
  simp only [ybT, yaY, it, c1]
 have sm : fSum [.fl ((bs.map fun x : Bk => ((x.1.length * x.2 : Nat) : Int)).map AV.int)] h = .ok (.int (fB bs).length) h := by
  simp only [fSum, zcO, sumB]
 unfold ybF
 generalize ybT [] (ybw (sVar 0)) sYes (sOp2 fMul (yae fLen (sCons (sVar 0) sNil)) (sVar 1)) = CP at *
 generalize (bs.map fun x : Bk => ((x.1.length * x.2 : Nat) : Int)).map AV.int = Z at *
 generalize bs.map bv = Z2 at *
 simp [cp, sm, -fSum]
theorem ygC {h : AH} {bs : List Bk} (ok : BOk bs) (hl : bs.length <= 1000) (o0 o1 o3 o4 o5 o6 o7 : Option AV) :
  yae fSum (sCons (ybT [] (ybw (sVar 2)) sYes (sOp2 fMul (sBM yb1 ybi (sVar 0) (sCons (sLit (.str "\n")) sNil)) (sVar 1))) sNil) [o0, o1, some (.fl (bs.map bv)), o3, o4, o5, o6, o7] h = .ok (.int ((fB bs).count 10 : Nat)) h := by
 have c1 := zaM (js := []) (en := [o0, o1, some (.fl (bs.map bv)), o3, o4, o5, o6, o7]) (w := none) (all := bs.map bv) (c := un2 sYes) (e := un2 (sOp2 fMul (sBM yb1 ybi (sVar 0) (sCons (sLit (.str "\n")) sNil)) (sVar 1))) (g := bv) (f := fun x : Bk => AV.int ((x.1.cps.toList.count 10 * x.2 : Nat) : Int)) (p := fun _ => true) (h := h) rfl bs [] (fun _ _ => rfl) (by
  intro x hx _
  have b := ok x hx
  have c := List.count_le_length (a := 10) (l := x.1.cps.toList)
  rw [<- zaf] at c
  have e1 := zhq x.1 h
  have e2 := yem (a := x.1.cps.toList.count 10) (b := x.2) (by lia) rfl h
  have is : yb1 (.str x.1) h = true := rfl
  have u : un2 (sOp2 fMul (sBM yb1 ybi (sVar 0) (sCons (sLit (.str "\n")) sNil)) (sVar 1)) (some (bv x) :: ([] : List Nat).map fun j => (([o0, o1, some (.fl (bs.map bv)), o3, o4, o5, o6, o7] : En)[j]?).join) h = sOp2 fMul (sBM yb1 ybi (sVar 0) (sCons (sLit (.str "\n")) sNil)) (sVar 1) [some (.str x.1), some (.int x.2)] h := rfl
  rw [u]
  generalize ((x.1.cps.toList.count 10 * x.2 : Nat) : Int) = A at *
  generalize ((x.1.cps.toList.count 10 : Nat) : Int) = B at *
  simp [is, e1, e2, -fMul, -ybi, -yb1]) (by exact Nat.le_trans (m := 1000) (by simpa using hl) (by decide))
 rw [List.filter_eq_self.mpr (fun _ _ => rfl), List.nil_append] at c1
 have it : ybw (sVar 2) [o0, o1, some (.fl (bs.map bv)), o3, o4, o5, o6, o7] h = .ok (bs.map bv, none) h := by
  generalize bs.map bv = Z
  simp
 have e : (bs.map fun x : Bk => AV.int ((x.1.cps.toList.count 10 * x.2 : Nat) : Int)) = (bs.map fun x : Bk => ((x.1.cps.toList.count 10 * x.2 : Nat) : Int)).map AV.int := by rw [List.map_map]; rfl
 rw [e] at c1
 have cp : ybT [] (ybw (sVar 2)) sYes (sOp2 fMul (sBM yb1 ybi (sVar 0) (sCons (sLit (.str "\n")) sNil)) (sVar 1)) [o0, o1, some (.fl (bs.map bv)), o3, o4, o5, o6, o7] h = .ok (.fl ((bs.map fun x : Bk => ((x.1.cps.toList.count 10 * x.2 : Nat) : Int)).map AV.int)) h := by
  simp only [ybT, yaY, it, c1]
 have sm : fSum [.fl ((bs.map fun x : Bk => ((x.1.cps.toList.count 10 * x.2 : Nat) : Int)).map AV.int)] h = .ok (.int ((fB bs).count 10 : Nat)) h := by
  simp only [fSum, zcO, sumC]
 generalize ybT [] (ybw (sVar 2)) sYes (sOp2 fMul (sBM yb1 ybi (sVar 0) (sCons (sLit (.str "\n")) sNil)) (sVar 1)) = CP at *
 generalize (bs.map fun x : Bk => ((x.1.cps.toList.count 10 * x.2 : Nat) : Int)).map AV.int = Z at *
 generalize bs.map bv = Z2 at *
 simp [cp, sm, -fSum]
structure Fr (L : Nat) (h h' : AH) : Prop where
 fr : ∀ i, i < h.length -> i ≠ L -> h'[i]? = h[i]?
 hl : h.length <= h'.length
 ro : ∃ N : Int, h'[L]? = some (.lst [.int N])
theorem Fr.trans {L : Nat} {h h' h'' : AH} (a : Fr L h h') (b : Fr L h' h'') : Fr L h h'' :=
 ⟨fun i hi n => (b.fr i (Nat.lt_of_lt_of_le hi a.hl) n).trans (a.fr i hi n), Nat.le_trans a.hl b.hl, b.ro⟩
theorem Fr.app {L : Nat} {h h' : AH} (a : Fr L h h') (r : AH) : Fr L h (h' ++ r) := by
 obtain ⟨N, e⟩ := a.ro
 exact ⟨fun i hi n => by rw [List.getElem?_append_left (Nat.lt_of_lt_of_le hi a.hl)]; exact a.fr i hi n, by rw [List.length_append]; have := a.hl; lia, N, by rw [List.getElem?_append_left (ya2 e)]; exact e⟩
theorem Fr.set {L : Nat} {h h' : AH} (a : Fr L h h') (N' : Int) : Fr L h (h'.set L (.lst [.int N'])) := by
 obtain ⟨N, e⟩ := a.ro
 exact ⟨fun i hi n => by rw [List.getElem?_set_ne (Ne.symm n)]; exact a.fr i hi n, by rw [List.length_set]; exact a.hl, N', List.getElem?_set_self (ya2 e)⟩
theorem Fr.new {L R : Nat} {h h' : AH} (a : Fr L h h') (hR : h.length <= R) (hL : L < h.length) (o : AO) : Fr L h (h'.set R o) := by
 obtain ⟨N, e⟩ := a.ro
 exact ⟨fun i hi n => by rw [List.getElem?_set_ne (by lia)]; exact a.fr i hi n, by rw [List.length_set]; exact a.hl, N, by rw [List.getElem?_set_ne (by lia)]; exact e⟩
theorem Fr.take {L : Nat} {h h' : AH} (a : Fr L h h') (m : Nat) (hm : 0 < m) (hm2 : m <= 10 ^ 50) : ∃ (v : Nat) (N : Int), v < m /\ yaj [.ref L, .int m] h' = .ok (.int v) (h'.set L (.lst [.int N])) /\ Fr L h (h'.set L (.lst [.int N])) := by
 obtain ⟨N, e⟩ := a.ro
 obtain ⟨v, hv, t⟩ := zfb m e hm hm2
 exact ⟨v, _, hv, t, a.set _⟩
theorem yfz (l : List Nat) : ∀ (n j : Nat), j < l.length * n -> (rp l n)[j]? = l[j % l.length]?
 | 0, j, hj => by rw [Nat.mul_zero] at hj; exact absurd hj (Nat.not_lt_zero _)
 | n + 1, j, hj => by
  rw [rp_s, List.getElem?_append]
  split
  ·rename_i q; rw [Nat.mod_eq_of_lt q]
  ·rename_i q
   rw [yfz l n (j - l.length) (by rw [Nat.mul_succ] at hj; lia), <- Nat.mod_eq_sub_mod (Nat.le_of_not_lt q)]
theorem zdX {h : AH} (all : List AV) (rw' : Option AV) : ∀ (rs : List Bk) (q : Nat) (o2 o3 : Option AV), BOk rs -> q < (fB rs).length -> ∃ c, (fB rs)[q]? = some c /\ ybf none all (.tup [2, 3]) yaF (rs.map bv) [rw', some (.int q), o2, o3] h = .rt (.str ⟨#[c]⟩) h
 | [], q, _, _, _, hq => absurd hq (Nat.not_lt_zero _)
 | (y, k) :: rs, q, o2, o3, ok, hq => by
  have y2' : y.length <= 100 := ok (y, k) (by simp)
  have mu := yem (a := y.length) (b := k) (by lia) rfl h
  have ex : fB ((y, k) :: rs) = rp y.cps.toList k ++ fB rs := rfl
  have lr : (rp y.cps.toList k).length = y.length * k := zfe (y, k)
  have ln : fLen [.str y] h = .ok (.int y.length) h := by simp
  by_cases c : q < y.length * k
  ·have y1' : 1 <= y.length := by
    apply Classical.byContradiction
    intro z
    rw [show y.length = 0 by lia, Nat.zero_mul] at c
    lia
   have yl : q % y.length < y.cps.toList.length := by rw [<- zaf]; exact Nat.mod_lt _ y1'
   refine ⟨y.cps.toList[q % y.length], ?_, ?_⟩
   ·rw [ex, List.getElem?_append_left (by rw [lr]; exact c), yfz _ _ _ (by rw [<- zaf]; exact c), <- zaf, List.getElem?_eq_getElem yl]
   ·have c' : fLt (.int q) (.int ((y.length * k : Nat) : Int)) h = .ok (.bl true) h := by
     have : (q : Int) < ((y.length * k : Nat) : Int) := Int.ofNat_lt.mpr c
     simp only [fLt, this, decide_true]
    have md : fMod (.int q) (.int y.length) h = .ok (.int (q % y.length : Nat)) h := by
     have y0 : (0 : Int) < y.length := by lia
     simp [y0]
     lia
    have ix : fIx (.str y) (.int (q % y.length : Nat)) h = .ok (.str ⟨#[y.cps.toList[q % y.length]]⟩) h := by simp only [fIx, zb1 (List.getElem?_eq_getElem yl)]
    have eB : yaF [rw', some (.int q), some (.str y), some (.int k)] h = .rt (.str ⟨#[y.cps.toList[q % y.length]]⟩) h := by
     generalize (⟨#[y.cps.toList[q % y.length]]⟩ : Str) = Z at *
     generalize ((q % y.length : Nat) : Int) = Q at *
     generalize ((y.length * k : Nat) : Int) = YK at *
     generalize (y.length : Int) = YL at *
     simp [yaF, ln, mu, c', md, ix, -fLen, -fMul, -fLt, -fMod, -fIx]
    generalize yaF = BB at *
    simp [ybf, bv, setT, eB]
  ·obtain ⟨c0, e0, g0⟩ := zdX (h := h) all rw' rs (q - y.length * k) (some (.str y)) (some (.int k)) (fun z hz => ok z (by simp [hz])) (by rw [ex, List.length_append, lr] at hq; lia)
   refine ⟨c0, ?_, ?_⟩
   ·rw [ex, List.getElem?_append_right (by rw [lr]; lia), lr]; exact e0
   ·have c' : fLt (.int q) (.int ((y.length * k : Nat) : Int)) h = .ok (.bl false) h := by
     have : ¬ (q : Int) < ((y.length * k : Nat) : Int) := fun z => c (Int.ofNat_lt.mp z)
     simp only [fLt, this, decide_false]
    have sb : fSub (.int q) (.int ((y.length * k : Nat) : Int)) h = .ok (.int ((q - y.length * k : Nat) : Int)) h := by
     have : (q : Int) - ((y.length * k : Nat) : Int) = ((q - y.length * k : Nat) : Int) := by lia
     simp only [fSub, this]
    have eB : yaF [rw', some (.int q), some (.str y), some (.int k)] h = .nx [rw', some (.int ((q - y.length * k : Nat) : Int)), some (.str y), some (.int k)] h := by
     generalize ((q - y.length * k : Nat) : Int) = Q at *
     generalize ((y.length * k : Nat) : Int) = YK at *
     generalize (y.length : Int) = YL at *
     simp [yaF, ln, mu, c', sb, -fLen, -fMul, -fLt, -fSub]
    generalize yaF = BB at *
    rw [List.map_cons]
    unfold ybf
    simp [bv, setT, eB]
    exact g0
theorem ziz {h : AH} {rs : List Bk} {q : Nat} (ok : BOk rs) (hq : q < (fB rs).length) : ∃ c, (fB rs)[q]? = some c /\ ya3 [.fl (rs.map bv), .int q] h = .ok (.str ⟨#[c]⟩) h := by
 obtain ⟨c, e, g⟩ := zdX (h := h) (rs.map bv) (some (.fl (rs.map bv))) rs q none none ok hq
 refine ⟨c, e, ?_⟩
 have it : ybw (sVar 0) [some (.fl (rs.map bv)), some (.int q), none, none] h = .ok (rs.map bv, none) h := by
  generalize rs.map bv = Z
  simp
 have f1 := (ycW (t := .tup [2, 3]) (b := yaF) it).trans g
 unfold ya3
 generalize sFor (ybw (sVar 0)) (.tup [2, 3]) yaF = FO at *
 generalize rs.map bv = Z at *
 generalize (⟨#[c]⟩ : Str) = CC at *
 simp [f1]
end Sk
namespace Sk
open PySem PySem.Spec L2 Sm
theorem cutB (l : List Bk) (k : Nat) (h : AH) : ybB (.fl (l.map bv)) none (some (k : Int)) h = .ok (.fl ((l.take k).map bv)) h := by
 simp only [ybB]
 congr 2
 unfold cutA
 rw [HT.sIx_nat, HT.sIx_none, List.length_map, List.map_take]
 show ((l.map bv).drop 0).take (min k l.length - 0) = _
 rw [List.drop_zero, Nat.sub_zero]
 by_cases q : k <= l.length
 ·rw [Nat.min_eq_left q]
 ·rw [Nat.min_eq_right (by lia), List.take_of_length_le (by simp), List.take_of_length_le (by simp; lia)]
abbrev eSp (Z : AV) (L T R : Nat) (s : Int) (o5 o6 : Option AV) : En := [some Z, some (.ref L), some (.int T), some (.ref R), some (.int s), o5, o6]
structure Sq (L : Nat) (h hh : AH) (qs : List Int) : Prop where
 f : Fr L h hh
 p : hh[h.length]? = some (.lst (qs.map AV.int))
theorem yff {L R k : Nat} {hh : AH} {qs ws : List Int} (p : hh[R]? = some (.lst (qs.map AV.int))) (w : hh[k]? = some (.lst (ws.map AV.int))) (lq : qs.length + ws.length <= 1000) : yc3 (.ref R) [.ref k] hh = .ok .non (hh.set R (.lst ((qs ++ ws).map AV.int))) := by
 have : (qs.map AV.int).length + (ws.map AV.int).length <= sizeLine := Nat.le_trans (m := 1000) (by simpa using lq) (by decide)
 simp only [yc3, p, w, this, if_true, List.map_append]
theorem ziA {L T : Nat} {Z : AV} {h hh : AH} {qs : List Int} {s : Int} {x : Bk} (q : Sq L h hh qs) (hL : L < h.length) (lq : qs.length <= 900) (hx : x.1.length <= 100) :
  ∃ (h' : AH) (ws : List Int) (s' : Int), ws.length = 3 /\ ybk (eSp Z L T h.length s (some (.str x.1)) (some (.int x.2))) hh = .nx (eSp Z L T h.length s' (some (.str x.1)) (some (.int x.2))) h' /\ Sq L h h' (qs ++ ws) := by
 obtain ⟨s', es⟩ : ∃ s' : Int, s' = s + ((x.1.length * x.2 : Nat) : Int) := ⟨_, rfl⟩
 obtain ⟨ws, ews⟩ : ∃ ws : List Int, ws = [s' - 1, s', s' - x.1.length] := ⟨_, rfl⟩
 obtain ⟨h3, eh3⟩ : ∃ h3, h3 = hh ++ [AO.lst (ws.map AV.int)] := ⟨_, rfl⟩
 have P3 : h3[h.length]? = some (.lst (qs.map AV.int)) := by rw [eh3, List.getElem?_append_left (ya2 q.p)]; exact q.p
 have W3 : h3[hh.length]? = some (.lst (ws.map AV.int)) := by rw [eh3]; simp
 have lw : ws.length = 3 := by rw [ews]; rfl
 have xt := yff (L := L) P3 W3 (by lia)
 have isl : ya6 (.ref h.length) hh = true := by simp [q.p]
 refine ⟨h3.set h.length (.lst ((qs ++ ws).map AV.int)), ws, s', lw, ?_, ⟨(eh3 ▸ q.f.app _).new (by lia) hL _, List.getElem?_set_self (ya2 P3)⟩⟩
 have mu := yem (a := x.1.length) (b := x.2) (by lia) rfl hh
 have ln : fLen [.str x.1] hh = .ok (.int x.1.length) hh := by simp
 have ad : fAdd (.int s) (.int ((x.1.length * x.2 : Nat) : Int)) hh = .ok (.int s') hh := by rw [es]; rfl
 have s1 : fSub (.int s') (.int 1) hh = .ok (.int (s' - 1)) hh := rfl
 have s2 : fSub (.int s') (.int x.1.length) hh = .ok (.int (s' - x.1.length)) hh := rfl
 have hw : ws.map AV.int = [.int (s' - 1), .int s', .int (s' - x.1.length)] := by rw [ews]; rfl
 rw [hw] at eh3
 generalize h3.set h.length (.lst ((qs ++ ws).map AV.int)) = HF at *
 clear q P3 W3 hw ews es
 simp only [eSp]
 generalize ((x.1.length * x.2 : Nat) : Int) = XL at *
 generalize (x.1.length : Int) = X1 at *
 generalize s' - 1 = K1 at *
 generalize s' - X1 = K2 at *
 simp [ybk, isl, ln, mu, ad, s1, s2, <- eh3, xt, -ya6, -fSub, -fAdd, -fMul, -fLen, -yc3]
theorem ziB {h : AH} {L : Nat} {bs : List Bk} (eL : ∃ N : Int, h[L]? = some (.lst [.int N])) (ok : BOk bs) (hl : bs.length <= 1000) (h0 : 0 < (fB bs).length) (hT : (fB bs).length <= 1000000000000000000) :
  ∃ (h' : AH) (qs : List Int), ycC [.fl (bs.map bv), .ref L] h = .ok (.fl (qs.map AV.int)) h' /\ Fr L h h' /\ (∀ q ∈ qs, 0 <= q /\ q < (fB bs).length) /\ qs.length <= 1000 := by
 obtain ⟨N0, eN⟩ := eL
 have hL := ya2 eN
 have ln := zdW (h := h) ok hl
 have ct := cutB bs 12
 have okc : BOk (bs.take 12) := fun q hq => ok q (List.mem_of_mem_take hq)
 obtain ⟨T, eT_⟩ : ∃ T, T = (fB bs).length := ⟨_, rfl⟩
 rw [<- eT_] at h0 hT ln ⊢
 obtain ⟨cs, ecs⟩ : ∃ cs, cs = bs.take 12 := ⟨_, rfl⟩
 rw [<- ecs] at ct okc
 have lc : cs.length <= 12 := by rw [ecs, List.length_take]; lia
 have F0 : Fr L h h := ⟨fun _ _ _ => rfl, Nat.le_refl _, N0, eN⟩
 obtain ⟨Z, eZ⟩ : ∃ Z, Z = AV.fl (bs.map bv) := ⟨_, rfl⟩
 rw [<- eZ] at ln ct ⊢
 obtain ⟨q0, eq0⟩ : ∃ q0 : List Int, q0 = [0, (T : Int) - 1] := ⟨_, rfl⟩
 have Q0 : Sq L h (h ++ [.lst (q0.map AV.int)]) q0 := ⟨F0.app _, by simp⟩
 obtain ⟨e', H1, r1, r2⟩ := yd8 (w := none) (all := cs.map bv) (t := .tup [5, 6]) (b := ybk) (xs := cs.map bv) (en := eSp Z L T h.length 0 none none) (h := h ++ [.lst (q0.map AV.int)])
  (fun j en hh => j <= cs.length -> ∃ (qs : List Int) (s : Int) (o5 o6 : Option AV), qs.length <= 2 + 3 * j /\ en = eSp Z L T h.length s o5 o6 /\ Sq L h hh qs)
  (fun _ => ⟨q0, 0, none, none, by rw [eq0]; exact Nat.le_refl _, rfl, Q0⟩) (fun _ _ _ _ => rfl) (by
   intro j u en hh hu p2
   rw [List.getElem?_map] at hu
   obtain ⟨x, ex, rfl⟩ := Option.map_eq_some_iff.mp hu
   have hj := (List.getElem?_eq_some_iff.mp ex).1
   obtain ⟨qs, s, o5, o6, lq, rfl, Q⟩ := p2 (by lia)
   obtain ⟨h', ws, s', lw, ev, Q'⟩ := ziA (T := T) (Z := Z) (s := s) (x := x) Q hL (by lia) (okc x (List.mem_of_getElem? ex))
   show thn (ybk (eSp Z L T h.length s (some (.str x.1)) (some (.int x.2))) hh) _
   rw [ev]
   exact fun _ => ⟨qs ++ ws, s', _, _, by rw [List.length_append]; lia, rfl, Q'⟩)
 have lnk : (cs.map bv).length = cs.length := List.length_map ..
 rw [lnk] at r2
 obtain ⟨qs, s, o5, o6, lq, rfl, Q1⟩ := r2 (Nat.le_refl _)
 have it1 : ybw (sCut (sVar 0) none (some (sLit (.int 12)))) (eSp Z L T h.length 0 none none) (h ++ [.lst (q0.map AV.int)]) = .ok (cs.map bv, none) (h ++ [.lst (q0.map AV.int)]) := by
  have := ct (h ++ [.lst (q0.map AV.int)])
  have c2 : ybB Z none (some 12) (h ++ [.lst (q0.map AV.int)]) = .ok (.fl (cs.map bv)) (h ++ [.lst (q0.map AV.int)]) := this
  generalize cs.map bv = CS at *
  simp [eSp, c2, -ybB]
 have l1 := (ycW (t := .tup [5, 6]) (b := ybk) it1).trans r1
 obtain ⟨zs, H2, c1, c2⟩ := ye9 (js := [1, 2]) (en := eSp Z L T h.length s o5 o6) (all := yaO 0 3) (e := yae yaj (sCons (sVar 1) (sCons (sVar 2) sNil))) (xs := yaO 0 3) (h := H1)
  (fun j ys hh => ∃ ws : List Int, ys = ws.map AV.int /\ ws.length = j /\ Sq L h hh qs) ⟨[], rfl, rfl, Q1⟩ (by
   rintro j x ys hh _ ⟨ws, rfl, lw, Q⟩
   obtain ⟨v, N, hv, t, f⟩ := Q.f.take T h0 (Nat.le_trans hT (by decide))
   have e : yae yaj (sCons (sVar 1) (sCons (sVar 2) sNil)) (some x :: [1, 2].map fun j => ((eSp Z L T h.length s o5 o6)[j]?).join) hh = .ok (.int v) (hh.set L (.lst [.int N])) := by
    simp [eSp, t]
   rw [e]
   exact ⟨ws ++ [(v : Int)], by simp, by simp [lw], f, by rw [List.getElem?_set_ne (by lia)]; exact Q.p⟩) (by decide)
 rw [zaO] at c2
 obtain ⟨ws, rfl, lw, Q2⟩ := c2
 have cm : ycU [1, 2] (yaZ (sLit (.int 3))) sYes (yae yaj (sCons (sVar 1) (sCons (sVar 2) sNil))) (eSp Z L T h.length s o5 o6) H1 = .ok (.ref H2.length) (H2 ++ [.lst (ws.map AV.int)]) := by
  have r := zaN (a := sLit (.int 3)) (en := eSp Z L T h.length s o5 o6) (h := H1) (n := 3) rfl (by decide)
  simp only [ycU, r, c1]
 obtain ⟨H3, eH3⟩ : ∃ H3, H3 = H2 ++ [AO.lst (ws.map AV.int)] := ⟨_, rfl⟩
 have P3 : H3[h.length]? = some (.lst (qs.map AV.int)) := by rw [eH3, List.getElem?_append_left (ya2 Q2.p)]; exact Q2.p
 have W3 : H3[H2.length]? = some (.lst (ws.map AV.int)) := by rw [eH3]; simp
 have xt := yff (L := L) P3 W3 (by lia)
 obtain ⟨us, eus⟩ : ∃ us, us = qs ++ ws := ⟨_, rfl⟩
 have lu : us.length <= 100 := by rw [eus, List.length_append]; lia
 rw [<- eus] at xt
 obtain ⟨H4, eH4⟩ : ∃ H4, H4 = H3.set h.length (.lst (us.map AV.int)) := ⟨_, rfl⟩
 have P4 : H4[h.length]? = some (.lst (us.map AV.int)) := by rw [eH4]; exact List.getElem?_set_self (ya2 P3)
 have F4 : Fr L h H4 := by rw [eH4, eH3]; exact (Q2.f.app _).new (Nat.le_refl _) hL _
 rw [<- eH4] at xt
 have lv : ybx (some h.length) (us.map AV.int) H4 = true := by simp [P4]
 have cp := zaM (js := [2]) (en := eSp Z L T h.length s o5 o6) (w := some h.length) (all := us.map AV.int) (c := yap (ybD fLe fLt (sLit (.int 0)) (sVar 0) (sVar 1))) (e := sVar 0) (g := AV.int) (f := AV.int) (p := fun x => decide (0 <= x /\ x < (T : Int))) (h := H4) lv us [] (by
  intro x hx
  have l1 : fLe (.int 0) (.int x) H4 = .ok (.bl (decide (0 <= x))) H4 := by simp
  have l2 : fLt (.int x) (.int T) H4 = .ok (.bl (decide (x < T))) H4 := by simp
  by_cases a : 0 <= x
  ·rw [decide_eq_true a] at l1
   have : decide (0 <= x /\ x < (T : Int)) = decide (x < (T : Int)) := by simp [a]
   rw [this]
   simp [eSp, l1, l2, -fLe, -fLt]
  ·rw [decide_eq_false a] at l1
   have : decide (0 <= x /\ x < (T : Int)) = false := by simp [a]
   rw [this]
   simp [eSp, l1, -fLe]) (fun x _ _ => rfl) (Nat.le_trans (m := 100) (by simpa using lu) (by decide))
 rw [List.nil_append] at cp
 have it4 : iVal (sVar 3) (eSp Z L T h.length s o5 o6) H4 = .ok (us.map AV.int, some h.length) H4 := by
  simp [eSp, P4]
 have sc : yaY [2] (iVal (sVar 3)) (yap (ybD fLe fLt (sLit (.int 0)) (sVar 0) (sVar 1))) (sVar 0) (eSp Z L T h.length s o5 o6) H4 = .ok (.fl ((us.filter fun x => decide (0 <= x /\ x < (T : Int))).map AV.int)) H4 := by
  simp only [yaY, it4, cp]
 refine ⟨H4, us.filter fun x => decide (0 <= x /\ x < (T : Int)), ?_, F4, ?_, ?_⟩
 ·generalize (us.filter fun x => decide (0 <= x /\ x < (T : Int))).map AV.int = OUT at *
  have isl : ya6 (.ref h.length) H1 = true := by simp [Q1.p]
  have s1 : fSub (.int T) (.int 1) h = .ok (.int ((T : Int) - 1)) h := rfl
  have q0' : q0.map AV.int = [.int 0, .int ((T : Int) - 1)] := by rw [eq0]; rfl
  rw [q0'] at l1
  rw [<- eH3] at cm
  clear Q0 Q1 Q2 r1 c1 cp it1 it4 lv F0 F4 P3 W3 P4 eH3 eH4 lnk r2 q0' eq0 ct
  unfold ycC
  generalize yaY [2] (iVal (sVar 3)) (yap (ybD fLe fLt (sLit (.int 0)) (sVar 0) (sVar 1))) (sVar 0) = SC at *
  generalize ycU [1, 2] (yaZ (sLit (.int 3))) sYes (yae yaj (sCons (sVar 1) (sCons (sVar 2) sNil))) = SM at *
  generalize sFor (ybw (sCut (sVar 0) none (some (sLit (.int 12))))) (.tup [5, 6]) ybk = L1 at *
  simp only [eSp] at l1 sc cm
  generalize (T : Int) - 1 = T1 at *
  simp [ln, s1, l1, isl, cm, xt, sc, -ya6, -fSub, -yc3]
 ·intro q hq
  rw [List.mem_filter, decide_eq_true_eq] at hq
  exact hq.2
 ·exact Nat.le_trans (List.length_filter_le _ _) (by lia)
end Sk
namespace Sk
open PySem PySem.Spec L2 Sm
theorem ziC {h : AH} {p : Nat} {ps : List Pc} (S : ShelfAt h p ps) (g : Good ps) {n q D : Nat} {m : Ms} {x : Str} {f l : Ms} {kvs : List (AV × AV)} (T : Tx ps n m x f l) (eD : h[D]? = some (.dct false kvs)) (K : KOl ps kvs) (hn : (valA kvs (.int n)).isSome = true) (hq : q < x.length) :
  ∃ c, x.cps.toList[q]? = some c /\ ybI [.ref p, .int n, .int q, .ref D] h = .ok (.str ⟨#[c]⟩) h := by
 have ln := zaf x
 have hq' : q < x.cps.toList.length := by rw [<- ln]; exact hq
 obtain ⟨c, ec⟩ : ∃ c, x.cps.toList[q]? = some c := ⟨_, List.getElem?_eq_getElem hq'⟩
 refine ⟨c, ec, ?_⟩
 obtain ⟨pc, epc⟩ : ∃ pc, ps[n - 1]? = some pc := by
  have := T.le
  have := T.n1
  exact ⟨_, List.getElem?_eq_getElem (by lia)⟩
 have fp0 := zbb S T.n1 epc
 obtain ⟨e', h', r1, rfl, o1, q', y, o5, r2, r3⟩ := zik (c := yap (sOp2 fEq (sOp2 fIx (sVar 4) (sLit (.int 0))) (sLit (.str "fork")))) (b := ya9) (fuel := yek) (n := m.ht.toNat) (en := [some (.ref p), some (.int n), some (.int q), some (.ref D), some pc.av, none]) (h := h)
  (fun i en hh => hh = h /\ ∃ (n' q' : Nat) (m' : Ms) (x' : Str) (f' l' : Ms) (pc' : Pc) (o5 : Option AV), Tx ps n' m' x' f' l' /\ m'.ht.toNat = i /\ (valA kvs (.int n')).isSome = true /\ x'.cps.toList[q']? = some c /\ ps[n' - 1]? = some pc' /\ en = [some (.ref p), some (.int n'), some (.int q'), some (.ref D), some pc'.av, o5])
  (fun en hh => hh = h /\ ∃ (o1 : Option AV) (q' : Nat) (y : Str) (o5 : Option AV), y.cps.toList[q']? = some c /\ en = [some (.ref p), o1, some (.int q'), some (.ref D), some (Pc.leaf y).av, o5])
  ⟨rfl, n, q, m, x, f, l, pc, none, T, rfl, hn, ec, epc, rfl⟩ (Nat.lt_of_le_of_lt (zhg g T) (by decide)) (by
   rintro i en hh ⟨rfl, n', q', m', x', f', l', pc', o5, T', hi, hn', ec', ep', rfl⟩
   rcases g.kind T' with ⟨e1, e2, e3, _⟩ | ⟨a, b, ma, mb, y, z, fa, la, fb, lb, e1, e2, e3, A, B, e4, e5, e6⟩
   ·have := ep'.symm.trans e1
    injection this with this
    subst this
    have c1 : (yap (sOp2 fEq (sOp2 fIx (sVar 4) (sLit (.int 0))) (sLit (.str "fork")))) [some (.ref p), some (.int n'), some (.int q'), some (.ref D), some (Pc.leaf x').av, o5] hh = .ok false hh := by
     have i0 : fIx (Pc.leaf x').av (.int 0) hh = .ok (.str "leaf") hh := rfl
     have q1 := eqFL hh
     generalize (Pc.leaf x').av = W at *
     simp [i0, q1, -fIx, -fEq]
    rw [c1]
    exact ⟨rfl, _, q', x', o5, ec', rfl⟩
   ·have := ep'.symm.trans e1
    injection this with this
    subst this
    obtain ⟨j, ej, ja, jb, z0⟩ := hs1 (show m'.ht = max ma.ht mb.ht + 1 by rw [e5]; rfl) A.ky.ht B.ky.ht
    have c1 : (yap (sOp2 fEq (sOp2 fIx (sVar 4) (sLit (.int 0))) (sLit (.str "fork")))) [some (.ref p), some (.int n'), some (.int q'), some (.ref D), some (Pc.fork a b).av, o5] hh = .ok true hh := by
     have i0 : fIx (Pc.fork a b).av (.int 0) hh = .ok (.str "fork") hh := rfl
     have q1 := eqFF hh
     generalize (Pc.fork a b).av = W at *
     simp [i0, q1, -fIx, -fEq]
    rw [c1]
    obtain ⟨ka, kb⟩ := K.cl n' a b hn' e1
    obtain ⟨v, ev⟩ := Option.isSome_iff_exists.mp ka
    obtain ⟨a', m2, x2, f2, l2, z1, T2, rfl⟩ := K.ok a v ev
    have : a = a' := Int.ofNat.inj z1
    subst this
    have z2 := A.ms.symm.trans T2.ms; cases z2
    have xa : fIx (.ref D) (.int a) hh = .ok (yaU ma f2 l2) hh := by simp [eD, ybA, ev]
    have xb : fIx (yaU ma f2 l2) (.int 1) hh = .ok (.int ma.sg) hh := rfl
    have i1 : fIx (Pc.fork a b).av (.int 1) hh = .ok (.int a) hh := rfl
    have i2 : fIx (Pc.fork a b).av (.int 2) hh = .ok (.int b) hh := rfl
    have sa := A.ky.sg
    have la : y.cps.toList.length = ma.sg := by rw [sa, <- zaf]
    rw [e4, zap] at ec'
    have lt : fLt (.int q') (.int ma.sg) hh = .ok (.bl (decide (q' < ma.sg))) hh := by
     have : decide ((q' : Int) < ma.sg) = decide (q' < ma.sg) := by apply decide_eq_decide.mpr; lia
     simp only [fLt, this]
    by_cases cq : q' < ma.sg
    ·obtain ⟨pa, epa⟩ : ∃ pc, ps[a - 1]? = some pc := by
      have := A.le
      have := A.n1
      exact ⟨_, List.getElem?_eq_getElem (by lia)⟩
     have fp := zbb S A.n1 epa
     rw [decide_eq_true cq] at lt
     have eB : ya9 [some (.ref p), some (.int n'), some (.int q'), some (.ref D), some (Pc.fork a b).av, o5] hh = .nx [some (.ref p), some (.int a), some (.int q'), some (.ref D), some pa.av, some (.int ma.sg)] hh := by
      have ob := S.ob
      clear K S T
      generalize (Pc.fork a b).av = W at *
      generalize pa.av = PA at *
      generalize yaU ma f2 l2 = LV at *
      simp [ya9, i1, xa, xb, lt, ob, fp, -fIx, -fLt]
     show thn (ya9 _ hh) _
     rw [eB]
     rw [List.getElem?_append_left (by lia)] at ec'
     exact ⟨ma.ht.toNat, by lia, rfl, a, q', ma, y, fa, _, pa, _, A, rfl, ka, ec', epa, rfl⟩
    ·obtain ⟨pb, epb⟩ : ∃ pc, ps[b - 1]? = some pc := by
      have := B.le
      have := B.n1
      exact ⟨_, List.getElem?_eq_getElem (by lia)⟩
     have fp := zbb S B.n1 epb
     rw [decide_eq_false cq] at lt
     have sb := yfy (a := q') (b := ma.sg) (c := q' - ma.sg) (by lia) hh
     have eB : ya9 [some (.ref p), some (.int n'), some (.int q'), some (.ref D), some (Pc.fork a b).av, o5] hh = .nx [some (.ref p), some (.int b), some (.int (q' - ma.sg : Nat)), some (.ref D), some pb.av, some (.int ma.sg)] hh := by
      have ob := S.ob
      clear K S T
      generalize (Pc.fork a b).av = W at *
      generalize pb.av = PA at *
      generalize yaU ma f2 l2 = LV at *
      generalize ((q' - ma.sg : Nat) : Int) = QQ at *
      simp [ya9, i1, i2, xa, xb, lt, sb, ob, fp, -fIx, -fLt, -fSub]
     show thn (ya9 _ hh) _
     rw [eB]
     rw [List.getElem?_append_right (by lia), la] at ec'
     exact ⟨mb.ht.toNat, by lia, rfl, b, q' - ma.sg, mb, z, fb, lb, pb, _, B, rfl, kb, ec', epb, rfl⟩)
 subst r3
 have i1 : fIx (Pc.leaf y).av (.int 1) h' = .ok (.str y) h' := rfl
 have k1 : fIx (.str y) (.int q') h' = .ok (.str ⟨#[c]⟩) h' := by simp only [fIx, zb1 r2]
 have ob := S.ob
 clear K S T
 unfold ybI
 generalize ybJ (yap (sOp2 fEq (sOp2 fIx (sVar 4) (sLit (.int 0))) (sLit (.str "fork")))) ya9 yek = WH at *
 generalize pc.av = PA at *
 generalize (Pc.leaf y).av = PB at *
 generalize (⟨#[c]⟩ : Str) = CC at *
 simp [ob, fp0, r1, i1, k1, -fIx]
structure Rr (L : Nat) (h : AH) (ps : List Pc) : Prop where
 sh : ShelfAt h 0 ps
 gd : Good ps
 far : 8 < L
 ro : ∃ N : Int, h[L]? = some (.lst [.int N])
theorem Rr.fr {L : Nat} {h h' : AH} {ps : List Pc} (s : Rr L h ps) (f : Fr L h h') : Rr L h' ps := by
 have l8 := ya2 s.sh.h8
 have fa := s.far
 exact ⟨s.sh.keep fun i i1 i8 => f.fr i (by lia) (by lia), s.gd, s.far, f.ro⟩
theorem Rr.app {L : Nat} {h : AH} {ps : List Pc} (s : Rr L h ps) (r : AH) : Rr L (h ++ r) ps := by
 obtain ⟨N, e⟩ := s.ro
 exact ⟨s.sh.app r, s.gd, s.far, N, by rw [List.getElem?_append_left (ya2 e)]; exact e⟩
theorem Rr.dd {L : Nat} {h h' : AH} {ps ps' : List Pc} {k : Nat} (s : Rr L h ps) (d : Dd 0 h h' ps ps' k) : Rr L h' ps' := by
 obtain ⟨N, e⟩ := s.ro
 have := s.far
 exact ⟨d.sh, d.gd, s.far, N, (d.fr L (.inr (by lia))).trans e⟩
theorem Rr.self {L : Nat} {h : AH} {ps : List Pc} (s : Rr L h ps) : Fr L h h := ⟨fun _ _ _ => rfl, Nat.le_refl _, s.ro⟩
theorem zc5 {L n : Nat} {h : AH} {ps : List Pc} {X : Str} {bs : List Bk} (s : Rr L h ps) (T : TxZ ps n X) (eX : X.cps.toList = fB bs) (hX : X.length <= 1000000000000000000) (ok : BOk bs) (hl : bs.length <= 1000) (hz : ps.length < 16000000) :
  ∃ h', ybe [.ref 0, .int n, .fl (bs.map bv), .ref L] h = .ok (.bl true) h' /\ Fr L h h' := by
 have xl : (fB bs).length = X.length := by rw [<- eX, <- zaf]
 have lh := zdW (h := h) ok hl
 rw [xl] at lh
 rcases T with ⟨rfl, rfl⟩ | ⟨m, f, l, T⟩
 ·refine ⟨h, ?_, s.self⟩
  have z0 : fEq (.int 0) (.int 0) h = .ok (.bl true) h := by simp
  have lh' : ybF [.fl (bs.map bv)] h = .ok (.int 0) h := lh
  unfold ybe
  generalize bs.map bv = Z at *
  simp [lh', z0, -fEq]
 ·have n1 := T.n1
  have sg := T.ky.sg
  have sg1 := T.ky.sg1
  have e0 : fEq (.int n) (.int 0) h = .ok (.bl false) h := by
   have : ¬ n = 0 := by lia
   simp [this]
  have e1 : fEq (.int X.length) (.int 0) h = .ok (.bl false) h := by
   have : ¬ X.length = 0 := by lia
   simp [this]
  obtain ⟨N0, eN⟩ := s.ro
  have Ll := ya2 eN
  have h8 := ya2 s.sh.h8
  have hh := ht82 s.gd T
  have h0 := T.ky.ht
  obtain ⟨kvs, e2, K, kn, _, _⟩ := zb6 (p := 0) 90 (D := h.length) (kvs := []) (s.sh.app [.dct false []]) s.gd T (by lia) (by lia) (by simp) (KOl.nil ps) hz
  have st : (h ++ [AO.dct false []]).set h.length (.dct false kvs) = h ++ [.dct false kvs] := by simp
  rw [st] at e2
  have s1 := s.app [.dct false kvs]
  have eD : (h ++ [AO.dct false kvs])[h.length]? = some (.dct false kvs) := by simp
  have F0 := s.self.app [.dct false kvs]
  obtain ⟨h1, eh1⟩ : ∃ h1, h1 = h ++ [AO.dct false kvs] := ⟨_, rfl⟩
  have n1' : h1.length = h.length + 1 := by rw [eh1]; simp
  rw [<- eh1] at e2 s1 eD F0
  have q0 := ziw m f l h1
  have ix1 : fIx (yaU m f l) (.int 1) h1 = .ok (.int X.length) h1 := by rw [<- sg]; rfl
  have ne : fNe (.int X.length) (.int X.length) h1 = .ok (.bl false) h1 := by simp
  have fs := zaH s1.sh T.ms
  rw [sg] at fs
  have fe := ziq s1.sh T.ms
  have en := T.ky.en
  rw [zaQ, eX] at en
  rw [en] at fe
  obtain ⟨h2, qs, f2, F2, hq, lq⟩ := ziB (h := h1) s1.ro ok hl (by lia) (by lia)
  have s2 := s1.fr F2
  have D2 : h2[h.length]? = some (.dct false kvs) := (F2.fr h.length (by lia) (by lia)).trans eD
  rw [xl] at hq
  have ca := zhc (js := [0, 1, 5, 2]) (en := [some (.ref 0), some (.int n), some (.fl (bs.map bv)), some (.ref L), some (.int X.length), some (.ref h.length), some (yaU m f l), some (.fl (qs.map AV.int))]) (w := none) (all := qs.map AV.int) (e := sOp2 fEq (yae ybI (sCons (sVar 1) (sCons (sVar 2) (sCons (sVar 0) (sCons (sVar 3) sNil))))) (yae ya3 (sCons (sVar 4) (sCons (sVar 0) sNil)))) (g := AV.int) (f := fun _ => AV.bl true) (h := h2) rfl qs [] (by
   intro q hqq
   obtain ⟨q0, q1⟩ := hq q hqq
   obtain ⟨a, rfl⟩ : ∃ a : Nat, q = a := ⟨q.toNat, by lia⟩
   obtain ⟨c, c1, c2⟩ := ziC (q := a) s2.sh s2.gd T D2 K kn (by lia)
   obtain ⟨c', c3, c4⟩ := ziz (h := h2) (q := a) ok (by lia)
   rw [<- eX, c1] at c3
   cases c3
   have eq : fEq (.str ⟨#[c]⟩) (.str ⟨#[c]⟩) h2 = .ok (.bl true) h2 := by simp
   generalize bs.map bv = Z at *
   generalize (⟨#[c]⟩ : Str) = CC at *
   generalize yaU m f l = LV at *
   generalize qs.map AV.int = QS at *
   generalize (X.length : Int) = XL at *
   simp [c2, c4, eq, -fEq]) (Nat.le_trans (m := 1000) (by simpa using lq) (by decide))
  have it : iVal (sVar 7) [some (.ref 0), some (.int n), some (.fl (bs.map bv)), some (.ref L), some (.int X.length), some (.ref h.length), some (yaU m f l), some (.fl (qs.map AV.int))] h2 = .ok (qs.map AV.int, none) h2 := by
   generalize qs.map AV.int = QS at *
   simp
  have sc : yaY [0, 1, 5, 2] (iVal (sVar 7)) sYes (sOp2 fEq (yae ybI (sCons (sVar 1) (sCons (sVar 2) (sCons (sVar 0) (sCons (sVar 3) sNil))))) (yae ya3 (sCons (sVar 4) (sCons (sVar 0) sNil)))) [some (.ref 0), some (.int n), some (.fl (bs.map bv)), some (.ref L), some (.int X.length), some (.ref h.length), some (yaU m f l), some (.fl (qs.map AV.int))] h2 = .ok (.fl (qs.map fun _ => AV.bl true)) h2 := by
   rw [List.nil_append] at ca
   simp only [yaY, it, ca]
  have al : fAll [.fl (qs.map fun _ => AV.bl true)] h2 = .ok (.bl true) h2 := by
   have : ∀ l : List Int, ycr (l.map fun _ => AV.bl true) = some (l.map fun _ => true) := by
    intro l
    induction l with
    | nil => rfl
    | cons a l ih => simp [ycr, ih]
   simp [fAll, this]
  refine ⟨h2, ?_, F0.trans F2⟩
  have sc' := ygC (h := h1) ok hl (some (.ref 0)) (some (.int n)) (some (.ref L)) (some (.int X.length)) (some (.ref h.length)) (some (yaU m f l)) none
  have ne2 : fNe (.int ((fB bs).count 10 : Nat)) (.int ((fB bs).count 10 : Nat)) h1 = .ok (.bl false) h1 := by simp
  have ob := s1.sh.ob
  clear s s1 s2 T K ca it F0 F2 D2 eD hq eX eh1
  unfold ybe
  generalize yaY [0, 1, 5, 2] (iVal (sVar 7)) sYes (sOp2 fEq (yae ybI (sCons (sVar 1) (sCons (sVar 2) (sCons (sVar 0) (sCons (sVar 3) sNil))))) (yae ya3 (sCons (sVar 4) (sCons (sVar 0) sNil)))) = SC at *
  generalize yae fSum (sCons (ybT [] (ybw (sVar 2)) sYes (sOp2 fMul (sBM yb1 ybi (sVar 0) (sCons (sLit (.str "\n")) sNil)) (sVar 1))) sNil) = SU at *
  generalize yaM 90 = FL at *
  generalize (((fB bs).count 10 : Nat) : Int) = CN at *
  generalize bs.map bv = Z at *
  generalize yaU m f l = LV at *
  generalize (qs.map fun _ => AV.bl true) = QB at *
  generalize qs.map AV.int = QS at *
  generalize (X.length : Int) = XL at *
  simp [lh, e0, e1, e2, q0, ix1, ne, ob, fs, fe, sc', ne2, f2, sc, al, -fEq, -fNe, -fIx, -fAll]
end Sk
namespace Sk
open PySem PySem.Spec L2 Sm
def lfS (b : Bool) : Str := if b then "a" else "bbbbbbbb"
def f18 (b : Bool) : Nat := if b then 1 else 8
def evB (n : Nat) : Bool := decide (n % 2 = 0)
def sgs (n : Nat) (b : Bool) : Nat := 9 * (n / 2) + n % 2 * f18 b
def las (n : Nat) (b : Bool) : Nat := if n % 2 = 0 then 9 - f18 b else f18 b
def nxB (n : Nat) (b : Bool) : Bool := decide (b = evB n)
theorem yeI (n : Nat) (b : Bool) : f18 (nxB n b) = if n % 2 = 0 then f18 b else 9 - f18 b := by
 unfold nxB evB f18
 by_cases q : n % 2 = 0 <;> cases b <;> simp [q]
theorem yeJ (b : Bool) : f18 b = 1 \/ f18 b = 8 := by cases b <;> simp [f18]
theorem ziD (n m : Nat) (b : Bool) : sgs (n + m) b = sgs n b + sgs m (nxB n b) := by
 unfold sgs
 rw [yeI]
 rcases Nat.mod_two_eq_zero_or_one n with q | q <;> rcases Nat.mod_two_eq_zero_or_one m with r | r <;> rcases yeJ b with f | f <;> rw [f, q, r]
 all_goals first
  | (have e : (n + m) % 2 = 0 := (by lia); rw [e]; simp; lia)
  | (have e : (n + m) % 2 = 1 := (by lia); rw [e]; simp; lia)
theorem ziE (n m : Nat) (b : Bool) : las (n + m) b = las m (nxB n b) := by
 unfold las
 rw [yeI]
 rcases Nat.mod_two_eq_zero_or_one n with q | q <;> rcases Nat.mod_two_eq_zero_or_one m with r | r <;> rcases yeJ b with f | f <;> rw [f, q, r]
 all_goals first
  | (have e : (n + m) % 2 = 0 := (by lia); rw [e]; simp)
  | (have e : (n + m) % 2 = 1 := (by lia); rw [e]; simp)
theorem zgv (n : Nat) (b : Bool) : 8 < las n b + f18 (nxB n b) := by
 unfold las
 rw [yeI]
 rcases Nat.mod_two_eq_zero_or_one n with q | q <;> rcases yeJ b with f | f <;> rw [f, q] <;> decide
theorem yhq (h : Nat) : ll (h + 1) = ll h + ll (h - 1) := by
 cases h with
 | zero => rfl
 | succ h => exact yhm h
theorem zdY : ∀ h, h < 83 -> sgs (ll h) true <= 1000000000000000000 /\ sgs (ll h) false <= 1000000000000000000 := by decide +kernel
theorem ygD {h : Nat} (b : Bool) (hh : h <= 82) : sgs (ll h) b <= 1000000000000000000 := by
 cases b
 ·exact (zdY h (by lia)).2
 ·exact (zdY h (by lia)).1
abbrev kyL (j : Nat) (c : Bool) : AV := .tup [.int (j : Int), .int (b01 c)]
def allK : List (Nat × Bool) := (List.range 83).map (fun j => (j, true)) ++ (List.range 83).map (fun j => (j, false))
def ycm (kvs : List (AV × AV)) : Nat := (allK.filter fun k => (valA kvs (kyL k.1 k.2)).isNone).length
theorem yex {j j' : Nat} {c c' : Bool} (e : kyL j c = kyL j' c') : j = j' /\ c = c' := by
 have h1 : (j : Int) = j' /\ b01 c = b01 c' := by
  simp only [kyL, AV.tup.injEq, List.cons.injEq, AV.int.injEq, and_true] at e
  exact e
 exact ⟨by lia, zhC h1.2⟩
theorem zhr {kvs : List (AV × AV)} {k v : AV} (e : valA kvs k = none) : putA kvs k v = kvs ++ [(k, v)] := by
 unfold putA
 rw [zb4, e]; rfl
theorem zaF (kvs : List (AV × AV)) (k v k' : AV) : valA (kvs ++ [(k, v)]) k' = (valA kvs k').or (if k = k' then some v else none) := by
 unfold valA
 rw [List.find?_append]
 cases kvs.find? (fun p => decide (p.1 = k')) with
 | some p => rfl
 | none =>
  by_cases q : k = k'
  ·simp [q]
  ·simp [q]
theorem zdr {α : Type} {p q : α -> Bool} {k : α} : ∀ {l : List α}, (∀ x, q x = true -> p x = true) -> k ∈ l -> p k = true -> q k = false -> (l.filter q).length + 1 <= (l.filter p).length
 | [], _, hk, _, _ => nomatch hk
 | x :: l, hs, hk, h1, h2 => by
  have le : (l.filter q).length <= (l.filter p).length := by
   clear hk
   induction l with
   | nil => exact Nat.le_refl _
   | cons y l ih =>
    rw [List.filter_cons, List.filter_cons]
    cases hq : q y with
    | true => rw [hs y hq]; simpa using ih
    | false => cases p y <;> simp <;> lia
  rw [List.filter_cons, List.filter_cons]
  rcases List.mem_cons.mp hk with rfl | hk
  ·rw [h1, h2]; simpa using le
  ·have ih := zdr hs hk h1 h2
   cases hq : q x with
   | true => rw [hs x hq]; simpa using ih
   | false => cases p x <;> simp <;> lia
theorem zhs {j : Nat} {c : Bool} (h : j <= 82) : (j, c) ∈ allK := by
 unfold allK
 cases c
 ·exact List.mem_append_right _ (List.mem_map.mpr ⟨j, List.mem_range.mpr (by lia), rfl⟩)
 ·exact List.mem_append_left _ (List.mem_map.mpr ⟨j, List.mem_range.mpr (by lia), rfl⟩)
theorem zht {kvs : List (AV × AV)} {j : Nat} {c : Bool} {v : AV} (hj : j <= 82) (e : valA kvs (kyL j c) = none) : ycm (kvs ++ [(kyL j c, v)]) + 1 <= ycm kvs := by
 unfold ycm
 refine zdr (k := (j, c)) ?_ (zhs hj) (by rw [e]; rfl) (by rw [zaF, e, if_pos rfl]; rfl)
 intro x hx
 rw [zaF] at hx
 cases hv : valA kvs (kyL x.1 x.2) with
 | none => rfl
 | some w => rw [hv] at hx; cases hx
theorem zcw : ycm [] = 166 := by decide +kernel
theorem zff {h : AH} {p : Nat} {ps : List Pc} {a b : Nat} {ma mb fa la fb lb : Ms} {x y : Str} (S : ShelfAt h p ps) (g : Good ps) (A : Tx ps a ma x fa la) (B : Tx ps b mb y fb lb) (hc : 8 < la.sg + fb.sg) (hv : (ma.ht - mb.ht).natAbs <= 1) (hm : ma.sg + mb.sg <= 1000000000000000000) (hz : ps.length < 16000000) :
  ∃ (n : Nat) (ps' : List Pc) (h' : AH), yad [.ref p, .int a, .int b] h = .ok (.int n) h' /\ Dd p h h' ps ps' 1 /\ 1 <= n /\ ps'[n - 1]? = some (.fork a b) /\ (Pc.fork a b ∈ ps -> ps' = ps) := by
 have F : ForkOk ps a b := ⟨A.n1, B.n1, ma, mb, la, fb, A.ms, B.ms, A.ky.ll, B.ky.fl, hc, hv, hm⟩
 by_cases hq : Pc.fork a b ∈ ps
 ·obtain ⟨i, hi, e⟩ := List.getElem_of_mem hq
  have e' : ps[i]? = some (.fork a b) := by rw [List.getElem?_eq_getElem hi, e]
  exact ⟨i + 1, ps, h, za3 S g.nodup F e', ⟨S, g, List.prefix_refl _, by lia, fun _ _ => rfl, rfl⟩, by lia, e', fun _ => rfl⟩
 ·have g' : Good (ps ++ [.fork a b]) := .snoc g hq F
  have e' : (ps ++ [Pc.fork a b])[ps.length]? = some (.fork a b) := by simp
  exact ⟨ps.length + 1, _, _, zcM S F hq hz, ⟨zaT S, g', List.prefix_append _ _, by simp, fun i hi => zbx hi, zbf _ _ _⟩, by lia, e', fun z => absurd z hq⟩
end Sk
namespace Sk
open PySem PySem.Spec L2 Sm
def lfX (c : Bool) : Str := if c then "xxxxxxxx" else "x"
theorem ygE (c : Bool) : yba (lfX c) = true /\ (lfX c).length = f18 (!c) /\ (lfX c).cps.toList = List.replicate (f18 (!c)) 120 := by cases c <;> decide +kernel
abbrev lv3 (j : Nat) (c : Bool) (n : Nat) : AV := .tup [.int n, .int (sgs (ll j) (!c)), .int (ll j)]
structure LX3 (ps : List Pc) (j : Nat) (c : Bool) (n : Nat) (m : Ms) (x : Str) (f l : Ms) : Prop where
 tx : Tx ps n m x f l
 ht : m.ht = j
 sg : m.sg = sgs (ll j) (!c)
 fs : f.sg = f18 (!c)
 lsg : l.sg = las (ll j) (!c)
 xs : x.cps.toList = List.replicate m.sg 120
def LY (ps : List Pc) (j : Nat) (c : Bool) (n : Nat) : Prop := ∃ m x f l, LX3 ps j c n m x f l
theorem LY.pre {ps ps' : List Pc} {j : Nat} {c : Bool} {n : Nat} (t : LY ps j c n) (pr : ps <+: ps') : LY ps' j c n := by
 obtain ⟨m, x, f, l, t⟩ := t
 exact ⟨m, x, f, l, t.tx.pre pr, t.ht, t.sg, t.fs, t.lsg, t.xs⟩
def MK3 (ps : List Pc) (kvs : List (AV × AV)) : Prop := ∀ j c v, valA kvs (kyL j c) = some v -> ∃ n : Nat, v = lv3 j c n /\ LY ps j c n
structure LT0 (D : Nat) (hh : AH) (ps : List Pc) (kvs : List (AV × AV)) : Prop where
 sh : ShelfAt hh 0 ps
 gd : Good ps
 dc : hh[D]? = some (.dct true kvs)
 mmk : MK3 ps kvs
 ln : kvs.length + ycm kvs <= 170
 far : 8 < D
structure LT1 (D j : Nat) (hh hh' : AH) (ps ps' : List Pc) (kvs kvs' : List (AV × AV)) : Prop where
 st : LT0 D hh' ps' kvs'
 pre : ps <+: ps'
 len : ps'.length + ycm kvs' <= ps.length + ycm kvs
 fr : ∀ i, 8 < i -> i < hh.length -> i ≠ D -> hh'[i]? = hh[i]?
 hl : hh.length <= hh'.length
 up : ∀ i c, j < i -> valA kvs' (kyL i c) = valA kvs (kyL i c)
theorem key3 (i t : Int) : ybA true (.tup [.int i, .int t]) = true := rfl
theorem nin3 {h : AH} {D : Nat} {kvs : List (AV × AV)} {j : Nat} {c : Bool} {o : Option AV} (e : h[D]? = some (.dct true kvs)) (ev : valA kvs (kyL j c) = o) : yb5 (.tup [.int (j : Int), .int (b01 c)]) (.ref D) h = .ok (.bl (!o.isSome)) h := by
 subst ev
 have k := key3 (j : Int) (b01 c)
 unfold kyL
 generalize b01 c = t at *
 simp [e, k]
theorem ix3 {h : AH} {D : Nat} {kvs : List (AV × AV)} {j : Nat} {c : Bool} {v : AV} (e : h[D]? = some (.dct true kvs)) (ev : valA kvs (kyL j c) = some v) : fIx (.ref D) (.tup [.int (j : Int), .int (b01 c)]) h = .ok v h := by
 have k := key3 (j : Int) (b01 c)
 unfold kyL at ev
 generalize b01 c = t at *
 simp [e, k, ev]
theorem yfg {h : AH} {D j n : Nat} {c : Bool} {kvs : List (AV × AV)} {ps : List Pc} (s : LT0 D h ps kvs) (ev : valA kvs (kyL j c) = none) (hj : j <= 82) (t : LY ps j c n) :
  (∀ en : En, en[4]? = some (some (.ref D)) -> ybm (sVar 4) (sLit (.tup [.int (j : Int), .int (b01 c)])) (sLit (lv3 j c n)) en h = .nx en (h.set D (.dct true (kvs ++ [(kyL j c, lv3 j c n)])))) /\ LT0 D (h.set D (.dct true (kvs ++ [(kyL j c, lv3 j c n)]))) ps (kvs ++ [(kyL j c, lv3 j c n)]) /\ ycm (kvs ++ [(kyL j c, lv3 j c n)]) + 1 <= ycm kvs := by
 have fp := zht (v := lv3 j c n) hj ev
 have ln := s.ln
 have hs : kvs.length < sizeLine := Nat.lt_of_le_of_lt (m := 170) (by lia) (by decide)
 refine ⟨fun en he => ?_, ⟨s.sh.keep fun i i1 i8 => List.getElem?_set_ne (by have := s.far; lia), s.gd, List.getElem?_set_self (ya2 s.dc), fun i d v e => ?_, by rw [List.length_append, List.length_singleton]; lia, s.far⟩, fp⟩
 ·have ev' : putA kvs (.tup [.int (j : Int), .int (b01 c)]) (lv3 j c n) = kvs ++ [(kyL j c, lv3 j c n)] := zhr ev
  have k := key3 (j : Int) (b01 c)
  have dc := s.dc
  generalize lv3 j c n = V at *
  generalize kvs ++ [(kyL j c, V)] = KV at *
  generalize b01 c = t at *
  simp [he, dc, k, hs, ev']
 ·rw [zaF] at e
  cases hv : valA kvs (kyL i d) with
  | some w => rw [hv] at e; cases e; exact s.mmk _ _ _ hv
  | none =>
   rw [hv] at e
   by_cases q : kyL j c = kyL i d
   ·rw [if_pos q] at e
    cases e
    obtain ⟨rfl, rfl⟩ := yex q
    exact ⟨n, rfl, t⟩
   ·rw [if_neg q] at e; cases e
theorem yfh {h : AH} {D d j : Nat} {c lf : Bool} {kvs : List (AV × AV)} {v : AV} (e : h[D]? = some (.dct true kvs)) (ev : valA kvs (kyL j c) = some v) : yaC (d + 1) [.ref 0, .int j, .int (b01 c), .bl lf, .ref D] h = .ok v h := by
 have n1 := nin3 e ev
 have i1 := ix3 e ev
 show ybH (yaC d) _ h = _
 generalize yaC d = G
 generalize b01 c = t at *
 simp [ybH, n1, i1, -yb5, -fIx]
theorem ziF {h h1 h2 : AH} {D d n : Nat} {c lf : Bool} {kvs kvs2 : List (AV × AV)} {ps : List Pc} (S : ShelfAt h 0 ps) (e : h[D]? = some (.dct true kvs)) (ev : valA kvs (kyL 0 c) = none) (gl : yat [.ref 0, .str (lfX c)] h = .ok (.int n) h1)
  (st : ∀ en : En, en[4]? = some (some (.ref D)) -> ybm (sVar 4) (sLit (.tup [.int ((0 : Nat) : Int), .int (b01 c)])) (sLit (lv3 0 c n)) en h1 = .nx en h2) (e2 : h2[D]? = some (.dct true kvs2)) (ev2 : valA kvs2 (kyL 0 c) = some (lv3 0 c n)) : yaC (d + 1) [.ref 0, .int (0 : Nat), .int (b01 c), .bl lf, .ref D] h = .ok (lv3 0 c n) h2 := by
 have n1 := nin3 e ev
 have i1 := ix3 e2 ev2
 have st' := st [some (.ref 0), some (.int 0), some (.int (b01 c)), some (.bl lf), some (.ref D), none, none, none] rfl
 have z0 : fEq (.int 0) (.int 0) h = .ok (.bl true) h := by simp
 have ob := S.ob
 have sv : ∀ hh, fIx (.fl [.int 1, .int 8]) (.int (b01 c)) hh = .ok (.int (f18 (!c) : Nat)) hh := fun hh => by cases c <;> rfl
 have ml : ydp (.str "x") (.int (f18 (!c) : Nat)) h = .ok (.str (lfX c)) h := by
  have ck : (1 <= ((f18 (!c) : Nat) : Int) /\ ((f18 (!c) : Nat) : Int) <= 1000 /\ 1 <= (Str.ofString "x").length /\ (Str.ofString "x").length <= 1000) /\ (Str.ofString "x").length * ((f18 (!c) : Nat) : Int).toNat <= 1000000 := by cases c <;> decide +kernel
  have er : repS "x" ((f18 (!c) : Nat) : Int).toNat = lfX c := by cases c <;> decide +kernel
  show (if (1 <= ((f18 (!c) : Nat) : Int) /\ ((f18 (!c) : Nat) : Int) <= 1000 /\ 1 <= (Str.ofString "x").length /\ (Str.ofString "x").length <= 1000) /\ (Str.ofString "x").length * ((f18 (!c) : Nat) : Int).toNat <= 1000000 then Out.ok (AV.str (repS "x" ((f18 (!c) : Nat) : Int).toNat)) h else .bad) = _
  rw [if_pos ck, er]
 have lv : lv3 0 c n = .tup [.int n, .int (f18 (!c) : Nat), .int 1] := by
  have : sgs (ll 0) (!c) = f18 (!c) := by cases c <;> rfl
  unfold lv3
  rw [this]; rfl
 rw [lv] at st' i1 ⊢
 have n1' : yb5 (.tup [.int 0, .int (b01 c)]) (.ref D) h = .ok (.bl true) h := n1
 have i1' : fIx (.ref D) (.tup [.int 0, .int (b01 c)]) h2 = .ok (.tup [.int n, .int (f18 (!c) : Nat), .int 1]) h2 := i1
 show ybH (yaC d) [.ref 0, .int 0, .int (b01 c), .bl lf, .ref D] h = _
 generalize yaC d = G
 generalize ((f18 (!c) : Nat) : Int) = FV at *
 generalize b01 c = t at *
 generalize lfX c = LX at *
 obtain ⟨SX, hSX⟩ : ∃ SX : SE -> SE -> SE -> SS, SX = ybm := ⟨_, rfl⟩
 have st2 : ybm (sVar 4) (sLit (.tup [.int 0, .int t])) (sLit (.tup [.int n, .int FV, .int 1])) [some (.ref 0), some (.int 0), some (.int t), some (.bl lf), some (.ref D), none, none, none] h1 = .nx [some (.ref 0), some (.int 0), some (.int t), some (.bl lf), some (.ref D), none, none, none] h2 := st'
 have st3 : ybm (sVar 4) (sTup (sCons (sLit (.int 0)) (sCons (sVar 2) sNil))) (sTup (sCons (yai 0 yat (sVar 0) (sCons (sOp2 ydp (sLit (.str "x")) (sOp2 fIx (sLst (sCons (sLit (.int 1)) (sCons (sLit (.int 8)) sNil))) (sVar 2))) sNil)) (sCons (sOp2 fIx (sLst (sCons (sLit (.int 1)) (sCons (sLit (.int 8)) sNil))) (sVar 2)) (sCons (sLit (.int 1)) sNil)))) [some (.ref 0), some (.int 0), some (.int t), some (.bl lf), some (.ref D), none, none, none] h = .nx [some (.ref 0), some (.int 0), some (.int t), some (.bl lf), some (.ref D), none, none, none] h2 := by
  rw [<- st2]
  simp [sv, ml, ob, gl, -fIx]
 unfold ybH
 generalize ybm (sVar 4) (sTup (sCons (sLit (.int 0)) (sCons (sVar 2) sNil))) (sTup (sCons (yai 0 yat (sVar 0) (sCons (sOp2 ydp (sLit (.str "x")) (sOp2 fIx (sLst (sCons (sLit (.int 1)) (sCons (sLit (.int 8)) sNil))) (sVar 2))) sNil)) (sCons (sOp2 fIx (sLst (sCons (sLit (.int 1)) (sCons (sLit (.int 8)) sNil))) (sVar 2)) (sCons (sLit (.int 1)) sNil)))) = S1 at *
 simp [n1', z0, st3, i1', -yb5, -fEq, -fIx]
end Sk
namespace Sk
open PySem PySem.Spec L2 Sm
def nxC (n : Nat) (c : Bool) : Bool := !(nxB n (!c))
theorem yhr (n : Nat) (c : Bool) : (b01 c + (n : Int)) % 2 = b01 (nxC n c) /\ (!(nxC n c)) = nxB n (!c) := by
 have e : (!(nxC n c)) = nxB n (!c) := by unfold nxC; cases nxB n (!c) <;> rfl
 refine ⟨?_, e⟩
 unfold nxC nxB evB
 rcases Nat.mod_two_eq_zero_or_one n with q | q
 ·rw [q]; cases c
  ·simp [b01]; lia
  ·simp [b01]; lia
 ·rw [q]; cases c
  ·simp [b01]; lia
  ·simp [b01]; lia
def jA (lf : Bool) (j : Nat) : Nat := if lf then j - 1 else j
def jB (lf : Bool) (j : Nat) : Nat := if lf then j else j - 1
theorem jAB (lf : Bool) (j : Nat) : ll (j + 1) = ll (jA lf j) + ll (jB lf j) /\ jA lf j <= j /\ jB lf j <= j /\ (((jA lf j : Nat) : Int) - (jB lf j : Nat)).natAbs <= 1 /\ max ((jA lf j : Nat) : Int) (jB lf j : Nat) = j := by
 have := yhq j
 unfold jA jB
 cases lf
 ·simp; lia
 ·simp; lia
def HTS : SS := (sSeq (sSet 5 (ybz (sCons (sOp2 fSub (sVar 1) (sLit (.int 1))) (sCons (yae ybo (sCons (sLit (.int 0)) (sCons (sOp2 fSub (sVar 1) (sLit (.int 2))) sNil))) sNil)))) (sIf (ybG (sVar 3)) (yaN (sBM0 ya6 ycs (sVar 5))) yaz))
def PUT3 : SS := (ybm (sVar 4) (sTup (sCons (sVar 1) (sCons (sVar 2) sNil))) (sTup (sCons (yai 0 yad (sVar 0) (sCons (sOp2 fIx (sVar 6) (sLit (.int 0))) (sCons (sOp2 fIx (sVar 7) (sLit (.int 0))) sNil))) (sCons (sOp2 fAdd (sOp2 fIx (sVar 6) (sLit (.int 1))) (sOp2 fIx (sVar 7) (sLit (.int 1)))) (sCons (sOp2 fAdd (sOp2 fIx (sVar 6) (sLit (.int 2))) (sOp2 fIx (sVar 7) (sLit (.int 2)))) sNil)))))
theorem hts {h : AH} {j : Nat} {lf : Bool} {o0 o2 o4 : Option AV} : HTS [o0, some (.int (j + 1 : Nat)), o2, some (.bl lf), o4, none, none, none] h = .nx [o0, some (.int (j + 1 : Nat)), o2, some (.bl lf), o4, some (.ref h.length), none, none] (h ++ [.lst [.int (jA lf j : Nat), .int (jB lf j : Nat)]]) := by
 have s1 : fSub (.int (j + 1 : Nat)) (.int 1) h = .ok (.int (j : Nat)) h := yfy (a := j + 1) (b := 1) (by lia) h
 have s2 : fSub (.int (j + 1 : Nat)) (.int 2) h = .ok (.int (((j + 1 : Nat) : Int) - 2)) h := rfl
 have mx : ybo [.int 0, .int (((j + 1 : Nat) : Int) - 2)] h = .ok (.int (j - 1 : Nat)) h := by
  have : (if ((j + 1 : Nat) : Int) - 2 > (0 : Int) then ((j + 1 : Nat) : Int) - 2 else (0 : Int)) = ((j - 1 : Nat) : Int) := by split <;> lia
  simp only [ybo, this]
 unfold HTS
 generalize ((j + 1 : Nat) : Int) - 2 = J2 at *
 generalize ((j + 1 : Nat) : Int) = J1 at *
 cases lf
 ·have a : jA false j = j := rfl
  have b : jB false j = j - 1 := rfl
  rw [a, b]
  generalize ((j - 1 : Nat) : Int) = J3 at *
  simp [s1, s2, mx, -fSub, -ybo]
 ·have a : jA true j = j - 1 := rfl
  have b : jB true j = j := rfl
  rw [a, b]
  generalize ((j - 1 : Nat) : Int) = J3 at *
  simp [s1, s2, mx, -fSub, -ybo]
theorem ziG {h h1 h2 h3 h4 : AH} {D d j a b n : Nat} {c lf : Bool} {kvs kvs4 : List (AV × AV)} {ps2 : List Pc} {j1 j2 : Nat} {c2 : Bool} (ej1 : j1 = jA lf j) (ej2 : j2 = jB lf j) (e : h[D]? = some (.dct true kvs)) (ev : valA kvs (kyL (j + 1) c) = none)
  (g1 : yaC d [.ref 0, .int j1, .int (b01 c), .bl lf, .ref D] (h ++ [.lst [.int j1, .int j2]]) = .ok (lv3 j1 c a) h1) (eH : h1[h.length]? = some (.lst [.int j1, .int j2])) (ec2 : (b01 c + (ll j1 : Int)) % 2 = b01 c2)
  (g2 : yaC d [.ref 0, .int j2, .int (b01 c2), .bl lf, .ref D] h1 = .ok (lv3 j2 c2 b) h2) (S2 : ShelfAt h2 0 ps2) (gf : yad [.ref 0, .int a, .int b] h2 = .ok (.int n) h3)
  (es : sgs (ll (j + 1)) (!c) = sgs (ll j1) (!c) + sgs (ll j2) (!c2)) (el : ll (j + 1) = ll j1 + ll j2)
  (st : ∀ en : En, en[4]? = some (some (.ref D)) -> ybm (sVar 4) (sLit (.tup [.int ((j + 1 : Nat) : Int), .int (b01 c)])) (sLit (lv3 (j + 1) c n)) en h3 = .nx en h4) (e4 : h4[D]? = some (.dct true kvs4)) (ev4 : valA kvs4 (kyL (j + 1) c) = some (lv3 (j + 1) c n)) :
  yaC (d + 1) [.ref 0, .int (j + 1 : Nat), .int (b01 c), .bl lf, .ref D] h = .ok (lv3 (j + 1) c n) h4 := by
 have n1 := nin3 e ev
 have i4 := ix3 e4 ev4
 have z0 : fEq (.int ((j + 1 : Nat) : Int)) (.int 0) h = .ok (.bl false) h := by simp; lia
 have hs := hts (h := h) (j := j) (lf := lf) (o0 := some (.ref 0)) (o2 := some (.int (b01 c))) (o4 := some (.ref D))
 rw [<- ej1, <- ej2] at hs
 have x0 : fIx (.ref h.length) (.int 0) (h ++ [.lst [.int j1, .int j2]]) = .ok (.int j1) (h ++ [.lst [.int j1, .int j2]]) := by
  have : (h ++ [AO.lst [.int j1, .int j2]])[h.length]? = some (.lst [.int j1, .int j2]) := by simp
  simp only [fIx, this]; rfl
 have x1 : fIx (.ref h.length) (.int 1) h1 = .ok (.int j2) h1 := by simp only [fIx, eH]; rfl
 have l2 : ∀ hh, fIx (lv3 j1 c a) (.int 2) hh = .ok (.int (ll j1)) hh := fun _ => rfl
 have l1 : ∀ hh, fIx (lv3 j1 c a) (.int 1) hh = .ok (.int (sgs (ll j1) (!c))) hh := fun _ => rfl
 have l0 : ∀ hh, fIx (lv3 j1 c a) (.int 0) hh = .ok (.int a) hh := fun _ => rfl
 have m2 : ∀ hh, fIx (lv3 j2 c2 b) (.int 2) hh = .ok (.int (ll j2)) hh := fun _ => rfl
 have m1 : ∀ hh, fIx (lv3 j2 c2 b) (.int 1) hh = .ok (.int (sgs (ll j2) (!c2))) hh := fun _ => rfl
 have m0 : ∀ hh, fIx (lv3 j2 c2 b) (.int 0) hh = .ok (.int b) hh := fun _ => rfl
 have ad : fAdd (.int (b01 c)) (.int (ll j1)) h1 = .ok (.int (b01 c + (ll j1 : Int))) h1 := rfl
 have md : fMod (.int (b01 c + (ll j1 : Int))) (.int 2) h1 = .ok (.int (b01 c2)) h1 := by
  show Out.ok (AV.int ((b01 c + (ll j1 : Int)) % 2)) h1 = _
  rw [ec2]
 have a1 : fAdd (.int (sgs (ll j1) (!c))) (.int (sgs (ll j2) (!c2))) h3 = .ok (.int (sgs (ll (j + 1)) (!c))) h3 := yeH es.symm h3
 have a2 : fAdd (.int (ll j1)) (.int (ll j2)) h3 = .ok (.int (ll (j + 1))) h3 := yeH el.symm h3
 have st' := st [some (.ref 0), some (.int (j + 1 : Nat)), some (.int (b01 c)), some (.bl lf), some (.ref D), some (.ref h.length), some (lv3 j1 c a), some (lv3 j2 c2 b)] rfl
 have ob2 := S2.ob
 have pt : PUT3 [some (.ref 0), some (.int (j + 1 : Nat)), some (.int (b01 c)), some (.bl lf), some (.ref D), some (.ref h.length), some (lv3 j1 c a), some (lv3 j2 c2 b)] h2 = .nx [some (.ref 0), some (.int (j + 1 : Nat)), some (.int (b01 c)), some (.bl lf), some (.ref D), some (.ref h.length), some (lv3 j1 c a), some (lv3 j2 c2 b)] h4 := by
  rw [<- st']
  have lv : lv3 (j + 1) c n = .tup [.int n, .int (sgs (ll (j + 1)) (!c)), .int (ll (j + 1))] := rfl
  rw [lv]
  clear st st' g1 g2 n1 i4 hs x0 x1 e4 ev4 eH
  unfold PUT3
  generalize lv3 j1 c a = V1 at *
  generalize lv3 j2 c2 b = V2 at *
  generalize (sgs (ll (j + 1)) (!c) : Int) = W1 at *
  generalize (ll (j + 1) : Int) = W2 at *
  generalize (sgs (ll j1) (!c) : Int) = W3 at *
  generalize (sgs (ll j2) (!c2) : Int) = W4 at *
  generalize (ll j1 : Int) = W5 at *
  generalize (ll j2 : Int) = W6 at *
  generalize b01 c = t at *
  generalize ((j + 1 : Nat) : Int) = J at *
  simp [l0, l1, l2, m0, m1, m2, ob2, gf, a1, a2, -fIx, -fAdd]
 have dS : ybH (yaC d) = mkFn 5 8
  (sSeq (sIf (yap (sOp2 yb5 (sTup (sCons (sVar 1) (sCons (sVar 2) sNil))) (sVar 4))) (sIf (yap (sOp2 fEq (sVar 1) (sLit (.int 0)))) (ybm (sVar 4) (sTup (sCons (sLit (.int 0)) (sCons (sVar 2) sNil))) (sTup (sCons (yai 0 yat (sVar 0) (sCons (sOp2 ydp (sLit (.str "x")) (sOp2 fIx (sLst (sCons (sLit (.int 1)) (sCons (sLit (.int 8)) sNil))) (sVar 2))) sNil)) (sCons (sOp2 fIx (sLst (sCons (sLit (.int 1)) (sCons (sLit (.int 8)) sNil))) (sVar 2)) (sCons (sLit (.int 1)) sNil))))) (sSeq (sSet 5 (ybz (sCons (sOp2 fSub (sVar 1) (sLit (.int 1))) (sCons (yae ybo (sCons (sLit (.int 0)) (sCons (sOp2 fSub (sVar 1) (sLit (.int 2))) sNil))) sNil))))
  (sSeq (sIf (ybG (sVar 3)) (yaN (sBM0 ya6 ycs (sVar 5))) yaz)
  (sSeq (sSet 6 (yae (yaC d) (sCons (sVar 0) (sCons (sOp2 fIx (sVar 5) (sLit (.int 0))) (sCons (sVar 2) (sCons (sVar 3) (sCons (sVar 4) sNil)))))))
  (sSeq (sSet 7 (yae (yaC d) (sCons (sVar 0) (sCons (sOp2 fIx (sVar 5) (sLit (.int 1))) (sCons (sOp2 fMod (sOp2 fAdd (sVar 2) (sOp2 fIx (sVar 6) (sLit (.int 2)))) (sLit (.int 2))) (sCons (sVar 3) (sCons (sVar 4) sNil)))))))
  PUT3))))) yaz)
  (sRet (sOp2 fIx (sVar 4) (sTup (sCons (sVar 1) (sCons (sVar 2) sNil)))))) := rfl
 show ybH (yaC d) _ h = _
 rw [dS]
 clear dS st st' e4 ev4 e ev gf a1 a2 m0 m1 m2 l0 l1
 generalize yaC d = G at *
 generalize PUT3 = PT at *
 generalize lv3 (j + 1) c n = V0 at *
 generalize lv3 j1 c a = V1 at *
 generalize lv3 j2 c2 b = V2 at *
 generalize (ll j1 : Int) = W5 at *
 generalize b01 c = t at *
 generalize b01 c2 = t2 at *
 generalize ((j + 1 : Nat) : Int) = J at *
 unfold HTS at hs
 generalize h ++ [AO.lst [.int j1, .int j2]] = hA at *
 have hs2 : ∀ {A B : SS} {R : SS} {en en' : En} {hx hy : AH}, sSeq A B en hx = .nx en' hy -> sSeq A (sSeq B R) en hx = R en' hy := by
  intro A B R en en' hx hy q
  simp only [sSeq] at q ⊢
  cases z : A en hx with
  | nx e1 h1 =>
   rw [z] at q
   simp only at q ⊢
   rw [q]
  | rt _ _ => rw [z] at q; cases q
  | bk _ _ => rw [z] at q; cases q
  | ct _ _ => rw [z] at q; cases q
  | ex _ _ _ => rw [z] at q; cases q
  | bad => rw [z] at q; cases q
 have hs3 := hs2 (R := (sSeq (sSet 6 (yae G (sCons (sVar 0) (sCons (sOp2 fIx (sVar 5) (sLit (.int 0))) (sCons (sVar 2) (sCons (sVar 3) (sCons (sVar 4) sNil)))))))
  (sSeq (sSet 7 (yae G (sCons (sVar 0) (sCons (sOp2 fIx (sVar 5) (sLit (.int 1))) (sCons (sOp2 fMod (sOp2 fAdd (sVar 2) (sOp2 fIx (sVar 6) (sLit (.int 2)))) (sLit (.int 2))) (sCons (sVar 3) (sCons (sVar 4) sNil)))))))
  PT))) hs
 generalize (sSeq (sSet 5 (ybz (sCons (sOp2 fSub (sVar 1) (sLit (.int 1))) (sCons (yae ybo (sCons (sLit (.int 0)) (sCons (sOp2 fSub (sVar 1) (sLit (.int 2))) sNil))) sNil))))
  (sSeq (sIf (ybG (sVar 3)) (yaN (sBM0 ya6 ycs (sVar 5))) yaz)
  (sSeq (sSet 6 (yae G (sCons (sVar 0) (sCons (sOp2 fIx (sVar 5) (sLit (.int 0))) (sCons (sVar 2) (sCons (sVar 3) (sCons (sVar 4) sNil)))))))
  (sSeq (sSet 7 (yae G (sCons (sVar 0) (sCons (sOp2 fIx (sVar 5) (sLit (.int 1))) (sCons (sOp2 fMod (sOp2 fAdd (sVar 2) (sOp2 fIx (sVar 6) (sLit (.int 2)))) (sLit (.int 2))) (sCons (sVar 3) (sCons (sVar 4) sNil)))))))
  PT)))) = BIG at *
 simp [x0, g1, x1, l2, ad, md, g2, pt, -fIx, -fAdd, -fMod] at hs3
 simp [n1, z0, hs3, i4, -yb5, -fEq, -fIx]
theorem zcx {D : Nat} {lf : Bool} : ∀ (d j : Nat) (c : Bool) {hh : AH} {ps : List Pc} {kvs : List (AV × AV)}, j < d -> j <= 82 -> LT0 D hh ps kvs -> ps.length + ycm kvs < 15000000 ->
  ∃ (n : Nat) (ps' : List Pc) (kvs' : List (AV × AV)) (hh' : AH), yaC d [.ref 0, .int j, .int (b01 c), .bl lf, .ref D] hh = .ok (lv3 j c n) hh' /\ LT1 D j hh hh' ps ps' kvs kvs' /\ LY ps' j c n
 | 0, _, _, _, _, _, hd, _, _, _ => absurd hd (Nat.not_lt_zero _)
 | d + 1, 0, c, hh, ps, kvs, _, _, s, hz => by
  cases ev : valA kvs (kyL 0 c) with
  | some v =>
   obtain ⟨n, rfl, t⟩ := s.mmk _ _ _ ev
   exact ⟨n, ps, kvs, hh, yfh s.dc ev, ⟨s, List.prefix_refl _, Nat.le_refl _, fun _ _ _ _ => rfl, Nat.le_refl _, fun _ _ _ => rfl⟩, t⟩
  | none =>
   obtain ⟨x1, x2, x3⟩ := ygE c
   obtain ⟨n, ps1, h1, gl, D1, T1⟩ := zdo s.sh s.gd x1 (by lia)
   have far := s.far
   have s1 : LT0 D h1 ps1 kvs := ⟨D1.sh, D1.gd, by rw [D1.fr D (.inr (by lia))]; exact s.dc, fun j c v e => by
    obtain ⟨n, e1, t⟩ := s.mmk j c v e
    exact ⟨n, e1, t.pre D1.pre⟩, s.ln, s.far⟩
   have t : LY ps1 0 c n := by
    have sz : sgs (ll 0) (!c) = f18 (!c) := by cases c <;> rfl
    have lz : las (ll 0) (!c) = f18 (!c) := by cases c <;> rfl
    exact ⟨_, _, _, _, T1, rfl, x2.trans sz.symm, x2, x2.trans lz.symm, by rw [x3]; show _ = List.replicate (lfX c).length 120; rw [x2]⟩
   obtain ⟨st, s2, fp⟩ := yfg s1 ev (by decide) t
   have ev2 : valA (kvs ++ [(kyL 0 c, lv3 0 c n)]) (kyL 0 c) = some (lv3 0 c n) := by rw [zaF, ev, if_pos rfl]; rfl
   have l1 := D1.len
   refine ⟨n, ps1, _, _, ziF s.sh s.dc ev gl st s2.dc ev2, ⟨s2, D1.pre, by lia, fun i i8 hi hn => by rw [List.getElem?_set_ne (Ne.symm hn), D1.fr i (.inr (by lia))], by rw [List.length_set, D1.hl]; exact Nat.le_refl _, fun i c' hi => ?_⟩, t⟩
   rw [zaF, if_neg (fun q => by have := (yex q).1; lia)]
   cases valA kvs (kyL i c') <;> rfl
 | d + 1, j + 1, c, hh, ps, kvs, hd, h82, s, hz => by
  cases ev : valA kvs (kyL (j + 1) c) with
  | some v =>
   obtain ⟨n, rfl, t⟩ := s.mmk _ _ _ ev
   exact ⟨n, ps, kvs, hh, yfh s.dc ev, ⟨s, List.prefix_refl _, Nat.le_refl _, fun _ _ _ _ => rfl, Nat.le_refl _, fun _ _ _ => rfl⟩, t⟩
  | none =>
   obtain ⟨q1, q2, q3, q4, q5⟩ := jAB lf j
   obtain ⟨j1, ej1⟩ : ∃ j1, j1 = jA lf j := ⟨_, rfl⟩
   obtain ⟨j2, ej2⟩ : ∃ j2, j2 = jB lf j := ⟨_, rfl⟩
   rw [<- ej1, <- ej2] at q1 q4 q5
   rw [<- ej1] at q2
   rw [<- ej2] at q3
   have far := s.far
   have Dl := ya2 s.dc
   have sA : LT0 D (hh ++ [.lst [.int j1, .int j2]]) ps kvs := ⟨s.sh.app _, s.gd, by rw [List.getElem?_append_left Dl]; exact s.dc, s.mmk, s.ln, s.far⟩
   obtain ⟨a, ps1, kvs1, h1, g1, s1, t1⟩ := zcx d j1 c (by lia) (by lia) sA (by lia)
   have eH : h1[hh.length]? = some (.lst [.int j1, .int j2]) := (s1.fr hh.length (by lia) (by simp) (by lia)).trans (by simp)
   obtain ⟨n1, n2⟩ := yhr (ll j1) c
   have l1 := s1.len
   obtain ⟨b, ps2, kvs2, h2, g2, s2, t2⟩ := zcx d j2 (nxC (ll j1) c) (by lia) (by lia) s1.st (by lia)
   have l2 := s2.len
   obtain ⟨ma, xa, fa, la, A⟩ := t1.pre s2.pre
   obtain ⟨mb, xb, fb, lb, B⟩ := t2
   have bsg := B.sg
   have bfs := B.fs
   have blg := B.lsg
   rw [n2] at bsg bfs blg
   have sg : sgs (ll (j + 1)) (!c) = sgs (ll j1) (!c) + sgs (ll j2) (nxB (ll j1) (!c)) := by rw [q1, ziD]
   have hm : ma.sg + mb.sg <= 1000000000000000000 := by rw [A.sg, bsg, <- sg]; exact ygD _ h82
   have cl : 8 < la.sg + fb.sg := by rw [A.lsg, bfs]; exact zgv _ _
   have hv : (ma.ht - mb.ht).natAbs <= 1 := by rw [A.ht, B.ht]; exact q4
   obtain ⟨n, ps3, h3, gf, D3, n3, en3, _⟩ := zff s2.st.sh s2.st.gd A.tx B.tx cl hv hm (by lia)
   have l3 := D3.len
   have T3 := zaV D3.gd en3 (A.tx.pre D3.pre) (B.tx.pre D3.pre)
   rw [show n - 1 + 1 = n by lia] at T3
   have t3 : LY ps3 (j + 1) c n := ⟨_, _, _, _, T3, by
    show max ma.ht mb.ht + 1 = _
    rw [A.ht, B.ht, q5]; rfl, by
    show ma.sg + mb.sg = _
    rw [A.sg, bsg, sg], A.fs, by rw [blg, q1, ziE], by
    show (xa ++ xb).cps.toList = List.replicate (ma.sg + mb.sg) 120
    rw [zap, A.xs, B.xs, List.replicate_append_replicate]⟩
   have s3 : LT0 D h3 ps3 kvs2 := ⟨D3.sh, D3.gd, by rw [D3.fr D (.inr (by lia))]; exact s2.st.dc, fun j c v e => by
    obtain ⟨n, e1, t⟩ := s2.st.mmk j c v e
    exact ⟨n, e1, t.pre D3.pre⟩, s2.st.ln, far⟩
   have up : ∀ i c', j < i -> valA kvs2 (kyL i c') = valA kvs (kyL i c') := fun i c' hi => (s2.up i c' (by lia)).trans (s1.up i c' (by lia))
   have ev3 : valA kvs2 (kyL (j + 1) c) = none := (up _ _ (by lia)).trans ev
   obtain ⟨st, s4, fp⟩ := yfg s3 ev3 h82 t3
   have ev4 : valA (kvs2 ++ [(kyL (j + 1) c, lv3 (j + 1) c n)]) (kyL (j + 1) c) = some (lv3 (j + 1) c n) := by rw [zaF, ev3, if_pos rfl]; rfl
   have gg := ziG (d := d) ej1 ej2 s.dc ev g1 eH n1 g2 s2.st.sh gf (by rw [n2]; exact sg) q1 st s4.dc ev4
   have z1 := s1.hl
   have z2 := s2.hl
   rw [List.length_append] at z1
   have z3 : [AO.lst [.int j1, .int j2]].length = 1 := rfl
   refine ⟨n, ps3, _, _, gg, ⟨s4, s1.pre.trans (s2.pre.trans D3.pre), by lia, fun i i8 hi hn => ?_, by rw [List.length_set, D3.hl]; lia, fun i c' hi => ?_⟩, t3⟩
   ·rw [List.getElem?_set_ne (Ne.symm hn), D3.fr i (.inr (by lia)), s2.fr i i8 (by lia) hn, s1.fr i i8 (by rw [List.length_append]; lia) hn, List.getElem?_append_left hi]
   ·rw [zaF, if_neg (fun q => by have := (yex q).1; lia), up i c' (by lia)]
    cases valA kvs (kyL i c') <;> rfl
end Sk
namespace Sk
open PySem PySem.Spec L2 Sm
theorem zds {h : AH} {p : Nat} {ps : List Pc} {n : Nat} {y : Str} (S : ShelfAt h p ps) (t : TxZ ps n y) : yay [.ref p, .int n] h = .ok (.int (htOf ps n)) h := by
 obtain ⟨m, em, _⟩ := t.meas
 rw [zad S em, ydO em]
theorem zfg {ps : List Pc} {n : Nat} {y : Str} (t : TxZ ps n y) : -1 <= htOf ps n := by
 rcases t with ⟨rfl, rfl⟩ | ⟨m, f, l, T⟩
 ·rw [ze9]; lia
 ·rw [ydO T.ms]; have := T.ky.ht; lia
theorem TxZ.pos {ps : List Pc} {n : Nat} {y : Str} (t : TxZ ps n y) (hy : 1 <= y.length) : ∃ m f l, Tx ps n m y f l := by
 rcases t with ⟨rfl, rfl⟩ | t
 ·exact absurd hy (by decide)
 ·exact t
structure Kd (L : Nat) (h h' : AH) (ps ps' : List Pc) (k : Nat) : Prop where
 rr : Rr L h' ps'
 pre : ps <+: ps'
 len : ps'.length <= ps.length + k
 fr : ∀ i, 8 < i -> i < h.length -> i ≠ L -> h'[i]? = h[i]?
 hl : h.length <= h'.length
theorem Kd.refl {L : Nat} {h : AH} {ps : List Pc} (s : Rr L h ps) : Kd L h h ps ps 0 := ⟨s, List.prefix_refl _, by lia, fun _ _ _ _ => rfl, Nat.le_refl _⟩
theorem Kd.fr' {L : Nat} {h h' h'' : AH} {ps ps' : List Pc} {k : Nat} (a : Kd L h h' ps ps' k) (f : Fr L h' h'') : Kd L h h'' ps ps' k :=
 ⟨a.rr.fr f, a.pre, a.len, fun i i8 hi n => (f.fr i (Nat.lt_of_lt_of_le hi a.hl) n).trans (a.fr i i8 hi n), Nat.le_trans a.hl f.hl⟩
theorem Kd.dd {L : Nat} {h h' h'' : AH} {ps ps' ps'' : List Pc} {k k' k2 : Nat} (a : Kd L h h' ps ps' k) (d : Dd 0 h' h'' ps' ps'' k') (hk : k + k' <= k2) : Kd L h h'' ps ps'' k2 :=
 ⟨a.rr.dd d, a.pre.trans d.pre, by have := a.len; have := d.len; lia, fun i i8 hi n => (d.fr i (.inr (by lia))).trans (a.fr i i8 hi n), by rw [d.hl]; exact a.hl⟩
theorem Kd.take {L : Nat} {h h' : AH} {ps ps' : List Pc} {k : Nat} (a : Kd L h h' ps ps' k) (m : Nat) (hm : 0 < m) (hm2 : m <= 10 ^ 50) : ∃ (v : Nat) (h'' : AH), v < m /\ yaj [.ref L, .int m] h' = .ok (.int v) h'' /\ Kd L h h'' ps ps' k := by
 obtain ⟨v, N, hv, t, F⟩ := a.rr.self.take m hm hm2
 exact ⟨v, _, hv, t, a.fr' F⟩
theorem zc6 {hh : AH} {L : Nat} {N : Int} (m : Nat) (e : hh[L]? = some (.lst [.int N])) (hm : 0 < m) (hm2 : m <= 10 ^ 50) : ∃ (v : Nat) (N' : Int), v < m /\ yaj [.ref L, .int m] hh = .ok (.int v) (hh.set L (.lst [.int N'])) := by
 obtain ⟨v, hv, e1⟩ := zfb m e hm hm2
 exact ⟨v, N / m, hv, e1⟩
theorem zfD {y : Str} {c : Nat} (hy : yaD y = true) (hc : ydi c = true) : yaD (y ++ ⟨#[c]⟩) = true /\ (y ++ (⟨#[c]⟩ : Str)).length = y.length + 1 := by
 refine ⟨?_, by rw [zaq]; rfl⟩
 rw [zaY, hy]
 simp [yaD, hc]
theorem zfE {hh : AH} {L : Nat} {N : Int} (most : Nat) (hm : most <= 1000) (e : hh[L]? = some (.lst [.int N])) : ∃ (y : Str) (N' : Int), ybq [.ref L, .int most] hh = .ok (.str y) (hh.set L (.lst [.int N'])) /\ yaD y = true /\ y.length <= most := by
 have Ll := ya2 e
 obtain ⟨v, N1, hv, t1⟩ := zc6 4 e (by decide) (by decide)
 have t1' : yaj [.ref L, .int 4] hh = .ok (.int v) (hh.set L (.lst [.int N1])) := t1
 obtain ⟨z, ⟨pz, z1, z2⟩, ez⟩ := zhn v hv (hh.set L (.lst [.int N1]))
 have e1 : (hh.set L (.lst [.int N1]))[L]? = some (.lst [.int N1]) := List.getElem?_set_self Ll
 obtain ⟨k, N2, hk, t2⟩ := zc6 (most + 1) e1 (Nat.succ_pos _) (Nat.le_trans (Nat.succ_le_succ hm) (by decide))
 rw [List.set_set] at t2
 have t2' : yaj [.ref L, .int ((most : Int) + 1)] (hh.set L (.lst [.int N1])) = .ok (.int k) (hh.set L (.lst [.int N2])) := by
  have := t2; rw [Int.natCast_succ] at this; exact this
 obtain ⟨e', h', r1, y, N3, o4, r2, r3, r4, r5⟩ := yd8 (w := none) (all := yaO 0 k) (t := .nm 4) (b := ybj) (xs := yaO 0 k) (en := [some (.ref L), some (.int most), some (.str z), some (.str ""), none]) (h := hh.set L (.lst [.int N2]))
  (fun j en h' => ∃ (y : Str) (N' : Int) (o4 : Option AV), en = [some (.ref L), some (.int most), some (.str z), some (.str y), o4] /\ h' = hh.set L (.lst [.int N']) /\ yaD y = true /\ y.length = j) ⟨"", N2, none, rfl, rfl, rfl, rfl⟩ (fun _ _ _ _ => rfl) (by
   rintro j u en h' hu ⟨y, N', o4, rfl, rfl, py, ly⟩
   have jk : j < k := by have := (List.getElem?_eq_some_iff.mp hu).1; rwa [zaO] at this
   have e3 : (hh.set L (.lst [.int N']))[L]? = some (.lst [.int N']) := List.getElem?_set_self Ll
   obtain ⟨t, N4, ht, et⟩ := zc6 z.length e3 (by lia) (Nat.le_trans z2 (by decide))
   rw [List.set_set] at et
   obtain ⟨c, pc, ec⟩ := zho ht pz (hh.set L (.lst [.int N4]))
   have ad : fAdd (.str y) (.str ⟨#[c]⟩) (hh.set L (.lst [.int N4])) = .ok (.str (y ++ ⟨#[c]⟩)) (hh.set L (.lst [.int N4])) := by
    have : y.length + (⟨#[c]⟩ : Str).length <= sizeLine := Nat.le_trans (m := 1001) (by show y.length + 1 <= _; lia) (by decide)
    simp only [fAdd, this, if_true]
   have es : ybj [some (.ref L), some (.int most), some (.str z), some (.str y), some u] (hh.set L (.lst [.int N'])) = .nx [some (.ref L), some (.int most), some (.str z), some (.str (y ++ ⟨#[c]⟩)), some u] (hh.set L (.lst [.int N4])) := by
    generalize hh.set L (.lst [.int N4]) = h2 at *
    generalize hh.set L (.lst [.int N']) = h1 at *
    simp [ybj, et, ec, ad, -fIx, -fAdd]
   show thn (ybj [some (.ref L), some (.int most), some (.str z), some (.str y), some u] (hh.set L (.lst [.int N']))) _
   rw [es]
   obtain ⟨q1, q2⟩ := zfD py pc
   exact ⟨_, N4, _, rfl, rfl, q1, by rw [q2, ly]⟩)
 rw [zaO] at r5
 have f1 := (ycW (t := .nm 4) (b := ybj) (zaN (a := yae yaj (sCons (sVar 0) (sCons (sOp2 fAdd (sVar 1) (sLit (.int 1))) sNil))) (en := [some (.ref L), some (.int most), some (.str z), some (.str ""), none]) (h := hh.set L (.lst [.int N1])) (n := k) (by simp [t2']) (by lia))).trans r1
 refine ⟨y, N3, ?_, r4, by lia⟩
 rw [<- r3]
 subst r2
 unfold ybq
 generalize sFor (yaZ (yae yaj (sCons (sVar 0) (sCons (sOp2 fAdd (sVar 1) (sLit (.int 1))) sNil)))) (.nm 4) ybj = F1 at *
 generalize hh.set L (.lst [.int N1]) = h1 at *
 simp [t1', ez, f1]
def p37 : List Str := ["abcdefg" ++ "\n", "aaaaaaaa", "abababab"]
theorem ydj : ∀ x ∈ p37, yba x = true /\ x.length = 8 := by decide +kernel
theorem pl37 (v : Nat) (hv : v < 3) (h : AH) : ∃ x : Str, yba x = true /\ x.length = 8 /\ fIx (.tup [.str ("abcdefg" ++ "\n"), .str "aaaaaaaa", .str "abababab"]) (.int v) h = .ok (.str x) h := by
 have : v = 0 \/ v = 1 \/ v = 2 := by lia
 rcases this with rfl | rfl | rfl
 ·exact ⟨_, (ydj _ (by simp [p37])).1, (ydj _ (by simp [p37])).2, rfl⟩
 ·exact ⟨_, (ydj "aaaaaaaa" (by simp [p37])).1, (ydj "aaaaaaaa" (by simp [p37])).2, rfl⟩
 ·exact ⟨_, (ydj "abababab" (by simp [p37])).1, (ydj "abababab" (by simp [p37])).2, rfl⟩
theorem yfi (B : List Nat) : ∀ a b : Nat, rp B a ++ rp B b = rp B (a + b)
 | 0, b => by rw [Nat.zero_add]; rfl
 | a + 1, b => by rw [rp_s, List.append_assoc, yfi B a b, Nat.add_right_comm, rp_s]
abbrev ev2 (n : Nat) (bs : List Bk) : AV := .tup [.int n, .fl (bs.map bv)]
structure Hi (ps : List Pc) (n : Nat) (bs : List Bk) (X : Str) : Prop where
 tx : TxZ ps n X
 eX : X.cps.toList = fB bs
 l1 : 1 <= X.length
 l2 : X.length <= 600000000000000000
 ok : BOk bs
 fw : bs.length <= 1
theorem rp_x : ∀ W : Nat, rp [120] W = List.replicate W 120
 | 0 => rfl
 | W + 1 => by rw [rp_s, rp_x W, List.replicate_succ]; rfl
theorem twos {L : Nat} {h : AH} {ps : List Pc} {n : Nat} {x : Str} {K : Nat} (s : Rr L h ps) (T : Tx ps n (lfMs x n) x (lfMs x n) (lfMs x n)) (lx : x.length = 8) (hK : K <= 55) (hz : ps.length < 14000000) (o2 : Option AV) :
  ∃ (h' : AH) (ps' : List Pc) (n' : Nat) (X : Str) (o2' : Option AV), ybf none (yaO 0 K) (.nm 2) ybg (yaO 0 K) [some (.ref 0), some (.ref L), o2, some (.int n), none, none, some (.str x), some (.int 1)] h = .nx [some (.ref 0), some (.ref L), o2', some (.int n'), none, none, some (.str x), some (.int (2 ^ K : Nat))] h' /\ Kd L h h' ps ps' K /\ TxZ ps' n' X /\ X.cps.toList = rp x.cps.toList (2 ^ K) := by
 obtain ⟨e', h', r1, r2⟩ := yd8 (w := none) (all := yaO 0 K) (t := .nm 2) (b := ybg) (xs := yaO 0 K) (en := [some (.ref 0), some (.ref L), o2, some (.int n), none, none, some (.str x), some (.int 1)]) (h := h)
  (fun i en hh => i <= K -> ∃ (ps' : List Pc) (n' : Nat) (m f l : Ms) (X : Str) (o2' : Option AV), en = [some (.ref 0), some (.ref L), o2', some (.int n'), none, none, some (.str x), some (.int (2 ^ i : Nat))] /\ Kd L h hh ps ps' i /\ Tx ps' n' m X f l /\ X.cps.toList = rp x.cps.toList (2 ^ i) /\ m.ht = i /\ f.sg = 8 /\ l.sg = 8)
  (fun _ => ⟨ps, n, _, _, _, x, o2, rfl, Kd.refl s, T, by show _ = rp _ 1; rw [rp_s]; simp [rp], rfl, lx, lx⟩) (fun _ _ _ _ => rfl) (by
   intro i u en hh hu hp
   rw [zbO] at hu
   by_cases q : i < K
   ·rw [if_pos q] at hu
    cases hu
    obtain ⟨ps1, n1, m, f, l, X, o2', rfl, k1, T1, eX, ht, f8, l8⟩ := hp (by lia)
    have sg := T1.ky.sg
    have lX : X.length = 8 * 2 ^ i := by rw [zaf, eX, yea, <- zaf, lx]
    have p55 : 2 ^ i <= 2 ^ 54 := Nat.pow_le_pow_right (by decide) (by lia)
    have b54 : (2 : Nat) ^ 54 = 18014398509481984 := by decide
    have z1 := k1.len
    obtain ⟨n2, ps2, h2, gf, D2, n3, en2, _⟩ := zff k1.rr.sh k1.rr.gd T1 T1 (by lia) (by lia) (by lia) (by lia)
    have T2 := zaV D2.gd en2 (T1.pre D2.pre) (T1.pre D2.pre)
    rw [show n2 - 1 + 1 = n2 by lia] at T2
    have ob := k1.rr.sh.ob
    have mu : fMul (.int (2 ^ i : Nat)) (.int 2) h2 = .ok (.int (2 ^ (i + 1) : Nat)) h2 := ygB (a := 2 ^ i) (b := 2) (by decide) (by rw [Nat.pow_succ]) h2
    have eB : ybg [some (.ref 0), some (.ref L), some (.int (0 + (i : Int))), some (.int n1), none, none, some (.str x), some (.int (2 ^ i : Nat))] hh = .nx [some (.ref 0), some (.ref L), some (.int (0 + (i : Int))), some (.int n2), none, none, some (.str x), some (.int (2 ^ (i + 1) : Nat))] h2 := by
     generalize ((2 ^ (i + 1) : Nat) : Int) = P1 at *
     generalize ((2 ^ i : Nat) : Int) = P0 at *
     generalize (0 + (i : Int)) = I0 at *
     simp [ybg, ob, gf, mu, -fMul]
    show thn (ybg [some (.ref 0), some (.ref L), some (.int (0 + (i : Int))), some (.int n1), none, none, some (.str x), some (.int (2 ^ i : Nat))] hh) _
    rw [eB]
    intro _
    refine ⟨ps2, n2, _, _, _, _, _, rfl, k1.dd D2 (by lia), T2, ?_, ?_, f8, l8⟩
    ·rw [zap, eX, yfi, Nat.pow_succ]; congr 1; lia
    ·show max m.ht m.ht + 1 = _
     rw [ht]; lia
   ·rw [if_neg q] at hu; cases hu)
 rw [zaO] at r2
 obtain ⟨ps1, n1, m, f, l, X, o2', rfl, k1, T1, eX, _⟩ := r2 (Nat.le_refl _)
 exact ⟨h', ps1, n1, X, o2', r1, k1, .inr ⟨_, _, _, T1⟩, eX⟩
theorem zhu {L : Nat} {h : AH} {ps : List Pc} (s : Rr L h ps) (hz : ps.length < 13000000) :
  ∃ (n : Nat) (bs : List Bk) (X : Str) (h' : AH) (ps' : List Pc), ybp [.ref 0, .ref L] h = .ok (ev2 n bs) h' /\ Kd L h h' ps ps' 200 /\ Hi ps' n bs X := by
 obtain ⟨k, h1, hk, t1, a1⟩ := (Kd.refl s).take 2 (by decide) (by decide)
 have t1' : yaj [.ref L, .int 2] h = .ok (.int k) h1 := t1
 obtain ⟨FO, eFO⟩ : ∃ FO : SS, FO = sFor (yaZ (yae yaj (sCons (sVar 1) (sCons (sLit (.int 56)) sNil)))) (.nm 2) ybg := ⟨_, rfl⟩
 by_cases q : k = 0
 ·subst q
  have z0 : fEq (.int 0) (.int 0) h1 = .ok (.bl true) h1 := by simp
  have t1'' : yaj [.ref L, .int 2] h = .ok (.int 0) h1 := t1'
  obtain ⟨v, h2, hv, t2, a2⟩ := a1.take 2 (by decide) (by decide)
  have t2' : yaj [.ref L, .int 2] h1 = .ok (.int v) h2 := t2
  obtain ⟨c, ec⟩ : ∃ c : Bool, (v : Int) = b01 c := by
   have : v = 0 \/ v = 1 := by lia
   rcases this with rfl | rfl
   ·exact ⟨false, rfl⟩
   ·exact ⟨true, rfl⟩
  obtain ⟨j, h3, hj, t3, a3⟩ := a2.take 81 (by decide) (by decide)
  have t3' : yaj [.ref L, .int 81] h2 = .ok (.int j) h3 := t3
  obtain ⟨w, h4, hw, t4, a4⟩ := a3.take 2 (by decide) (by decide)
  have t4' : yaj [.ref L, .int 2] h3 = .ok (.int w) h4 := t4
  obtain ⟨lf, elf⟩ : ∃ lf : Bool, fEq (.int w) (.int 1) h4 = .ok (.bl lf) h4 := by
   have : w = 0 \/ w = 1 := by lia
   rcases this with rfl | rfl
   ·exact ⟨false, rfl⟩
   ·exact ⟨true, by simp⟩
  have l8 := ya2 a4.rr.sh.h8
  have s0 : LT0 h4.length (h4 ++ [.dct true []]) ps [] := ⟨a4.rr.sh.app _, a4.rr.gd, by simp, fun _ _ _ e => (nomatch e), by rw [zcw]; decide, by lia⟩
  obtain ⟨n, ps5, kvs, h5, g5, s5, m, x, f, l, T5⟩ := zcx (lf := lf) 90 j c (by lia) (by lia) s0 (by rw [zcw]; lia)
  have l5 := s5.len
  rw [zcw] at l5
  obtain ⟨N4, eN4⟩ := a4.rr.ro
  have Ll := ya2 eN4
  have hl5 := s5.hl
  rw [List.length_append] at hl5
  have z3 : [AO.dct true []].length = 1 := rfl
  have r5 : Rr L h5 ps5 := ⟨s5.st.sh, s5.st.gd, s.far, N4, by rw [s5.fr L s.far (by rw [List.length_append]; lia) (by lia), List.getElem?_append_left Ll]; exact eN4⟩
  have hl4 := a4.hl
  have k5 : Kd L h h5 ps ps5 200 := ⟨r5, s5.pre, by lia, fun i i8 hi hn => by
   rw [s5.fr i i8 (by rw [List.length_append]; lia) (by lia), List.getElem?_append_left (by lia)]
   exact a4.fr i i8 hi hn, by lia⟩
  have sg := T5.sg
  have lX : x.length = m.sg := T5.tx.ky.sg.symm
  have m1 := T5.tx.ky.sg1
  have bnd : ∀ j, j < 81 -> ∀ b : Bool, sgs (ll j) b <= 600000000000000000 := by
   have : ∀ j, j < 81 -> sgs (ll j) true <= 600000000000000000 /\ sgs (ll j) false <= 600000000000000000 := by decide +kernel
   intro j hj b
   cases b
   ·exact (this j hj).2
   ·exact (this j hj).1
  have b1 := bnd j hj (!c)
  refine ⟨n, [("x", sgs (ll j) (!c))], x, h5, ps5, ?_, k5, ⟨.inr ⟨_, _, _, T5.tx⟩, ?_, by lia, by lia, fun q hq => by simp at hq; rw [hq]; show (Str.ofString "x").length <= 100; decide +kernel, by show 1 <= 1; decide⟩⟩
  ·show ybp [.ref 0, .ref L] h = .ok (.tup [.int n, .fl [.tup [.str "x", .int (sgs (ll j) (!c))]]]) h5
   rw [ec] at t2'
   have g5' : yaC 90 [.ref 0, .int j, .int (b01 c), .bl lf, .ref h4.length] (h4 ++ [.dct true []]) = .ok (.tup [.int n, .int (sgs (ll j) (!c)), .int (ll j)]) h5 := g5
   clear s0 s5 T5 g5 a1 a2 a3 a4 k5 r5 t1 t2 t3 t4 t1' ec
   unfold ybp
   rw [<- eFO]
   clear eFO
   generalize yaC 90 = FL at *
   generalize (sgs (ll j) (!c) : Int) = W1 at *
   generalize (ll j : Int) = W2 at *
   generalize b01 c = t at *
   simp [t1'', z0, t2', t3', t4', elf, g5', -fEq]
  ·rw [yew]
   have : (Str.ofString "x").cps.toList = [120] := by decide +kernel
   show _ = rp (Str.ofString "x").cps.toList (sgs (ll j) (!c))
   rw [this, T5.xs, sg]
   exact (rp_x _).symm
 ·have z0 : fEq (.int k) (.int 0) h1 = .ok (.bl false) h1 := by simp [q]
  obtain ⟨v, h2, hv, t2, a2⟩ := a1.take 3 (by decide) (by decide)
  have t2' : yaj [.ref L, .int 3] h1 = .ok (.int v) h2 := t2
  obtain ⟨x, x1, x2, ix⟩ := pl37 v hv h2
  obtain ⟨n, ps3, h3, g3, D3, T3⟩ := zdo a2.rr.sh a2.rr.gd x1 (by lia)
  have a3 := a2.dd D3 (k2 := 1) (by lia)
  have z3 := D3.len
  obtain ⟨K, h4, hK, t4, a4⟩ := (Kd.refl a3.rr).take 56 (by decide) (by decide)
  have t4' : yaj [.ref L, .int 56] h3 = .ok (.int K) h4 := t4
  obtain ⟨h5, ps5, n5, X, o2, l5, k5, T5, eX⟩ := twos (K := K) a4.rr T3 x2 (by lia) (by lia) none
  have l5' := (ycW (t := .nm 2) (b := ybg) (zaN (a := yae yaj (sCons (sVar 1) (sCons (sLit (.int 56)) sNil))) (en := [some (.ref 0), some (.ref L), none, some (.int n), none, none, some (.str x), some (.int 1)]) (h := h3) (n := K) (by simp [t4']) (by lia))).trans l5
  rw [<- eFO] at l5'
  have lX : X.length = 8 * 2 ^ K := by rw [zaf, eX, yea, <- zaf, x2]
  have p55 : 2 ^ K <= 2 ^ 55 := Nat.pow_le_pow_right (by decide) (by lia)
  have b55 : (2 : Nat) ^ 55 = 36028797018963968 := by decide
  have p0 : 0 < 2 ^ K := Nat.pow_pos (by decide)
  have hl2 := a2.hl
  have hd3 := D3.hl
  have K5 : Kd L h h5 ps ps5 200 := ⟨k5.rr, a3.pre.trans k5.pre, by have := a3.len; have := k5.len; lia, fun i i8 hi hn => by
   have e1 := k5.fr i i8 (by have := a4.hl; have := a3.hl; lia) hn
   have e2 := a4.fr i i8 (by have := a3.hl; lia) hn
   have e3 := a3.fr i i8 hi hn
   exact e1.trans (e2.trans e3), by have := k5.hl; have := a4.hl; have := a3.hl; lia⟩
  refine ⟨n5, [(x, 2 ^ K)], X, h5, ps5, ?_, K5, ⟨T5, by rw [yew]; exact eX, by lia, by lia, fun q hq => by simp at hq; rw [hq]; show x.length <= 100; lia, by show 1 <= 1; decide⟩⟩
  show ybp [.ref 0, .ref L] h = .ok (.tup [.int n5, .fl [.tup [.str x, .int (2 ^ K : Nat)]]]) h5
  have ad : fAdd (.str "abcdefg") (.str "\n") h1 = .ok (.str ("abcdefg" ++ "\n")) h1 := by
   have : (Str.ofString "abcdefg").length + (Str.ofString "\n").length <= sizeLine := by decide +kernel
   simp only [fAdd, this, if_true]
  have ob2 := a2.rr.sh.ob
  clear a1 a2 a3 a4 k5 K5 T3 T5 D3 t1 t2 t4 l5
  unfold ybp
  rw [<- eFO]
  clear eFO
  generalize yaC 90 = FL at *
  generalize ((2 ^ K : Nat) : Int) = W1 at *
  generalize (Str.ofString "abcdefg" ++ Str.ofString "\n") = W2 at *
  simp [t1', z0, ad, t2', ix, ob2, g3, l5', -fEq, -fAdd, -fIx]
end Sk
namespace Sk
open PySem PySem.Spec L2 Sm
theorem zhv {h : AH} {ps : List Pc} {n : Nat} {y : Str} (S : ShelfAt h 0 ps) (g : Good ps) (t : TxZ ps n y) (hz : ps.length < 16000000) : ∃ r : AH, yb7 [.ref 0, .int n] h = .ok (.bl true) (h ++ r) := by
 rcases t with ⟨rfl, rfl⟩ | ⟨m, f, l, T⟩
 ·exact ⟨[], by simp [yb7]⟩
 ·have pl := ya2 S.h8
  have hh := ht82 g T
  have h0 := T.ky.ht
  obtain ⟨k, e, _⟩ := zb6 (p := 0) 90 (D := h.length) (kvs := []) (S.app [.dct false []]) g T (by lia) (by lia) (by simp) (KOl.nil ps) hz
  have st : (h ++ [AO.dct false []]).set h.length (.dct false k) = h ++ [.dct false k] := by simp
  rw [st] at e
  have nz : fEq (.int n) (.int 0) h = .ok (.bl false) h := by
   have := T.n1
   have : ¬ n = 0 := by lia
   simp [this]
  refine ⟨[.dct false k], ?_⟩
  unfold yaU at e
  unfold yb7
  generalize yaM 90 = G at *
  simp [nz, e, zfd, -fEq, -fNe]
theorem ygF {h : AH} {ps : List Pc} {n : Nat} {y : Str} {c hi : Int} (S : ShelfAt h 0 ps) (g : Good ps) (t : TxZ ps n y) (hz : ps.length < 16000000) (hc : (ps.length : Int) - c <= 16 * (hi + 1)) : ∃ r : AH, yc5 [.ref 0, .int n, .int c, .int hi] h = .ok (.bl true) (h ++ r) := by
 obtain ⟨r, e⟩ := zhv S g t hz
 have S1 := S.app r
 have mn := yfb S1
 have ob := S1.ob
 have ml : fMul (.int 16) (.int (hi + 1)) (h ++ r) = .ok (.int (16 * (hi + 1))) (h ++ r) := yfa (by decide)
 refine ⟨r, ?_⟩
 generalize h ++ r = h1 at *
 generalize (ps.length : Int) = PL at *
 simp [yc5, e, ob, mn, ml, hc, -fMul]
theorem zfh {h : AH} {ps : List Pc} {a b : Nat} {x y : Str} (S : ShelfAt h 0 ps) (g : Good ps) (A : TxZ ps a x) (B : TxZ ps b y) (hm : x.length + y.length <= 1000000000000000000) (hz : ps.length < 14000000) :
  ∃ (n : Nat) (ps' : List Pc) (h' r : AH), ybW [.ref 0, .int a, .int b] h = .ok (.tup [.int n, .bl true]) (h' ++ r) /\ Dd 0 h h' ps ps' 1400 /\ TxZ ps' n (x ++ y) := by
 obtain ⟨n, ps', h', d, T⟩ := zhl S g A B hm (by lia)
 have hA := zfg A
 have hB := zfg B
 have k82 : max (htOf ps a) (htOf ps b) <= 82 := by
  have key : ∀ {n : Nat} {y : Str}, TxZ ps n y -> htOf ps n <= 82 := fun {n y} t => by
   rcases t with ⟨rfl, rfl⟩ | ⟨m, f, l, T⟩
   ·rw [ze9]; lia
   ·rw [ydO T.ms]; exact ht82 g T
  have := key A
  have := key B
  lia
 have mn := yfb S
 have f1 := zds S A
 have f2 := zds S B
 have dl := d.dd.len
 obtain ⟨r, e⟩ := ygF (c := ps.length) (hi := max (htOf ps a) (htOf ps b)) d.dd.sh d.dd.gd T (by lia) (by lia)
 have mx : ybo [.int (htOf ps a), .int (htOf ps b)] h = .ok (.int (max (htOf ps a) (htOf ps b))) h := by
  have : (if htOf ps a < htOf ps b then htOf ps b else htOf ps a) = max (htOf ps a) (htOf ps b) := by split <;> lia
  simp [ybo, this]
 have ob := S.ob
 refine ⟨n, ps', h', r, ?_, { d.dd with len := by lia }, T⟩
 have ev := d.ev
 generalize max (htOf ps a) (htOf ps b) = MX at *
 generalize htOf ps a = HA at *
 generalize htOf ps b = HB at *
 generalize (ps.length : Int) = PL at *
 generalize h' ++ r = h2 at *
 simp [ybW, ob, mn, ev, f1, f2, mx, e, -ybo]
theorem addB {as bs : List Bk} (ha : as.length + bs.length <= 1000) (h : AH) : fAdd (.fl (as.map bv)) (.fl (bs.map bv)) h = .ok (.fl ((as ++ bs).map bv)) h := by
 have sl : (as.map bv).length + (bs.map bv).length <= sizeLine := Nat.le_trans (m := 1000) (by simpa using ha) (by decide)
 show (if (as.map bv).length + (bs.map bv).length <= sizeLine then Out.ok (AV.fl (as.map bv ++ bs.map bv)) h else .bad) = _
 rw [if_pos sl, List.map_append]
structure Sd (ps : List Pc) (n : Nat) (bs : List Bk) (X : Str) (i : Nat) : Prop where
 tx : TxZ ps n X
 eX : X.cps.toList = fB bs
 l2 : X.length <= 600000000000000000 + 40 * i
 ok : BOk bs
 fw : bs.length <= 1 + i
theorem zfi {L i n u : Nat} {h : AH} {ps : List Pc} {bs : List Bk} {X z : Str} {PV : AV} {o1 o8 o9 : Option AV} (s : Rr L h ps) (T : Sd ps n bs X i) (hi : i <= 2) (hz : ps.length < 13000000) (pz : yaD z = true) (lz : z.length <= 40) (iz : ∀ hh, fIx PV (.int i) hh = .ok (.str z) hh) :
  ∃ (h' : AH) (ps' : List Pc) (n' : Nat) (bs' : List Bk) (X' : Str) (a8 a9 : Option AV), ya1 [some (.ref 0), o1, some PV, some (.ref L), some (.int n), some (.fl (bs.map bv)), some (.int u), some (.int i), o8, o9] h = .nx [some (.ref 0), o1, some PV, some (.ref L), some (.int n'), some (.fl (bs'.map bv)), some (.int u), some (.int i), a8, a9] h' /\ Kd L h h' ps ps' 1500 /\ Sd ps' n' bs' X' (i + 1) := by
 obtain ⟨b, ps1, h1, e1, D1, T1⟩ := ziu s.sh s.gd pz (by lia) (by lia)
 have a1 := (Kd.refl s).dd D1 (k2 := 80) (by lia)
 have z1 := D1.len
 have Tx := T.tx.pre D1.pre
 have lX := T.l2
 have zc : z.cps.toList = fB [(z, 1)] := by rw [yew]; show _ = rp _ 1; rw [rp_s]; simp [rp]
 have okz : BOk [(z, 1)] := fun q hq => by simp at hq; rw [hq]; show z.length <= 100; lia
 have fw := T.fw
 have ad : fAdd (.int i) (.int u) h1 = .ok (.int ((i + u : Nat) : Int)) h1 := yeH rfl h1
 have md : fMod (.int ((i + u : Nat) : Int)) (.int 2) h1 = .ok (.int (((i + u) % 2 : Nat) : Int)) h1 := rfl
 by_cases q : (i + u) % 2 = 0
 ·have eq : fEq (.int (((i + u) % 2 : Nat) : Int)) (.int 0) h1 = .ok (.bl true) h1 := by rw [q]; simp
  obtain ⟨m, ps2, h2, r, f2, D2, T2⟩ := zfh D1.sh D1.gd Tx T1 (by lia) (by lia)
  have a2 := (a1.dd D2 (k2 := 1480) (by lia))
  have a3 := a2.fr' (a2.rr.self.app r)
  have z2 := D2.len
  have la := addB (as := bs) (bs := [(z, 1)]) (by simp; lia) (h2 ++ r)
  have la' : fAdd (.fl (bs.map bv)) (.fl [.tup [.str z, .int 1]]) (h2 ++ r) = .ok (.fl ((bs ++ [(z, 1)]).map bv)) (h2 ++ r) := la
  have eX2 : (X ++ z).cps.toList = fB (bs ++ [(z, 1)]) := by rw [zap, T.eX, zc, yev]
  have ok2 : BOk (bs ++ [(z, 1)]) := fun q hq => (List.mem_append.mp hq).elim (T.ok q) (okz q)
  have ln2 := zaq X z
  obtain ⟨h4, f4, F4⟩ := zc5 a3.rr T2 eX2 (by lia) ok2 (by simp; lia) (by lia)
  refine ⟨h4, ps2, m, bs ++ [(z, 1)], X ++ z, some (.int b), some (.bl true), ?_, { a3.fr' F4 with len := by have := (a3.fr' F4).len; lia }, ⟨T2, eX2, by lia, ok2, by simp; lia⟩⟩
  clear a1 a2 a3 F4 T Tx T1 T2 D1 D2 s eX2 ok2 okz la
  generalize h2 ++ r = h3 at *
  generalize (bs ++ [(z, 1)]).map bv = Z2 at *
  generalize bs.map bv = Z1 at *
  generalize (((i + u) % 2 : Nat) : Int) = M2 at *
  generalize ((i + u : Nat) : Int) = M1 at *
  unfold ya1
  generalize ybe = FR at *
  generalize ybW = FP at *
  simp [iz, e1, ad, md, eq, f2, la', f4, -fIx, -fAdd, -fMod, -fEq]
 ·have eq : fEq (.int (((i + u) % 2 : Nat) : Int)) (.int 0) h1 = .ok (.bl false) h1 := by
   have : (i + u) % 2 = 1 := by lia
   rw [this]; simp
  obtain ⟨m, ps2, h2, r, f2, D2, T2⟩ := zfh D1.sh D1.gd T1 Tx (by lia) (by lia)
  have a2 := (a1.dd D2 (k2 := 1480) (by lia))
  have a3 := a2.fr' (a2.rr.self.app r)
  have z2 := D2.len
  have la := addB (as := [(z, 1)]) (bs := bs) (by simp; lia) (h2 ++ r)
  have la' : fAdd (.fl [.tup [.str z, .int 1]]) (.fl (bs.map bv)) (h2 ++ r) = .ok (.fl (([(z, 1)] ++ bs).map bv)) (h2 ++ r) := la
  have eX2 : (z ++ X).cps.toList = fB ([(z, 1)] ++ bs) := by rw [zap, T.eX, zc, yev]
  have ok2 : BOk ([(z, 1)] ++ bs) := fun q hq => (List.mem_append.mp hq).elim (okz q) (T.ok q)
  have ln2 := zaq z X
  obtain ⟨h4, f4, F4⟩ := zc5 a3.rr T2 eX2 (by lia) ok2 (by simp; lia) (by lia)
  refine ⟨h4, ps2, m, [(z, 1)] ++ bs, z ++ X, some (.int b), some (.bl true), ?_, { a3.fr' F4 with len := by have := (a3.fr' F4).len; lia }, ⟨T2, eX2, by lia, ok2, by simp; lia⟩⟩
  clear a1 a2 a3 F4 T Tx T1 T2 D1 D2 s eX2 ok2 okz la
  generalize h2 ++ r = h3 at *
  generalize ([(z, 1)] ++ bs).map bv = Z2 at *
  generalize bs.map bv = Z1 at *
  generalize (((i + u) % 2 : Nat) : Int) = M2 at *
  generalize ((i + u : Nat) : Int) = M1 at *
  unfold ya1
  generalize ybe = FR at *
  generalize ybW = FP at *
  simp [iz, e1, ad, md, eq, f2, la', f4, -fIx, -fAdd, -fMod, -fEq]
theorem Kd.trans {L : Nat} {h h' h'' : AH} {ps ps' ps'' : List Pc} {k k' k2 : Nat} (a : Kd L h h' ps ps' k) (b : Kd L h' h'' ps' ps'' k') (hk : k + k' <= k2) : Kd L h h'' ps ps'' k2 :=
 ⟨b.rr, a.pre.trans b.pre, by have := a.len; have := b.len; lia, fun i i8 hi n => (b.fr i i8 (Nat.lt_of_lt_of_le hi a.hl) n).trans (a.fr i i8 hi n), Nat.le_trans a.hl b.hl⟩
theorem ziH {L n : Nat} {h : AH} {ps : List Pc} {bs : List Bk} {X y z : Str} (s : Rr L h ps) (T : Sd ps n bs X 0) (hz : ps.length < 12900000) (py : yaD y = true) (ly : y.length <= 40) (pz : yaD z = true) (lz : z.length <= 40) :
  ∃ (h' : AH) (ps' : List Pc), yb8 [.ref 0, .tup [.int n, .fl (bs.map bv)], .fl [.str y, .str z], .ref L] h = .ok (.bl true) h' /\ Kd L h h' ps ps' 3000 := by
 obtain ⟨u, h1, hu, t1, a1⟩ := (Kd.refl s).take 2 (by decide) (by decide)
 have t1' : yaj [.ref L, .int 2] h = .ok (.int u) h1 := t1
 obtain ⟨h2, ps2, n2, b2, X2, c8, c9, e2, a2, T2⟩ := zfi (i := 0) (u := u) (z := y) (PV := .fl [.str y, .str z]) (o1 := some (.tup [.int n, .fl (bs.map bv)])) (o8 := none) (o9 := none) a1.rr T (by decide) (by lia) py ly (fun _ => rfl)
 have z2 := a2.len
 obtain ⟨h3, ps3, n3, b3, X3, d8, d9, e3, a3, T3⟩ := zfi (i := 1) (u := u) (z := z) (PV := .fl [.str y, .str z]) (o1 := some (.tup [.int n, .fl (bs.map bv)])) (o8 := c8) (o9 := c9) a2.rr T2 (by decide) (by lia) pz lz (fun _ => rfl)
 refine ⟨h3, ps3, ?_, (a1.trans a2 (k2 := 1500) (by lia)).trans a3 (by lia)⟩
 have e2' : ya1 [some (.ref 0), some (.tup [.int n, .fl (bs.map bv)]), some (.fl [.str y, .str z]), some (.ref L), some (.int n), some (.fl (bs.map bv)), some (.int u), some (.int 0), none, none] h1 = .nx [some (.ref 0), some (.tup [.int n, .fl (bs.map bv)]), some (.fl [.str y, .str z]), some (.ref L), some (.int n2), some (.fl (b2.map bv)), some (.int u), some (.int 0), c8, c9] h2 := e2
 have e3' : ya1 [some (.ref 0), some (.tup [.int n, .fl (bs.map bv)]), some (.fl [.str y, .str z]), some (.ref L), some (.int n2), some (.fl (b2.map bv)), some (.int u), some (.int 1), c8, c9] h2 = .nx [some (.ref 0), some (.tup [.int n, .fl (bs.map bv)]), some (.fl [.str y, .str z]), some (.ref L), some (.int n3), some (.fl (b3.map bv)), some (.int u), some (.int 1), d8, d9] h3 := e3
 have lp : sFor (yaZ (sLit (.int 2))) (.nm 7) ya1 [some (.ref 0), some (.tup [.int n, .fl (bs.map bv)]), some (.fl [.str y, .str z]), some (.ref L), some (.int n), some (.fl (bs.map bv)), some (.int u), none, none, none] h1 = .nx [some (.ref 0), some (.tup [.int n, .fl (bs.map bv)]), some (.fl [.str y, .str z]), some (.ref L), some (.int n3), some (.fl (b3.map bv)), some (.int u), some (.int 1), d8, d9] h3 := by
  have r := zaN (a := sLit (.int 2)) (en := [some (.ref 0), some (.tup [.int n, .fl (bs.map bv)]), some (.fl [.str y, .str z]), some (.ref L), some (.int n), some (.fl (bs.map bv)), some (.int u), none, none, none]) (h := h1) (n := 2) rfl (by decide)
  rw [ycW r]
  have ra : yaO 0 2 = [.int 0, .int 1] := rfl
  rw [ra]
  clear a1 a2 a3 T T2 T3 s e2 e3 t1 r ra
  generalize bs.map bv = Z1 at *
  generalize b2.map bv = Z2 at *
  generalize b3.map bv = Z3 at *
  generalize ya1 = BB at *
  simp [ybf, setT, e2', e3']
 clear a1 a2 a3 T T2 T3 s e2 e3 e2' e3' t1
 unfold yb8
 generalize sFor (yaZ (sLit (.int 2))) (.nm 7) ya1 = LP at *
 generalize bs.map bv = Z1 at *
 generalize b3.map bv = Z3 at *
 simp [t1', lp]
theorem yhs (v : Nat) (hv : v < 2) (h : AH) : ∃ m : Nat, fIx (.fl [.int 5, .int 40]) (.int v) h = .ok (.int m) h /\ m <= 40 := by
 have : v = 0 \/ v = 1 := by lia
 rcases this with rfl | rfl
 ·exact ⟨5, rfl, by decide⟩
 ·exact ⟨40, rfl, by decide⟩
theorem zhw {L : Nat} {h : AH} {ps : List Pc} (s : Rr L h ps) (en : En) (he : en[4]? = some (some (.ref L))) : ∃ (y z : Str) (h' : AH), yaY [4] (yaZ (sLit (.int 2))) sYes (yae ybq (sCons (sVar 1) (sCons (sOp2 fIx (sLst (sCons (sLit (.int 5)) (sCons (sLit (.int 40)) sNil))) (yae yaj (sCons (sVar 1) (sCons (sLit (.int 2)) sNil)))) sNil))) en h = .ok (.fl [.str y, .str z]) h' /\ Kd L h h' ps ps 0 /\ yaD y = true /\ y.length <= 40 /\ yaD z = true /\ z.length <= 40 := by
 have one : ∀ (x : AV) {hh : AH}, Kd L h hh ps ps 0 -> ∃ (y : Str) (h' : AH), yae ybq (sCons (sVar 1) (sCons (sOp2 fIx (sLst (sCons (sLit (.int 5)) (sCons (sLit (.int 40)) sNil))) (yae yaj (sCons (sVar 1) (sCons (sLit (.int 2)) sNil)))) sNil)) (some x :: [4].map fun j => (en[j]?).join) hh = .ok (.str y) h' /\ Kd L h h' ps ps 0 /\ yaD y = true /\ y.length <= 40 := by
  intro x hh a
  obtain ⟨v, h1, hv, t1, a1⟩ := a.take 2 (by decide) (by decide)
  have t1' : yaj [.ref L, .int 2] hh = .ok (.int v) h1 := t1
  obtain ⟨m, em, hm⟩ := yhs v hv h1
  obtain ⟨N, eN⟩ := a1.rr.ro
  obtain ⟨y, N2, p1, px, lx⟩ := zfE m (by lia) eN
  refine ⟨y, _, ?_, a1.fr' (a1.rr.self.set N2), px, by lia⟩
  have j4 : ([4].map fun j => (en[j]?).join) = [some (.ref L)] := by simp [he]
  rw [j4]
  generalize h1.set L (.lst [.int N2]) = h2 at *
  simp [t1', em, p1, -fIx]
 obtain ⟨y, h1, e1, a1, py, ly⟩ := one (.int 0) (Kd.refl s)
 obtain ⟨z, h2, e2, a2, pz, lz⟩ := one (.int 1) a1
 refine ⟨y, z, h2, ?_, a2, py, ly, pz, lz⟩
 have r := zaN (a := sLit (.int 2)) (en := en) (h := h) (n := 2) rfl (by decide)
 have ra : yaO 0 2 = [.int 0, .int 1] := rfl
 rw [ra] at r
 generalize (yae ybq (sCons (sVar 1) (sCons (sOp2 fIx (sLst (sCons (sLit (.int 5)) (sCons (sLit (.int 40)) sNil))) (yae yaj (sCons (sVar 1) (sCons (sLit (.int 2)) sNil)))) sNil))) = EE at *
 have sl : (0 : Nat) + 1 <= sizeLine := by decide
 have s0 : (0 : Nat) < sizeLine := by decide
 have s1 : (1 : Nat) < sizeLine := by decide
 have go : yaB [4] en none [.int 0, .int 1] sYes EE [.int 0, .int 1] [] h = .ok [.str y, .str z] h2 := by
  unfold yaB
  rw [if_pos ⟨rfl, s0⟩]
  simp only [sYes]
  rw [e1]
  simp only
  unfold yaB
  rw [if_pos ⟨rfl, s1⟩]
  simp only [sYes]
  rw [e2]
  simp [yaB]
 simp only [yaY, r, go]
theorem ygG {h : AH} {ps : List Pc} (S : ShelfAt h 0 ps) (g : Good ps) (hz : ps.length < 12000000) (c k : Int) (o0 o4 o5 o6 o7 : Option AV) :
  ∃ (h' : AH) (ps' : List Pc) (a4 a5 a6 a7 : Option AV), yct [o0, some (.ref 0), some (.int k), some (.int c), o4, o5, o6, o7] h = .nx [o0, some (.ref 0), some (.int k), some (.int c), a4, a5, a6, a7] h' /\ ShelfAt h' 0 ps' /\ Good ps' /\ ps'.length <= ps.length + 3200 := by
 have pl := ya2 S.h8
 obtain ⟨N0, ow⟩ := yho c k h
 obtain ⟨L, eL⟩ : ∃ L, L = h.length := ⟨_, rfl⟩
 rw [<- eL] at ow
 have s1 : Rr L (h ++ [AO.lst [.int N0]]) ps := ⟨S.app _, g, by lia, N0, by rw [eL]; simp⟩
 obtain ⟨h1, eh1⟩ : ∃ h1, h1 = h ++ [AO.lst [.int N0]] := ⟨_, rfl⟩
 rw [<- eh1] at ow s1
 obtain ⟨n, bs, X, h2, ps2, f2, a2, H⟩ := zhu s1 (by lia)
 have f2' : ybp [.ref 0, .ref L] h1 = .ok (.tup [.int n, .fl (bs.map bv)]) h2 := f2
 have z2 := a2.len
 obtain ⟨y, z, h3, cp, a3, py, ly, pz, lz⟩ := zhw a2.rr [o0, some (.ref 0), some (.int k), some (.int c), some (.ref L), some (.int n), some (.fl (bs.map bv)), o7] rfl
 obtain ⟨h4, ps4, f4, a4⟩ := ziH a3.rr ⟨H.tx, H.eX, H.l2, H.ok, by have := H.fw; lia⟩ (by lia) py ly pz lz
 have z4 := a4.len
 obtain ⟨h5, f5, F5⟩ := zc5 a4.rr (H.tx.pre a4.pre) H.eX (by have := H.l2; lia) H.ok (by have := H.fw; lia) (by lia)
 have s5 := a4.rr.fr F5
 refine ⟨h5, ps4, some (.ref L), some (.int n), some (.fl (bs.map bv)), some (.fl [.str y, .str z]), ?_, s5.sh, s5.gd, by lia⟩
 clear s1 a2 a3 a4 H F5 s5 f2 S g eh1
 unfold yct
 generalize yaY [4] (yaZ (sLit (.int 2))) sYes (yae ybq (sCons (sVar 1) (sCons (sOp2 fIx (sLst (sCons (sLit (.int 5)) (sCons (sLit (.int 40)) sNil))) (yae yaj (sCons (sVar 1) (sCons (sLit (.int 2)) sNil)))) sNil))) = SC at *
 generalize ybp = FH at *
 generalize yb8 = FS at *
 generalize ybe = FR at *
 generalize bs.map bv = Z at *
 simp [ow, f2', cp, f4, f5]
end Sk
namespace Sk
open PySem PySem.Spec L2 Sm
theorem zhx {α : Type} (l : List α) (k : Nat) : cutA l none (some (k : Int)) = l.take k := by
 unfold cutA
 rw [HT.sIx_nat, HT.sIx_none]
 by_cases hk : k <= l.length
 ·rw [Nat.min_eq_left hk]; simp
 ·rw [Nat.min_eq_right (by lia), List.take_of_length_le (l := l) (by lia)]; simp
theorem law_true (ns : List Int) (hl : ns.length <= 63) : ∃ h', yeG [.fl (ns.map AV.int)] [] = .ok (.bl true) h' := by
 have mk := ygv [some (.fl (ns.map AV.int)), none, none, none, none, none, none, none] []
 have l0 : ([] : AH).length = 0 := rfl
 rw [l0, List.nil_append] at mk
 have S0 : ShelfAt (ycb 0) 0 [] := by have := ygw [] []; simpa using this
 obtain ⟨sc, esc⟩ : ∃ sc : Option AV, sc = some (.fl (ns.map AV.int)) := ⟨_, rfl⟩
 obtain ⟨cells, ecl⟩ : ∃ cells : List Int, cells = ns.take 40 ++ [0, 1] := ⟨_, rfl⟩
 have lc : cells.length <= 42 := by rw [ecl, List.length_append, List.length_take]; show _ + 2 <= 42; lia
 obtain ⟨e', H2, r1, r2⟩ := yd8 (w := none) (all := Sm.numbered 0 (cells.map AV.int)) (t := .tup [2, 3]) (b := yct) (xs := Sm.numbered 0 (cells.map AV.int)) (en := [sc, some (.ref 0), none, none, none, none, none, none]) (h := ycb 0)
  (fun i en h' => i <= 42 -> ∃ (o2 o3 o4 o5 o6 o7 : Option AV) (ps : List Pc), en = [sc, some (.ref 0), o2, o3, o4, o5, o6, o7] /\ ShelfAt h' 0 ps /\ Good ps /\ ps.length <= 3200 * i)
  (fun _ => ⟨none, none, none, none, none, none, [], rfl, S0, .nil, Nat.zero_le _⟩) (fun _ _ _ _ => rfl) (by
   intro j u en h' hu hp
   rw [Sm.numbered_get, List.getElem?_map] at hu
   obtain ⟨v, ev, rfl⟩ := Option.map_eq_some_iff.mp hu
   obtain ⟨c, ec, rfl⟩ := Option.map_eq_some_iff.mp ev
   have hj : j < cells.length := (List.getElem?_eq_some_iff.mp ec).1
   obtain ⟨o2, o3, o4, o5, o6, o7, ps, rfl, S, g, lp⟩ := hp (by lia)
   obtain ⟨h2, ps2, a4, a5, a6, a7, e, S2, g2, lp2⟩ := ygG S g (by lia) c ((0 + j : Nat) : Int) sc o4 o5 o6 o7
   obtain ⟨BB, hB⟩ : ∃ BB, BB = yct := ⟨_, rfl⟩
   rw [<- hB] at e ⊢
   show thn (BB [sc, some (.ref 0), some (.int ((0 + j : Nat) : Int)), some (.int c), o4, o5, o6, o7] h') _
   rw [e]
   exact fun _ => ⟨_, _, a4, a5, a6, a7, ps2, rfl, S2, g2, by lia⟩)
 have nl : ∀ (xs : List AV) (k : Nat), (Sm.numbered k xs).length = xs.length := fun xs => by
  induction xs with
  | nil => intro k; rfl
  | cons x xs ih => intro k; simp [Sm.numbered, ih (k + 1)]
 rw [nl, List.length_map] at r2
 obtain ⟨o2, o3, o4, o5, o6, o7, ps, rfl, S2, g2, lp⟩ := r2 lc
 have it1 : Sm.iEnum (sOp2 fAdd (sCut (sVar 0) none (some (sLit (.int 40)))) (sLst (sCons (sLit (.int 0)) (sCons (sLit (.int 1)) sNil)))) [some (.fl (ns.map AV.int)), some (.ref 0), none, none, none, none, none, none] (ycb 0) = .ok (Sm.numbered 0 (cells.map AV.int), none) (ycb 0) := by
  have ct : ybB (.fl (ns.map AV.int)) none (some 40) (ycb 0) = .ok (.fl ((ns.take 40).map AV.int)) (ycb 0) := by
   have := zhx (ns.map AV.int) 40
   have t8 : ((40 : Nat) : Int) = 40 := rfl
   rw [t8] at this
   simp only [ybB, this, List.map_take]
  have ad : fAdd (.fl ((ns.take 40).map AV.int)) (.fl [.int 0, .int 1]) (ycb 0) = .ok (.fl (cells.map AV.int)) (ycb 0) := by
   have sl : ((ns.take 40).map AV.int).length + ([AV.int 0, AV.int 1] : List AV).length <= sizeLine := Nat.le_trans (m := 66) (by rw [List.length_map, List.length_take]; show _ + 2 <= 66; lia) (by decide)
   show (if ((ns.take 40).map AV.int).length + ([AV.int 0, AV.int 1] : List AV).length <= sizeLine then Out.ok (AV.fl ((ns.take 40).map AV.int ++ [AV.int 0, AV.int 1])) (ycb 0) else .bad) = _
   rw [if_pos sl, ecl, List.map_append]; rfl
  clear r1
  generalize (ns.take 40).map AV.int = Z1 at *
  generalize cells.map AV.int = Z2 at *
  generalize ns.map AV.int = Z3 at *
  simp [ct, ad, -ybB, -fAdd]
 subst esc
 have f1 := (ycW (t := .tup [2, 3]) (b := yct) it1).trans r1
 refine ⟨H2, ?_⟩
 generalize hmk : yeg 0 8 ybU sNil = MK at mk
 generalize hF1 : sFor (Sm.iEnum (sOp2 fAdd (sCut (sVar 0) none (some (sLit (.int 40)))) (sLst (sCons (sLit (.int 0)) (sCons (sLit (.int 1)) sNil))))) (.tup [2, 3]) yct = F1 at f1
 unfold yeG
 rw [hmk, hF1]
 simp [mk, f1]
end Sk
namespace Sk
open PySem PySem.Spec L2 Sm
def top (i : Nat) : Stmt := PySem.Challenge.pw_skeinwood_k37_high_with_low.main.body.getD i (.Pass ⟨0, 0, 0, 0⟩)
abbrev ycY : Stmt := ya4 (top 17) 0
abbrev yc7 : Stmt := top 31
abbrev ydE : Stmt := top 33
abbrev ycn : Stmt := top 12
abbrev ycR : Stmt := top 11
abbrev yds : Stmt := top 13
abbrev yc8 : Stmt := ya4 (top 17) 17
abbrev ydF : Stmt := top 14
abbrev ycd : Stmt := ya4 (top 17) 15
abbrev ycZ : Stmt := ya4 (top 17) 1
abbrev ydt : Stmt := top 32
abbrev ydu : Stmt := top 10
abbrev yb3 : Stmt := ya4 (top 17) 11
abbrev ybN : Stmt := ya4 (top 17) 12
abbrev ybX : Stmt := ya4 (top 17) 14
abbrev yce : Stmt := ya4 (top 17) 16
abbrev yc0 : Stmt := ya4 (top 17) 2
abbrev ydv : Stmt := top 46
abbrev ydw : Stmt := top 47
abbrev yc9 : Stmt := top 34
abbrev yda : Stmt := top 35
abbrev ydS : Stmt := top 29
abbrev ydQ : Stmt := top 20
abbrev yc1 : Stmt := ya4 (top 17) 3
abbrev ycu : Stmt := top 21
abbrev ybY : Stmt := ya4 (top 17) 13
abbrev ycI : Stmt := ya4 (top 17) 5
abbrev yb4 : Stmt := ya4 (top 17) 10
abbrev ybZ : Stmt := ya4 (top 17) 9
abbrev ydb : Stmt := top 22
abbrev ycJ : Stmt := ya4 (top 17) 4
abbrev ydc : Stmt := top 27
abbrev ycv : Stmt := ya4 (top 17) 8
abbrev ycK : Stmt := top 24
abbrev yco : Stmt := top 28
abbrev ycw : Stmt := top 25
abbrev ydT : Stmt := top 23
abbrev ydU : Stmt := top 26
abbrev ydV : Stmt := top 19
abbrev ydx : Stmt := top 36
abbrev ydd : Stmt := top 37
abbrev ydG : Stmt := top 39
abbrev ydH : Stmt := top 44
abbrev ycp : Stmt := top 40
abbrev yb9 : Stmt := top 42
abbrev yc2 : Stmt := ya4 (top 17) 6
abbrev ydy : Stmt := top 38
abbrev ycf : Stmt := top 41
abbrev yca : Stmt := top 43
abbrev yde : Stmt := top 45
abbrev yeb : Stmt := top 48
def flds : Nat -> List Str
 | 0 => ["pieces", "numbers", "sign_counts", "end_counts", "leaf_counts", "heights", "first_leaves", "last_leaves"]
 | _ => []
theorem ziI : ∀ c, (flds c).Nodup
 | 0 => by decide +kernel
 | _ + 1 => List.nodup_nil
theorem zhy : ∀ c, (flds c).length <= 500
 | 0 => by decide +kernel
 | _ + 1 => Nat.zero_le _
abbrev mkT (K : PySem.W.Frag) (cls exc : Nat -> Option Addr) : Tb := ⟨K, cls, exc, flds, ziI, zhy⟩
structure Facts (P : Program) (w : World) (K : PySem.W.Frag) (cls exc : Nat -> Option Addr) (mg : Str -> Option Value) (base : Heap) : Prop where
 b_abs : mg "abs" = none
 b_all : mg "all" = none
 b_bool : mg "bool" = none
 b_enumerate : mg "enumerate" = none
 b_int : mg "int" = none
 b_isinstance : mg "isinstance" = none
 b_len : mg "len" = none
 b_max : mg "max" = none
 b_range : mg "range" = none
 b_str : mg "str" = none
 b_sum : mg "sum" = none
 c_LEAF_SIGNS : ∃ t, mg "LEAF_SIGNS" = some (.int 8 t)
 c_MOST_PLAIN : ∃ t, mg "MOST_PLAIN" = some (.int 10000 t)
 c_MOST_SIGNS : ∃ t, mg "MOST_SIGNS" = some (.int 1000000000000000000 t)
 cf_Shelf : CF (mkT K cls exc) 0
 x_NoText : GX (mkT K cls exc) mg base 1 "NoText"
 x_NoPiece : GX (mkT K cls exc) mg base 2 "NoPiece"
 x_Loose : GX (mkT K cls exc) mg base 3 "Loose"
 x_Unlevel : GX (mkT K cls exc) mg base 4 "Unlevel"
 x_TooLong : GX (mkT K cls exc) mg base 5 "TooLong"
 d_Shelf_init : DI K cls mg 0 "Shelf" "Shelf.__init__" ycY ["self"]
 d_law_mixed : DG K mg "_law_mixed" yc7 ["cell", "k"]
 d_law_own : DG K mg "_law_own" ydE ["cell", "k"]
 d_is_plain_sign : DG K mg "is_plain_sign" ycn ["sign"]
 d_is_plain : DG K mg "is_plain" ycR ["thing"]
 d_is_short : DG K mg "is_short" yds ["thing"]
 d_Shelf_lay : DMm K cls 0 "lay" "Shelf.lay" yc8 ["self", "made"]
 d_ends_in : DG K mg "ends_in" ydF ["plain"]
 d_Shelf_lay_leaf : DMm K cls 0 "lay_leaf" "Shelf.lay_leaf" ycd ["self", "made"]
 d_Shelf_leaf : DMm K cls 0 "leaf" "Shelf.leaf" ycZ ["self", "plain"]
 d_law_take : DG K mg "_law_take" ydt ["stream", "many"]
 d_is_whole : DG K mg "is_whole" ydu ["thing"]
 d_Shelf_has_piece : DMm K cls 0 "has_piece" "Shelf.has_piece" yb3 ["self", "number"]
 d_Shelf_check_piece : DMm K cls 0 "check_piece" "Shelf.check_piece" ybN ["self", "number"]
 d_Shelf_check_fork : DMm K cls 0 "check_fork" "Shelf.check_fork" ybX ["self", "one", "other"]
 d_Shelf_lay_fork : DMm K cls 0 "lay_fork" "Shelf.lay_fork" yce ["self", "made"]
 d_Shelf_fork : DMm K cls 0 "fork" "Shelf.fork" yc0 ["self", "one", "other"]
 d_law_lean : DG K mg "_law_lean" ydv ["shelf", "height", "turn", "left", "known"]
 d_law_high : DG K mg "_law_high" ydw ["shelf", "stream"]
 d_law_signs : DG K mg "_law_signs" yc9 ["kind"]
 d_law_plain : DG K mg "_law_plain" yda ["stream", "most"]
 d_halved : DG K mg "halved" ydS ["shelf", "leaves"]
 d_built : DG K mg "built" ydQ ["shelf", "plain"]
 d_Shelf_many : DMm K cls 0 "many" "Shelf.many" yc1 ["self"]
 d_check_length : DG K mg "check_length" ycu ["signs"]
 d_Shelf_check_text : DMm K cls 0 "check_text" "Shelf.check_text" ybY ["self", "text"]
 d_Shelf_signs : DMm K cls 0 "signs" "Shelf.signs" ycI ["self", "text"]
 d_Shelf_last_leaf : DMm K cls 0 "last_leaf" "Shelf.last_leaf" yb4 ["self", "text"]
 d_Shelf_first_leaf : DMm K cls 0 "first_leaf" "Shelf.first_leaf" ybZ ["self", "text"]
 d_are_close : DG K mg "are_close" ydb ["shelf", "one", "other"]
 d_Shelf_piece : DMm K cls 0 "piece" "Shelf.piece" ycJ ["self", "number"]
 d_with_last : DG K mg "with_last" ydc ["shelf", "text", "leaf"]
 d_Shelf_height : DMm K cls 0 "height" "Shelf.height" ycv ["self", "text"]
 d_turned_left : DG K mg "turned_left" ycK ["shelf", "one", "other"]
 d_without_first : DG K mg "without_first" yco ["shelf", "text"]
 d_turned_right : DG K mg "turned_right" ycw ["shelf", "one", "other"]
 d_linked : DG K mg "linked" ydT ["shelf", "one", "other"]
 d_welded : DG K mg "welded" ydU ["shelf", "one", "other"]
 d_joined : DG K mg "joined" ydV ["shelf", "one", "other"]
 d_law_look : DG K mg "_law_look" ydx ["shelf", "number", "known"]
 d_law_sound : DG K mg "_law_sound" ydd ["shelf", "text"]
 d_law_new : DG K mg "_law_new" ydG ["shelf", "text", "many", "high"]
 d_law_put : DG K mg "_law_put" ydH ["shelf", "one", "other"]
 d_law_length : DG K mg "_law_length" ycp ["blocks"]
 d_law_spots : DG K mg "_law_spots" yb9 ["blocks", "stream"]
 d_Shelf_ends : DMm K cls 0 "ends" "Shelf.ends" yc2 ["self", "text"]
 d_law_sign : DG K mg "_law_sign" ydy ["shelf", "text", "place", "known"]
 d_law_block_sign : DG K mg "_law_block_sign" ycf ["blocks", "place"]
 d_law_reads : DG K mg "_law_reads" yca ["shelf", "text", "blocks", "stream"]
 d_law_sides : DG K mg "_law_sides" yde ["shelf", "high", "plains", "stream"]
 d_law : DG K mg "law" yeb ["script"]
theorem zdy : FnScope ["self"] ["self"] (yaf ycY) := fsk
theorem zdZ : FnScope ["cell", "k", "one"] ["cell", "k"] (yaf yc7) := fsk
theorem zfF : FnScope ["cell", "k", "found", "j"] ["cell", "k"] (yaf ydE) := fsk
theorem zcy : FnScope ["sign"] ["sign"] (yaf ycn) := fsk
theorem zeg : FnScope ["thing"] ["thing"] (yaf ycR) := fsk
theorem zeh : FnScope ["thing"] ["thing"] (yaf yds) := fsk
theorem zd0 : FnScope ["self", "made", "number"] ["self", "made"] (yaf yc8) := fsk
theorem zfG : FnScope ["plain"] ["plain"] (yaf ydF) := fsk
theorem zb8 : FnScope ["self", "made", "number", "plain"] ["self", "made"] (yaf ycd) := fsk
theorem zdz : FnScope ["self", "plain", "made"] ["self", "plain"] (yaf ycZ) := fsk
theorem zei : FnScope ["stream", "many", "digit"] ["stream", "many"] (yaf ydt) := fsk
theorem zej : FnScope ["thing"] ["thing"] (yaf ydu) := fsk
theorem zbR : FnScope ["self", "number"] ["self", "number"] (yaf yb3) := fsk
theorem zbC : FnScope ["self", "number"] ["self", "number"] (yaf ybN) := fsk
theorem zbG : FnScope ["self", "one", "other", "seam"] ["self", "one", "other"] (yaf ybX) := fsk
theorem zb9 : FnScope ["self", "made", "one", "other"] ["self", "made"] (yaf yce) := fsk
theorem zdA : FnScope ["self", "one", "other", "made"] ["self", "one", "other"] (yaf yc0) := fsk
theorem zcj : FnScope ["shelf", "height", "turn", "left", "known", "heights", "one", "other"] ["shelf", "height", "turn", "left", "known"] (yaf ydv) := fsk
theorem zek : FnScope ["shelf", "stream", "turn", "text", "signs", "leaves", "plain", "many"] ["shelf", "stream"] (yaf ydw) := fsk
theorem zd1 : FnScope ["kind", "many"] ["kind"] (yaf yc9) := fsk
theorem zd2 : FnScope ["stream", "most", "signs", "found", "k"] ["stream", "most"] (yaf yda) := fsk
theorem zdt : FnScope ["shelf", "leaves", "middle"] ["shelf", "leaves"] (yaf ydS) := fsk
theorem zhz : FnScope ["shelf", "plain", "leaves"] ["shelf", "plain"] (yaf ydQ) := fsk
theorem zdB : FnScope ["self"] ["self"] (yaf yc1) := fsk
theorem zcP : FnScope ["signs"] ["signs"] (yaf ycu) := fsk
theorem zbH : FnScope ["self", "text"] ["self", "text"] (yaf ybY) := fsk
theorem zc7 : FnScope ["self", "text"] ["self", "text"] (yaf ycI) := fsk
theorem zbS : FnScope ["self", "text"] ["self", "text"] (yaf yb4) := fsk
theorem zbI : FnScope ["self", "text"] ["self", "text"] (yaf ybZ) := fsk
theorem zd3 : FnScope ["shelf", "one", "other"] ["shelf", "one", "other"] (yaf ydb) := fsk
theorem zc8 : FnScope ["self", "number"] ["self", "number"] (yaf ycJ) := fsk
theorem zbT : FnScope ["shelf", "text", "leaf", "piece"] ["shelf", "text", "leaf"] (yaf ydc) := fsk
theorem zcQ : FnScope ["self", "text"] ["self", "text"] (yaf ycv) := fsk
theorem zc9 : FnScope ["shelf", "one", "other", "piece", "near", "far", "inner"] ["shelf", "one", "other"] (yaf ycK) := fsk
theorem zbc : FnScope ["shelf", "text", "piece", "rest"] ["shelf", "text"] (yaf yco) := fsk
theorem zcR : FnScope ["shelf", "one", "other", "piece", "far", "near", "inner"] ["shelf", "one", "other"] (yaf ycw) := fsk
theorem zdu : FnScope ["shelf", "one", "other", "tilt", "piece"] ["shelf", "one", "other"] (yaf ydT) := fsk
theorem zgw : FnScope ["shelf", "one", "other", "seam", "front", "back"] ["shelf", "one", "other"] (yaf ydU) := fsk
theorem zgx : FnScope ["shelf", "one", "other"] ["shelf", "one", "other"] (yaf ydV) := fsk
theorem zck : FnScope ["shelf", "number", "known", "piece", "found", "one", "other"] ["shelf", "number", "known"] (yaf ydx) := fsk
theorem zd4 : FnScope ["shelf", "text"] ["shelf", "text"] (yaf ydd) := fsk
theorem zfH : FnScope ["shelf", "text", "many", "high"] ["shelf", "text", "many", "high"] (yaf ydG) := fsk
theorem zfI : FnScope ["shelf", "one", "other", "many", "high", "text"] ["shelf", "one", "other"] (yaf ydH) := fsk
theorem zdC : FnScope ["blocks"] ["blocks"] (yaf ycp) := fsk
theorem zd5 : FnScope ["blocks", "stream", "length", "found", "seam", "plain", "many"] ["blocks", "stream"] (yaf yb9) := fsk
theorem zdD : FnScope ["self", "text"] ["self", "text"] (yaf yc2) := fsk
theorem zel : FnScope ["shelf", "text", "place", "known", "piece", "ahead"] ["shelf", "text", "place", "known"] (yaf ydy) := fsk
theorem zca : FnScope ["blocks", "place", "plain", "many"] ["blocks", "place"] (yaf ycf) := fsk
theorem zd6 : FnScope ["shelf", "text", "blocks", "stream", "length", "known", "look", "spots"] ["shelf", "text", "blocks", "stream"] (yaf yca) := fsk
theorem zd7 : FnScope ["shelf", "high", "plains", "stream", "text", "blocks", "turn", "k", "low", "right"] ["shelf", "high", "plains", "stream"] (yaf yde) := fsk
theorem ygH : FnScope ["script", "shelf", "k", "cell", "stream", "text", "blocks", "plains"] ["script"] (yaf yeb) := fsk
section
variable {P : Program} {w : World} {K : PySem.W.Frag} {cls exc : Nat -> Option Addr} {mg : Str -> Option Value} {base : Heap} (Z : Facts P w K cls exc mg base)
include Z
theorem zd8 : GK P w (mkT K cls exc) mg base 1 0 "Shelf" ybU := gk Z.d_Shelf_init zdy fun hr C hu nd =>
 (zab (zaD rfl Z.cf_Shelf (yaa 0) (ybK yab))
  (zab (zaD rfl Z.cf_Shelf (yaa 0) zeH)
  (zab (zaD rfl Z.cf_Shelf (yaa 0) (ybK (zaa yac yab)))
  (zab (zaD rfl Z.cf_Shelf (yaa 0) (ybK (zaa yac yab)))
  (zab (zaD rfl Z.cf_Shelf (yaa 0) (ybK (zaa yac yab)))
  (zab (zaD rfl Z.cf_Shelf (yaa 0) (ybK (zaa (yft yac) yab)))
  (zab (zaD rfl Z.cf_Shelf (yaa 0) (ybK (zaa yac yab)))
  (yag (zaD rfl Z.cf_Shelf (yaa 0) (ybK (zaa yac yab)))))))))))
theorem zem : GF P w (mkT K cls exc) mg base 1 "_law_mixed" ycz := gf Z.d_law_mixed zdZ fun hr C hu nd =>
 (zab (yal (i := 2) nd (yak ycL (yak ybP (yak (yaK rfl) (yak (yaK rfl) (yak ycL (yaa 0) yac) (yak ybP yac (yaa 1))) yac) yac) yac))
  (yag (yan (yak ycL (yak ybP (yak ycL (yak ybP (yaa 2) (yaa 2)) yac) yac) yac))))
theorem zgy : GF P w (mkT K cls exc) mg base 2 "_law_own" ycH := gf Z.d_law_own zfF fun hr C hu nd =>
 (zab (yal (i := 0) nd (yak ycL (yaa 0) (yak ybP (yak yeC yac yac) (yak yeC yac yac))))
  (zab (r_if (yas o_ge (yaa 0) (yak yeC yac yac) (yaq _)) (yag (yan (ybK (zaa (yaa 0) yab)))) yaw)
  (zab (yal (i := 2) nd yac)
  (zab (ydn rfl (zaK (E := EN) rfl Z.b_range yac) (zb2 (i := 3) nd) (yag (yal (i := 2) nd (yak (yaK rfl) (yak ybP (yaa 2) yac) (yam rfl (C.nox) (zem Z) hr.m rfl (zaa (yak (yaK rfl) (yaa 0) (yak ybP yac (yaa 1))) (zaa (yaa 3) yab)))))))
  (yag (yan (ybK (zaa (yaa 2) yab))))))))
theorem zcS : GF P w (mkT K cls exc) mg base 1 "is_plain_sign" yby := gf Z.d_is_plain_sign zcy fun hr C hu nd =>
 (yag (yan (r_or (ycM (o_eq rfl hu) (yaa 0) yaG (yaq _)) (ydm (zcZ o_le o_le yaG (yaa 0) yaG)))))
theorem zcT : GF P w (mkT K cls exc) mg base 2 "is_plain" yci := gf Z.d_is_plain zeg fun {f cdv A outer s H E} hr C hu nd =>
 (zab (r_if (ycF (zaz rfl (yei rfl rfl Z.b_isinstance (yaa 0) rfl Z.b_str yeU (by decide)))) (yag (yan r_bl)) yaw)
  (yag (yan (r_bi (b_all rfl) rfl Z.b_all PyProof.Rows.boot_all (zaa (yer (jf := []) (zaE (N := ["thing"]) (sc := yaf ycR) rfl (fun _ => rfl) (by decide +kernel)) rfl (yeq (E := (fun _ => E)) rfl (yaa 0)) (fun _ _ _ _ _ => zaS) (fun _ _ _ _ _ => (yam rfl (CA.never rfl) (zcS Z) hr.m rfl (zaa (yaa 0) yab)))) yab)))))
theorem zfJ : GF P w (mkT K cls exc) mg base 3 "is_short" ycO := gf Z.d_is_short zeh fun hr C hu nd =>
 (yag (yan (yd4 (yam rfl C (zcT Z) hr.m rfl (zaa (yaa 0) yab)) (ydm (zcZ o_le o_le yac (r_bi (b_len rfl) rfl Z.b_len PySem.boot_len (zaa (yaa 0) yab)) (r_gI rfl Z.c_LEAF_SIGNS))))))
theorem zcl : GM P w (mkT K cls exc) mg base 1 0 "lay" yb6 := gm Z.d_Shelf_lay zd0 (show ("lay" : Str) ∉ flds 0 by decide +kernel) fun hr C hu nd =>
 (zab (yaI (r_bm rfl PySem.F.plainAttrs_list PySem.F.slot_list_append PySem.F.type_list_append (zav) zat (yaA rfl Z.cf_Shelf (yaa 0)) (zaa (yaa 1) yab)))
  (zab (yal (i := 2) nd (r_bi (b_len rfl) rfl Z.b_len PySem.boot_len (zaa (yaA rfl Z.cf_Shelf (yaa 0)) yab)))
  (zab (zbn hu (yaA rfl Z.cf_Shelf (yaa 0)) (yaa 1) (yaa 2))
  (yag (yan (yaa 2))))))
theorem zgz : GF P w (mkT K cls exc) mg base 1 "ends_in" yc4 := gf Z.d_ends_in zfG fun hr C hu nd =>
 (yag (yan (r_bm rfl PySem.F.plainAttrs_str PySem.F.slot_str_count PySem.F.type_str_count (zdR) zeQ (yaa 0) (zaa yaG yab))))
theorem zcz : GM P w (mkT K cls exc) mg base 2 0 "lay_leaf" ybs := gm Z.d_Shelf_lay_leaf zb8 (show ("lay_leaf" : Str) ∉ flds 0 by decide +kernel) fun hr C hu nd =>
 (zab (yal (i := 2) nd (yah rfl C (zcl Z) hr.m (yaa 0) (zaa (yaa 1) yab)))
  (zab (yal (i := 3) nd (r_ix rfl hu (yaa 1) yac))
  (zab (yaI (r_bm rfl PySem.F.plainAttrs_list PySem.F.slot_list_append PySem.F.type_list_append (zav) zat (yaA rfl Z.cf_Shelf (yaa 0)) (zaa (r_bi (b_len rfl) rfl Z.b_len PySem.boot_len (zaa (yaa 3) yab)) yab)))
  (zab (yaI (r_bm rfl PySem.F.plainAttrs_list PySem.F.slot_list_append PySem.F.type_list_append (zav) zat (yaA rfl Z.cf_Shelf (yaa 0)) (zaa (yam rfl C (zgz Z) hr.m rfl (zaa (yaa 3) yab)) yab)))
  (zab (yaI (r_bm rfl PySem.F.plainAttrs_list PySem.F.slot_list_append PySem.F.type_list_append (zav) zat (yaA rfl Z.cf_Shelf (yaa 0)) (zaa yac yab)))
  (zab (yaI (r_bm rfl PySem.F.plainAttrs_list PySem.F.slot_list_append PySem.F.type_list_append (zav) zat (yaA rfl Z.cf_Shelf (yaa 0)) (zaa yac yab)))
  (zab (yaI (r_bm rfl PySem.F.plainAttrs_list PySem.F.slot_list_append PySem.F.type_list_append (zav) zat (yaA rfl Z.cf_Shelf (yaa 0)) (zaa (yaa 2) yab)))
  (yag (yaI (r_bm rfl PySem.F.plainAttrs_list PySem.F.slot_list_append PySem.F.type_list_append (zav) zat (yaA rfl Z.cf_Shelf (yaa 0)) (zaa (yaa 2) yab)))))))))))
theorem zaR : GM P w (mkT K cls exc) mg base 4 0 "leaf" yat := gm Z.d_Shelf_leaf zdz (show ("leaf" : Str) ∉ flds 0 by decide +kernel) fun hr C hu nd =>
 (zab (r_if (ycF (zaz rfl (yam rfl C (zfJ Z) hr.m rfl (zaa (yaa 1) yab)))) (yag (zaL Z.x_NoText zaI rfl (zaa yaG yab))) yaw)
  (zab (yal (i := 2) nd (ya7 (zaa yaG (zaa (yaa 1) yab))))
  (zab (r_if (yas (zc2 rfl hu) (yaa 2) (yaA rfl Z.cf_Shelf (yaa 0)) rfl) (yag (yaI (yah rfl C (zcz Z) hr.m (yaa 0) (zaa (yaa 2) yab)))) yaw)
  (yag (yan (r_ix rfl hu (yaA rfl Z.cf_Shelf (yaa 0)) (yaa 2)))))))
theorem zas : GF P w (mkT K cls exc) mg base 1 "_law_take" yaj := gf Z.d_law_take zei fun hr C hu nd =>
 (zab (yal (i := 2) nd (yak ycL (r_ix rfl hu (yaa 0) yac) (yaa 1)))
  (zab (zbn hu (yaa 0) yac (yak yfs (r_ix rfl hu (yaa 0) yac) (yaa 1)))
  (yag (yan (yaa 2)))))
theorem zfK : GF P w (mkT K cls exc) mg base 1 "is_whole" ycP := gf Z.d_is_whole zej fun hr C hu nd =>
 (yag (yan (yd4 (yei rfl rfl Z.b_isinstance (yaa 0) rfl Z.b_int ygb (by decide)) (ydm (yha (yei rfl rfl Z.b_isinstance (yaa 0) rfl Z.b_bool zh3 (by decide)))))))
theorem zcb : GM P w (mkT K cls exc) mg base 2 0 "has_piece" ybC := gm Z.d_Shelf_has_piece zbR (show ("has_piece" : Str) ∉ flds 0 by decide +kernel) fun hr C hu nd =>
 (yag (yan (yd4 (yam rfl C (zfK Z) hr.m rfl (zaa (yaa 1) yab)) (ydm (zcZ o_le o_le yac (yaa 1) (r_bi (b_len rfl) rfl Z.b_len PySem.boot_len (zaa (yaA rfl Z.cf_Shelf (yaa 0)) yab)))))))
theorem zaA : GM P w (mkT K cls exc) mg base 3 0 "check_piece" yaT := gm Z.d_Shelf_check_piece zbC (show ("check_piece" : Str) ∉ flds 0 by decide +kernel) fun hr C hu nd =>
 (yag (r_if (ycF (zaz rfl (yah rfl C (zcb Z) hr.m (yaa 0) (zaa (yaa 1) yab)))) (yag (zaL Z.x_NoPiece zaI rfl (zaa yaG yab))) yaw))
theorem zbU : GM P w (mkT K cls exc) mg base 4 0 "check_fork" yaQ := gm Z.d_Shelf_check_fork zbG (show ("check_fork" : Str) ∉ flds 0 by decide +kernel) fun hr C hu nd =>
 (zab (yaI (yah rfl C (zaA Z) hr.m (yaa 0) (zaa (yaa 1) yab)))
  (zab (yaI (yah rfl C (zaA Z) hr.m (yaa 0) (zaa (yaa 2) yab)))
  (zab (yal (i := 3) nd (yak (yaK rfl) (r_ix rfl hu (yaA rfl Z.cf_Shelf (yaa 0)) (r_ix rfl hu (yaA rfl Z.cf_Shelf (yaa 0)) (yaa 1))) (r_ix rfl hu (yaA rfl Z.cf_Shelf (yaa 0)) (r_ix rfl hu (yaA rfl Z.cf_Shelf (yaa 0)) (yaa 2)))))
  (zab (r_if (yas o_le (yaa 3) (r_gI rfl Z.c_LEAF_SIGNS) (yaq _)) (yag (zaL Z.x_Loose zaI rfl (zaa yaG yab))) yaw)
  (zab (r_if (yas o_gt (r_bi (b_abs) rfl Z.b_abs PyProof.Rows.boot_abs (zaa (yak ybO (r_ix rfl hu (yaA rfl Z.cf_Shelf (yaa 0)) (yaa 1)) (r_ix rfl hu (yaA rfl Z.cf_Shelf (yaa 0)) (yaa 2))) yab)) yac (yaq _)) (yag (zaL Z.x_Unlevel zaI rfl (zaa yaG yab))) yaw)
  (yag (r_if (yas o_gt (yak (yaK rfl) (r_ix rfl hu (yaA rfl Z.cf_Shelf (yaa 0)) (yaa 1)) (r_ix rfl hu (yaA rfl Z.cf_Shelf (yaa 0)) (yaa 2))) (r_gI rfl Z.c_MOST_SIGNS) (yaq _)) (yag (zaL Z.x_TooLong zaI rfl (zaa yaG yab))) yaw)))))))
theorem zcA : GM P w (mkT K cls exc) mg base 2 0 "lay_fork" ybt := gm Z.d_Shelf_lay_fork zb9 (show ("lay_fork" : Str) ∉ flds 0 by decide +kernel) fun hr C hu nd =>
 (zab (yaI (yah rfl C (zcl Z) hr.m (yaa 0) (zaa (yaa 1) yab)))
  (zab (yal (i := 2) nd (r_ix rfl hu (yaa 1) yac))
  (zab (yal (i := 3) nd (r_ix rfl hu (yaa 1) yac))
  (zab (yaI (r_bm rfl PySem.F.plainAttrs_list PySem.F.slot_list_append PySem.F.type_list_append (zav) zat (yaA rfl Z.cf_Shelf (yaa 0)) (zaa (yak (yaK rfl) (r_ix rfl hu (yaA rfl Z.cf_Shelf (yaa 0)) (yaa 2)) (r_ix rfl hu (yaA rfl Z.cf_Shelf (yaa 0)) (yaa 3))) yab)))
  (zab (yaI (r_bm rfl PySem.F.plainAttrs_list PySem.F.slot_list_append PySem.F.type_list_append (zav) zat (yaA rfl Z.cf_Shelf (yaa 0)) (zaa (yak (yaK rfl) (r_ix rfl hu (yaA rfl Z.cf_Shelf (yaa 0)) (yaa 2)) (r_ix rfl hu (yaA rfl Z.cf_Shelf (yaa 0)) (yaa 3))) yab)))
  (zab (yaI (r_bm rfl PySem.F.plainAttrs_list PySem.F.slot_list_append PySem.F.type_list_append (zav) zat (yaA rfl Z.cf_Shelf (yaa 0)) (zaa (yak (yaK rfl) (r_ix rfl hu (yaA rfl Z.cf_Shelf (yaa 0)) (yaa 2)) (r_ix rfl hu (yaA rfl Z.cf_Shelf (yaa 0)) (yaa 3))) yab)))
  (zab (yaI (r_bm rfl PySem.F.plainAttrs_list PySem.F.slot_list_append PySem.F.type_list_append (zav) zat (yaA rfl Z.cf_Shelf (yaa 0)) (zaa (yak (yaK rfl) (r_bi (yd7) rfl Z.b_max PyProof.Rows.boot_max (zaa (r_ix rfl hu (yaA rfl Z.cf_Shelf (yaa 0)) (yaa 2)) (zaa (r_ix rfl hu (yaA rfl Z.cf_Shelf (yaa 0)) (yaa 3)) yab))) yac) yab)))
  (zab (yaI (r_bm rfl PySem.F.plainAttrs_list PySem.F.slot_list_append PySem.F.type_list_append (zav) zat (yaA rfl Z.cf_Shelf (yaa 0)) (zaa (r_ix rfl hu (yaA rfl Z.cf_Shelf (yaa 0)) (yaa 2)) yab)))
  (yag (yaI (r_bm rfl PySem.F.plainAttrs_list PySem.F.slot_list_append PySem.F.type_list_append (zav) zat (yaA rfl Z.cf_Shelf (yaa 0)) (zaa (r_ix rfl hu (yaA rfl Z.cf_Shelf (yaa 0)) (yaa 3)) yab))))))))))))
theorem zae : GM P w (mkT K cls exc) mg base 5 0 "fork" yad := gm Z.d_Shelf_fork zdA (show ("fork" : Str) ∉ flds 0 by decide +kernel) fun hr C hu nd =>
 (zab (yaI (yah rfl C (zbU Z) hr.m (yaa 0) (zaa (yaa 1) (zaa (yaa 2) yab))))
  (zab (yal (i := 3) nd (ya7 (zaa yaG (zaa (yaa 1) (zaa (yaa 2) yab)))))
  (zab (r_if (yas (zc2 rfl hu) (yaa 3) (yaA rfl Z.cf_Shelf (yaa 0)) rfl) (yag (yaI (yah rfl C (zcA Z) hr.m (yaa 0) (zaa (yaa 3) yab)))) yaw)
  (yag (yan (r_ix rfl hu (yaA rfl Z.cf_Shelf (yaa 0)) (yaa 3)))))))
theorem zbD : ∀ d, GF P w (mkT K cls exc) mg base (5 + d + 1) "_law_lean" (yaC d)
 | 0 => gf Z.d_law_lean zcj fun _ _ _ _ => ydg
 | d + 1 => gf Z.d_law_lean zcj fun hr C hu nd =>
  (zab (r_if (yas (zc2 rfl hu) (ya7 (zaa (yaa 1) (zaa (yaa 2) yab))) (yaa 4) rfl) (yag (r_if (yas (o_eq rfl hu) (yaa 1) yac (yaq _)) (yag (zbn hu (yaa 4) (ya7 (zaa yac (zaa (yaa 2) yab))) (ya7 (zaa (yah rfl C (zaR Z) (hr.mono (show 4 <= 5 + (d + 1) by lia)) (yaa 0) (zaa (yak ygn yaG (r_ix rfl hu (ycN (zaa yac (zaa yac yab))) (yaa 2))) yab)) (zaa (r_ix rfl hu (ycN (zaa yac (zaa yac yab))) (yaa 2)) (zaa yac yab)))))) (zab (yal (i := 5) nd (ybK (zaa (yak ybO (yaa 1) yac) (zaa (r_bi (yd7) rfl Z.b_max PyProof.Rows.boot_max (zaa yac (zaa (yak ybO (yaa 1) yac) yab))) yab))))
  (zab (r_if (zaz rfl (yaa 3)) (yag (yaI (yhi rfl PySem.F.plainAttrs_list PySem.F.slot_list_reverse PySem.F.type_list_reverse (zgn) zat (yaa 5)))) yaw)
  (zab (yal (i := 6) nd (yam rfl C (zbD d) (hr.mono (by lia)) rfl (zaa (yaa 0) (zaa (r_ix rfl hu (yaa 5) yac) (zaa (yaa 2) (zaa (yaa 3) (zaa (yaa 4) yab)))))))
  (zab (yal (i := 7) nd (yam rfl C (zbD d) (hr.mono (by lia)) rfl (zaa (yaa 0) (zaa (r_ix rfl hu (yaa 5) yac) (zaa (yak ycL (yak (yaK rfl) (yaa 2) (r_ix rfl hu (yaa 6) yac)) yac) (zaa (yaa 3) (zaa (yaa 4) yab)))))))
  (yag (zbn hu (yaa 4) (ya7 (zaa (yaa 1) (zaa (yaa 2) yab))) (ya7 (zaa (yah rfl C (zae Z) (hr.mono (show 5 <= 5 + (d + 1) by lia)) (yaa 0) (zaa (r_ix rfl hu (yaa 6) yac) (zaa (r_ix rfl hu (yaa 7) yac) yab))) (zaa (yak (yaK rfl) (r_ix rfl hu (yaa 6) yac) (r_ix rfl hu (yaa 7) yac)) (zaa (yak (yaK rfl) (r_ix rfl hu (yaa 6) yac) (r_ix rfl hu (yaa 7) yac)) yab)))))))))))) yaw)
  (yag (yan (r_ix rfl hu (yaa 4) (ya7 (zaa (yaa 1) (zaa (yaa 2) yab)))))))
theorem zfL : GF P w (mkT K cls exc) mg base 97 "_law_high" ybp := gf Z.d_law_high zek fun hr C hu nd =>
 (zab (r_if (yas (o_eq rfl hu) (yam rfl C (zas Z) hr.m rfl (zaa (yaa 1) (zaa yac yab))) yac (yaq _)) (zab (yal (i := 2) nd (yam rfl C (zas Z) hr.m rfl (zaa (yaa 1) (zaa yac yab))))
  (zab (ydB (yam rfl C (zbD Z 90) hr.m rfl (zaa (yaa 0) (zaa (yam rfl C (zas Z) hr.m rfl (zaa (yaa 1) (zaa yac yab))) (zaa (yaa 2) (zaa (ycM (o_eq rfl hu) (yam rfl C (zas Z) hr.m rfl (zaa (yaa 1) (zaa yac yab))) yac (yaq _)) (zaa zeH yab)))))) (ycG rfl rfl (zan (i := 3) nd (zan (i := 4) nd (zan (i := 5) nd zaJ)))))
  (yag (yan (ya7 (zaa (yaa 3) (zaa (ycN (zaa (ya7 (zaa yaG (zaa (yaa 4) yab))) yab)) yab))))))) yaw)
  (zab (yal (i := 6) nd (r_ix rfl hu (ya7 (zaa (yak (yaK rfl) yaG yaG) (zaa yaG (zaa yaG yab)))) (yam rfl C (zas Z) hr.m rfl (zaa (yaa 1) (zaa yac yab)))))
  (zab (yal (i := 3) nd (yah rfl C (zaR Z) hr.m (yaa 0) (zaa (yaa 6) yab)))
  (zab (yal (i := 7) nd yac)
  (zab (ydn rfl (zaK (E := EN) rfl Z.b_range (yam rfl (C.nox) (zas Z) hr.m rfl (zaa (yaa 1) (zaa yac yab)))) (zb2 (i := 2) nd) (zab (yal (i := 3) nd (yah rfl (C.nox) (zae Z) hr.m (yaa 0) (zaa (yaa 3) (zaa (yaa 3) yab))))
  (yag (yal (i := 7) nd (yak ybP (yaa 7) yac)))))
  (yag (yan (ya7 (zaa (yaa 3) (zaa (ycN (zaa (ya7 (zaa (yaa 6) (zaa (yaa 7) yab))) yab)) yab))))))))))
theorem zen : GF P w (mkT K cls exc) mg base 1 "_law_signs" ycA := gf Z.d_law_signs zd1 fun hr C hu nd =>
 (zab (yal (i := 1) nd yaG)
  (yag (yan (r_ix rfl hu (ycN (zaa yaG (zaa (yak (yaK rfl) yaG yaG) (zaa (yak (yaK rfl) (yak (yaK rfl) (yak (yaK rfl) (yak (yaK rfl) (yaa 1) yaG) yaG) yaG) yaG) (zaa yaG yab))))) (yaa 0)))))
theorem zeo : GF P w (mkT K cls exc) mg base 2 "_law_plain" ybq := gf Z.d_law_plain zd2 fun hr C hu nd =>
 (zab (yal (i := 2) nd (yam rfl C (zen Z) hr.m rfl (zaa (yam rfl C (zas Z) hr.m rfl (zaa (yaa 0) (zaa yac yab))) yab)))
  (zab (yal (i := 3) nd yaG)
  (zab (ydn rfl (zaK (E := EN) rfl Z.b_range (yam rfl (C.nox) (zas Z) hr.m rfl (zaa (yaa 0) (zaa (yak (yaK rfl) (yaa 1) yac) yab)))) (zb2 (i := 4) nd) (yag (yal (i := 3) nd (yak (yaK rfl) (yaa 3) (r_ix rfl hu (yaa 2) (yam rfl (C.nox) (zas Z) hr.m rfl (zaa (yaa 0) (zaa (r_bi (b_len rfl) rfl Z.b_len PySem.boot_len (zaa (yaa 2) yab)) yab))))))))
  (yag (yan (yaa 3))))))
theorem zcB : ∀ d, GF P w (mkT K cls exc) mg base (5 + d + 1) "halved" (ybu d)
 | 0 => gf Z.d_halved zdt fun _ _ _ _ => ydg
 | d + 1 => gf Z.d_halved zdt fun hr C hu nd =>
  (zab (r_if (yas (o_eq rfl hu) (r_bi (b_len rfl) rfl Z.b_len PySem.boot_len (zaa (yaa 1) yab)) yac (yaq _)) (yag (yan (r_ix rfl hu (yaa 1) yac))) yaw)
  (zab (yal (i := 2) nd (yak yfs (r_bi (b_len rfl) rfl Z.b_len PySem.boot_len (zaa (yaa 1) yab)) yac))
  (yag (yan (yah rfl C (zae Z) (hr.mono (show 5 <= 5 + (d + 1) by lia)) (yaa 0) (zaa (yam rfl C (zcB d) (hr.mono (by lia)) rfl (zaa (yaa 0) (zaa (zbo rfl (yaa 1) zb5 (za5 (yaa 2))) yab))) (zaa (yam rfl C (zcB d) (hr.mono (by lia)) rfl (zaa (yaa 0) (zaa (zbo rfl (yaa 1) (za5 (yaa 2)) zb5) yab))) yab)))))))
theorem ziJ : GF P w (mkT K cls exc) mg base 27 "built" ydh := gf Z.d_built zhz fun {f cdv A outer s H E} hr C hu nd =>
 (zab (r_if (ycF (zaz rfl (yam rfl C (zcT Z) hr.m rfl (zaa (yaa 1) yab)))) (yag (zaL Z.x_NoText zaI rfl (zaa yaG yab))) yaw)
  (zab (r_if (yas o_gt (r_bi (b_len rfl) rfl Z.b_len PySem.boot_len (zaa (yaa 1) yab)) (r_gI rfl Z.c_MOST_PLAIN) (yaq _)) (yag (zaL Z.x_TooLong zaI rfl (zaa yaG yab))) yaw)
  (zab (r_if (yas (o_eq rfl hu) (yaa 1) yaG (yaq _)) (yag (yan yac)) yaw)
  (zab (zeL (jf := [(0, "shelf"), (1, "plain")]) (zaE (N := ["shelf", "plain", "leaves"]) (sc := yaf ydQ) rfl (fun _ => rfl) (by decide +kernel)) rfl (zgm (E := (fun _ => E)) rfl Z.b_range yac (r_bi (b_len rfl) rfl Z.b_len PySem.boot_len (zaa (yaa 1) yab)) (r_gI rfl Z.c_LEAF_SIGNS)) (fun _ _ _ _ _ => zaS) (fun _ _ _ _ _ => (yah rfl (CA.never rfl) (zaR Z) hr.m (yaa 1) (zaa (zbo rfl (yaa 2) (za5 (yaa 0)) (za5 (yak (yaK rfl) (yaa 0) (r_gI rfl Z.c_LEAF_SIGNS)))) yab))) nd (i := 2))
  (yag (yan (yam rfl C (zcB Z 20) hr.m rfl (zaa (yaa 0) (zaa (yaa 2) yab)))))))))
theorem zbV : GM P w (mkT K cls exc) mg base 1 0 "many" ybV := gm Z.d_Shelf_many zdB (show ("many" : Str) ∉ flds 0 by decide +kernel) fun hr C hu nd =>
 (yag (yan (r_bi (b_len rfl) rfl Z.b_len PySem.boot_len (zaa (yaA rfl Z.cf_Shelf (yaa 0)) yab))))
theorem zda : GF P w (mkT K cls exc) mg base 1 "check_length" yb2 := gf Z.d_check_length zcP fun hr C hu nd =>
 (yag (r_if (yas o_gt (yaa 0) (r_gI rfl Z.c_MOST_SIGNS) (yaq _)) (yag (zaL Z.x_TooLong zaI rfl (zaa yaG yab))) yaw))
theorem zax : GM P w (mkT K cls exc) mg base 4 0 "check_text" yaL := gm Z.d_Shelf_check_text zbH (show ("check_text" : Str) ∉ flds 0 by decide +kernel) fun hr C hu nd =>
 (yag (r_if (yas (o_ne rfl hu) (yaa 1) yac (yaq _)) (yag (yaI (yah rfl C (zaA Z) hr.m (yaa 0) (zaa (yaa 1) yab)))) yaw))
theorem zaC : GM P w (mkT K cls exc) mg base 5 0 "signs" yaW := gm Z.d_Shelf_signs zc7 (show ("signs" : Str) ∉ flds 0 by decide +kernel) fun hr C hu nd =>
 (zab (yaI (yah rfl C (zax Z) hr.m (yaa 0) (zaa (yaa 1) yab)))
  (yag (yan (r_ix rfl hu (yaA rfl Z.cf_Shelf (yaa 0)) (yaa 1)))))
theorem za1 : GM P w (mkT K cls exc) mg base 5 0 "last_leaf" ybn := gm Z.d_Shelf_last_leaf zbS (show ("last_leaf" : Str) ∉ flds 0 by decide +kernel) fun hr C hu nd =>
 (zab (yaI (yah rfl C (zax Z) hr.m (yaa 0) (zaa (yaa 1) yab)))
  (yag (yan (r_ix rfl hu (yaA rfl Z.cf_Shelf (yaa 0)) (yaa 1)))))
theorem za0 : GM P w (mkT K cls exc) mg base 5 0 "first_leaf" ybh := gm Z.d_Shelf_first_leaf zbI (show ("first_leaf" : Str) ∉ flds 0 by decide +kernel) fun hr C hu nd =>
 (zab (yaI (yah rfl C (zax Z) hr.m (yaa 0) (zaa (yaa 1) yab)))
  (yag (yan (r_ix rfl hu (yaA rfl Z.cf_Shelf (yaa 0)) (yaa 1)))))
theorem zep : GF P w (mkT K cls exc) mg base 6 "are_close" ycB := gf Z.d_are_close zd3 fun hr C hu nd =>
 (yag (yan (ycM o_gt (yak (yaK rfl) (yah rfl C (zaC Z) hr.m (yaa 0) (zaa (yah rfl C (za1 Z) hr.m (yaa 0) (zaa (yaa 1) yab)) yab)) (yah rfl C (zaC Z) hr.m (yaa 0) (zaa (yah rfl C (za0 Z) hr.m (yaa 0) (zaa (yaa 2) yab)) yab))) (r_gI rfl Z.c_LEAF_SIGNS) (yaq _))))
theorem zah : GM P w (mkT K cls exc) mg base 4 0 "piece" yau := gm Z.d_Shelf_piece zc8 (show ("piece" : Str) ∉ flds 0 by decide +kernel) fun hr C hu nd =>
 (zab (yaI (yah rfl C (zaA Z) hr.m (yaa 0) (zaa (yaa 1) yab)))
  (yag (yan (r_ix rfl hu (yaA rfl Z.cf_Shelf (yaa 0)) (yak ybO (yaa 1) yac)))))
theorem zcm : ∀ d, GF P w (mkT K cls exc) mg base (5 + d + 1) "with_last" (yaX d)
 | 0 => gf Z.d_with_last zbT fun _ _ _ _ => ydg
 | d + 1 => gf Z.d_with_last zbT fun hr C hu nd =>
  (zab (yal (i := 3) nd (yah rfl C (zah Z) (hr.mono (show 4 <= 5 + (d + 1) by lia)) (yaa 0) (zaa (yaa 1) yab)))
  (zab (r_if (yas (o_eq rfl hu) (r_ix rfl hu (yaa 3) yac) yaG (yaq _)) (yag (yan (yaa 2))) yaw)
  (yag (yan (yah rfl C (zae Z) (hr.mono (show 5 <= 5 + (d + 1) by lia)) (yaa 0) (zaa (r_ix rfl hu (yaa 3) yac) (zaa (yam rfl C (zcm d) (hr.mono (by lia)) rfl (zaa (yaa 0) (zaa (r_ix rfl hu (yaa 3) yac) (zaa (yaa 2) yab)))) yab)))))))
theorem zai : GM P w (mkT K cls exc) mg base 5 0 "height" yay := gm Z.d_Shelf_height zcQ (show ("height" : Str) ∉ flds 0 by decide +kernel) fun hr C hu nd =>
 (zab (yaI (yah rfl C (zax Z) hr.m (yaa 0) (zaa (yaa 1) yab)))
  (yag (yan (r_ix rfl hu (yaA rfl Z.cf_Shelf (yaa 0)) (yaa 1)))))
theorem zbF : GF P w (mkT K cls exc) mg base 6 "turned_left" yaH := gf Z.d_turned_left zc9 fun hr C hu nd =>
 (zab (r_if (yas o_lt (yak ybO (yah rfl C (zai Z) hr.m (yaa 0) (zaa (yaa 2) yab)) (yah rfl C (zai Z) hr.m (yaa 0) (zaa (yaa 1) yab))) yac (yaq _)) (yag (yan (yah rfl C (zae Z) hr.m (yaa 0) (zaa (yaa 1) (zaa (yaa 2) yab))))) yaw)
  (zab (yal (i := 3) nd (yah rfl C (zah Z) hr.m (yaa 0) (zaa (yaa 2) yab)))
  (zab (yal (i := 4) nd (r_ix rfl hu (yaa 3) yac))
  (zab (yal (i := 5) nd (r_ix rfl hu (yaa 3) yac))
  (zab (r_if (yas o_le (yah rfl C (zai Z) hr.m (yaa 0) (zaa (yaa 4) yab)) (yah rfl C (zai Z) hr.m (yaa 0) (zaa (yaa 5) yab)) (yaq _)) (yag (yan (yah rfl C (zae Z) hr.m (yaa 0) (zaa (yah rfl C (zae Z) hr.m (yaa 0) (zaa (yaa 1) (zaa (yaa 4) yab))) (zaa (yaa 5) yab))))) yaw)
  (zab (yal (i := 6) nd (yah rfl C (zah Z) hr.m (yaa 0) (zaa (yaa 4) yab)))
  (yag (yan (yah rfl C (zae Z) hr.m (yaa 0) (zaa (yah rfl C (zae Z) hr.m (yaa 0) (zaa (yaa 1) (zaa (r_ix rfl hu (yaa 6) yac) yab))) (zaa (yah rfl C (zae Z) hr.m (yaa 0) (zaa (r_ix rfl hu (yaa 6) yac) (zaa (yaa 5) yab))) yab)))))))))))
theorem zbk : ∀ d, GF P w (mkT K cls exc) mg base (6 + d + 1) "without_first" (yav d)
 | 0 => gf Z.d_without_first zbc fun _ _ _ _ => ydg
 | d + 1 => gf Z.d_without_first zbc fun hr C hu nd =>
  (zab (yal (i := 2) nd (yah rfl C (zah Z) (hr.mono (show 4 <= 6 + (d + 1) by lia)) (yaa 0) (zaa (yaa 1) yab)))
  (zab (r_if (yas (o_eq rfl hu) (r_ix rfl hu (yaa 2) yac) yaG (yaq _)) (yag (yan yac)) yaw)
  (zab (yal (i := 3) nd (yam rfl C (zbk d) (hr.mono (by lia)) rfl (zaa (yaa 0) (zaa (r_ix rfl hu (yaa 2) yac) yab))))
  (zab (r_if (yas (o_eq rfl hu) (yaa 3) yac (yaq _)) (yag (yan (r_ix rfl hu (yaa 2) yac))) yaw)
  (yag (yan (yam rfl C (zbF Z) (hr.mono (show 6 <= 6 + (d + 1) by lia)) rfl (zaa (yaa 0) (zaa (yaa 3) (zaa (r_ix rfl hu (yaa 2) yac) yab))))))))))
theorem zdb : GF P w (mkT K cls exc) mg base 6 "turned_right" yaP := gf Z.d_turned_right zcR fun hr C hu nd =>
 (zab (r_if (yas o_lt (yak ybO (yah rfl C (zai Z) hr.m (yaa 0) (zaa (yaa 1) yab)) (yah rfl C (zai Z) hr.m (yaa 0) (zaa (yaa 2) yab))) yac (yaq _)) (yag (yan (yah rfl C (zae Z) hr.m (yaa 0) (zaa (yaa 1) (zaa (yaa 2) yab))))) yaw)
  (zab (yal (i := 3) nd (yah rfl C (zah Z) hr.m (yaa 0) (zaa (yaa 1) yab)))
  (zab (yal (i := 4) nd (r_ix rfl hu (yaa 3) yac))
  (zab (yal (i := 5) nd (r_ix rfl hu (yaa 3) yac))
  (zab (r_if (yas o_le (yah rfl C (zai Z) hr.m (yaa 0) (zaa (yaa 5) yab)) (yah rfl C (zai Z) hr.m (yaa 0) (zaa (yaa 4) yab)) (yaq _)) (yag (yan (yah rfl C (zae Z) hr.m (yaa 0) (zaa (yaa 4) (zaa (yah rfl C (zae Z) hr.m (yaa 0) (zaa (yaa 5) (zaa (yaa 2) yab))) yab))))) yaw)
  (zab (yal (i := 6) nd (yah rfl C (zah Z) hr.m (yaa 0) (zaa (yaa 5) yab)))
  (yag (yan (yah rfl C (zae Z) hr.m (yaa 0) (zaa (yah rfl C (zae Z) hr.m (yaa 0) (zaa (yaa 4) (zaa (r_ix rfl hu (yaa 6) yac) yab))) (zaa (yah rfl C (zae Z) hr.m (yaa 0) (zaa (r_ix rfl hu (yaa 6) yac) (zaa (yaa 2) yab))) yab)))))))))))
theorem zbE : ∀ d, GF P w (mkT K cls exc) mg base (6 + d + 1) "linked" (yaV d)
 | 0 => gf Z.d_linked zdu fun _ _ _ _ => ydg
 | d + 1 => gf Z.d_linked zdu fun hr C hu nd =>
  (zab (yal (i := 3) nd (yak ybO (yah rfl C (zai Z) (hr.mono (show 5 <= 6 + (d + 1) by lia)) (yaa 0) (zaa (yaa 1) yab)) (yah rfl C (zai Z) (hr.mono (show 5 <= 6 + (d + 1) by lia)) (yaa 0) (zaa (yaa 2) yab))))
  (zab (r_if (yas o_gt (yaa 3) yac (yaq _)) (zab (yal (i := 4) nd (yah rfl C (zah Z) (hr.mono (show 4 <= 6 + (d + 1) by lia)) (yaa 0) (zaa (yaa 1) yab)))
  (yag (yan (yam rfl C (zbF Z) (hr.mono (show 6 <= 6 + (d + 1) by lia)) rfl (zaa (yaa 0) (zaa (r_ix rfl hu (yaa 4) yac) (zaa (yam rfl C (zbE d) (hr.mono (by lia)) rfl (zaa (yaa 0) (zaa (r_ix rfl hu (yaa 4) yac) (zaa (yaa 2) yab)))) yab))))))) yaw)
  (zab (r_if (yas o_lt (yaa 3) (yft yac) (yaq _)) (zab (yal (i := 4) nd (yah rfl C (zah Z) (hr.mono (show 4 <= 6 + (d + 1) by lia)) (yaa 0) (zaa (yaa 2) yab)))
  (yag (yan (yam rfl C (zdb Z) (hr.mono (show 6 <= 6 + (d + 1) by lia)) rfl (zaa (yaa 0) (zaa (yam rfl C (zbE d) (hr.mono (by lia)) rfl (zaa (yaa 0) (zaa (yaa 1) (zaa (r_ix rfl hu (yaa 4) yac) yab)))) (zaa (r_ix rfl hu (yaa 4) yac) yab))))))) yaw)
  (yag (yan (yah rfl C (zae Z) (hr.mono (show 5 <= 6 + (d + 1) by lia)) (yaa 0) (zaa (yaa 1) (zaa (yaa 2) yab))))))))
theorem zhA : GF P w (mkT K cls exc) mg base 98 "welded" ycc := gf Z.d_welded zgw fun hr C hu nd =>
 (zab (yal (i := 3) nd (yak (yaK rfl) (r_ix rfl hu (yah rfl C (zah Z) hr.m (yaa 0) (zaa (yah rfl C (za1 Z) hr.m (yaa 0) (zaa (yaa 1) yab)) yab)) yac) (r_ix rfl hu (yah rfl C (zah Z) hr.m (yaa 0) (zaa (yah rfl C (za0 Z) hr.m (yaa 0) (zaa (yaa 2) yab)) yab)) yac)))
  (zab (yal (i := 4) nd (yam rfl C (zcm Z 90) hr.m rfl (zaa (yaa 0) (zaa (yaa 1) (zaa (yah rfl C (zaR Z) hr.m (yaa 0) (zaa (yaa 3) yab)) yab)))))
  (zab (yal (i := 5) nd (yam rfl C (zbk Z 90) hr.m rfl (zaa (yaa 0) (zaa (yaa 2) yab))))
  (zab (r_if (yas (o_eq rfl hu) (yaa 5) yac (yaq _)) (yag (yan (yaa 4))) yaw)
  (yag (yan (yam rfl C (zbE Z 90) hr.m rfl (zaa (yaa 0) (zaa (yaa 4) (zaa (yaa 5) yab))))))))))
theorem zhB : GF P w (mkT K cls exc) mg base 99 "joined" ybv := gf Z.d_joined zgx fun hr C hu nd =>
 (zab (yaI (yam rfl C (zda Z) hr.m rfl (zaa (yak (yaK rfl) (yah rfl C (zaC Z) hr.m (yaa 0) (zaa (yaa 1) yab)) (yah rfl C (zaC Z) hr.m (yaa 0) (zaa (yaa 2) yab))) yab)))
  (zab (r_if (yas (o_eq rfl hu) (yaa 1) yac (yaq _)) (yag (yan (yaa 2))) yaw)
  (zab (r_if (yas (o_eq rfl hu) (yaa 2) yac (yaq _)) (yag (yan (yaa 1))) yaw)
  (zab (r_if (zaz rfl (yam rfl C (zep Z) hr.m rfl (zaa (yaa 0) (zaa (yaa 1) (zaa (yaa 2) yab))))) (yag (yan (yam rfl C (zbE Z 90) hr.m rfl (zaa (yaa 0) (zaa (yaa 1) (zaa (yaa 2) yab)))))) yaw)
  (yag (yan (yam rfl C (zhA Z) hr.m rfl (zaa (yaa 0) (zaa (yaa 1) (zaa (yaa 2) yab))))))))))
theorem za4 : ∀ d, GF P w (mkT K cls exc) mg base (4 + d + 1) "_law_look" (yaM d)
 | 0 => gf Z.d_law_look zck fun _ _ _ _ => ydg
 | d + 1 => gf Z.d_law_look zck fun hr C hu nd =>
  (zab (r_if (yas (o_in rfl hu) (yaa 1) (yaa 2) rfl) (yag (yan (r_ix rfl hu (yaa 2) (yaa 1)))) yaw)
  (zab (yal (i := 3) nd (yah rfl C (zah Z) (hr.mono (show 4 <= 4 + (d + 1) by lia)) (yaa 0) (zaa (yaa 1) yab)))
  (zab (yal (i := 4) nd (ya7 yab))
  (zab (r_if (rt_w (ycV (yas (o_eq rfl hu) (r_ix rfl hu (yaa 3) yac) yaG (yaq _)) (ycV (zaz rfl (yei rfl rfl Z.b_isinstance (r_ix rfl hu (yaa 3) yac) rfl Z.b_str yeU (by decide))) (zc0 (zbu o_lt o_lt yac (r_bi (b_len rfl) rfl Z.b_len PySem.boot_len (zaa (r_ix rfl hu (yaa 3) yac) yab)) yac))))) (yag (yal (i := 4) nd (ya7 (zaa yac (zaa (r_bi (b_len rfl) rfl Z.b_len PySem.boot_len (zaa (r_ix rfl hu (yaa 3) yac) yab)) (zaa (r_bi (b_len rfl) rfl Z.b_len PySem.boot_len (zaa (r_ix rfl hu (yaa 3) yac) yab)) (zaa (r_bi (b_len rfl) rfl Z.b_len PySem.boot_len (zaa (r_ix rfl hu (yaa 3) yac) yab)) (zaa yac yab)))))))) yaw)
  (zab (r_if (rt_w (ycV (yas (o_eq rfl hu) (r_ix rfl hu (yaa 3) yac) yaG (yaq _)) (ycV (zbu o_lt o_lt yac (r_ix rfl hu (yaa 3) yac) (yaa 1)) (zc0 (zbu o_lt o_lt yac (r_ix rfl hu (yaa 3) yac) (yaa 1)))))) (zab (yal (i := 5) nd (yam rfl C (za4 d) (hr.mono (by lia)) rfl (zaa (yaa 0) (zaa (r_ix rfl hu (yaa 3) yac) (zaa (yaa 2) yab)))))
  (zab (yal (i := 6) nd (yam rfl C (za4 d) (hr.mono (by lia)) rfl (zaa (yaa 0) (zaa (r_ix rfl hu (yaa 3) yac) (zaa (yaa 2) yab)))))
  (yag (r_if (rt_w (ycV (yas (o_ne rfl hu) (yaa 5) (ya7 yab) (yaq _)) (ycV (yas (o_ne rfl hu) (yaa 6) (ya7 yab) (yaq _)) (ycV (yas o_lt (r_bi (b_abs) rfl Z.b_abs PyProof.Rows.boot_abs (zaa (yak ybO (r_ix rfl hu (yaa 5) yac) (r_ix rfl hu (yaa 6) yac)) yab)) yac (yaq _)) (zc0 (yas o_gt (yak (yaK rfl) (r_ix rfl hu (yaa 5) yac) (r_ix rfl hu (yaa 6) yac)) yac (yaq _))))))) (yag (yal (i := 4) nd (ya7 (zaa (yak (yaK rfl) yac (r_bi (yd7) rfl Z.b_max PyProof.Rows.boot_max (zaa (r_ix rfl hu (yaa 5) yac) (zaa (r_ix rfl hu (yaa 6) yac) yab)))) (zaa (yak (yaK rfl) (r_ix rfl hu (yaa 5) yac) (r_ix rfl hu (yaa 6) yac)) (zaa (r_ix rfl hu (yaa 5) yac) (zaa (r_ix rfl hu (yaa 6) yac) (zaa (yak (yaK rfl) (r_ix rfl hu (yaa 5) yac) (r_ix rfl hu (yaa 6) yac)) yab)))))))) yaw)))) yaw)
  (zab (zbn hu (yaa 2) (yaa 1) (yaa 4))
  (yag (yan (yaa 4)))))))))
theorem zeq : GF P w (mkT K cls exc) mg base 96 "_law_sound" yb7 := gf Z.d_law_sound zd4 fun hr C hu nd =>
 (yag (yan (r_or (ycM (o_eq rfl hu) (yaa 1) yac (yaq _)) (ydm (ycM (o_ne rfl hu) (yam rfl C (za4 Z 90) hr.m rfl (zaa (yaa 0) (zaa (yaa 1) (zaa zeG yab)))) (ya7 yab) (yaq _))))))
theorem zgA : GF P w (mkT K cls exc) mg base 97 "_law_new" yc5 := gf Z.d_law_new zfH fun hr C hu nd =>
 (yag (yan (yd4 (yam rfl C (zeq Z) hr.m rfl (zaa (yaa 0) (zaa (yaa 1) yab))) (ydm (ycM o_le (yak ybO (zeN rfl C (zbV Z) hr.m (yaa 0)) (yaa 2)) (yak ybP yac (yak (yaK rfl) (yaa 3) yac)) (yaq _))))))
theorem zdv : GF P w (mkT K cls exc) mg base 100 "_law_put" ybW := gf Z.d_law_put zfI fun hr C hu nd =>
 (zab (yal (i := 3) nd (zeN rfl C (zbV Z) hr.m (yaa 0)))
  (zab (yal (i := 4) nd (r_bi (yd7) rfl Z.b_max PyProof.Rows.boot_max (zaa (yah rfl C (zai Z) hr.m (yaa 0) (zaa (yaa 1) yab)) (zaa (yah rfl C (zai Z) hr.m (yaa 0) (zaa (yaa 2) yab)) yab))))
  (zab (yal (i := 5) nd (yam rfl C (zhB Z) hr.m rfl (zaa (yaa 0) (zaa (yaa 1) (zaa (yaa 2) yab)))))
  (yag (yan (ya7 (zaa (yaa 5) (zaa (yam rfl C (zgA Z) hr.m rfl (zaa (yaa 0) (zaa (yaa 5) (zaa (yaa 3) (zaa (yaa 4) yab))))) yab))))))))
theorem zbW : GF P w (mkT K cls exc) mg base 1 "_law_length" ybF := gf Z.d_law_length zdC fun {f cdv A outer s H E} hr C hu nd =>
 (yag (yan (r_bi (b_sum rfl) rfl Z.b_sum PyProof.Rows.boot_sum (zaa (zeT rfl (jf := []) (zcK (N := ["blocks"]) (sc := yaf ycp) rfl (fun _ => rfl) (by decide +kernel)) rfl (zb3 (E := (fun _ => E)) rfl (yaa 0)) (fun _ _ _ _ _ => zaS) (fun _ _ _ _ _ => (yak ybP (r_bi (b_len rfl) rfl Z.b_len PySem.boot_len (zaa (yaa 0) yab)) (yaa 1)))) yab))))
theorem zer : GF P w (mkT K cls exc) mg base 2 "_law_spots" ycC := gf Z.d_law_spots zd5 fun {f cdv A outer s H E} hr C hu nd =>
 (zab (yal (i := 2) nd (yam rfl C (zbW Z) hr.m rfl (zaa (yaa 0) yab)))
  (zab (yal (i := 3) nd (ybK (zaa yac (zaa (yak ybO (yaa 2) yac) yab))))
  (zab (yal (i := 4) nd yac)
  (zab (ydn rfl (zb3 (E := EN) rfl (zbo rfl (yaa 0) zb5 (za5 yac))) (ycG rfl rfl (zan (i := 5) nd (zan (i := 6) nd zaJ))) (zab (yal (i := 4) nd (yak (yaK rfl) (yaa 4) (yak ybP (r_bi (b_len rfl) rfl Z.b_len PySem.boot_len (zaa (yaa 5) yab)) (yaa 6))))
  (yag (yaI (r_bm rfl PySem.F.plainAttrs_list PySem.F.slot_list_extend PySem.F.type_list_extend (ye7) zat (yaa 3) (zaa (ybK (zaa (yak ybO (yaa 4) yac) (zaa (yaa 4) (zaa (yak ybO (yaa 4) (r_bi (b_len rfl) rfl Z.b_len PySem.boot_len (zaa (yaa 5) yab))) yab)))) yab))))))
  (zab (yaI (r_bm rfl PySem.F.plainAttrs_list PySem.F.slot_list_extend PySem.F.type_list_extend (ye7) zat (yaa 3) (zaa (zie (jf := [(1, "stream"), (2, "length")]) (zaE (N := ["blocks", "stream", "length", "found", "seam", "plain", "many"]) (sc := yaf yb9) rfl (fun _ => rfl) (by decide +kernel)) rfl (zaK (E := (fun _ => E)) rfl Z.b_range yac) (fun _ _ _ _ _ => zaS) (fun _ _ _ _ _ => (yam rfl (CA.never rfl) (zas Z) hr.m rfl (zaa (yaa 1) (zaa (yaa 2) yab))))) yab)))
  (yag (yan (yer (jf := [(2, "length")]) (zaE (N := ["blocks", "stream", "length", "found", "seam", "plain", "many"]) (sc := yaf yb9) rfl (fun _ => rfl) (by decide +kernel)) rfl (yeq (E := (fun _ => E)) rfl (yaa 3)) (fun _ _ _ _ _ => zid (zbu o_le o_lt yac (yaa 0) (yaa 1))) (fun _ _ _ _ _ => (yaa 0))))))))))
theorem zd9 : GM P w (mkT K cls exc) mg base 5 0 "ends" ycj := gm Z.d_Shelf_ends zdD (show ("ends" : Str) ∉ flds 0 by decide +kernel) fun hr C hu nd =>
 (zab (yaI (yah rfl C (zax Z) hr.m (yaa 0) (zaa (yaa 1) yab)))
  (yag (yan (r_ix rfl hu (yaA rfl Z.cf_Shelf (yaa 0)) (yaa 1)))))
theorem zfM : GF P w (mkT K cls exc) mg base 5 "_law_sign" ybI := gf Z.d_law_sign zel fun hr C hu nd =>
 (zab (yal (i := 4) nd (yah rfl C (zah Z) hr.m (yaa 0) (zaa (yaa 1) yab)))
  (zab (zh9 yek (yas (o_eq rfl hu) (r_ix rfl hu (yaa 4) yac) yaG (yaq _)) (zab (yal (i := 5) nd (r_ix rfl hu (r_ix rfl hu (yaa 3) (r_ix rfl hu (yaa 4) yac)) yac))
  (zab (r_if (yas o_lt (yaa 2) (yaa 5) (yaq _)) (yag (yal (i := 1) nd (r_ix rfl hu (yaa 4) yac))) (zab (yal (i := 1) nd (r_ix rfl hu (yaa 4) yac))
  (yag (yal (i := 2) nd (yak ybO (yaa 2) (yaa 5))))))
  (yag (yal (i := 4) nd (yah rfl (C.nox) (zah Z) hr.m (yaa 0) (zaa (yaa 1) yab)))))))
  (yag (yan (r_ix rfl hu (r_ix rfl hu (yaa 4) yac) (yaa 2))))))
theorem zcC : GF P w (mkT K cls exc) mg base 1 "_law_block_sign" ya3 := gf Z.d_law_block_sign zca fun hr C hu nd =>
 (zab (ydn rfl (zb3 (E := EN) rfl (yaa 0)) (ycG rfl rfl (zan (i := 2) nd (zan (i := 3) nd zaJ))) (zab (r_if (yas o_lt (yaa 1) (yak ybP (r_bi (b_len rfl) rfl Z.b_len PySem.boot_len (zaa (yaa 2) yab)) (yaa 3)) (yaq _)) (yag (yan (r_ix rfl hu (yaa 2) (yak ycL (yaa 1) (r_bi (b_len rfl) rfl Z.b_len PySem.boot_len (zaa (yaa 2) yab)))))) yaw)
  (yag (yal (i := 1) nd (yak ybO (yaa 1) (yak ybP (r_bi (b_len rfl) rfl Z.b_len PySem.boot_len (zaa (yaa 2) yab)) (yaa 3)))))))
  (yag (yan yaG)))
theorem zcn : GF P w (mkT K cls exc) mg base 96 "_law_reads" ybe := gf Z.d_law_reads zd6 fun {f cdv A outer s H E} hr C hu nd =>
 (zab (yal (i := 4) nd (yam rfl C (zbW Z) hr.m rfl (zaa (yaa 2) yab)))
  (zab (r_if (rt_w (yd3 (yas (o_eq rfl hu) (yaa 1) yac (yaq _)) (yd2 (yas (o_eq rfl hu) (yaa 4) yac (yaq _))))) (yag (yan (yd4 (ycM (o_eq rfl hu) (yaa 1) yac (yaq _)) (ydm (ycM (o_eq rfl hu) (yaa 4) yac (yaq _)))))) yaw)
  (zab (yal (i := 5) nd zeG)
  (zab (yal (i := 6) nd (yam rfl C (za4 Z 90) hr.m rfl (zaa (yaa 0) (zaa (yaa 1) (zaa (yaa 5) yab)))))
  (zab (r_if (rt_w (yd3 (yas (o_eq rfl hu) (yaa 6) (ya7 yab) (yaq _)) (yd3 (yas (o_ne rfl hu) (r_ix rfl hu (yaa 6) yac) (yaa 4) (yaq _)) (yd2 (yas (o_ne rfl hu) (yah rfl C (zaC Z) hr.m (yaa 0) (zaa (yaa 1) yab)) (yaa 4) (yaq _)))))) (yag (yan r_bl)) yaw)
  (zab (r_if (yas (o_ne rfl hu) (yah rfl C (zd9 Z) hr.m (yaa 0) (zaa (yaa 1) yab)) (r_bi (b_sum rfl) rfl Z.b_sum PyProof.Rows.boot_sum (zaa (zeT rfl (jf := []) (zcK (N := ["shelf", "text", "blocks", "stream", "length", "known", "look", "spots"]) (sc := yaf yca) rfl (fun _ => rfl) (by decide +kernel)) rfl (zb3 (E := (fun _ => E)) rfl (yaa 2)) (fun _ _ _ _ _ => zaS) (fun _ _ _ _ _ => (yak ybP (r_bm rfl PySem.F.plainAttrs_str PySem.F.slot_str_count PySem.F.type_str_count (zdR) zeQ (yaa 0) (zaa yaG yab)) (yaa 1)))) yab)) (yaq _)) (yag (yan r_bl)) yaw)
  (zab (yal (i := 7) nd (yam rfl C (zer Z) hr.m rfl (zaa (yaa 2) (zaa (yaa 3) yab))))
  (yag (yan (r_bi (b_all rfl) rfl Z.b_all PyProof.Rows.boot_all (zaa (yer (jf := [(0, "shelf"), (1, "text"), (5, "known"), (2, "blocks")]) (zaE (N := ["shelf", "text", "blocks", "stream", "length", "known", "look", "spots"]) (sc := yaf yca) rfl (fun _ => rfl) (by decide +kernel)) rfl (yeq (E := (fun _ => E)) rfl (yaa 7)) (fun _ _ _ _ _ => zaS) (fun _ _ _ _ _ => (ycM (o_eq rfl hu) (yam rfl (CA.never rfl) (zfM Z) hr.m rfl (zaa (yaa 1) (zaa (yaa 2) (zaa (yaa 0) (zaa (yaa 3) yab))))) (yam rfl (CA.never rfl) (zcC Z) hr.m rfl (zaa (yaa 4) (zaa (yaa 0) yab))) (yaq _)))) yab)))))))))))
theorem zes : GF P w (mkT K cls exc) mg base 101 "_law_sides" yb8 := gf Z.d_law_sides zd7 fun hr C hu nd =>
 (zab (ydB (yaa 1) (ycG rfl rfl (zan (i := 4) nd (zan (i := 5) nd zaJ))))
  (zab (yal (i := 6) nd (yam rfl C (zas Z) hr.m rfl (zaa (yaa 3) (zaa yac yab))))
  (zab (ydn rfl (zaK (E := EN) rfl Z.b_range yac) (zb2 (i := 7) nd) (zab (yal (i := 8) nd (yam rfl (C.nox) (ziJ Z) hr.m rfl (zaa (yaa 0) (zaa (r_ix rfl hu (yaa 2) (yaa 7)) yab))))
  (zab (r_if (yas (o_eq rfl hu) (yak ycL (yak (yaK rfl) (yaa 7) (yaa 6)) yac) yac (yaq _)) (zab (ydB (yam rfl (C.nox) (zdv Z) hr.m rfl (zaa (yaa 0) (zaa (yaa 4) (zaa (yaa 8) yab)))) (ycG rfl rfl (zan (i := 4) nd (zan (i := 9) nd zaJ))))
  (yag (yal (i := 5) nd (yak (yaK rfl) (yaa 5) (ycN (zaa (ya7 (zaa (r_ix rfl hu (yaa 2) (yaa 7)) (zaa yac yab))) yab)))))) (zab (ydB (yam rfl (C.nox) (zdv Z) hr.m rfl (zaa (yaa 0) (zaa (yaa 8) (zaa (yaa 4) yab)))) (ycG rfl rfl (zan (i := 4) nd (zan (i := 9) nd zaJ))))
  (yag (yal (i := 5) nd (yak (yaK rfl) (ycN (zaa (ya7 (zaa (r_ix rfl hu (yaa 2) (yaa 7)) (zaa yac yab))) yab)) (yaa 5))))))
  (yag (r_if (rt_w (yd3 (ycF (zaz rfl (yaa 9))) (yd2 (ycF (zaz rfl (yam rfl (C.nox) (zcn Z) hr.m rfl (zaa (yaa 0) (zaa (yaa 4) (zaa (yaa 5) (zaa (yaa 3) yab)))))))))) (yag (yan r_bl)) yaw)))))
  (yag (yan r_bl)))))
theorem yht {f : Addr} {fd : FuncData} (h4 : Fun K "law" "law" yeb f fd) : FnOk P w K mg base (CXE P w) 102 f fd ["script"] (spA (mkT K cls exc) yeG) := gl (T := mkT K cls exc) h4 ygH fun hr C hu nd =>
 (zab (yal (i := 1) nd (zig rfl C (zd8 Z) hr.m rfl))
  (zab (ydn rfl (zic (E := EN) rfl rfl Z.b_enumerate (yak (yaK rfl) (zbo rfl (yaa 0) zb5 (za5 yac)) (ycN (zaa yac (zaa yac yab))))) (ycG rfl rfl (zan (i := 2) nd (zan (i := 3) nd zaJ))) (zab (yal (i := 4) nd (yam rfl (C.nox) (zgy Z) hr.m rfl (zaa (yaa 3) (zaa (yaa 2) yab))))
  (zab (ydB (yam rfl (C.nox) (zfL Z) hr.m rfl (zaa (yaa 1) (zaa (yaa 4) yab))) (ycG rfl rfl (zan (i := 5) nd (zan (i := 6) nd zaJ))))
  (zab (zeL (jf := [(4, "stream")]) (zaE (N := ["script", "shelf", "k", "cell", "stream", "text", "blocks", "plains"]) (sc := yaf yeb) rfl (fun _ => rfl) (by decide +kernel)) rfl (zaK (E := EN) rfl Z.b_range yac) (fun _ _ _ _ _ => zaS) (fun _ _ _ _ _ => (yam rfl (CA.never rfl) (zeo Z) hr.m rfl (zaa (yaa 1) (zaa (r_ix rfl hu (ycN (zaa yac (zaa yac yab))) (yam rfl (CA.never rfl) (zas Z) hr.m rfl (zaa (yaa 1) (zaa yac yab)))) yab)))) nd (i := 7))
  (yag (r_if (rt_w (yd3 (ycF (zaz rfl (yam rfl (C.nox) (zes Z) hr.m rfl (zaa (yaa 1) (zaa (ya7 (zaa (yaa 5) (zaa (yaa 6) yab))) (zaa (yaa 7) (zaa (yaa 4) yab))))))) (yd2 (ycF (zaz rfl (yam rfl (C.nox) (zcn Z) hr.m rfl (zaa (yaa 1) (zaa (yaa 5) (zaa (yaa 6) (zaa (yaa 4) yab)))))))))) (yag (yan r_bl)) yaw))))))
  (yag (yan r_bl))))
end
end Sk
namespace Sk
open PySem PySem.Spec L2 Sm
abbrev FX (l : PySem.W.OpenLaw) (w : World) (K : PySem.W.Frag) (mg : Str -> Option Value) (fa : Addr) : Prop := ∃ fd : FuncData, (∀ (s : Shared) (v : Value), BindsTo s fd ⟨[v], []⟩ [("script", v)]) /\ ∀ base : Heap, K.In base -> base.Ns mainGlobals mg -> FnOk l.prog w K mg base (CXE l.prog w) 102 fa fd ["script"] (spL K)
theorem all_mk {l : PySem.W.OpenLaw} {w : World} {K : PySem.W.Frag} {h : Heap} {mg : Str -> Option Value} {fa C0 X0 X1 X2 X3 X4 X5 : Addr} {tk_LEAF_SIGNS tk_MOST_PLAIN tk_MOST_SIGNS : Tok} (X : K.In h) (G : h.Ns mainGlobals mg) (hfa : mg "law" = some (.ref fa))
  (aC0 : NA K "Shelf" (some (.ref C0))) (a0 : DN K C0 "__init__" "Shelf.__init__" ycY) (a6 : DN K C0 "lay" "Shelf.lay" yc8) (a8 : DN K C0 "lay_leaf" "Shelf.lay_leaf" ycd) (a9 : DN K C0 "leaf" "Shelf.leaf" ycZ) (a12 : DN K C0 "has_piece" "Shelf.has_piece" yb3) (a13 : DN K C0 "check_piece" "Shelf.check_piece" ybN) (a14 : DN K C0 "check_fork" "Shelf.check_fork" ybX) (a15 : DN K C0 "lay_fork" "Shelf.lay_fork" yce) (a16 : DN K C0 "fork" "Shelf.fork" yc0) (a23 : DN K C0 "many" "Shelf.many" yc1) (a25 : DN K C0 "check_text" "Shelf.check_text" ybY) (a26 : DN K C0 "signs" "Shelf.signs" ycI) (a27 : DN K C0 "last_leaf" "Shelf.last_leaf" yb4) (a28 : DN K C0 "first_leaf" "Shelf.first_leaf" ybZ) (a30 : DN K C0 "piece" "Shelf.piece" ycJ) (a32 : DN K C0 "height" "Shelf.height" ycv) (a45 : DN K C0 "ends" "Shelf.ends" yc2) (a1 : DK K "_law_mixed" yc7) (a2 : DK K "_law_own" ydE) (a3 : DK K "is_plain_sign" ycn) (a4 : DK K "is_plain" ycR) (a5 : DK K "is_short" yds) (a7 : DK K "ends_in" ydF) (a10 : DK K "_law_take" ydt) (a11 : DK K "is_whole" ydu) (a17 : DK K "_law_lean" ydv) (a18 : DK K "_law_high" ydw) (a19 : DK K "_law_signs" yc9) (a20 : DK K "_law_plain" yda) (a21 : DK K "halved" ydS) (a22 : DK K "built" ydQ) (a24 : DK K "check_length" ycu) (a29 : DK K "are_close" ydb) (a31 : DK K "with_last" ydc) (a33 : DK K "turned_left" ycK) (a34 : DK K "without_first" yco) (a35 : DK K "turned_right" ycw) (a36 : DK K "linked" ydT) (a37 : DK K "welded" ydU) (a38 : DK K "joined" ydV) (a39 : DK K "_law_look" ydx) (a40 : DK K "_law_sound" ydd) (a41 : DK K "_law_new" ydG) (a42 : DK K "_law_put" ydH) (a43 : DK K "_law_length" ycp) (a44 : DK K "_law_spots" yb9) (a46 : DK K "_law_sign" ydy) (a47 : DK K "_law_block_sign" ycf) (a48 : DK K "_law_reads" yca) (a49 : DK K "_law_sides" yde) (a50 : DK K "law" yeb) (kk0 : Cls K C0) (mk0 : PySem.W.makesIn K C0 = true) (kc0 : PySem.W.keepIn K (.ref C0) = true) (nf0_0 : FA K C0 "pieces") (nf0_1 : FA K C0 "numbers") (nf0_2 : FA K C0 "sign_counts") (nf0_3 : FA K C0 "end_counts") (nf0_4 : FA K C0 "leaf_counts") (nf0_5 : FA K C0 "heights") (nf0_6 : FA K C0 "first_leaves") (nf0_7 : FA K C0 "last_leaves") (z_abs : NA K "abs" none) (z_all : NA K "all" none) (z_bool : NA K "bool" none) (z_enumerate : NA K "enumerate" none) (z_int : NA K "int" none) (z_isinstance : NA K "isinstance" none) (z_len : NA K "len" none) (z_max : NA K "max" none) (z_range : NA K "range" none) (z_str : NA K "str" none) (z_sum : NA K "sum" none) (e_SkeinError : NA K "SkeinError" (some (.ref X0))) (e_NoText : NA K "NoText" (some (.ref X1))) (x_NoText : XI K X1) (e_NoPiece : NA K "NoPiece" (some (.ref X2))) (x_NoPiece : XI K X2) (e_Loose : NA K "Loose" (some (.ref X3))) (x_Loose : XI K X3) (e_Unlevel : NA K "Unlevel" (some (.ref X4))) (x_Unlevel : XI K X4) (e_TooLong : NA K "TooLong" (some (.ref X5))) (x_TooLong : XI K X5) (m_LEAF_SIGNS : NA K "LEAF_SIGNS" (some (.int 8 tk_LEAF_SIGNS))) (m_MOST_PLAIN : NA K "MOST_PLAIN" (some (.int 10000 tk_MOST_PLAIN))) (m_MOST_SIGNS : NA K "MOST_SIGNS" (some (.int 1000000000000000000 tk_MOST_SIGNS)))
  : FX l w K mg fa := by
 have Z : ∀ base : Heap, K.In base -> Facts l.prog w K (fun n => [C0][n]?) (fun n => [X0, X1, X2, X3, X4, X5][n]?) mg base := fun base KB => {
   b_abs := PySem.W.mg_none_of X G z_abs,
   b_all := PySem.W.mg_none_of X G z_all,
   b_bool := PySem.W.mg_none_of X G z_bool,
   b_enumerate := PySem.W.mg_none_of X G z_enumerate,
   b_int := PySem.W.mg_none_of X G z_int,
   b_isinstance := PySem.W.mg_none_of X G z_isinstance,
   b_len := PySem.W.mg_none_of X G z_len,
   b_max := PySem.W.mg_none_of X G z_max,
   b_range := PySem.W.mg_none_of X G z_range,
   b_str := PySem.W.mg_none_of X G z_str,
   b_sum := PySem.W.mg_none_of X G z_sum,
   c_LEAF_SIGNS := ⟨_, PySem.W.mg_of X G m_LEAF_SIGNS⟩,
   c_MOST_PLAIN := ⟨_, PySem.W.mg_of X G m_MOST_PLAIN⟩,
   c_MOST_SIGNS := ⟨_, PySem.W.mg_of X G m_MOST_SIGNS⟩,
   cf_Shelf := ⟨C0, rfl, kk0, fun f hf => by
   have hf2 : f ∈ flds 0 := hf
   simp only [flds, List.mem_cons, List.not_mem_nil, or_false] at hf2
   rcases hf2 with rfl | rfl | rfl | rfl | rfl | rfl | rfl | rfl
   ·exact nf0_0
   ·exact nf0_1
   ·exact nf0_2
   ·exact nf0_3
   ·exact nf0_4
   ·exact nf0_5
   ·exact nf0_6
   ·exact nf0_7⟩,
   x_NoText := gx KB X G rfl e_NoText x_NoText,
   x_NoPiece := gx KB X G rfl e_NoPiece x_NoPiece,
   x_Loose := gx KB X G rfl e_Loose x_Loose,
   x_Unlevel := gx KB X G rfl e_Unlevel x_Unlevel,
   x_TooLong := gx KB X G rfl e_TooLong x_TooLong,
   d_Shelf_init := di rfl (PySem.W.mg_of X G aC0) mk0 kc0 a0 bl1,
   d_law_mixed := dg X G a1 bl2,
   d_law_own := dg X G a2 bl2,
   d_is_plain_sign := dg X G a3 bl1,
   d_is_plain := dg X G a4 bl1,
   d_is_short := dg X G a5 bl1,
   d_Shelf_lay := dm rfl kk0 a6 bl2,
   d_ends_in := dg X G a7 bl1,
   d_Shelf_lay_leaf := dm rfl kk0 a8 bl2,
   d_Shelf_leaf := dm rfl kk0 a9 bl2,
   d_law_take := dg X G a10 bl2,
   d_is_whole := dg X G a11 bl1,
   d_Shelf_has_piece := dm rfl kk0 a12 bl2,
   d_Shelf_check_piece := dm rfl kk0 a13 bl2,
   d_Shelf_check_fork := dm rfl kk0 a14 bl3,
   d_Shelf_lay_fork := dm rfl kk0 a15 bl2,
   d_Shelf_fork := dm rfl kk0 a16 bl3,
   d_law_lean := dg X G a17 bl5,
   d_law_high := dg X G a18 bl2,
   d_law_signs := dg X G a19 bl1,
   d_law_plain := dg X G a20 bl2,
   d_halved := dg X G a21 bl2,
   d_built := dg X G a22 bl2,
   d_Shelf_many := dm rfl kk0 a23 bl1,
   d_check_length := dg X G a24 bl1,
   d_Shelf_check_text := dm rfl kk0 a25 bl2,
   d_Shelf_signs := dm rfl kk0 a26 bl2,
   d_Shelf_last_leaf := dm rfl kk0 a27 bl2,
   d_Shelf_first_leaf := dm rfl kk0 a28 bl2,
   d_are_close := dg X G a29 bl3,
   d_Shelf_piece := dm rfl kk0 a30 bl2,
   d_with_last := dg X G a31 bl3,
   d_Shelf_height := dm rfl kk0 a32 bl2,
   d_turned_left := dg X G a33 bl3,
   d_without_first := dg X G a34 bl2,
   d_turned_right := dg X G a35 bl3,
   d_linked := dg X G a36 bl3,
   d_welded := dg X G a37 bl3,
   d_joined := dg X G a38 bl3,
   d_law_look := dg X G a39 bl3,
   d_law_sound := dg X G a40 bl2,
   d_law_new := dg X G a41 bl4,
   d_law_put := dg X G a42 bl3,
   d_law_length := dg X G a43 bl1,
   d_law_spots := dg X G a44 bl2,
   d_Shelf_ends := dm rfl kk0 a45 bl2,
   d_law_sign := dg X G a46 bl4,
   d_law_block_sign := dg X G a47 bl2,
   d_law_reads := dg X G a48 bl4,
   d_law_sides := dg X G a49 bl4,
   d_law := dg X G a50 bl1 }
 obtain ⟨fd, h1, F⟩ := dlaw (p := "script") X G hfa a50 bl1
 exact ⟨fd, h1, fun base KB _ => FnOk.imp (yht (Z base KB) F) (zij (T := mkT K (fun n => [C0][n]?) (fun n => [X0, X1, X2, X3, X4, X5][n]?)) law_true)⟩
theorem walk {l : PySem.W.OpenLaw} {q : Program} {loose : List Str} {XP : (Str -> Option Value) -> Heap -> Prop} {YP : World -> Heap -> Prop} {d : DefRec} {K : Params -> PySem.W.Frag} (hn : l.most = some 63) (hdf : d.params.defaults = [])
  (hY : ∀ (w : World) (h : Heap), YP w h -> (K w.params).In h)
  (F : ∀ (w : World) (mg : Str -> Option Value) (fa : Addr) (h : Heap), (K w.params).In h -> h.Ns mainGlobals mg -> mg d.name = some (.ref fa) -> FX l w (K w.params) mg fa) :
  PySem.W.WalkO q loose XP YP l.row.toRowW d [] (fun f vs => PySem.call f vs) :=
 L2.walk_of (n := 63) (k := 102) (x := "script") (CX := fun w => CXE l.prog w) (sp := fun w => spL (K w.params)) hn (by decide) hdf ⟨rfl, by decide, by decide⟩ hY F (fun _ _ a ns hl _ hS => ⟨a, ns, rfl, hS, hl, fun _ => rfl⟩) fun _ _ _ _ _ z => zgl z
end Sk
open PySem PySem.W PyProof.Rows
section
namespace PySem.W.Fast
def tw8749850787894054188 := 0
def tw15562738104016357123 := 0
def tw4413039817089203167 := 0
def tw12443497806380445663 := 0
def tw2203001775256001439 := 0
def tw4526837205472859007 := 0
def tw3291416276801376863 := 0
def tw4202948747744462431 := 0
def tw17404562782494505407 := 0
def tw5906714096784355583 := 0
def tw10029989395976322271 := 0
def tw17064160024532779167 := 0
def tw4777611298124066943 := 0
def tw16820219676268153983 := 0
def tw5190443276574139326 := 0
def tw17366959544093704990 := 0
def tw3608444532187033118 := 0
def tw15821404406840657406 := 0
def tw3962726899924959742 := 0
def tw2274901184543323582 := 0
def tw7876779306936527134 := 0
def tw4957814689079959774 := 0
def tw14867339527402632254 := 0
def tw17549242579500347357 := 0
def tw18281690721789310877 := 0
def tw1469267326643014557 := 0
def tw12518539616291322749 := 0
def tw1809525927003811677 := 0
def tw6692303850451681085 := 0
def tw13666168095825024829 := 0
def tw8680770226944816925 := 0
def tw5706856755954702909 := 0
def tw11820090315471534653 := 0
def tw11137871515657777693 := 0
def tw18090043256723492317 := 0
def tw14639572068109050237 := 0
def tw1939433639484914013 := 0
def tw1326734882106947805 := 0
def tw6884461090336456925 := 0
def tw6980742691611602045 := 0
def tw16615708661191308381 := 0
def tw16432640425744058300 := 0
def tw13252762695295946652 := 0
def tw18218003446400999292 := 0
def tw5480202955513841340 := 0
def tw4354705064871035516 := 0
def tw7929317572804220444 := 0
def tw16786014913456326076 := 0
def tw12093090955535804796 := 0
def tw7541457941031275804 := 0
def tw12720103934655361212 := 0
def tw9990833009097048955 := 0
def tw5408454056001982171 := 0
def tw14116859161637768923 := 0
def tw5570994655800678939 := 0
def tw1157420296993326619 := 0
def tw9377395085855249659 := 0
def tw15472117311683067067 := 0
def tw5043094175324073115 := 0
def tw17515809829813144667 := 0
def tw11391973903724401658 := 0
def tw4298707278161007482 := 0
def tw17062058694006033050 := 0
def tw6776470393425063418 := 0
def tw8621878791338622330 := 0
def tw9582356453677417594 := 0
def tw16370585093611849786 := 0
def tw17187274466349597754 := 0
def tw3337261925153035961 := 0
def tw12409956661231090201 := 0
def tw17676315959240390041 := 0
def tw10969703672626920633 := 0
def tw13693878455216746649 := 0
def tw11551310820359867513 := 0
def tw17893059109468183416 := 0
def tw98976047325608568 := 0
def tw6623706659582178872 := 0
def tw11391564437207372312 := 0
def tw18229012419174315544 := 0
def tw10580551258388169240 := 0
def tw17059526546825585144 := 0
def tw10393359548785654232 := 0
def tw15547396442766972376 := 0
def tw1270771408662981016 := 0
def tw10306098254018133272 := 0
def tw8376249233103083768 := 0
def tw12769838481311093944 := 0
def tw5165416642149362872 := 0
def tw7605776045973598360 := 0
def tw18145365621502719895 := 0
def tw7296316470451776375 := 0
def tw15236063560075622167 := 0
def tw1512587731762034199 := 0
def tw14740662535094544503 := 0
def tw2757425713133278966 := 0
def tw12417692054882932470 := 0
def tw9050959282487485142 := 0
def tw9783011664568342134 := 0
def tw18340622674575278678 := 0
def tw7308114493367373014 := 0
def tw12042267432658036886 := 0
def tw3903225644373674070 := 0
def tw6204259891084506069 := 0
def tw15959288024105956181 := 0
def tw1020653442220246837 := 0
def tw18031397328672527093 := 0
def tw13576206177765962357 := 0
def tw12371064572213236309 := 0
def tw7959804662159754709 := 0
def tw12371799248584007093 := 0
def tw4643683331370105109 := 0
def tw12653609499845212405 := 0
def tw7880470602117763956 := 0
def tw8786281840636313300 := 0
def tw6193771607400407732 := 0
def tw2240120131308387604 := 0
def tw9294616252931216564 := 0
def tw14403154570257237044 := 0
def tw8802441833772698579 := 0
def tw12420808528977757107 := 0
def tw12034176187647394675 := 0
def tw1159254304827391731 := 0
def tw4994236640897936115 := 0
def tw16298805145353507539 := 0
def tw10130309132854621843 := 0
def tw999366253412195891 := 0
def tw2444713442558679443 := 0
def tw3214213989583560851 := 0
def tw5112846065988075442 := 0
def tw12116792416269209170 := 0
def tw15957716586594945426 := 0
def tw11653594910248565106 := 0
def tw13637109795107419474 := 0
def tw15268287224990221618 := 0
def tw17812337513964794994 := 0
def tw1693822976776719442 := 0
def tw11344326699134306289 := 0
def tw15471931643138755537 := 0
def tw5138792765759439793 := 0
def tw4570644184881221553 := 0
def tw17028771648916120465 := 0
def tw9680664604654733169 := 0
def tw11154940284193023857 := 0
def tw4596815724881454929 := 0
def tw13752662181863139121 := 0
def tw9325441688835868209 := 0
def tw13926963753121077649 := 0
def tw15831445216312206737 := 0
def tw4772771536945436017 := 0
def tw17999024643795208561 := 0
def tw2990780014540070001 := 0
def tw13733244512143363792 := 0
def tw13707119067386678960 := 0
def tw13545020357603849840 := 0
def tw3775631790356916848 := 0
def tw9741734887544392048 := 0
def tw13978646001907181872 := 0
def tw17327130117632405648 := 0
def tw13508078396526802032 := 0
def tw4325397414557884496 := 0
def tw2422152438407853903 := 0
def tw8524109378805842735 := 0
def tw644435352533293839 := 0
def tw2911765685342455471 := 0
def tw4451376451938315919 := 0
def tw6088785947533525647 := 0
def tw166569550742889071 := 0
def tw3507351946357725679 := 0
def tw8091760722515594671 := 0
def tw12007732365667068303 := 0
def tw12250290541144053103 := 0
def tw17342048384786999631 := 0
def tw12360056683598253295 := 0
def tw17693361385863134447 := 0
def tw10952207592605647055 := 0
def tw11250640776174998735 := 0
def tw441634140532221007 := 0
def tw11901625030955930542 := 0
def tw440496643652812654 := 0
def tw2701826605103737550 := 0
def tw588766705015029198 := 0
def tw482264042588588462 := 0
def tw14741766887998317902 := 0
def tw15496294267205793038 := 0
def tw722773567143195886 := 0
def tw6745146771112733677 := 0
def tw8264454973473949581 := 0
def tw11464817919841834797 := 0
def tw17904552707897412333 := 0
def tw17918708309407544973 := 0
def tw16690135787402413645 := 0
def tw5803531526771152013 := 0
def tw1373085346073657389 := 0
def tw958804256540035117 := 0
def tw5525197921573566348 := 0
def tw9159366120681507628 := 0
def tw16624543107480834796 := 0
def tw7853892905028590284 := 0
def tw15732620703091469964 := 0
def tw8976838307912370796 := 0
def tw15256893489205002764 := 0
def tw7620220412815635628 := 0
def tw2958232160054697132 := 0
def tw1209222690999322732 := 0
def tw12869517153276310604 := 0
def tw9566153400453185548 := 0
def tw1874359457550721003 := 0
def tw10904653369592546091 := 0
def tw13479897442082075371 := 0
def tw5636837066969387691 := 0
def tw11063471405907109483 := 0
def tw4309141208722129483 := 0
def tw11236580247486125483 := 0
def tw1476218090673935755 := 0
def tw3843240907475633515 := 0
def tw1175628556687584491 := 0
def tw2179508149588171979 := 0
def tw12544521210568585419 := 0
def tw1436203969866630315 := 0
def tw12501807516656169962 := 0
def tw3630828017054131146 := 0
def tw5059873227457948522 := 0
def tw10920945129803247370 := 0
def tw12190916498283320842 := 0
def tw15157627179347973642 := 0
def tw12739033583286130154 := 0
def tw13788982341050760618 := 0
def tw5530351751822669962 := 0
def tw10414138523072288874 := 0
def tw12211996442905162633 := 0
def tw13685737781677969161 := 0
def tw6985279581017742953 := 0
def tw15737267107510766153 := 0
def tw3232380932076633481 := 0
def tw13006966147648985193 := 0
def tw11841313295393468360 := 0
def tw13005112442926558024 := 0
def tw13539836426838497096 := 0
def tw10255515429880657576 := 0
def tw841069853382897160 := 0
def tw17402359452691886568 := 0
def tw3972396381909926376 := 0
def tw7726542066099711400 := 0
def tw4922123211709498760 := 0
def tw5104091364859740520 := 0
def tw14403099133212110152 := 0
def tw17766625634585414984 := 0
def tw10150624116191231272 := 0
def tw16644232780125105448 := 0
def tw8574304655457172744 := 0
def tw6360251009001060520 := 0
def tw14407797762568259559 := 0
def tw15787029107310736135 := 0
def tw8006536158435304007 := 0
def tw4809980901366972935 := 0
def tw15215741641997334983 := 0
def tw6458555960173867431 := 0
def tw17451203790705615239 := 0
def tw13199426989533362150 := 0
def tw5194784313689109414 := 0
def tw10238975391657489094 := 0
def tw2127322138771508870 := 0
def tw5480579414148815430 := 0
def tw16064805369213935174 := 0
def tw13105078713664639494 := 0
def tw1213235858547171558 := 0
def tw11712077344904242374 := 0
def tw8839304228130909350 := 0
def tw15275572987783563398 := 0
def tw4368750104247455878 := 0
def tw5312023942575581190 := 0
def tw280180873593991077 := 0
def tw11476437962604005253 := 0
def tw12386884498530241349 := 0
def tw1488073607150273253 := 0
def tw15606856629460645573 := 0
def tw17918410651689757317 := 0
def tw4330262483366228613 := 0
def tw4493563045114007141 := 0
def tw5122338493672005125 := 0
def tw2061542555312845253 := 0
def tw17907937082413306277 := 0
def tw11830030531831570821 := 0
def tw17509565608273975525 := 0
def tw575943952467644613 := 0
def tw16823480550283102309 := 0
def tw6975003596630888388 := 0
def tw6404424818392312740 := 0
def tw10639756274646498084 := 0
def tw11523201982560319044 := 0
def tw813779663191369252 := 0
def tw18434613073970873604 := 0
def tw16099301509436122276 := 0
def tw12175670771898540068 := 0
def tw18373857601369720868 := 0
def tw17762362596259105763 := 0
def tw3345992514792272803 := 0
def tw5435072534198540163 := 0
def tw764494051627893507 := 0
def tw16662010897451699779 := 0
def tw14319014570290698819 := 0
def tw17354391519310662051 := 0
def tw7700713069584613603 := 0
def tw3289454881897971618 := 0
def tw15415798667380911970 := 0
def tw16612054250942490338 := 0
def tw8305057124715259522 := 0
def tw18311315348168637890 := 0
def tw5014211296489520450 := 0
def tw1239038851255075074 := 0
def tw5535305256563779746 := 0
def tw6952590931358289601 := 0
def tw12033294243879619201 := 0
def tw13636392853536591425 := 0
def tw13764201672710692225 := 0
def tw13363675087953159425 := 0
def tw17351706570688165760 := 0
def tw16875238119266461280 := 0
def tw9090204641977537088 := 0
def tw14896602878690496864 := 0
def tw17914879008160943456 := 0
def tw11832220841488061696 := 0
def tw17700750773860098272 := 0
end PySem.W.Fast
end
set_option maxRecDepth 100000 in
set_option maxHeartbeats 0 in
theorem PySem.Challenge.cw_skeinwood_k37_high_with_low_holds : PySem.Challenge.rw_skeinwood_k37_high_with_low.Holds := by
 w_on; o_law; k_head; (case hw => w_witness2)
 k_fill
 refine Sk.walk (l := PySem.Challenge.rw_skeinwood_k37_high_with_low) rfl rfl (fun w h Y => PySem.W.kIn_of Y) ?F
 case F =>
  intro w mg fa h KX G hmg
  refine' Sk.all_mk KX G hmg ?aC0 ?a0 ?a6 ?a8 ?a9 ?a12 ?a13 ?a14 ?a15 ?a16 ?a23 ?a25 ?a26 ?a27 ?a28 ?a30 ?a32 ?a45 ?a1 ?a2 ?a3 ?a4 ?a5 ?a7 ?a10 ?a11 ?a17 ?a18 ?a19 ?a20 ?a21 ?a22 ?a24 ?a29 ?a31 ?a33 ?a34 ?a35 ?a36 ?a37 ?a38 ?a39 ?a40 ?a41 ?a42 ?a43 ?a44 ?a46 ?a47 ?a48 ?a49 ?a50 ?kk0 ?mk0 ?kc0 ?nf0_0 ?nf0_1 ?nf0_2 ?nf0_3 ?nf0_4 ?nf0_5 ?nf0_6 ?nf0_7 ?z_abs ?z_all ?z_bool ?z_enumerate ?z_int ?z_isinstance ?z_len ?z_max ?z_range ?z_str ?z_sum ?e_SkeinError ?e_NoText ?x_NoText ?e_NoPiece ?x_NoPiece ?e_Loose ?x_Loose ?e_Unlevel ?x_Unlevel ?e_TooLong ?x_TooLong ?m_LEAF_SIGNS ?m_MOST_PLAIN ?m_MOST_SIGNS
  (case aC0 => apply Sm.na;k_is)
  (case a0 => apply Sm.dn<;>k_is)
  (case a6 => apply Sm.dn<;>k_is)
  (case a8 => apply Sm.dn<;>k_is)
  (case a9 => apply Sm.dn<;>k_is)
  (case a12 => apply Sm.dn<;>k_is)
  (case a13 => apply Sm.dn<;>k_is)
  (case a14 => apply Sm.dn<;>k_is)
  (case a15 => apply Sm.dn<;>k_is)
  (case a16 => apply Sm.dn<;>k_is)
  (case a23 => apply Sm.dn<;>k_is)
  (case a25 => apply Sm.dn<;>k_is)
  (case a26 => apply Sm.dn<;>k_is)
  (case a27 => apply Sm.dn<;>k_is)
  (case a28 => apply Sm.dn<;>k_is)
  (case a30 => apply Sm.dn<;>k_is)
  (case a32 => apply Sm.dn<;>k_is)
  (case a45 => apply Sm.dn<;>k_is)
  (case a1 => apply Sm.dk<;>k_is)
  (case a2 => apply Sm.dk<;>k_is)
  (case a3 => apply Sm.dk<;>k_is)
  (case a4 => apply Sm.dk<;>k_is)
  (case a5 => apply Sm.dk<;>k_is)
  (case a7 => apply Sm.dk<;>k_is)
  (case a10 => apply Sm.dk<;>k_is)
  (case a11 => apply Sm.dk<;>k_is)
  (case a17 => apply Sm.dk<;>k_is)
  (case a18 => apply Sm.dk<;>k_is)
  (case a19 => apply Sm.dk<;>k_is)
  (case a20 => apply Sm.dk<;>k_is)
  (case a21 => apply Sm.dk<;>k_is)
  (case a22 => apply Sm.dk<;>k_is)
  (case a24 => apply Sm.dk<;>k_is)
  (case a29 => apply Sm.dk<;>k_is)
  (case a31 => apply Sm.dk<;>k_is)
  (case a33 => apply Sm.dk<;>k_is)
  (case a34 => apply Sm.dk<;>k_is)
  (case a35 => apply Sm.dk<;>k_is)
  (case a36 => apply Sm.dk<;>k_is)
  (case a37 => apply Sm.dk<;>k_is)
  (case a38 => apply Sm.dk<;>k_is)
  (case a39 => apply Sm.dk<;>k_is)
  (case a40 => apply Sm.dk<;>k_is)
  (case a41 => apply Sm.dk<;>k_is)
  (case a42 => apply Sm.dk<;>k_is)
  (case a43 => apply Sm.dk<;>k_is)
  (case a44 => apply Sm.dk<;>k_is)
  (case a46 => apply Sm.dk<;>k_is)
  (case a47 => apply Sm.dk<;>k_is)
  (case a48 => apply Sm.dk<;>k_is)
  (case a49 => apply Sm.dk<;>k_is)
  (case a50 => apply Sm.dk<;>k_is)
  (case kk0 => constructor<;>k_is)
  (case mk0 => k_is)
  (case kc0 => k_is)
  (case nf0_0 => apply Sm.fatt;k_is)
  (case nf0_1 => apply Sm.fatt;k_is)
  (case nf0_2 => apply Sm.fatt;k_is)
  (case nf0_3 => apply Sm.fatt;k_is)
  (case nf0_4 => apply Sm.fatt;k_is)
  (case nf0_5 => apply Sm.fatt;k_is)
  (case nf0_6 => apply Sm.fatt;k_is)
  (case nf0_7 => apply Sm.fatt;k_is)
  (case z_abs => apply Sm.na;k_is)
  (case z_all => apply Sm.na;k_is)
  (case z_bool => apply Sm.na;k_is)
  (case z_enumerate => apply Sm.na;k_is)
  (case z_int => apply Sm.na;k_is)
  (case z_isinstance => apply Sm.na;k_is)
  (case z_len => apply Sm.na;k_is)
  (case z_max => apply Sm.na;k_is)
  (case z_range => apply Sm.na;k_is)
  (case z_str => apply Sm.na;k_is)
  (case z_sum => apply Sm.na;k_is)
  (case e_SkeinError => apply Sm.na;k_is)
  (case e_NoText => apply Sm.na;k_is)
  (case x_NoText => apply Sm.xi;k_exc)
  (case e_NoPiece => apply Sm.na;k_is)
  (case x_NoPiece => apply Sm.xi;k_exc)
  (case e_Loose => apply Sm.na;k_is)
  (case x_Loose => apply Sm.xi;k_exc)
  (case e_Unlevel => apply Sm.na;k_is)
  (case x_Unlevel => apply Sm.xi;k_exc)
  (case e_TooLong => apply Sm.na;k_is)
  (case x_TooLong => apply Sm.xi;k_exc)
  (case m_LEAF_SIGNS => apply Sm.na;k_is)
  (case m_MOST_PLAIN => apply Sm.na;k_is)
  (case m_MOST_SIGNS => apply Sm.na;k_is)
