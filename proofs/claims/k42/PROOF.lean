import PyProof.Rows.All
import Wide.All
import OpenK.AllK
import Wide.FinOn
import Lean
import PyProof.EqAt
import PyProof.EqKinds
import PyProof.TupleCall
import PyProof.StrCalls2
import PyProof.SumAny
import PyProof.Rows.Range3
import PyProof.StrBlockI
import PyProof.SliceStr2
import PyProof.IsRules
import PyProof.StrBlock2
import PyProof.ListRange
import KE.KRevSl
import PyProof.StrLawsIn
import PySem.Challenge.RW_skeinwood_k42_whole_long_joins
set_option Elab.async false
set_option linter.all false
set_option maxRecDepth 100000
noncomputable section
namespace L2
open PySem PySem.Spec PyProof.Rows
abbrev Key := Sum Int Str
abbrev b01 (b : Bool) : Int := if b then 1 else 0
def keyIs : Key -> Value -> Bool
  | .inl k, .bool b => decide (k = b01 b)
  | .inl k, v => Value.isInt k v
  | .inr x, v => Value.isStrOf x v
def keyH (w : World) : Key -> Int
  | .inl k => hashInt k
  | .inr x => hashStr w x
theorem zar : ∀ {k : Key} {v : Value}, keyIs k v = true -> (∃ i t, k = Sum.inl i /\ v = Value.int i t) \/ (∃ b, k = Sum.inl (b01 b) /\ v = Value.bool b) \/ (∃ x t, k = Sum.inr x /\ v = Value.str x t)
  | .inl i, v, h => by
    cases v with
    | bool b => exact .inr (.inl ⟨b, by rw [of_decide_eq_true (show decide (i = b01 b) = true from h)], rfl⟩)
    | int j t =>
      obtain ⟨t, e⟩ := Value.isInt_shape (k := i) (v := .int j t) h
      exact .inl ⟨i, t, rfl, e⟩
    | _ => exact absurd h (by simp [keyIs, Value.isInt])
  | .inr x, v, h => by
    obtain ⟨t, e⟩ := Value.isStrOf_shape (x := x) (v := v) h
    exact .inr (.inr ⟨x, t, rfl, e⟩)
theorem zfS (i : Int) (t : Tok) : keyIs (.inl i) (.int i t) = true := by simp [keyIs, Value.isInt]
theorem zfT (x : Str) (t : Tok) : keyIs (.inr x) (.str x t) = true := by simp [keyIs, Value.isStrOf]
theorem key_ll (a b : Int) : decide ((Sum.inl a : Key) = Sum.inl b) = (a == b) := by
  by_cases e : a = b
  . subst e; simp
  . have h : ¬ (Sum.inl a : Key) = Sum.inl b := fun q => e (Sum.inl.inj q)
    rw [decide_eq_false h]
    exact (beq_eq_false_iff_ne.mpr e).symm
theorem key_rr (a b : Str) : decide ((Sum.inr a : Key) = Sum.inr b) = decide (a = b) := by
  by_cases e : a = b
  . subst e; simp
  . have h : ¬ (Sum.inr a : Key) = Sum.inr b := fun q => e (Sum.inr.inj q)
    rw [decide_eq_false h, decide_eq_false e]
theorem key_lr (a : Int) (b : Str) : decide ((Sum.inl a : Key) = Sum.inr b) = false := decide_eq_false (fun q => nomatch q)
theorem key_rl (a : Str) (b : Int) : decide ((Sum.inr a : Key) = Sum.inl b) = false := decide_eq_false (fun q => nomatch q)
theorem zb9 {prog : Program} {w : World} {A : Around} {E : Value -> Shared -> Prop} {s : Shared} {b : Bool} {Q : Int -> Shared -> Prop} (h : Q (hashInt (b01 b)) { s with toks := s.toks + 1 }) :
    wpAny (model prog w) A (pyHash (.bool b)) Q E s := by
  unfold pyHash
  unfold pyHashByItsType
  have hv : [Value.bool b].any Value.onHeap = false := rfl
  refine wpAny_bind ?_
  rw [cRoomFor, if_neg (by rw [hv]; exact Bool.false_ne_true)]; refine wpAny_pure ?_
  refine wpAny_bind (wpAny_specialOf (PySem.typeIs_bool s b) PySem.F.slot_bool_hash.lookup ?_)
  show wpAny _ _ (if (some (Value.builtin "int.__hash__") == some Value.none) = true then _ else _) Q E s
  rw [if_neg (by rw [beq_builtin_none]; exact Bool.false_ne_true)]
  refine wpAny_bind (wpAny_specialOf (PySem.typeIs_bool s b) PySem.F.slot_bool_hash.lookup ?_)
  show wpAny _ _ (callSpecialIfBoundUnlessNone? (.bool b) "__hash__" _ >>= _) Q E s
  cases b with
  | false =>
    refine wpAny_bind (wpAny_callSpecialIfBoundUnlessNone?_slot (PySem.typeIs_bool s false) PySem.F.slot_bool_hash
      (wpAny_call_entry PySem.F.slot_bool_hash (PySem.typeIs_bool s false) entry_int_hash
        (show wpAny _ _ (do ret (<- mkInt 0)) _ _ s from wpAny_ret_mkInt ?_) (args_int_hash _)))
    exact wpAny_pure h
  | true =>
    refine wpAny_bind (wpAny_callSpecialIfBoundUnlessNone?_slot (PySem.typeIs_bool s true) PySem.F.slot_bool_hash
      (wpAny_call_entry PySem.F.slot_bool_hash (PySem.typeIs_bool s true) entry_int_hash
        (show wpAny _ _ (do ret (<- mkInt 1)) _ _ s from wpAny_ret_mkInt ?_) (args_int_hash _)))
    exact wpAny_pure h
theorem zhw (a b : Bool) : (a == b) = decide ((Sum.inl (b01 a) : Key) = Sum.inl (b01 b)) := by cases a <;> cases b <;> decide
def mixKind (prog : Program) (w : World) : PySem.KeyKind prog w Key where
  is := keyIs
  hash := keyH w
  inj := fun v a b ha hb => by
    rcases zar ha with ⟨i, t, rfl, rfl⟩ | ⟨c, rfl, rfl⟩ | ⟨x, t, rfl, rfl⟩
    . rcases zar hb with ⟨j, u, rfl, e⟩ | ⟨d, rfl, e⟩ | ⟨y, u, rfl, e⟩
      . injection e with e1 _; rw [e1]
      . exact nomatch e
      . exact nomatch e
    . rcases zar hb with ⟨j, u, rfl, e⟩ | ⟨d, rfl, e⟩ | ⟨y, u, rfl, e⟩
      . exact nomatch e
      . injection e with e1; rw [e1]
      . exact nomatch e
    . rcases zar hb with ⟨j, u, rfl, e⟩ | ⟨d, rfl, e⟩ | ⟨y, u, rfl, e⟩
      . exact nomatch e
      . exact nomatch e
      . injection e with e1 _; rw [e1]
  byValue := fun k v h => by
    rcases zar h with ⟨i, t, rfl, rfl⟩ | ⟨c, rfl, rfl⟩ | ⟨x, t, rfl, rfl⟩ <;> rfl
  pyHash := fun hv h => by
    rcases zar hv with ⟨i, t, rfl, rfl⟩ | ⟨c, rfl, rfl⟩ | ⟨x, t, rfl, rfl⟩
    . exact wpAny_pyHash_int h
    . exact zb9 h
    . exact wpAny_pyHash_str h
  eqBool := fun hu hv h => by
    rcases zar hu with ⟨i, t, rfl, rfl⟩ | ⟨c, rfl, rfl⟩ | ⟨x, t, rfl, rfl⟩
    . rcases zar hv with ⟨j, u, rfl, rfl⟩ | ⟨d, rfl, rfl⟩ | ⟨y, u, rfl, rfl⟩
      . rw [key_ll] at h; exact wpAny_eqBool_int h
      . rw [key_ll] at h; exact SeqAt.EqAt.int_bool i t d _ _ _ _ h
      . rw [key_lr] at h; exact SeqAt.EqAt.int_str i t y u _ _ _ _ h
    . rcases zar hv with ⟨j, u, rfl, rfl⟩ | ⟨d, rfl, rfl⟩ | ⟨y, u, rfl, rfl⟩
      . rw [key_ll] at h; exact SeqAt.EqAt.bool_int c j u _ _ _ _ h
      . rw [<- zhw] at h; exact SeqAt.EqAt.bool_bool c d _ _ _ _ h
      . rw [key_lr] at h; exact SeqAt.EqAt.bool_str c y u _ _ _ _ h
    . rcases zar hv with ⟨j, u, rfl, rfl⟩ | ⟨d, rfl, rfl⟩ | ⟨y, u, rfl, rfl⟩
      . rw [key_rl] at h; exact SeqAt.EqAt.str_int x t j u _ _ _ _ h
      . rw [key_rl] at h; exact SeqAt.EqAt.str_bool x t d _ _ _ _ h
      . rw [key_rr] at h; exact wpAny_eqBool_str h
  «strs» := fun k x t v h => by
    rcases zar h with ⟨i, u, rfl, e⟩ | ⟨d, rfl, e⟩ | ⟨y, u, rfl, e⟩
    . exact nomatch e
    . exact nomatch e
    . injection e with e1 _
      subst e1
      cases v <;> rfl
theorem zce (prog : Program) (w : World) (i : Int) (t : Tok) : (mixKind prog w).is (.inl i) (.int i t) = true := zfS i t
theorem zcf (prog : Program) (w : World) (x : Str) (t : Tok) : (mixKind prog w).is (.inr x) (.str x t) = true := zfT x t
end L2
namespace L2
open PySem PySem.Spec PyProof.Rows
inductive V where
  | non | bl (b : Bool) | int (i : Int) | str (x : Str) | byt (b : Array UInt8) | flt (b : UInt64) | ref (a : Addr) | ty (n : String)
  deriving DecidableEq
def RelV : V -> Value -> Prop
  | .non, u => u = Value.none
  | .bl b, u => u = Value.bool b
  | .int i, u => ∃ t, u = Value.int i t
  | .str x, u => ∃ t, u = Value.str x t
  | .byt b, u => ∃ t, u = Value.bytes b t
  | .flt b, u => ∃ t, u = Value.float b t
  | .ref a, u => u = Value.ref a
  | .ty n, u => u = Value.type n
abbrev Vals : List V -> List Value -> Prop := Paired RelV
theorem Vals.length {xs : List V} {us : List Value} (r : Vals xs us) : xs.length = us.length := Paired.length r
theorem Vals.get : ∀ {xs : List V} {us : List Value} {i : Nat} {x : V}, Vals xs us -> xs[i]? = some x -> ∃ u, us[i]? = some u /\ RelV x u
  | _, _, _, _, .nil, e => by simp at e
  | _, _, 0, _, .cons r _, e => by simp at e; subst e; exact ⟨_, rfl, r⟩
  | _, _, i + 1, x, .cons _ t, e => by
    obtain ⟨u, h1, h2⟩ := Vals.get (i := i) (x := x) t (by simpa using e)
    exact ⟨u, by simpa using h1, h2⟩
theorem Vals.set {x : V} {u : Value} (r : RelV x u) : ∀ {xs : List V} {us : List Value} (i : Nat), Vals xs us -> Vals (xs.set i x) (us.set i u)
  | _, _, _, .nil => .nil
  | _, _, 0, .cons _ t => .cons r t
  | _, _, i + 1, .cons q t => .cons q (Vals.set r i t)
theorem Vals.append : ∀ {xs ys : List V} {us ws : List Value}, Vals xs us -> Vals ys ws -> Vals (xs ++ ys) (us ++ ws)
  | _, _, _, _, .nil, s => s
  | _, _, _, _, .cons r t, s => .cons r (Vals.append t s)
theorem Vals.take : ∀ {xs : List V} {us : List Value} (n : Nat), Vals xs us -> Vals (xs.take n) (us.take n)
  | _, _, 0, _ => .nil
  | _, _, _ + 1, .nil => .nil
  | _, _, n + 1, .cons r t => .cons r (Vals.take n t)
theorem Vals.drop : ∀ {xs : List V} {us : List Value} (n : Nat), Vals xs us -> Vals (xs.drop n) (us.drop n)
  | _, _, 0, r => r
  | _, _, _ + 1, .nil => .nil
  | _, _, n + 1, .cons _ t => Vals.drop n t
def RelO : Option V -> Option Value -> Prop
  | some v, some u => RelV v u
  | none, none => True
  | _, _ => False
def KV {κ : Type} : List (κ × V) -> List (κ × Value) -> Prop := Paired fun (p : κ × V) (q : κ × Value) => p.1 = q.1 /\ RelV p.2 q.2
def kV : Key -> V
  | .inl i => .int i
  | .inr x => .str x
def kOf : V -> Option Key
  | .int i => some (.inl i)
  | .bl b => some (.inl (b01 b))
  | .str x => some (.inr x)
  | _ => none
theorem kOf_kV (k : Key) : kOf (kV k) = some k := by cases k <;> rfl
inductive HO where
  | lst (xs : List V)
  | tup (xs : List V)
  | dK (kvs : List (Key × V)) | dT (kvs : List (List Key × V))
  | set (S : Int -> Bool) (n : Nat)
  | ins (C dx : Addr) (fs : List (Str × V))
  | own (x : Addr)
  | xd (fs : List (Str × V))
  | met (f x : Addr)
  | rng (lo hi : Int)
  | frz (o : Obj) (u : HO)
  | tbl (ps : Array Value)
  | ext (φ : Heap -> Prop)
abbrev Hp := Addr -> Option HO
def upd (H : Hp) (a : Addr) (o : HO) : Hp := fun b => if b = a then some o else H b
theorem zam {H : Hp} {a : Addr} {o : HO} : upd H a o a = some o := by unfold upd; rw [if_pos rfl]
theorem upd_ne {H : Hp} {a b : Addr} {o : HO} (h : b ≠ a) : upd H a o b = H b := by unfold upd; rw [if_neg h]
theorem ne_of {H : Hp} {a b : Addr} {o u : HO} (h : H a = some o) (h' : H b = some u) (d : o ≠ u) : a ≠ b := by
  intro e; subst e; rw [h] at h'; exact d (Option.some.inj h')
theorem zan {H : Hp} {a b : Addr} {o : HO} (h : H a = some o) (h' : H b = none) : a ≠ b := by
  intro e; subst e; rw [h] at h'; cases h'
section
variable (P : Program) (w : World)
def ObjOk (H : Hp) (h : Heap) (a : Addr) : HO -> Prop
  | .lst xs => xs.length <= sizeLine /\ ∃ (its : List Value) (n : Nat), Vals xs its /\ h.get? a = some { cls := .type "list", data := .seq its.toArray n }
  | .tup xs => xs.length <= sizeLine /\ ∃ its : List Value, Vals xs its /\ IsTup h a its.toArray
  | .dK kvs => kvs.length <= sizeLine /\ (a == sysModules) = false /\ ∃ vs, KV kvs vs /\ h.DictOf (mixKind P w) a vs
  | .dT kvs => kvs.length <= sizeLine /\ (a == sysModules) = false /\ ∃ xs : List (List Key × Addr × Value),
      Paired (fun (p : List Key × V) (q : List Key × Addr × Value) => p.1 = q.1 /\ (∃ ys, H q.2.1 = some (.tup ys) /\ ys.map kOf = p.1.map some) /\ RelV p.2 q.2.2) kvs xs /\
      ∃ o es ep, h.get? a = some o /\ o.ExactDict /\ o.data = .dict es ep /\ es.toList = xs.map (entryOfKey (tupleKind (mixKind P w))) /\ (xs.map (·.1)).Nodup
  | .set S n => h.SetOf (intKind P w) a S n
  | .ins C dx fs => H dx = some (.own a) /\ fs.length <= 1000 /\ dx ≠ a /\ h.get? a = some (PySem.W.instObj C dx) /\
      ∃ mA, h.Ns1 dx mA /\ (∀ f, RelO (fs.lookup f) (mA f)) /\ PySem.Within mA (fs.map (·.1))
  | .own _ => ∃ o, h.get? a = some o
  | .xd fs => ∃ mA, h.Ns1 a mA /\ ∀ f, RelO (fs.lookup f) (mA f)
  | .rng lo hi => ∃ t u v, h.get? a = some { cls := .type "range", data := .fields #[.int lo t, .int hi u, .int 1 v] }
  | .frz o u => h.get? a = some o /\ ObjOk H h a u
  | .tbl ps => h.get? a = some { cls := .none, data := .fields ps }
  | .met f x => h.get? a = some (PySem.W.methodObj (.ref f) (.ref x))
  | .ext φ => φ h /\ (∃ o, h.get? a = some o) /\ ∀ h1 h2 : Heap, φ h1 -> (∀ o, h1.get? a = some o -> h2.get? a = some o) -> φ h2
def HOk (H : Hp) (h : Heap) : Prop := ∀ a o, H a = some o -> ObjOk P w H h a o
end
section
variable {P : Program} {w : World} {H H' : Hp} {h h' : Heap} {a : Addr} {o : HO}
theorem ObjOk.lt (x : ObjOk P w H h a o) : a < h.objs.size := by
  cases o with
  | lst xs => obtain ⟨_, _, _, _, e⟩ := x; exact Heap.lt_size e
  | tup xs => obtain ⟨_, _, _, p⟩ := x; exact p.lt
  | dK kvs => obtain ⟨_, _, _, _, o, _, _, e, _⟩ := x; exact Heap.lt_size e
  | dT kvs => obtain ⟨_, _, _, _, o, _, _, e, _⟩ := x; exact Heap.lt_size e
  | set S n => obtain ⟨o, _, _, _, e, _⟩ := x; exact Heap.lt_size e
  | ins C dx fs => obtain ⟨_, _, _, e, _⟩ := x; exact Heap.lt_size e
  | own y => obtain ⟨_, e⟩ := x; exact Heap.lt_size e
  | xd fs => obtain ⟨_, ⟨_, _, _, e, _⟩, _⟩ := x; exact Heap.lt_size e
  | rng lo hi => obtain ⟨_, _, _, e⟩ := x; exact Heap.lt_size e
  | frz ob u => obtain ⟨e, _⟩ := x; exact Heap.lt_size e
  | tbl ps => exact Heap.lt_size (show h.get? a = some _ from x)
  | met f y => exact Heap.lt_size (show h.get? a = some _ from x)
  | ext φ => obtain ⟨_, ⟨_, e⟩, _⟩ := x; exact Heap.lt_size e
theorem Paired.mapP {α β : Type} {F G : α -> β -> Prop} : ∀ {l₁ : List α} {l₂ : List β}, Paired F l₁ l₂ -> (∀ a b, F a b -> G a b) -> Paired G l₁ l₂
  | _, _, .nil, _ => .nil
  | _, _, .cons r t, f => .cons (f _ _ r) (Paired.mapP t f)
theorem ObjOk.stay (x : ObjOk P w H h a o) (k : ∀ b u, (b = a \/ H b = some (.own a)) -> h.get? b = some u -> h'.get? b = some u)
    (ho : ∀ b, H b = some (.own a) -> H' b = some (.own a)) (ht : ∀ b xs, H b = some (.tup xs) -> H' b = some (.tup xs)) : ObjOk P w H' h' a o := by
  induction o with
  | lst xs => obtain ⟨z, its, n, r, e⟩ := x; exact ⟨z, its, n, r, k _ _ (.inl rfl) e⟩
  | tup xs => obtain ⟨z, its, r, ob, e, c⟩ := x; exact ⟨z, its, r, ob, k _ _ (.inl rfl) e, c⟩
  | dK kvs => obtain ⟨z, y, vs, r, ob, es, ep, e, c⟩ := x; exact ⟨z, y, vs, r, ob, es, ep, k _ _ (.inl rfl) e, c⟩
  | dT kvs =>
    obtain ⟨z, y, xs, r, ob, es, ep, e, c⟩ := x
    exact ⟨z, y, xs, Paired.mapP r fun p q z => ⟨z.1, z.2.1.imp fun _ e => ⟨ht _ _ e.1, e.2⟩, z.2.2⟩, ob, es, ep, k _ _ (.inl rfl) e, c⟩
  | set S n => obtain ⟨ob, es, ep, t, e, c⟩ := x; exact ⟨ob, es, ep, t, k _ _ (.inl rfl) e, c⟩
  | ins C dx fs =>
    obtain ⟨d, z, ne, e, mA, ⟨od, es, ep, e2, c⟩, r⟩ := x
    exact ⟨ho _ d, z, ne, k _ _ (.inl rfl) e, mA, ⟨od, es, ep, k _ _ (.inr d) e2, c⟩, r⟩
  | own y => obtain ⟨ob, e⟩ := x; exact ⟨ob, k _ _ (.inl rfl) e⟩
  | xd fs => obtain ⟨mA, ⟨od, es, ep, e, c⟩, r⟩ := x; exact ⟨mA, ⟨od, es, ep, k _ _ (.inl rfl) e, c⟩, r⟩
  | rng lo hi => obtain ⟨t, u, v, e⟩ := x; exact ⟨t, u, v, k _ _ (.inl rfl) e⟩
  | frz ob u ih => obtain ⟨e, q⟩ := x; exact ⟨k _ _ (.inl rfl) e, ih q⟩
  | tbl ps =>
    have e : h.get? a = some { cls := .none, data := .fields ps } := x
    show h'.get? a = some { cls := .none, data := .fields ps }
    exact k a _ (.inl rfl) e
  | met f y =>
    have e : h.get? a = some (PySem.W.methodObj (.ref f) (.ref y)) := x
    show h'.get? a = some (PySem.W.methodObj (.ref f) (.ref y))
    exact k a _ (.inl rfl) e
  | ext φ => obtain ⟨p, ⟨o, e⟩, st⟩ := x; exact ⟨st _ _ p fun o q => k _ _ (.inl rfl) q, ⟨o, k _ _ (.inl rfl) e⟩, st⟩
theorem HOk.lt (x : HOk P w H h) (e : H a = some o) : a < h.objs.size := (x a o e).lt
theorem HOk.fresh (x : HOk P w H h) (e : h.objs.size <= a) : H a = none := by
  cases q : H a with
  | none => rfl
  | some u => exact absurd (Nat.lt_of_lt_of_le (x.lt q) e) (Nat.lt_irrefl _)
theorem HOk.kept (x : HOk P w H h) (k : ∀ b u, h.get? b = some u -> h'.get? b = some u) : HOk P w H h' := fun a o e =>
  (x a o e).stay (fun b u _ q => k b u q) (fun _ q => q) fun _ _ q => q
theorem HOk.laid (x : HOk P w H h) (k : ∀ b u, h.get? b = some u -> h'.get? b = some u) (hp : h.objs.size <= a) (new : ObjOk P w (upd H a o) h' a o) : HOk P w (upd H a o) h' := fun b u e => by
  have hn := x.fresh hp
  by_cases hb : b = a
  . subst hb; rw [zam] at e; cases e; exact new
  . rw [upd_ne hb] at e
    exact (x b u e).stay (fun c v _ q => k c v q) (fun c q => by rw [upd_ne (zan q hn)]; exact q) fun c xs q => by rw [upd_ne (zan q hn)]; exact q
end
def Rd (H : Hp) (a : Addr) (u : HO) : Prop := H a = some u \/ ∃ o, H a = some (.frz o u)
theorem Rd.ok {P : Program} {w : World} {H : Hp} {h : Heap} {a : Addr} {u : HO} (r : Rd H a u) (x : HOk P w H h) : ObjOk P w H h a u := by
  rcases r with r | ⟨o, r⟩
  . exact x a u r
  . obtain ⟨_, q⟩ := x a _ r
    exact q
def Mut : Option HO -> Prop
  | some (.lst _) => True
  | some (.dK _) => True
  | some (.dT _) => True
  | some (.set _ _) => True
  | some (.ins _ _ _) => True
  | some (.ext _) => True
  | _ => False
section
variable {P : Program} {w : World} {H : Hp} {h h' : Heap} {x e : Addr} {o' : HO}
theorem HOk.write (ok : HOk P w H h) (mu : Mut (H x)) (he : e = x \/ H e = some (.own x)) (k : ∀ b u, b ≠ e -> h.get? b = some u -> h'.get? b = some u) (heo : ∃ u, h'.get? e = some u)
    (new : ObjOk P w (upd H x o') h' x o') : HOk P w (upd H x o') h' := fun b u q => by
  have nown : ∀ c y, H c = some (.own y) -> c ≠ x := fun c y r z => by subst z; rw [r] at mu; exact mu
  have ntup : ∀ c xs, H c = some (.tup xs) -> c ≠ x := fun c xs r z => by subst z; rw [r] at mu; exact mu
  by_cases hb : b = x
  . subst hb; rw [zam] at q; cases q; exact new
  . rw [upd_ne hb] at q
    by_cases hbe : b = e
    . have q' : H b = some (.own x) := by
        rcases he with z | z
        . exact absurd (hbe.trans z) hb
        . rw [hbe]; exact z
      rw [q] at q'; cases q'
      obtain ⟨v, hv⟩ := heo
      exact ⟨v, by rw [hbe]; exact hv⟩
    . refine (ok b u q).stay (fun c v hc r => k c v ?_ r) (fun c r => by rw [upd_ne (nown c b r)]; exact r) fun c xs r => by rw [upd_ne (ntup c xs r)]; exact r
      rcases hc with rfl | hc
      . exact hbe
      . rintro rfl
        rcases he with z | z
        . exact nown c b hc z
        . rw [hc] at z; cases z; exact hb rfl
end
structure Un (fs ex : List Addr) (H H' : Hp) (h h' : Heap) : Prop where
  keep : ∀ b o, h.get? b = some o -> H b = none -> b ∉ fs -> b ∉ ex -> h'.get? b = some o
  slot : ∀ b o, h.get? b = some o -> H b = none -> b ∈ fs -> b ∉ ex -> ∃ sl, h'.get? b = some { o with slots := sl }
  free : ∀ b o, h.get? b = some o -> H b = none -> b ∉ ex -> H' b = none
  there : ∀ b o, h.get? b = some o -> b ∉ ex -> ∃ o', h'.get? b = some o'
  tups : ∀ b xs, H b = some (.tup xs) -> H' b = some (.tup xs)
  frzs : ∀ b o u, H b = some (.frz o u) -> H' b = some (.frz o u)
  tbls : ∀ b ps, H b = some (.tbl ps) -> ∃ more, H' b = some (.tbl (ps ++ more))
section
variable {fs fs' ex ex' : List Addr} {H H1 H2 : Hp} {h h1 h2 h' : Heap} {a x e : Addr} {o : HO}
theorem Un.any (u : Un fs ex H H1 h h1) {b : Addr} {ob : Obj} (q : h.get? b = some ob) (n : H b = none) (hx : b ∉ ex) : ∃ sl, h1.get? b = some { ob with slots := sl } := by
  by_cases hb : b ∈ fs
  . exact u.slot b ob q n hb hx
  . exact ⟨ob.slots, u.keep b ob q n hb hx⟩
theorem Un.kept (k : ∀ b u, h.get? b = some u -> h'.get? b = some u) : Un fs ex H H h h' :=
  ⟨fun b ob q _ _ _ => k b ob q, fun b ob q _ _ _ => ⟨ob.slots, k b ob q⟩, fun _ _ _ n _ => n, fun b ob q _ => ⟨ob, k b ob q⟩, fun _ _ q => q, fun _ _ _ q => q, fun _ ps q => ⟨#[], by rw [q]; simp⟩⟩
theorem Un.refl : Un fs ex H H h h := Un.kept fun _ _ q => q
theorem Un.laid (k : ∀ b u, h.get? b = some u -> h'.get? b = some u) (hp : h.objs.size <= a) (hn : H a = none) : Un fs ex H (upd H a o) h h' where
  keep := fun b u q _ _ _ => k b u q
  slot := fun b u q _ _ _ => ⟨u.slots, k b u q⟩
  free := fun b u q n _ => by rw [upd_ne (Nat.ne_of_lt (Nat.lt_of_lt_of_le (Heap.lt_size q) hp))]; exact n
  there := fun b u q _ => ⟨u, k b u q⟩
  tups := fun b xs q => by rw [upd_ne (zan q hn)]; exact q
  frzs := fun b u xs q => by rw [upd_ne (zan q hn)]; exact q
  tbls := fun b ps q => ⟨#[], by rw [upd_ne (zan q hn), q]; simp⟩
theorem Un.write (mu : Mut (H x)) (he : e = x \/ H e = some (.own x)) (k : ∀ b u, b ≠ e -> h.get? b = some u -> h'.get? b = some u) (heo : ∃ u, h'.get? e = some u) : Un fs ex H (upd H x o) h h' := by
  have hx : ∀ b, H b = none -> b ≠ x := fun b n z => by subst z; rw [n] at mu; exact mu
  have hb : ∀ b, H b = none -> b ≠ e := fun b n z => by
    subst z
    rcases he with r | r
    . exact hx b n r
    . rw [n] at r; cases r
  have hm : ∀ b u, H b = some u -> ¬ Mut (some u) -> b ≠ x := fun b u q nm z => by subst z; rw [q] at mu; exact nm mu
  refine ⟨fun b u q n _ _ => k b u (hb b n) q, fun b u q n _ _ => ⟨u.slots, k b u (hb b n) q⟩, fun b u q n _ => by rw [upd_ne (hx b n)]; exact n, fun b u q _ => ?_,
    fun b xs q => by rw [upd_ne (hm b _ q fun z => z)]; exact q, fun b u xs q => by rw [upd_ne (hm b _ q fun z => z)]; exact q, fun b ps q => ⟨#[], by rw [upd_ne (hm b _ q fun z => z), q]; simp⟩⟩
  by_cases hbe : b = e
  . subst hbe; exact heo
  . exact ⟨u, k b u hbe q⟩
end
def trk (h : Heap) (H : Hp) : List Addr := (List.range h.objs.size).filter fun a => (H a).isSome
def hidT (h : Heap) (H : Hp) : Heap := PySem.W.hideAll h (trk h H)
theorem zfU (h : Heap) (H : Hp) : (hidT h H).objs.size = h.objs.size := PySem.W.hideAll_size _ _
theorem zgB {h : Heap} {H : Hp} {b : Addr} {o : Obj} (e : h.get? b = some o) (n : H b = none) : (hidT h H).get? b = some o :=
  PySem.W.hideAll_get _ e fun hm => by
    have q : (H b).isSome = true := (List.mem_filter.mp hm).2
    rw [n] at q; simp at q
theorem zhx {h : Heap} {H : Hp} {b : Addr} {o : Obj} (e : (hidT h H).get? b = some o) : h.get? b = some o /\ H b = none := by
  have e' : h.get? b = some o := PySem.W.of_hideAll (trk h H) e
  refine ⟨e', ?_⟩
  cases q : H b with
  | none => rfl
  | some x =>
    have hm : b ∈ trk h H := List.mem_filter.mpr ⟨List.mem_range.mpr (Heap.lt_size e'), by simp [q]⟩
    have z : (hidT h H).get? b = none := PySem.W.hideAll_none (trk h H) hm
    rw [z] at e; cases e
end L2
namespace L2
open PySem PySem.Spec PyProof.Rows
structure Mod (K : PySem.W.Frag) (mg : Str -> Option Value) (base : Heap) : Prop where
  kin : K.In base
  glob : base.Ns mainGlobals mg
  blt : ∃ mb, base.Ns builtinsNs mb /\ ∀ x : Str, x ≠ "__name__" -> mb x = bootBuiltins x
  nolimit : base.NoLimit
structure Cx where
  prog : Program
  w : World
  K : PySem.W.Frag
  mg : Str -> Option Value
  base : Heap
  A : Around
  N : List Str
  s₀ : Shared
  H₀ : Hp
  env : Env
  outer : List Env
  stack : List Env
  ex : List Addr
  fn : Str -> Bool
  calm : Bool
  pn : List (Addr × Obj)
  xe : Value -> Shared -> Prop
def frs (l : List Env) : List Addr := l.filterMap (·.frame)
abbrev Cx.fs (X : Cx) : List Addr := frs X.outer
def Vis (sc : Scope) (x : Str) : Prop := sc.names.lookup x = some .local \/ sc.names.lookup x = some .cell \/ sc.names.lookup x = some .free
def Loc (sc : Scope) (x : Str) : Prop := sc.names.lookup x = some .local \/ sc.names.lookup x = some .cell
def Look (env : Env) (h : Heap) (m : Str -> Option Value) (x : Str) (u : Value) : Prop :=
  (env.kindOf x = some .local /\ m x = some u) \/ ((env.kindOf x = some .cell \/ env.kindOf x = some .free) /\ ∃ c, env.cells.lookup x = some c /\ h.IsCell c (some u))
structure Cx.Ok (X : Cx) : Prop where
  mod : Mod X.K X.mg X.base
  kind : X.env.scope.kind = .function
  glob : X.env.globals = mainGlobals
  blt : X.env.builtins = builtinsNs
  above : X.s₀.heap.objs.size <= X.env.locals
  inj : ∀ x y c, X.env.cells.lookup x = some c -> X.env.cells.lookup y = some c -> x = y
  has : ∀ x, (X.env.kindOf x = some .cell \/ X.env.kindOf x = some .free) -> ∃ c, X.env.cells.lookup x = some c
  cab : ∀ x c, X.fn x = true -> X.env.cells.lookup x = some c -> X.s₀.heap.objs.size <= c
  hd : X.calm = true -> X.A.handled = none
  frames : X.A.frames = some X.stack
  stk : X.stack = X.outer \/ (X.stack = X.env :: X.outer /\ X.env.frame = some X.env.locals)
  exf : ∀ b ∈ X.ex, b ≠ X.env.locals /\ ∀ x c, X.env.cells.lookup x = some c -> c ≠ b
  bs : ∀ b o, X.base.get? b = some o -> X.s₀.heap.get? b = some o /\ X.H₀ b = none
  bsz : X.base.objs.size <= X.s₀.heap.objs.size
  noex : ∀ b o, X.base.get? b = some o -> b ∉ X.ex
  exfs : ∀ b ∈ X.ex, b ∉ X.fs
  funs : X.s₀.heap.FunFrames X.base X.outer
  frf : ∀ b ∈ X.fs, X.H₀ b = none
structure Inv (X : Cx) (pins : List (Addr × Obj)) (σ : List (Option V)) (H : Hp) (s : Shared) : Prop where
  ok : X.Ok
  os : s.os = X.s₀.os
  bare : AllBare s.gens
  base : Un X.fs X.ex X.H₀ H X.s₀.heap s.heap
  loc : ∃ m, s.heap.Ns X.env.locals m /\ ∀ (i : Nat) (x : Str) (v : V), X.N[i]? = some x -> σ[i]? = some (some v) -> Vis X.env.scope x -> ∃ u, RelV v u /\ Look X.env s.heap m x u
  cell : ∀ x c, X.env.cells.lookup x = some c -> ∃ v, s.heap.IsCell c v
  free : H X.env.locals = none
  freeC : ∀ x c, X.env.cells.lookup x = some c -> H c = none
  pin : ∀ p ∈ X.pn ++ pins, s.heap.get? p.1 = some p.2 /\ H p.1 = none /\ p.1 ≠ X.env.locals /\ p.1 ∉ X.fs /\ ∀ v, p.2.data ≠ .cell v
  hok : HOk X.prog X.w H s.heap
  len : σ.length = X.N.length
section
variable {X : Cx} {pins : List (Addr × Obj)} {σ : List (Option V)} {H H' : Hp} {s : Shared} {h' : Heap}
theorem Cx.Ok.nofr (ok : X.Ok) {b : Addr} {o : Obj} (e : X.base.get? b = some o) : b ∉ X.fs := fun hb => by
  have := (ok.funs.mem hb).1
  rw [e] at this; cases this
theorem Inv.bs (I : Inv X pins σ H s) : ∀ b o, X.base.get? b = some o -> s.heap.get? b = some o /\ H b = none := fun b o e =>
  ⟨I.base.keep b o (I.ok.bs b o e).1 (I.ok.bs b o e).2 (I.ok.nofr e) (I.ok.noex b o e), I.base.free b o (I.ok.bs b o e).1 (I.ok.bs b o e).2 (I.ok.noex b o e)⟩
theorem Inv.bk (I : Inv X pins σ H s) : ∀ b o, X.base.get? b = some o -> s.heap.get? b = some o := fun b o e => (I.bs b o e).1
theorem Inv.mod (I : Inv X pins σ H s) : Mod X.K X.mg X.base := I.ok.mod
theorem Inv.kIn (I : Inv X pins σ H s) : X.K.In s.heap := I.ok.mod.kin.keeps I.bk
theorem Inv.fr (I : Inv X pins σ H s) : ∃ m, Fr X.base X.env.locals s.heap m :=
  let ⟨m, hn, _⟩ := I.loc
  ⟨m, hn, I.bk, Nat.le_trans I.ok.bsz I.ok.above⟩
theorem Inv.lt (I : Inv X pins σ H s) : X.env.locals < s.heap.objs.size := let ⟨_, hn, _⟩ := I.loc; hn.lt
theorem Inv.sz (I : Inv X pins σ H s) : X.s₀.heap.objs.size <= s.heap.objs.size := Nat.le_trans I.ok.above (Nat.le_of_lt I.lt)
theorem Inv.nofs (I : Inv X pins σ H s) {a : Addr} (h : s.heap.objs.size <= a) : a ∉ X.fs := fun hb => by
  obtain ⟨_, o, ho, _⟩ := I.ok.funs.mem hb
  exact absurd (Nat.lt_of_lt_of_le (Heap.lt_size ho) (Nat.le_trans I.sz h)) (Nat.lt_irrefl _)
theorem Inv.cne (I : Inv X pins σ H s) : ∀ x c, X.env.cells.lookup x = some c -> c ≠ X.env.locals := fun x c e z => by
  obtain ⟨v, o, ho, hd⟩ := I.cell x c e
  obtain ⟨m, ⟨o', es, ep, ho', hd', _⟩, _⟩ := I.loc
  rw [z, ho'] at ho; cases ho; rw [hd'] at hd; cases hd
theorem Inv.funs (I : Inv X pins σ H s) : s.heap.FunFrames X.base X.outer := by
  have all : ∀ (l : List Env), (∀ b ∈ frs l, b ∈ X.fs) -> X.s₀.heap.FunFrames X.base l -> s.heap.FunFrames X.base l := by
    intro l
    induction l with
    | nil => intro _ _; trivial
    | cons env r ih =>
      intro hs hl
      obtain ⟨hk, ⟨L, o, hf, hn, ho, hd⟩, hr⟩ := hl
      have hL : L ∈ X.fs := hs L (by unfold frs; rw [List.filterMap_cons, hf]; exact List.mem_cons_self)
      obtain ⟨sl, e⟩ := I.base.slot L o ho (I.ok.frf L hL) hL fun z => I.ok.exfs L z hL
      exact ⟨hk, ⟨L, _, hf, hn, e, hd⟩, ih (fun b hb => hs b (by unfold frs; rw [List.filterMap_cons, hf]; exact List.mem_cons_of_mem _ hb)) hr⟩
  exact all X.outer (fun _ hb => hb) I.ok.funs
theorem Inv.stack (I : Inv X pins σ H s) : s.heap.FunFrames X.base X.stack := by
  rcases I.ok.stk with e | ⟨e, hf⟩
  . rw [e]; exact I.funs
  . rw [e]
    obtain ⟨m, hn, _⟩ := I.loc
    refine .cons (by rw [I.ok.kind]; decide) hf hn ?_ I.funs
    exact Heap.get?_none_of_le (Nat.le_trans I.ok.bsz I.ok.above)
theorem Inv.stkSub (I : Inv X pins σ H s) : ∀ b ∈ frs X.stack, b ∈ X.env.locals :: X.fs := fun b hb => by
  rcases I.ok.stk with e | ⟨e, hf⟩
  . rw [e] at hb; exact List.mem_cons_of_mem _ hb
  . rw [e] at hb
    unfold frs at hb
    rw [List.filterMap_cons, hf] at hb
    exact hb
theorem Inv.stkFree (I : Inv X pins σ H s) : ∀ b ∈ frs X.stack, H b = none := fun b hb => by
  rcases List.mem_cons.mp (I.stkSub b hb) with e | hb
  . rw [e]; exact I.free
  . obtain ⟨_, o, ho, _⟩ := I.ok.funs.mem hb
    exact I.base.free b o ho (I.ok.frf b hb) fun z => I.ok.exfs b z hb
theorem Inv.step {g' : Array GenState} {t' : Nat} {d' : Drawn} {ch : List Addr} (I : Inv X pins σ H s)
    (hch : ∀ b ∈ ch, (b ∈ X.ex \/ X.s₀.heap.objs.size <= b) /\ b ≠ X.env.locals /\ (∀ x c, X.env.cells.lookup x = some c -> c ≠ b) /\ ∀ p ∈ X.pn ++ pins, p.1 ≠ b)
    (keep : ∀ b o, b ≠ X.env.locals -> b ∉ X.fs -> b ∉ ch -> s.heap.get? b = some o -> H b = none -> h'.get? b = some o)
    (slot : ∀ b o, b ≠ X.env.locals -> b ∈ X.fs -> b ∉ ch -> s.heap.get? b = some o -> H b = none -> ∃ sl, h'.get? b = some { o with slots := sl }) (free : ∀ b o, b ∉ ch -> s.heap.get? b = some o -> H b = none -> H' b = none)
    (there : ∀ b o, b ∉ ch -> s.heap.get? b = some o -> ∃ o', h'.get? b = some o')
    (tups : ∀ b xs, H b = some (.tup xs) -> H' b = some (.tup xs)) (frzs : ∀ b o u, H b = some (.frz o u) -> H' b = some (.frz o u)) (tbls : ∀ b ps, H b = some (.tbl ps) -> ∃ more, H' b = some (.tbl (ps ++ more)))
    (ns : ∀ m, s.heap.Ns X.env.locals m -> h'.Ns X.env.locals m) (hok : HOk X.prog X.w H' h') (hg : AllBare g') :
    Inv X pins σ H' { s with heap := h', gens := g', drawn := d', toks := t' } := by
  have neL : ∀ b o, X.s₀.heap.get? b = some o -> b ≠ X.env.locals := fun b o e => Nat.ne_of_lt (Nat.lt_of_lt_of_le (Heap.lt_size e) I.ok.above)
  have neC : ∀ b o, X.s₀.heap.get? b = some o -> b ∉ X.ex -> b ∉ ch := fun b o e hx hb => by
    rcases (hch b hb).1 with z | z
    . exact hx z
    . exact absurd (Nat.lt_of_lt_of_le (Heap.lt_size e) z) (Nat.lt_irrefl _)
  have cellK : ∀ x c, X.env.cells.lookup x = some c -> ∀ v, s.heap.IsCell c v -> h'.IsCell c v := fun x c e v ⟨o, ho, hd⟩ => by
    have nch : c ∉ ch := fun z => (hch c z).2.2.1 x c e rfl
    by_cases hc : c ∈ X.fs
    . obtain ⟨sl, q⟩ := slot c o (I.cne x c e) hc nch ho (I.freeC x c e)
      exact ⟨_, q, hd⟩
    . exact ⟨o, keep c o (I.cne x c e) hc nch ho (I.freeC x c e), hd⟩
  refine ⟨I.ok, I.os, hg, ⟨fun b o e n hb hx => ?_, fun b o e n hb hx => ?_, fun b o e n hx => ?_, fun b o e hx => ?_, fun b xs e => tups b xs (I.base.tups b xs e), fun b o xs e => frzs b o xs (I.base.frzs b o xs e), fun b ps e => ?_⟩, ?_, fun x c e => ?_, ?_, fun x c e => ?_, fun p hp => ?_, hok, I.len⟩
  . exact keep b o (neL b o e) hb (neC b o e hx) (I.base.keep b o e n hb hx) (I.base.free b o e n hx)
  . obtain ⟨sl, e1⟩ := I.base.slot b o e n hb hx
    obtain ⟨sl', e2⟩ := slot b _ (neL b o e) hb (neC b o e hx) e1 (I.base.free b o e n hx)
    exact ⟨sl', e2⟩
  . obtain ⟨o', e1⟩ := I.base.there b o e hx
    exact free b o' (neC b o e hx) e1 (I.base.free b o e n hx)
  . obtain ⟨o', e1⟩ := I.base.there b o e hx
    exact there b o' (neC b o e hx) e1
  . obtain ⟨m1, e1⟩ := I.base.tbls b ps e
    obtain ⟨m2, e2⟩ := tbls b _ e1
    exact ⟨m1 ++ m2, by rw [e2, Array.append_assoc]⟩
  . obtain ⟨m, hn, hl⟩ := I.loc
    refine ⟨m, ns m hn, fun i x v e1 e2 e3 => ?_⟩
    obtain ⟨u, r, l⟩ := hl i x v e1 e2 e3
    refine ⟨u, r, ?_⟩
    rcases l with l | ⟨k, c, e, z⟩
    . exact .inl l
    . exact .inr ⟨k, c, e, cellK x c e _ z⟩
  . obtain ⟨v, z⟩ := I.cell x c e
    exact ⟨v, cellK x c e v z⟩
  . obtain ⟨m, ⟨o, _, _, ho, _⟩, _⟩ := I.loc
    exact free _ o (fun z => (hch _ z).2.1 rfl) ho I.free
  . obtain ⟨v, o, ho, hd⟩ := I.cell x c e
    exact free c o (fun z => (hch c z).2.2.1 x c e rfl) ho (I.freeC x c e)
  . obtain ⟨e, n, ne, nf, d⟩ := I.pin p hp
    have nch : p.1 ∉ ch := fun z => (hch p.1 z).2.2.2 p hp rfl
    exact ⟨keep p.1 p.2 ne nf nch e n, free p.1 p.2 nch e n, ne, nf, d⟩
theorem Inv.un {t' : Nat} (I : Inv X pins σ H s) (u : Un X.fs [] H H' s.heap h') (hok : HOk X.prog X.w H' h') : Inv X pins σ H' { s with heap := h', toks := t' } := by
  obtain ⟨m, ⟨o, es, ep, ho, r⟩, _⟩ := id I.loc
  obtain ⟨sl, hL⟩ := u.any ho I.free (by simp)
  exact I.step (g' := s.gens) (d' := s.drawn) (ch := []) (fun _ z => nomatch z) (fun b o _ hb _ e n => u.keep b o e n hb (by simp)) (fun b o _ hb _ e n => u.slot b o e n hb (by simp)) (fun b o _ e n => u.free b o e n (by simp)) (fun b o _ e => u.there b o e (by simp)) u.tups u.frzs u.tbls (fun m' hm => by
    obtain ⟨o', es', ep', ho', r'⟩ := hm
    rw [ho] at ho'; cases ho'
    exact ⟨_, es', ep', hL, r'⟩) hok I.bare
theorem Inv.call {g' : Array GenState} {t' : Nat} {d' : Drawn} {ch : List Addr} (I : Inv X pins σ H s) (u : Un (frs X.stack) ch H H' s.heap h') (hok : HOk X.prog X.w H' h') (hg : AllBare g')
    (hch : ∀ b ∈ ch, (b ∈ X.ex \/ X.s₀.heap.objs.size <= b) /\ b ≠ X.env.locals /\ (∀ x c, X.env.cells.lookup x = some c -> c ≠ b) /\ ∀ p ∈ X.pn ++ pins, p.1 ≠ b) :
    Inv X pins σ H' { s with heap := h', gens := g', drawn := d', toks := t' } := by
  obtain ⟨m, ⟨o, es, ep, ho, r⟩, _⟩ := id I.loc
  obtain ⟨sl, hL⟩ := u.any ho I.free fun z => (hch _ z).2.1 rfl
  exact I.step (ch := ch) hch (fun b o hL hb hc e n => u.keep b o e n (fun z => (List.mem_cons.mp (I.stkSub b z)).elim hL hb) hc) (fun b o _ _ hc e n => u.any e n hc) (fun b o hc e n => u.free b o e n hc) (fun b o hc e => u.there b o e hc) u.tups u.frzs u.tbls (fun m' hm => by
    obtain ⟨o', es', ep', ho', r'⟩ := hm
    rw [ho] at ho'; cases ho'
    exact ⟨_, es', ep', hL, r'⟩) hok hg
theorem Inv.turned {t' : Nat} {it : Addr} (I : Inv X pins σ H s) (k : ∀ b o, b ≠ it -> s.heap.get? b = some o -> h'.get? b = some o) (hn : H it = none) (hL : it ≠ X.env.locals)
    (h1 : it ∈ X.ex \/ X.s₀.heap.objs.size <= it) (h2 : ∀ x c, X.env.cells.lookup x = some c -> c ≠ it) (h3 : ∀ p ∈ X.pn ++ pins, p.1 ≠ it) : Inv X pins σ H { s with heap := h', toks := t' } := by
  have nit : ∀ b u, H b = some u -> b ≠ it := fun b u e z => by rw [z, hn] at e; cases e
  refine I.step (g' := s.gens) (d' := s.drawn) (ch := [it]) (fun b hb => ?_) (fun b o _ _ hc e _ => k b o (fun z => hc (by simp [z])) e) (fun b o _ _ hc e _ => ⟨o.slots, k b o (fun z => hc (by simp [z])) e⟩) (fun _ _ _ _ n => n)
    (fun b o hc e => ⟨o, k b o (fun z => hc (by simp [z])) e⟩) (fun _ _ e => e) (fun _ _ _ e => e) (fun b ps e => ⟨#[], by rw [e]; simp⟩) (fun m hm => ?_) (fun b u e => ?_) I.bare
  . have e : b = it := by simpa using hb
    subst e
    exact ⟨h1, hL, h2, h3⟩
  . obtain ⟨o, es, ep, ho, r⟩ := hm
    exact ⟨o, es, ep, k _ o (Ne.symm hL) ho, r⟩
  . refine (I.hok b u e).stay (fun c v hc q => k c v ?_ q) (fun _ q => q) fun _ _ q => q
    rcases hc with z | z
    . rw [z]; exact nit b u e
    . exact nit c _ z
theorem Inv.tok (I : Inv X pins σ H s) (t : Nat) : Inv X pins σ H { s with toks := t } := I.un (h' := s.heap) (t' := t) Un.refl I.hok
theorem Inv.kept {t' : Nat} (I : Inv X pins σ H s) (k : ∀ b u, s.heap.get? b = some u -> h'.get? b = some u) : Inv X pins σ H { s with heap := h', toks := t' } := I.un (Un.kept k) (I.hok.kept k)
theorem Inv.laid {a : Addr} {o : HO} {t' : Nat} (I : Inv X pins σ H s) (k : ∀ b u, s.heap.get? b = some u -> h'.get? b = some u) (hp : s.heap.objs.size <= a) (new : ObjOk X.prog X.w (upd H a o) h' a o) :
    Inv X pins σ (upd H a o) { s with heap := h', toks := t' } := I.un (Un.laid k hp (I.hok.fresh hp)) (I.hok.laid k hp new)
theorem Inv.write {x e : Addr} {o : HO} {t' : Nat} (I : Inv X pins σ H s) (mu : Mut (H x)) (he : e = x \/ H e = some (.own x)) (k : ∀ b u, b ≠ e -> s.heap.get? b = some u -> h'.get? b = some u) (heo : ∃ u, h'.get? e = some u)
    (new : ObjOk X.prog X.w (upd H x o) h' x o) : Inv X pins σ (upd H x o) { s with heap := h', toks := t' } := I.un (Un.write mu he k heo) (I.hok.write mu he k heo new)
theorem Inv.weak {σ' : List (Option V)} (I : Inv X pins σ H s) (hl : σ'.length = σ.length) (w : ∀ (i : Nat) v, σ'[i]? = some (some v) -> σ[i]? = some (some v)) : Inv X pins σ' H s :=
  ⟨I.ok, I.os, I.bare, I.base, let ⟨m, hn, hl'⟩ := I.loc; ⟨m, hn, fun i x v e1 e2 e3 => hl' i x v e1 (w i v e2) e3⟩, I.cell, I.free, I.freeC, I.pin, I.hok, hl.trans I.len⟩
theorem Inv.pins_of {pins' : List (Addr × Obj)} (I : Inv X pins σ H s) (h : ∀ p ∈ pins', s.heap.get? p.1 = some p.2 /\ H p.1 = none /\ p.1 ≠ X.env.locals /\ p.1 ∉ X.fs /\ ∀ v, p.2.data ≠ .cell v) : Inv X pins' σ H s :=
  ⟨I.ok, I.os, I.bare, I.base, I.loc, I.cell, I.free, I.freeC, fun p hp => (List.mem_append.mp hp).elim (fun z => I.pin p (List.mem_append_left _ z)) (h p), I.hok, I.len⟩
theorem zcr {N : List Str} (hN : N.Nodup) {i j : Nat} {x : Str} (a : N[i]? = some x) (b : N[j]? = some x) : i = j := by
  obtain ⟨h1, e1⟩ := List.getElem?_eq_some_iff.mp a
  obtain ⟨h2, e2⟩ := List.getElem?_eq_some_iff.mp b
  exact (List.getElem_inj hN).mp (e1.trans e2.symm)
theorem zdh {M : Model} {A : Around} {E : Value -> Shared -> Prop} {i : Nat} {x : Str} {v : V} {u : Value} {Q : Unit -> Shared -> Prop} (I : Inv X pins σ H s) (hN : X.N.Nodup) (hi : X.N[i]? = some x) (hx : Loc X.env.scope x) (r : RelV v u)
    (h : ∀ s', Inv X pins (σ.set i (some v)) H s' -> (∃ a, Heap.SameBut a s.heap s'.heap /\ (a = X.env.locals \/ X.env.cells.lookup x = some a)) -> Q () s') (hf : X.fn x = true \/ X.env.scope.names.lookup x = some .local := by first | exact .inl rfl | exact .inr rfl | assumption) : wpAny M A (storeName X.env x u) Q E s := by
  obtain ⟨m, hn, hl⟩ := id I.loc
  have hcls : (X.env.scope.kind == .class || (X.env.scope.kind == .module && X.env.locals != X.env.globals)) = false := by rw [I.ok.kind]; rfl
  have hiσ : i < σ.length := by rw [I.len]; exact (List.getElem?_eq_some_iff.mp hi).1
  have cne := I.cne
  have tracked : ∀ {a : Addr} {h' : Heap}, (∃ o, s.heap.get? a = some o /\ H a = none) -> Heap.SameBut a s.heap h' -> HOk X.prog X.w H h' := fun {a h'} ha hs b ob e => by
    obtain ⟨_, _, hfree⟩ := ha
    refine (I.hok b ob e).stay (fun c w' hc q => (hs.2 c ?_).trans q) (fun _ q => q) fun _ _ q => q
    rintro rfl
    rcases hc with rfl | hc
    . rw [hfree] at e; cases e
    . rw [hfree] at hc; cases hc
  rcases hx with hk | hk
  . refine wpAny_storeName_local hk hn (fun h' hn' hs => ?_) hcls
    obtain ⟨oL, _, _, hoL, _⟩ := id hn
    refine h _ ⟨I.ok, I.os, I.bare, ⟨fun b o e n hb hx => ?_, fun b o e n hb hx => ?_, I.base.free, fun b o e hx => ?_, I.base.tups, I.base.frzs, I.base.tbls⟩, ⟨_, hn', fun j y v' e1 e2 e3 => ?_⟩, fun y c e => ?_, I.free, I.freeC, fun p hp => ?_, tracked ⟨oL, hoL, I.free⟩ hs, by simpa using I.len⟩ ⟨_, hs, .inl rfl⟩
    . exact (hs.2 b (Nat.ne_of_lt (Nat.lt_of_lt_of_le (Heap.lt_size e) I.ok.above))).trans (I.base.keep b o e n hb hx)
    . obtain ⟨sl, e1⟩ := I.base.slot b o e n hb hx
      exact ⟨sl, (hs.2 b (Nat.ne_of_lt (Nat.lt_of_lt_of_le (Heap.lt_size e) I.ok.above))).trans e1⟩
    . obtain ⟨o', e1⟩ := I.base.there b o e hx
      exact ⟨o', (hs.2 b (Nat.ne_of_lt (Nat.lt_of_lt_of_le (Heap.lt_size e) I.ok.above))).trans e1⟩
    . by_cases hj : j = i
      . subst hj
        rw [hi] at e1; cases e1
        rw [List.getElem?_set_self hiσ] at e2
        cases e2
        exact ⟨u, r, .inl ⟨hk, by simp⟩⟩
      . rw [List.getElem?_set_ne (Ne.symm hj)] at e2
        obtain ⟨u', r', q⟩ := hl j y v' e1 e2 e3
        refine ⟨u', r', ?_⟩
        rcases q with ⟨k, e⟩ | ⟨k, c, e, z⟩
        . refine .inl ⟨k, ?_⟩
          have : y ≠ x := fun e => hj (zcr hN e1 (e ▸ hi))
          simp [this, e]
        . exact .inr ⟨k, c, e, z.sameBut hs (cne y c e)⟩
    . obtain ⟨w', z⟩ := I.cell y c e
      exact ⟨w', z.sameBut hs (cne y c e)⟩
    . obtain ⟨e, n, ne, nf, d⟩ := I.pin p hp
      exact ⟨(hs.2 p.1 ne).trans e, n, ne, nf, d⟩
  . have hfn : X.fn x = true := by
      rcases hf with z | z
      . exact z
      . rw [z] at hk; cases hk
    obtain ⟨c, hc⟩ := I.ok.has x (.inl hk)
    obtain ⟨w', z⟩ := I.cell x c hc
    refine wpAny_storeName_cell I.ok.kind hk hc z (fun h' hc' hs => ?_)
    obtain ⟨oc, hoc, hocd⟩ := id z
    refine h { s with heap := h' } ⟨I.ok, I.os, I.bare, ⟨fun b o e n hb hx => ?_, fun b o e n hb hx => ?_, I.base.free, fun b o e hx => ?_, I.base.tups, I.base.frzs, I.base.tbls⟩, ⟨m, hn.sameBut hs (Ne.symm (cne x c hc)), fun j y v' e1 e2 e3 => ?_⟩, fun y c' e => ?_, I.free, I.freeC, fun p hp => ?_, tracked ⟨oc, hoc, I.freeC x c hc⟩ hs, by simpa using I.len⟩ ⟨c, hs, .inr hc⟩
    . exact (hs.2 b (Nat.ne_of_lt (Nat.lt_of_lt_of_le (Heap.lt_size e) (I.ok.cab x c hfn hc)))).trans (I.base.keep b o e n hb hx)
    . obtain ⟨sl, e1⟩ := I.base.slot b o e n hb hx
      exact ⟨sl, (hs.2 b (Nat.ne_of_lt (Nat.lt_of_lt_of_le (Heap.lt_size e) (I.ok.cab x c hfn hc)))).trans e1⟩
    . obtain ⟨o', e1⟩ := I.base.there b o e hx
      exact ⟨o', (hs.2 b (Nat.ne_of_lt (Nat.lt_of_lt_of_le (Heap.lt_size e) (I.ok.cab x c hfn hc)))).trans e1⟩
    . by_cases hj : j = i
      . subst hj
        rw [hi] at e1; cases e1
        rw [List.getElem?_set_self hiσ] at e2
        cases e2
        exact ⟨u, r, .inr ⟨.inl hk, c, hc, hc'⟩⟩
      . rw [List.getElem?_set_ne (Ne.symm hj)] at e2
        obtain ⟨u', r', q⟩ := hl j y v' e1 e2 e3
        refine ⟨u', r', ?_⟩
        rcases q with q | ⟨k, c', e, z'⟩
        . exact .inl q
        . refine .inr ⟨k, c', e, z'.sameBut hs ?_⟩
          rintro rfl
          exact hj (zcr hN e1 (I.ok.inj _ _ _ e hc ▸ hi))
    . by_cases hcc : c' = c
      . subst hcc; exact ⟨_, hc'⟩
      . obtain ⟨w2, z2⟩ := I.cell y c' e
        exact ⟨w2, z2.sameBut hs hcc⟩
    . obtain ⟨e, n, ne, nf, d⟩ := I.pin p hp
      refine ⟨(hs.2 p.1 ?_).trans e, n, ne, nf, d⟩
      intro q
      rw [q, hoc] at e
      have q' : oc = p.2 := Option.some.inj e
      exact d w' (by rw [<- q']; exact hocd)
theorem zaY {M : Model} {A : Around} {E : Value -> Shared -> Prop} {i : Nat} {x : Str} {v : V} {u : Value} {Q : Unit -> Shared -> Prop} (I : Inv X pins σ H s) (hN : X.N.Nodup) (hi : X.N[i]? = some x) (hx : Loc X.env.scope x) (r : RelV v u)
    (h : ∀ s', Inv X pins (σ.set i (some v)) H s' -> Q () s') (hf : X.fn x = true \/ X.env.scope.names.lookup x = some .local := by first | exact .inl rfl | exact .inr rfl | assumption) : wpAny M A (storeName X.env x u) Q E s :=
  zdh I hN hi hx r (fun s' I' _ => h s' I') hf
theorem Inv.call' {s' : Shared} {ch : List Addr} (I : Inv X pins σ H s) (ho : s'.os = s.os) (u : Un (frs X.stack) ch H H' s.heap s'.heap) (hok : HOk X.prog X.w H' s'.heap) (hg : AllBare s'.gens)
    (hch : ∀ b ∈ ch, (b ∈ X.ex \/ X.s₀.heap.objs.size <= b) /\ b ≠ X.env.locals /\ (∀ x c, X.env.cells.lookup x = some c -> c ≠ b) /\ ∀ p ∈ X.pn ++ pins, p.1 ≠ b) : Inv X pins σ H' s' := by
  obtain ⟨h', g', d', t', o'⟩ := s'
  have e : o' = s.os := ho
  subst e
  exact I.call (g' := g') (t' := t') (d' := d') u hok hg hch
end
abbrev XK := Value -> Option Addr -> Hp -> Prop
abbrev St := List (Option V)
abbrev VK := V -> Hp -> Prop
abbrev TE := St -> Hp -> VK -> Prop
abbrev TT := St -> Hp -> (Bool -> Hp -> Prop) -> Prop
abbrev TA := St -> Hp -> (List V -> Hp -> Prop) -> Prop
structure Ends where
  nx : St -> Hp -> Prop
  rt : VK
  bk : St -> Hp -> Prop := fun _ _ => False
  ct : St -> Hp -> Prop := fun _ _ => False
abbrev TS := Ends -> St -> Hp -> Prop
def EP (X : Cx) (pins : List (Addr × Obj)) (σ : St) (Q : VK) (u : Value) (s' : Shared) : Prop := ∃ v H', Inv X pins σ H' s' /\ RelV v u /\ Q v H'
def TP (X : Cx) (pins : List (Addr × Obj)) (σ : St) (Q : Bool -> Hp -> Prop) (b : Bool) (s' : Shared) : Prop := ∃ H', Inv X pins σ H' s' /\ Q b H'
def AP (X : Cx) (pins : List (Addr × Obj)) (σ : St) (Q : List V -> Hp -> Prop) (us : List Value) (s' : Shared) : Prop := ∃ vs H', Inv X pins σ H' s' /\ Vals vs us /\ Q vs H'
def SP (X : Cx) (pins : List (Addr × Obj)) (D : Ends) (f : Flow) (s' : Shared) : Prop :=
  match f with
  | .next => ∃ σ' H', Inv X pins σ' H' s' /\ D.nx σ' H'
  | .brk => ∃ σ' H', Inv X pins σ' H' s' /\ D.bk σ' H'
  | .cont => ∃ σ' H', Inv X pins σ' H' s' /\ D.ct σ' H'
  | .ret u => ∃ v σ' H', Inv X pins σ' H' s' /\ RelV v u /\ D.rt v H'
def PE (X : Cx) (e : Expr) (t : TE) : Prop :=
  ∀ (pins : List (Addr × Obj)) (s : Shared) (σ : St) (H : Hp) (Q : VK), Inv X pins σ H s -> t σ H Q -> wpAny (model X.prog X.w) X.A (eval e X.env) (EP X pins σ Q) X.xe s
def PT (X : Cx) (e : Expr) (t : TT) : Prop :=
  ∀ (pins : List (Addr × Obj)) (s : Shared) (σ : St) (H : Hp) (Q : Bool -> Hp -> Prop), Inv X pins σ H s -> t σ H Q -> wpAny (model X.prog X.w) X.A (isTrue e X.env (eval e X.env)) (TP X pins σ Q) X.xe s
def PW (X : Cx) (e : Expr) (t : TT) : Prop :=
  ∀ (whole : Sem Value) (pins : List (Addr × Obj)) (s : Shared) (σ : St) (H : Hp) (Q : Bool -> Hp -> Prop), Inv X pins σ H s -> t σ H Q -> wpAny (model X.prog X.w) X.A (isTrue e X.env whole) (TP X pins σ Q) X.xe s
theorem PW.pt {X : Cx} {e : Expr} {t : TT} (h : PW X e t) : PT X e t := h _
def PA (X : Cx) (es : List Expr) (t : TA) : Prop :=
  ∀ (pos : Pos) (pins : List (Addr × Obj)) (s : Shared) (σ : St) (H : Hp) (Q : List V -> Hp -> Prop), Inv X pins σ H s -> t σ H Q -> wpAny (model X.prog X.w) X.A (spliced (backTo pos (starEach es X.env))) (AP X pins σ Q) X.xe s
def PS (X : Cx) (st : Stmt) (t : TS) : Prop :=
  ∀ (pins : List (Addr × Obj)) (s : Shared) (σ : St) (H : Hp) (D : Ends), Inv X pins σ H s -> t D σ H -> wpAny (model X.prog X.w) X.A (exec st X.env) (SP X pins D) X.xe s
def PSs (X : Cx) (st : List Stmt) (t : TS) : Prop :=
  ∀ (pins : List (Addr × Obj)) (s : Shared) (σ : St) (H : Hp) (D : Ends), Inv X pins σ H s -> t D σ H -> wpAny (model X.prog X.w) X.A (execs st X.env) (SP X pins D) X.xe s
theorem thn {α : Type} {t : Sem α} {Q Q' : α -> Shared -> Prop} {M : Model} {A : Around} {E : Value -> Shared -> Prop} {s : Shared} (h : wpAny M A t Q E s) (hQ : ∀ a s, Q a s -> Q' a s) : wpAny M A t Q' E s := wpAny_mono h hQ fun _ _ x => x
end L2
namespace L2
open PySem PySem.Spec PyProof.Rows
section
variable {X : Cx}
theorem bin {a b : Expr} {ta tb : TE} (ha : PE X a ta) (hb : PE X b tb) {pins : List (Addr × Obj)} {s : Shared} {σ : St} {H : Hp} {R : V -> V -> Hp -> Prop} (I : Inv X pins σ H s) (h : ta σ H fun x H1 => tb σ H1 fun y H2 => R x y H2)
    {α : Type} {Q : α -> Shared -> Prop} {f : Value -> Value -> Sem α}
    (hf : ∀ v u s2 x y H2, Inv X pins σ H2 s2 -> RelV x v -> RelV y u -> R x y H2 -> wpAny (model X.prog X.w) X.A (f v u) Q X.xe s2) :
    wpAny (model X.prog X.w) X.A (eval a X.env) (fun v s₁ => wpAny (model X.prog X.w) X.A (eval b X.env) (fun u s₂ => wpAny (model X.prog X.w) X.A (f v u) Q X.xe s₂) X.xe s₁) X.xe s := by
  refine thn (ha pins s σ H _ I h) fun v s1 ⟨x, H1, I1, r1, q1⟩ => ?_
  refine thn (hb pins s1 σ H1 _ I1 q1) fun u s2 ⟨y, H2, I2, r2, q2⟩ => ?_
  exact hf v u s2 x y H2 I2 r1 r2 q2
def tVar (i : Nat) : TE := fun σ H Q => ∃ v, σ[i]? = some (some v) /\ Q v H
def tC (v : V) : TE := fun _ H Q => Q v H
theorem pe_var {i : Nat} {x : Str} {pos : Pos} (hN : X.N[i]? = some x) (hv : Vis X.env.scope x) (hd : (x == ("__debug__" : Str)) = false := by decide) (hcd : (x == ("__classdict__" : Str)) = false := by decide) : PE X (.Name x pos) (tVar i) := by
  intro pins s σ H Q I h
  obtain ⟨v, e, h⟩ := h
  obtain ⟨m, hn, hl⟩ := I.loc
  obtain ⟨u, r, l⟩ := hl i x v hN e hv
  have fin : EP X pins σ Q u s := ⟨v, H, I, r, h⟩
  rcases l with ⟨hk, hm⟩ | ⟨hk, c, hc, hcell⟩
  . exact wpAny_Name (wpAny_loadName_local I.ok.kind hk hn hm fin) hd
  . rcases hk with hk | hk
    . exact wpAny_Name (wpAny_loadName_cell I.ok.kind hk hc hcell fin) hd
    . exact wpAny_Name (wpAny_loadName_free I.ok.kind hk hc hcell fin hcd) hd
theorem pe_int {i j pos} : PE X (.Constant (.int i) j pos) (tC (.int i)) := fun _ _ _ H _ I h => wpAny_Constant_int ⟨.int i, H, I.tok _, ⟨_, rfl⟩, h⟩
theorem pe_bl {b j pos} : PE X (.Constant (.bool b) j pos) (tC (.bl b)) := fun _ _ _ H _ I h => Constant_bool ⟨.bl b, H, I, rfl, h⟩
theorem pe_str {x j pos} : PE X (.Constant (.str x) j pos) (tC (.str x)) := fun _ _ _ H _ I h => Calls.Constant_str ⟨.str x, H, I.tok _, ⟨_, rfl⟩, h⟩
def Gl (X : Cx) (x : Str) : Prop := X.env.kindOf x = some .globalImplicit
theorem zbZ {E : Value -> Shared -> Prop} {pins : List (Addr × Obj)} {s : Shared} {σ : St} {H : Hp} {x : Str} {u : Value} {pos : Pos} {Q : Value -> Shared -> Prop} (I : Inv X pins σ H s) (hg : Gl X x) (hm : X.mg x = some u) (h : Q u s)
    (hd : (x == ("__debug__" : Str)) = false := by decide) : wpAny (model X.prog X.w) X.A (eval (.Name x pos) X.env) Q E s :=
  Calls.Name_function_global I.ok.kind hg (Calls.loadGlobal_global (by rw [I.ok.glob]; exact I.mod.glob.keeps I.bk) hm h) hd
theorem ld_blt {E : Value -> Shared -> Prop} {pins : List (Addr × Obj)} {s : Shared} {σ : St} {H : Hp} {x : Str} {u : Value} {pos : Pos} {Q : Value -> Shared -> Prop} (I : Inv X pins σ H s) (hg : Gl X x) (hm : X.mg x = none) (hv : bootBuiltins x = some u) (h : Q u s)
    (hn : x ≠ "__name__" := by decide) (hd : (x == ("__debug__" : Str)) = false := by decide) : wpAny (model X.prog X.w) X.A (eval (.Name x pos) X.env) Q E s := by
  obtain ⟨mb, h1, h2⟩ := I.mod.blt
  exact Calls.Name_function_global I.ok.kind hg (Calls.loadGlobal_builtin (by rw [I.ok.glob]; exact I.mod.glob.keeps I.bk) hm (by rw [I.ok.blt]; exact h1.keeps I.bk) ((h2 x hn).trans hv) h) hd
theorem zhy {x : Str} {v : V} {u : Value} {pos : Pos} (hg : Gl X x) (hm : X.mg x = some u) (r : RelV v u) (hd : (x == ("__debug__" : Str)) = false := by decide) : PE X (.Name x pos) (tC v) :=
  fun _ _ _ H _ I h => zbZ I hg hm ⟨v, H, I, r, h⟩ hd
theorem zhz {x : Str} {v : V} {u : Value} {pos : Pos} (hg : Gl X x) (hm : X.mg x = none) (hv : bootBuiltins x = some u) (r : RelV v u) (hn : x ≠ "__name__" := by decide) (hd : (x == ("__debug__" : Str)) = false := by decide) : PE X (.Name x pos) (tC v) :=
  fun _ _ _ H _ I h => ld_blt I hg hm hv ⟨v, H, I, r, h⟩ hn hd
variable {a b : Expr} {ta tb : TE} {pos : Pos}
variable {tA tB' : TT} {rest : List Expr}
def tAnd (t u : TT) : TT := fun σ H Q => t σ H fun c H1 => if c = true then u σ H1 Q else Q false H1
def tOr (t u : TT) : TT := fun σ H Q => t σ H fun c H1 => if c = true then Q true H1 else u σ H1 Q
def tNot (t : TT) : TT := fun σ H Q => t σ H fun c H1 => Q (!c) H1
theorem zhA (ha : PT X a tA) : PW X (.BoolOp .And [a] pos) tA := by
  intro wh pins s σ H Q I h
  refine isTrue_and (thn (ha pins s σ H Q I h) fun c s1 e => ?_)
  cases c with
  | true => exact isTrue_and_nil e
  | false => exact e
theorem pw_or1 (ha : PT X a tA) : PW X (.BoolOp .Or [a] pos) tA := by
  intro wh pins s σ H Q I h
  refine isTrue_or (thn (ha pins s σ H Q I h) fun c s1 e => ?_)
  cases c with
  | false => exact isTrue_or_nil e
  | true => exact e
theorem pw_and (ha : PT X a tA) (hb : PW X (.BoolOp .And (b :: rest) pos) tB') : PW X (.BoolOp .And (a :: b :: rest) pos) (tAnd tA tB') := by
  intro wh pins s σ H Q I h
  refine isTrue_and (thn (ha pins s σ H _ I h) fun c s1 ⟨H1, I1, q1⟩ => ?_)
  cases c with
  | true => exact hb wh pins s1 σ H1 Q I1 q1
  | false => exact ⟨H1, I1, q1⟩
theorem pw_or (ha : PT X a tA) (hb : PW X (.BoolOp .Or (b :: rest) pos) tB') : PW X (.BoolOp .Or (a :: b :: rest) pos) (tOr tA tB') := by
  intro wh pins s σ H Q I h
  refine isTrue_or (thn (ha pins s σ H _ I h) fun c s1 ⟨H1, I1, q1⟩ => ?_)
  cases c with
  | true => exact ⟨H1, I1, q1⟩
  | false => exact hb wh pins s1 σ H1 Q I1 q1
theorem pt_not (ha : PT X a tA) : PT X (.UnaryOp .Not a pos) (tNot tA) := by
  intro pins s σ H Q I h
  exact isTrue_not (ha pins s σ H (fun c H1 => Q (!c) H1) I h)
def tAndV (ta tb : TE) : TE := fun σ H Q => ta σ H fun x H1 => ∃ c, x = .bl c /\ if c = true then tb σ H1 Q else Q (.bl false) H1
def tOrV (ta tb : TE) : TE := fun σ H Q => ta σ H fun x H1 => ∃ c, x = .bl c /\ if c = true then Q (.bl true) H1 else tb σ H1 Q
def tNotV (ta : TE) : TE := fun σ H Q => ta σ H fun x H1 => ∃ c, x = .bl c /\ Q (.bl (!c)) H1
theorem pe_one {op} {t : TE} (h : PE X a t) : PE X (.BoolOp op [a] pos) t := fun pins s σ H Q I hw => BoolOp_one (h pins s σ H Q I hw)
theorem pe_and (ha : PE X a ta) (hb : PE X (.BoolOp .And (b :: rest) pos) tb) : PE X (.BoolOp .And (a :: b :: rest) pos) (tAndV ta tb) := by
  intro pins s σ H Q I h
  refine BoolOp_and (thn (ha pins s σ H _ I h) fun v s1 ⟨x, H1, I1, r1, q1⟩ => ?_)
  obtain ⟨c, rfl, q1⟩ := q1
  cases r1
  refine wpAny_truthy_bool ?_
  cases c with
  | true => exact hb pins s1 σ H1 Q I1 q1
  | false => exact ⟨.bl false, H1, I1, rfl, q1⟩
theorem pe_or (ha : PE X a ta) (hb : PE X (.BoolOp .Or (b :: rest) pos) tb) : PE X (.BoolOp .Or (a :: b :: rest) pos) (tOrV ta tb) := by
  intro pins s σ H Q I h
  refine BoolOp_or (thn (ha pins s σ H _ I h) fun v s1 ⟨x, H1, I1, r1, q1⟩ => ?_)
  obtain ⟨c, rfl, q1⟩ := q1
  cases r1
  refine wpAny_truthy_bool ?_
  cases c with
  | false => exact hb pins s1 σ H1 Q I1 q1
  | true => exact ⟨.bl true, H1, I1, rfl, q1⟩
theorem pe_not (ha : PE X a ta) : PE X (.UnaryOp .Not a pos) (tNotV ta) := by
  intro pins s σ H Q I h
  refine UnaryOp_ (thn (ha pins s σ H _ I h) fun v s1 ⟨x, H1, I1, r1, q1⟩ => ?_)
  obtain ⟨c, rfl, q1⟩ := q1
  cases r1
  exact not_of (wpAny_truthy_bool ⟨.bl (!c), H1, I1, rfl, q1⟩)
end
end L2
namespace L2
open PySem PySem.Spec PyProof.Rows
def SqL (K : PySem.W.Frag) (H : Hp) (a : Addr) (xs : List V) : Prop :=
  Rd H a (.lst xs) \/
    ∃ (o : Obj) (its : Array Value) (n : Nat), K.lookup a = some o /\ o.cls = .type "list" /\ o.dict = none /\ o.data = .seq its n /\ its.size <= sizeLine /\ Vals xs its.toList
def SqT (K : PySem.W.Frag) (H : Hp) (a : Addr) (xs : List V) : Prop :=
  Rd H a (.tup xs) \/
    ∃ (o : Obj) (its : Array Value) (n : Nat), K.lookup a = some o /\ o.cls = .type "tuple" /\ o.data = .seq its n /\ its.size <= sizeLine /\ Vals xs its.toList
def absV : Value -> Option V
  | .none => some .non
  | .bool b => some (.bl b)
  | .int i _ => some (.int i)
  | .str x _ => some (.str x)
  | .bytes b _ => some (.byt b)
  | .float b _ => some (.flt b)
  | .ref a => some (.ref a)
  | .type n => some (.ty n)
  | _ => none
theorem RelV.abs {x : V} {u : Value} (r : RelV x u) : absV u = some x := by
  cases x with
  | non => cases r; rfl
  | bl _ => cases r; rfl
  | int _ => obtain ⟨t, rfl⟩ := r; rfl
  | str _ => obtain ⟨t, rfl⟩ := r; rfl
  | byt _ => obtain ⟨t, rfl⟩ := r; rfl
  | flt _ => obtain ⟨t, rfl⟩ := r; rfl
  | ref _ => cases r; rfl
  | ty _ => cases r; rfl
theorem RelV.inj {x y : V} {u : Value} (r : RelV x u) (q : RelV y u) : x = y := Option.some.inj (r.abs.symm.trans q.abs)
theorem Vals.inj : ∀ {xs ys : List V} {us : List Value}, Vals xs us -> Vals ys us -> xs = ys
  | _, _, _, .nil, .nil => rfl
  | _, _, _, .cons r t, .cons r' t' => by rw [r.inj r', Vals.inj t t']
section
variable {X : Cx} {pins : List (Addr × Obj)} {σ : St} {H : Hp} {s : Shared} {a : Addr} {xs ys : List V}
theorem SqL.of {K : PySem.W.Frag} (h : H a = some (.lst xs)) : SqL K H a xs := .inl (.inl h)
theorem SqT.of {K : PySem.W.Frag} (h : H a = some (.tup xs)) : SqT K H a xs := .inl (.inl h)
theorem Inv.list (I : Inv X pins σ H s) (h : SqL X.K H a xs) : ∃ its : List Value, Vals xs its /\ PlainL s.heap a its.toArray /\ xs.length <= sizeLine := by
  rcases h with h | ⟨o, its, n, hk, hc, hd, hs, hz, r⟩
  . obtain ⟨z, its, n, r, e⟩ := h.ok I.hok
    exact ⟨its, r, ⟨_, n, e, rfl, rfl, rfl⟩, z⟩
  . refine ⟨its.toList, r, ⟨o, n, I.kIn a o hk, hc, hd, by simpa using hs⟩, ?_⟩
    have e := r.length
    simp only [Array.length_toList] at e
    omega
theorem Inv.tuple (I : Inv X pins σ H s) (h : SqT X.K H a xs) : ∃ its : List Value, Vals xs its /\ IsTup s.heap a its.toArray /\ xs.length <= sizeLine := by
  rcases h with h | ⟨o, its, n, hk, hc, hs, hz, r⟩
  . obtain ⟨z, its, r, p⟩ := h.ok I.hok
    exact ⟨its, r, p, z⟩
  . refine ⟨its.toList, r, ⟨o, I.kIn a o hk, hc, n, by simpa using hs⟩, ?_⟩
    have e := r.length
    simp only [Array.length_toList] at e
    omega
theorem Inv.list_inj (I : Inv X pins σ H s) (h : SqL X.K H a xs) (h' : SqL X.K H a ys) : xs = ys := by
  obtain ⟨its, r, ⟨o, n, e, _, _, d⟩, _⟩ := I.list h
  obtain ⟨its', r', ⟨o', n', e', _, _, d'⟩, _⟩ := I.list h'
  rw [e] at e'; cases e'
  rw [d] at d'
  injection d' with d1 _
  have : its = its' := by simpa using congrArg Array.toList d1
  subst this
  exact r.inj r'
theorem Inv.tuple_inj (I : Inv X pins σ H s) (h : SqT X.K H a xs) (h' : SqT X.K H a ys) : xs = ys := by
  obtain ⟨its, r, ⟨o, e, _, n, d⟩, _⟩ := I.tuple h
  obtain ⟨its', r', ⟨o', e', _, n', d'⟩, _⟩ := I.tuple h'
  rw [e] at e'; cases e'
  rw [d] at d'
  injection d' with d1 _
  have : its = its' := by simpa using congrArg Array.toList d1
  subst this
  exact r.inj r'
end
abbrev Cx.wish (X : Cx) (E : Value -> Shared -> Prop) : Cx := { X with xe := E }
abbrev Cx.nox (X : Cx) : Cx := X.wish fun _ _ => False
theorem Cx.Ok.wish {X : Cx} (ok : X.Ok) (E : Value -> Shared -> Prop) : (X.wish E).Ok :=
  ⟨ok.mod, ok.kind, ok.glob, ok.blt, ok.above, ok.inj, ok.has, ok.cab, ok.hd, ok.frames, ok.stk, ok.exf, ok.bs, ok.bsz, ok.noex, ok.exfs, ok.funs, ok.frf⟩
theorem Cx.Ok.unwish {X : Cx} {E : Value -> Shared -> Prop} (ok : (X.wish E).Ok) : X.Ok :=
  ⟨ok.mod, ok.kind, ok.glob, ok.blt, ok.above, ok.inj, ok.has, ok.cab, ok.hd, ok.frames, ok.stk, ok.exf, ok.bs, ok.bsz, ok.noex, ok.exfs, ok.funs, ok.frf⟩
section
variable {X : Cx} {pins : List (Addr × Obj)} {σ : St} {H : Hp} {s : Shared} {E : Value -> Shared -> Prop}
theorem Inv.wish (I : Inv X pins σ H s) (E : Value -> Shared -> Prop) : Inv (X.wish E) pins σ H s := ⟨I.ok.wish E, I.os, I.bare, I.base, I.loc, I.cell, I.free, I.freeC, I.pin, I.hok, I.len⟩
theorem Inv.unwish (I : Inv (X.wish E) pins σ H s) : Inv X pins σ H s := ⟨I.ok.unwish, I.os, I.bare, I.base, I.loc, I.cell, I.free, I.freeC, I.pin, I.hok, I.len⟩
theorem SP.unwish {D : Ends} {f : Flow} {s' : Shared} (h : SP (X.wish E) pins D f s') : SP X pins D f s' := by
  cases f with
  | next => obtain ⟨σ', H', I, q⟩ := h; exact ⟨σ', H', I.unwish, q⟩
  | brk => obtain ⟨σ', H', I, q⟩ := h; exact ⟨σ', H', I.unwish, q⟩
  | cont => obtain ⟨σ', H', I, q⟩ := h; exact ⟨σ', H', I.unwish, q⟩
  | ret u => obtain ⟨v, σ', H', I, r, q⟩ := h; exact ⟨v, σ', H', I.unwish, r, q⟩
end
section
variable {X : Cx} {st : Stmt} {rest : List Stmt} {t u : TS} {e : Expr} {te : TE} {pos : Pos}
def tNext : TS := fun D σ H => D.nx σ H
def tSeq (t u : TS) : TS := fun D σ H => t { D with nx := u D } σ H
theorem zhB : PSs X [] tNext := fun _ _ σ H _ I h => wpAny_execs_nil ⟨σ, H, I, h⟩
theorem zgC (h1 : PS X st t) (h2 : PSs X rest u) : PSs X (st :: rest) (tSeq t u) := by
  intro pins s σ H D I h
  refine wpAny_execs_cons (thn (h1 pins s σ H { D with nx := u D } I h) fun f s1 q => ?_)
  cases f with
  | next =>
    obtain ⟨σ', H', I', q⟩ := q
    exact h2 pins s1 σ' H' D I' q
  | ret v => exact q
  | brk => exact q
  | cont => exact q
theorem zhC (h1 : PS X st t) : PSs X [st] t := by
  intro pins s σ H D I h
  refine wpAny_execs_cons (thn (h1 pins s σ H D I h) fun f s1 q => ?_)
  cases f with
  | next => exact wpAny_execs_nil q
  | ret v => exact q
  | brk => exact q
  | cont => exact q
theorem Inv.quiet {pins : List (Addr × Obj)} {σ : St} {H : Hp} {s : Shared} (I : Inv X pins σ H s) : interactive X.env = false := by simp [interactive, I.ok.kind]
def tDrop (te : TE) : TS := fun D σ H => te σ H fun _ H1 => D.nx σ H1
theorem zhD (he : PE X e te) (hs : swapsWith e none pos.line X.env = pure false := by rfl) : PS X (.Expr e pos) (tDrop te) := by
  intro pins s σ H D I h
  exact wpAny_Expr_any (thn (he pins s σ H _ I h) fun v s1 ⟨x, H1, I1, r1, q1⟩ => ⟨σ, H1, I1, q1⟩) I.quiet hs
def tRet (te : TE) : TS := fun D σ H => te σ H D.rt
theorem ps_ret (he : PE X e te) : PS X (.Return (some e) pos) (tRet te) := by
  intro pins s σ H D I h
  exact wpAny_Return_some (thn (he pins s σ H _ I h) fun v s1 ⟨x, H1, I1, r1, q1⟩ => ⟨x, σ, H1, I1, r1, q1⟩)
def tIfS (c : TT) (t u : TS) : TS := fun D σ H => c σ H fun b H1 => if b = true then t D σ H1 else u D σ H1
theorem ps_if {c : Expr} {a b : List Stmt} {tc : TT} (hc : PT X c tc) (ha : PSs X a t) (hb : PSs X b u) : PS X (.If c a b pos) (tIfS tc t u) := by
  intro pins s σ H D I h
  refine wpAny_If (thn (hc pins s σ H _ I h) fun d s1 ⟨H1, I1, q1⟩ => ?_)
  cases d with
  | true => exact ha pins s1 σ H1 D I1 q1
  | false => exact hb pins s1 σ H1 D I1 q1
end
abbrev TG := V -> St -> Hp -> (St -> Hp -> Prop) -> Prop
abbrev TGs := List V -> St -> Hp -> (St -> Hp -> Prop) -> Prop
def PG (X : Cx) (target : Expr) (t : TG) : Prop :=
  ∀ (pins : List (Addr × Obj)) (s : Shared) (σ : St) (H : Hp) (v : V) (u : Value) (Q : St -> Hp -> Prop), Inv X pins σ H s -> RelV v u -> t v σ H Q ->
    wpAny (model X.prog X.w) X.A (assign target X.env u) (fun _ s' => ∃ σ' H', Inv X pins σ' H' s' /\ Q σ' H') X.xe s
def PGs (X : Cx) (ts : List Expr) (t : TGs) : Prop :=
  ∀ (pins : List (Addr × Obj)) (s : Shared) (σ : St) (H : Hp) (vs : List V) (us : List Value) (Q : St -> Hp -> Prop), Inv X pins σ H s -> Vals vs us -> t vs σ H Q ->
    wpAny (model X.prog X.w) X.A (assignInOrder ((assignEach ts X.env).map (·.2)) us) (fun _ s' => ∃ σ' H', Inv X pins σ' H' s' /\ Q σ' H') X.xe s
abbrev TSet := V -> V -> V -> Hp -> (Hp -> Prop) -> Prop
def PSet (X : Cx) (t : TSet) : Prop :=
  ∀ (pins : List (Addr × Obj)) (s : Shared) (σ : St) (H : Hp) (o i v : V) (ov iv u : Value) (Q : Hp -> Prop), Inv X pins σ H s -> RelV o ov -> RelV i iv -> RelV v u -> t o i v H Q ->
    wpAny (model X.prog X.w) X.A (setItem ov iv u) (fun _ s' => ∃ H', Inv X pins σ H' s' /\ Q H') X.xe s
section
variable {X : Cx} {pos : Pos}
def gName (i : Nat) : TG := fun v σ H Q => Q (σ.set i (some v)) H
theorem zb0 {i : Nat} {x : Str} (hN : X.N.Nodup) (hi : X.N[i]? = some x) (hx : Loc X.env.scope x) (hf : X.fn x = true \/ X.env.scope.names.lookup x = some .local := by first | exact .inl rfl | exact .inr rfl | assumption) : PG X (.Name x pos) (gName i) := by
  intro pins s σ H v u Q I r h
  exact wpAny_assign_Name (zaY I hN hi hx r (fun s' I' => ⟨_, H, I', h⟩) hf)
def gNil : TGs := fun vs σ H Q => vs = [] /\ Q σ H
def gCons (t : TG) (u : TGs) : TGs := fun vs σ H Q => ∃ v r, vs = v :: r /\ t v σ H fun σ' H' => u r σ' H' Q
theorem zeC : PGs X [] gNil := by
  intro pins s σ H vs us Q I r h
  obtain ⟨e, h⟩ := h
  subst e
  cases r
  exact assignInOrder_nil ⟨σ, H, I, h⟩
theorem zcs {e : Expr} {es : List Expr} {t : TG} {u : TGs} (h1 : PG X e t) (h2 : PGs X es u)
    (hs : (assignEach (e :: es) X.env).map (·.2) = assign e X.env :: (assignEach es X.env).map (·.2) := by rfl) : PGs X (e :: es) (gCons t u) := by
  intro pins s σ H vs us Q I r h
  obtain ⟨v, vr, e1, h⟩ := h
  subst e1
  cases r with
  | cons r rr =>
    rw [hs]
    refine assignInOrder_cons (thn (h1 pins s σ H _ _ _ I r h) fun _ s1 ⟨σ1, H1, I1, q1⟩ => ?_)
    exact h2 pins s1 σ1 H1 _ _ Q I1 rr q1
def gTup (K : PySem.W.Frag) (n : Nat) (t : TGs) : TG := fun v σ H Q => ∃ a xs, v = .ref a /\ SqT K H a xs /\ xs.length = n /\ t xs σ H Q
theorem pg_tup {es : List Expr} {k : Nat} {t : TGs} {n : Nat} (hc : X.calm = true) (h : PGs X es t)
    (hn : (assignEach es X.env).length = n := by rfl) (hst : (assignEach es X.env).findIdx? (·.1) = none := by rfl) : PG X (.Tuple es k pos) (gTup X.K n t) := by
  intro pins s σ H v u Q I r hw
  obtain ⟨a, xs, e1, hq, hl, hw⟩ := hw
  subst e1
  cases r
  obtain ⟨its, rv, ht, hz⟩ := I.tuple hq
  refine assign_Tuple_tuple (I.ok.hd hc) ht (by simp [hn, <- hl, rv.length]) hst fun h' hx => ?_
  have I1 : Inv X pins σ H { s with heap := h' } := I.kept (t' := s.toks) fun b o e => hx b o (Nat.ne_of_lt (Heap.lt_size e)) e
  exact h pins _ σ H xs _ Q I1 (by simpa using rv) hw
def gSub (to ti : TE) (t : TSet) : TG := fun v σ H Q => to σ H fun o H1 => ti σ H1 fun i H2 => t o i v H2 fun H3 => Q σ H3
theorem pg_sub {o i : Expr} {to ti : TE} {t : TSet} (ho : PE X o to) (hi : PE X i ti) (hs : PSet X t)
    (ha : ∀ v, assign (.Subscript o i pos) X.env v = (do
      let ov <- holding [v] (eval o X.env)
      let iv <- holding [v, ov] (eval i X.env)
      standAt pos
      holding [v, ov, iv] (setItem ov iv v)
      release [v, ov, iv] []) := by intro _; rfl) : PG X (.Subscript o i pos) (gSub to ti t) := by
  intro pins s σ H v u Q I r h
  rw [ha]
  refine wpAny_bind (wpAny_holding (thn (ho pins s σ H _ I h) fun ov s1 ⟨x, H1, I1, r1, q1⟩ => ?_))
  refine wpAny_bind (wpAny_holding (thn (hi pins s1 σ H1 _ I1 q1) fun iv s2 ⟨y, H2, I2, r2, q2⟩ => ?_))
  refine wpAny_bind (wpAny_standAt (wpAny_bind (wpAny_holding (thn (hs pins s2 σ H2 x y v ov iv u _ I2 r1 r2 r q2) fun _ s3 ⟨H3, I3, q3⟩ => ?_))))
  exact wpAny_release ⟨σ, H3, I3, q3⟩
def tAsg (te : TE) (g : TG) : TS := fun D σ H => te σ H fun x H1 => g x σ H1 D.nx
theorem ps_asg {tg e : Expr} {te : TE} {g : TG} (he : PE X e te) (hg : PG X tg g) (hs : swapsWithSole [tg] e pos.line X.env = pure false := by rfl) (hw : swappedStores [tg] e X.env = pure none := by rfl)
    (h1 : (assignEach [tg] X.env).map (·.2) = [assign tg X.env] := by rfl) : PS X (.Assign [tg] e pos) (tAsg te g) := by
  intro pins s σ H D I h
  refine wpAny_Assign_stores (thn (he pins s σ H _ I h) fun v s1 ⟨x, H1, I1, r1, q1⟩ => ?_) hs hw
  rw [h1]
  exact thn (hg pins s1 σ H1 x v _ I1 r1 q1) fun _ s2 q => q
theorem ps_set {i : Nat} {x : Str} {e : Expr} {te : TE} {pos' : Pos} (hN : X.N.Nodup) (hi : X.N[i]? = some x) (hx : Loc X.env.scope x) (he : PE X e te) (hs : swapsWith e (some (.Name x pos')) pos.line X.env = pure false := by rfl) (hf : X.fn x = true \/ X.env.scope.names.lookup x = some .local := by first | exact .inl rfl | exact .inr rfl | assumption) :
    PS X (.Assign [.Name x pos'] e pos) (tAsg te (gName i)) := by
  intro pins s σ H D I h
  refine wpAny_Assign_Name (thn (he pins s σ H _ I h) fun v s1 ⟨y, H1, I1, r1, q1⟩ => ?_) hs
  exact zaY I1 hN hi hx r1 (fun s2 I2 => ⟨_, H1, I2, q1⟩) hf
def tPar (i j : Nat) (ta : TA) : TS := fun D σ H => ta σ H fun vs H1 => ∃ v w, vs = [v, w] /\ D.nx ((σ.set i (some v)).set j (some w)) H1
theorem ps_par {i j : Nat} {x y : Str} {a b : Expr} {ta : TA} {px py pt : Pos} {kt k2 pt2} (hc : X.calm = true) (hN : X.N.Nodup) (hi : X.N[i]? = some x) (hj : X.N[j]? = some y) (hij : i ≠ j)
    (hx : X.env.scope.names.lookup x = some .local) (hy : X.env.scope.names.lookup y = some .local) (ha : PA X [a, b] ta)
    (hw : swappedStores [.Tuple [.Name x px, .Name y py] kt pt] (.Tuple [a, b] k2 pt2) X.env = pure (some [x, y]))
    (hs : swapsWithSole [.Tuple [.Name x px, .Name y py] kt pt] (.Tuple [a, b] k2 pt2) pos.line X.env = pure false := by rfl) :
    PS X (.Assign [.Tuple [.Name x px, .Name y py] kt pt] (.Tuple [a, b] k2 pt2) pos) (tPar i j ta) := by
  intro pins s σ H D I h
  rw [exec_Assign_arm]
  refine wpAny_bind (wpAny_standAt ?_)
  rw [hs]
  refine wpAny_bind (wpAny_pure ?_)
  rw [if_neg (by decide)]
  refine wpAny_bind (Tuple_ (thn (ha _ pins s σ H _ I h) fun us s1 ⟨vs, H1, I1, r1, q1⟩ => ?_))
  obtain ⟨v, w, e1, q1⟩ := q1
  subst e1
  obtain ⟨u1, u2, rfl, rv, rw'⟩ : ∃ u1 u2, us = [u1, u2] /\ RelV v u1 /\ RelV w u2 := by
    cases r1 with
    | cons p q =>
      cases q with
      | cons p' q' =>
        cases q'
        exact ⟨_, _, rfl, p, p'⟩
  refine wpAny_newObj_type ?_ (by show 2 <= sizeLine; decide)
  have I2 : Inv X pins σ H1 { s1 with heap := s1.heap.push { cls := .type "tuple", data := .seq [u1, u2].toArray } } := I1.kept (t' := s1.toks) fun b o e => Heap.get?_push_of_some _ e
  rw [hw]
  refine wpAny_bind (wpAny_pure ?_)
  show wpAny (model X.prog X.w) X.A (do rule "assign.swapped-stores"; let items <- unpackItems (.ref s1.heap.objs.size) 2 none; assignInOrder [fun v => bindName X.env y v, fun v => bindName X.env x v] items.reverse; pure Flow.next) _ _ _
  refine wpAny_bind (wpAny_rule (wpAny_bind (unpackItems_tuple (items := #[u1, u2]) (I.ok.hd hc) (IsTup.new s1.heap _) fun h' hx' => ?_)))
  have I3 := I2.kept (h' := h') (t' := s1.toks) fun b o e => hx' b o (Nat.ne_of_lt (Heap.lt_size e)) e
  show wpAny _ _ (assignInOrder [fun v => bindName X.env y v, fun v => bindName X.env x v] [u2, u1] >>= fun _ => pure Flow.next) _ _ _
  refine wpAny_bind (assignInOrder_cons (wpAny_bindName (zaY I3 hN hj (.inl hy) rw' (fun s2 I4 => ?_) (.inr hy))))
  refine assignInOrder_cons (wpAny_bindName (zaY I4 hN hi (.inl hx) rv (fun s3 I5 => assignInOrder_nil (wpAny_pure ?_)) (.inr hx)))
  rw [List.set_comm _ _ (Ne.symm hij)] at I5
  exact ⟨_, H1, I5, q1⟩
end
section
variable {X : Cx} {pos : Pos}
def tWhile (c : TT) (tb : TS) : TS := fun D σ H => ∃ W : Nat -> St -> Hp -> Prop, (∃ m, W m σ H) /\ ∀ m σ H, W m σ H ->
  c σ H fun b H1 => if b = true then ∃ N : St -> Hp -> Prop, (∀ σ' H', N σ' H' -> ∃ m', m' < m /\ W m' σ' H') /\ tb { D with nx := N, ct := N, bk := D.nx } σ H1 else D.nx σ H1
theorem zgD {c : Expr} {body : List Stmt} {tc : TT} {tb : TS} (hp : PassesOwn (model X.prog X.w) X.A X.env X.xe) (hc : PT X c tc) (hb : PSs X body tb) : PS X (.While c body [] pos) (tWhile tc tb) := by
  intro pins s σ H D I h
  obtain ⟨W, ⟨m0, w0⟩, turn⟩ := h
  refine wpAny_While (codeAny_whileLoop (fun n s' => ∃ σ' H', Inv X pins σ' H' s' /\ W n σ' H') ?_ m0 ⟨σ, H, I, w0⟩)
  rintro n s1 ⟨σ1, H1, I1, w1⟩
  refine wpAny_passesOwn hp (thn (hc pins s1 σ1 H1 _ I1 (turn n σ1 H1 w1)) fun b s2 ⟨H2, I2, q2⟩ => ?_)
  cases b with
  | true =>
    obtain ⟨N, hN, q2⟩ := q2
    rw [if_pos rfl]
    refine wpAny_passesOwn hp (thn (hb pins s2 σ1 H2 _ I2 q2) fun f s3 q3 => ?_)
    cases f with
    | next =>
      obtain ⟨σ3, H3, I3, n3⟩ := q3
      obtain ⟨m', hm, w3⟩ := hN σ3 H3 n3
      exact ⟨m', hm, σ3, H3, I3, w3⟩
    | cont =>
      obtain ⟨σ3, H3, I3, n3⟩ := q3
      obtain ⟨m', hm, w3⟩ := hN σ3 H3 n3
      exact ⟨m', hm, σ3, H3, I3, w3⟩
    | brk => exact q3
    | ret v => exact q3
  | false =>
    rw [if_neg Bool.false_ne_true]
    exact wpAny_execs_nil ⟨σ1, H2, I2, q2⟩
end
structure It where
  go : Nat -> Hp -> Prop
  yld : Nat -> Hp -> V -> Hp -> Prop
  stop : Nat -> Hp -> Prop
def FpOk (X : Cx) (pins : List (Addr × Obj)) (H : Hp) (b : Addr) : Prop :=
  H b = none /\ b ≠ X.env.locals /\ b ∉ X.fs /\ (b ∈ X.ex \/ X.s₀.heap.objs.size <= b) /\ (∀ x c, X.env.cells.lookup x = some c -> c ≠ b) /\ ∀ p ∈ X.pn ++ pins, p.1 ≠ b
theorem Inv.fpOk {X : Cx} {pins : List (Addr × Obj)} {σ : St} {H H' : Hp} {s : Shared} {b : Addr} (I : Inv X pins σ H s) (hb : s.heap.objs.size <= b) (hn : H' b = none) : FpOk X pins H' b := by
  refine ⟨hn, Nat.ne_of_gt (Nat.lt_of_lt_of_le I.lt hb), I.nofs hb, .inr (Nat.le_trans I.sz hb), fun x c e z => ?_, fun p hp z => ?_⟩
  . obtain ⟨v, q⟩ := I.cell x c e
    exact absurd (Nat.lt_of_lt_of_le q.lt (by rw [z]; exact hb)) (Nat.lt_irrefl _)
  . exact absurd (Nat.lt_of_lt_of_le (Heap.lt_size (I.pin p hp).1) (by rw [z]; exact hb)) (Nat.lt_irrefl _)
structure Turn (P : Program) (w : World) (K : PySem.W.Frag) (tg : Expr) (J : It) (fp : List Addr) (it : Addr) (tn : Nat -> Heap -> Prop) : Prop where
  mem : it ∈ fp
  obj : ∀ i h, tn i h -> ∀ b ∈ fp, ∃ o, h.get? b = some o /\ ∀ v, o.data ≠ .cell v
  keep : ∀ i h h', tn i h -> (∀ b ∈ fp, ∀ o, h.get? b = some o -> h'.get? b = some o) -> tn i h'
  item : ∀ (X : Cx), X.prog = P -> X.w = w -> X.K = K -> X.calm = true -> ∀ (i : Nat) (pins : List (Addr × Obj)) (s : Shared) (σ : St) (H : Hp) (E : Value -> Shared -> Prop), Inv X pins σ H s -> (∀ b ∈ fp, FpOk X pins H b) -> tn i s.heap -> J.go i H ->
    wpAny (model P w) X.A (pyNext (.ref it)) (fun r s1 => ∃ u, r = some u /\
      wpAny (model P w) X.A (letOwnedTupleGo tg (.ref it) u) (fun _ s2 => ∃ x H', Inv X pins σ H' s2 /\ RelV x u /\ J.yld i H x H' /\ tn (i + 1) s2.heap /\ ∀ b ∈ fp, H' b = none) E s1) E s
  done : ∀ (X : Cx), X.prog = P -> X.w = w -> X.K = K -> X.calm = true -> ∀ (i : Nat) (pins : List (Addr × Obj)) (s : Shared) (σ : St) (H : Hp) (E : Value -> Shared -> Prop), Inv X pins σ H s -> (∀ b ∈ fp, FpOk X pins H b) -> tn i s.heap -> J.stop i H ->
    wpAny (model P w) X.A (pyNext (.ref it)) (fun r s1 => r = none /\ Inv X pins σ H s1) E s
  self : ∀ (A : Around) (i : Nat) (s : Shared) (Q : Value -> Shared -> Prop) (E : Value -> Shared -> Prop), tn i s.heap -> Q (.ref it) s -> wpAny (model P w) A (pyIter (.ref it)) Q E s
abbrev TI := St -> Hp -> (It -> Hp -> Prop) -> Prop
def PIE (X : Cx) (pins : List (Addr × Obj)) (σ : St) (tg : Expr) (R : It -> Hp -> Prop) (itv : Value) (s2 : Shared) : Prop :=
  ∃ (it : Addr) (fp : List Addr) (tn : Nat -> Heap -> Prop) (J : It) (H' : Hp), itv = .ref it /\ Inv X pins σ H' s2 /\ Turn X.prog X.w X.K tg J fp it tn /\ tn 0 s2.heap /\ (∀ b ∈ fp, FpOk X pins H' b) /\ R J H'
def PI (X : Cx) (tg iter : Expr) (wi : TI) : Prop :=
  ∀ (pins : List (Addr × Obj)) (s : Shared) (σ : St) (H : Hp) (R : It -> Hp -> Prop), Inv X pins σ H s -> wi σ H R ->
    wpAny (model X.prog X.w) X.A (eval iter X.env) (fun v s1 => wpAny (model X.prog X.w) X.A (pyIter v) (PIE X pins σ tg R) X.xe s1) X.xe s
theorem go_of {M : Model} {A : Around} {E : Value -> Shared -> Prop} {s : Shared} {tg : Expr} {it : Addr} {u : Value} {o : Obj} {n : String} {vs : Array Value} {Q : Unit -> Shared -> Prop} (ho : s.heap.get? it = some o) (hc : o.cls = .type n) (hd : o.data = .fields vs)
    (hn : ["enumerate", "zip", "dict_itemiterator", "dict_reverseitemiterator", "odict_iterator", "itertools.zip_longest", "itertools.pairwise"].contains n = false) (hQ : Q () s) : wpAny M A (letOwnedTupleGo tg (.ref it) u) Q E s := by
  unfold letOwnedTupleGo
  cases tg <;> first
    | exact wpAny_pure hQ
    | (cases u <;> first
        | exact wpAny_pure hQ
        | (refine wpAny_bind (wpAny_load ho ?_)
           rw [hc, hd]
           show wpAny M A (if (["enumerate", "zip", "dict_itemiterator", "dict_reverseitemiterator", "odict_iterator", "itertools.zip_longest", "itertools.pairwise"].contains n && vs[0]? == some (rawInt _)) = true then _ else _) Q E s
           rw [if_neg (by intro h; rw [hn, Bool.false_and] at h; cases h)]
           exact wpAny_pure hQ))
def Itl (K : PySem.W.Frag) (a : Addr) : It :=
  ⟨fun i H => ∃ xs x, SqL K H a xs /\ xs[i]? = some x, fun i H x H' => H' = H /\ ∀ xs, SqL K H a xs -> xs[i]? = some x, fun i H => ∃ xs, SqL K H a xs /\ xs.length <= i⟩
def Itt (K : PySem.W.Frag) (a : Addr) : It :=
  ⟨fun i H => ∃ xs x, SqT K H a xs /\ xs[i]? = some x, fun i H x H' => H' = H /\ ∀ xs, SqT K H a xs -> xs[i]? = some x, fun i H => ∃ xs, SqT K H a xs /\ xs.length <= i⟩
def Itr (lo : Int) (n : Nat) : It := ⟨fun i _ => i < n, fun i H x H' => H' = H /\ x = .int (lo + i), fun i _ => n <= i⟩
theorem zfV {P : Program} {w : World} {K : PySem.W.Frag} {tg : Expr} (a it : Addr) : Turn P w K tg (Itl K a) [it] it (fun i h => h.IsListIter it a i) where
  mem := by simp
  obj := fun i h st b hb => by
    have e : b = it := by simpa using hb
    subst e
    obtain ⟨o, e, c, d⟩ := st
    exact ⟨o, e, fun v z => by rw [d] at z; cases z⟩
  keep := fun i h h' st k => st.at fun o e => k it (by simp) o e
  item := by
    intro X hP hw hK hc i pins s σ H E I hf st hg
    subst hP hw hK
    obtain ⟨xs, x, hq, hx⟩ := hg
    obtain ⟨its, rv, p, hz⟩ := I.list hq
    obtain ⟨u, hu, ru⟩ := rv.get hx
    obtain ⟨f0, f1, f2, f3, f4, f5⟩ := hf it (by simp)
    refine wpAny_pyNext_list_item st p.isList (x := u) (by simpa using hu) fun h' st' sb => ?_
    have I1 : Inv X pins σ H { s with heap := h' } := I.turned (t' := s.toks) (fun b o hb e => (sb.2 b hb).trans e) f0 f1 f3 f4 f5
    obtain ⟨o, e, c, d⟩ := id st'
    exact ⟨u, rfl, go_of (s := { s with heap := h' }) e c d (by decide) ⟨x, H, I1, ru, ⟨rfl, fun ys hy => by rw [I.list_inj hy hq]; exact hx⟩, st', fun b hb => (hf b hb).1⟩⟩
  done := by
    intro X hP hw hK hc i pins s σ H E I hf st hg
    subst hP hw hK
    obtain ⟨xs, hq, hx⟩ := hg
    obtain ⟨its, rv, p, hz⟩ := I.list hq
    obtain ⟨f0, f1, f2, f3, f4, f5⟩ := hf it (by simp)
    have hl := rv.length
    exact wpAny_pyNext_list_end (I.ok.hd hc) st p.isList (by simp; omega) fun h' eb => ⟨rfl, I.turned (t' := s.toks) (fun b o hb e => eb b o hb e) f0 f1 f3 f4 f5⟩
  self := fun _ _ _ _ _ st h => wpAny_pyIter_listiter st h
theorem zfp {P : Program} {w : World} {K : PySem.W.Frag} {tg : Expr} (a it : Addr) : Turn P w K tg (Itt K a) [it] it (fun i h => h.IsTupleIter it a i) where
  mem := by simp
  obj := fun i h st b hb => by
    have e : b = it := by simpa using hb
    subst e
    obtain ⟨o, e, c, d⟩ := st
    exact ⟨o, e, fun v z => by rw [d] at z; cases z⟩
  keep := fun i h h' st k => st.at fun o e => k it (by simp) o e
  item := by
    intro X hP hw hK hc i pins s σ H E I hf st hg
    subst hP hw hK
    obtain ⟨xs, x, hq, hx⟩ := hg
    obtain ⟨its, rv, p, hz⟩ := I.tuple hq
    obtain ⟨u, hu, ru⟩ := rv.get hx
    obtain ⟨f0, f1, f2, f3, f4, f5⟩ := hf it (by simp)
    refine wpAny_pyNext_tuple_item st (show s.heap.IsTuple a its.toArray from p) (x := u) (by simpa using hu) fun h' st' sb => ?_
    have I1 : Inv X pins σ H { s with heap := h' } := I.turned (t' := s.toks) (fun b o hb e => (sb.2 b hb).trans e) f0 f1 f3 f4 f5
    obtain ⟨o, e, c, d⟩ := id st'
    exact ⟨u, rfl, go_of (s := { s with heap := h' }) e c d (by decide) ⟨x, H, I1, ru, ⟨rfl, fun ys hy => by rw [I.tuple_inj hy hq]; exact hx⟩, st', fun b hb => (hf b hb).1⟩⟩
  done := by
    intro X hP hw hK hc i pins s σ H E I hf st hg
    subst hP hw hK
    obtain ⟨xs, hq, hx⟩ := hg
    obtain ⟨its, rv, p, hz⟩ := I.tuple hq
    obtain ⟨f0, f1, f2, f3, f4, f5⟩ := hf it (by simp)
    have hl := rv.length
    exact wpAny_pyNext_tuple_end (I.ok.hd hc) st (show s.heap.IsTuple a its.toArray from p) (by simp; omega) fun h' eb => ⟨rfl, I.turned (t' := s.toks) (fun b o hb e => eb b o hb e) f0 f1 f3 f4 f5⟩
  self := fun _ _ _ _ _ st h => wpAny_pyIter_tupleiter st h
theorem zfq {P : Program} {w : World} {K : PySem.W.Frag} {tg : Expr} (it : Addr) (lo : Int) (n : Nat) : Turn P w K tg (Itr lo n) [it] it (fun i h => IsRangeIter h it (lo + (i : Nat) * 1) ((n : Int) - (i : Nat)) 1) where
  mem := by simp
  obj := fun i h st b hb => by
    have e : b = it := by simpa using hb
    subst e
    exact ⟨_, st, fun v z => by
      have z' : Data.fields _ = Data.cell v := z
      cases z'⟩
  keep := fun i h h' st k => k it (by simp) _ st
  item := by
    intro X hP hw hK hc i pins s σ H E I hf st hg
    subst hP hw hK
    obtain ⟨f0, f1, f2, f3, f4, f5⟩ := hf it (by simp)
    have W := Walks.range (prog := X.prog) (w := X.w) (I.ok.hd hc) it lo 1 n
    refine W.item i s _ _ hg st fun v h' tk hv st' kk => ?_
    obtain ⟨t, rfl⟩ := hv
    have I1 : Inv X pins σ H { s with heap := h', toks := tk } := I.turned (fun b o hb e => kk b o (by simpa using hb) e) f0 f1 f3 f4 f5
    refine ⟨_, rfl, go_of (s := { s with heap := h', toks := tk }) (n := "range_iterator") st' rfl rfl (by decide) ⟨.int (lo + i), H, I1, ⟨t, ?_⟩, ⟨rfl, rfl⟩, st', fun b hb => (hf b hb).1⟩⟩
    rw [Int.mul_one]
  done := by
    intro X hP hw hK hc i pins s σ H E I hf st hg
    subst hP hw hK
    obtain ⟨f0, f1, f2, f3, f4, f5⟩ := hf it (by simp)
    exact wpAny_pyNext_range_end (I.ok.hd hc) st (by have : n <= i := hg; omega) fun h' eb => ⟨rfl, I.turned (t' := s.toks) (fun b o hb e => eb b o hb e) f0 f1 f3 f4 f5⟩
  self := fun _ _ _ _ _ st h => wpAny_pyIter_rangeiter st h
end L2
namespace L2
open PySem PySem.Spec PyProof.Rows
section
variable {X : Cx} {tg : Expr}
def iList (K : PySem.W.Frag) (tl : TE) : TI := fun σ H R => tl σ H fun x H1 => ∃ a, x = .ref a /\ (∃ xs, SqL K H1 a xs) /\ R (Itl K a) H1
def iTup (K : PySem.W.Frag) (tl : TE) : TI := fun σ H R => tl σ H fun x H1 => ∃ a, x = .ref a /\ (∃ xs, SqT K H1 a xs) /\ R (Itt K a) H1
theorem zeD {l : Expr} {tl : TE} (hl : PE X l tl) : PI X tg l (iList X.K tl) := by
  intro pins s σ H R I h
  refine thn (hl pins s σ H _ I h) fun v s1 ⟨x, H1, I1, r1, q1⟩ => ?_
  obtain ⟨a, e, ⟨xs, hq⟩, q⟩ := q1
  subst e
  cases r1
  obtain ⟨its, rv, p, hz⟩ := I1.list hq
  refine wpAny_pyIter_list p.isList ?_
  refine ⟨s1.heap.objs.size, [s1.heap.objs.size], _, _, H1, rfl, I1.kept (t' := s1.toks) fun b o e => Heap.get?_push_of_some _ e, zfV a _, ⟨_, Heap.get?_push_size _ rfl, rfl, rfl⟩, fun b hb => ?_, q⟩
  have e : b = s1.heap.objs.size := by simpa using hb
  subst e
  exact I1.fpOk (Nat.le_refl _) (I1.hok.fresh (Nat.le_refl _))
theorem pi_tup {l : Expr} {tl : TE} (hl : PE X l tl) : PI X tg l (iTup X.K tl) := by
  intro pins s σ H R I h
  refine thn (hl pins s σ H _ I h) fun v s1 ⟨x, H1, I1, r1, q1⟩ => ?_
  obtain ⟨a, e, ⟨xs, hq⟩, q⟩ := q1
  subst e
  cases r1
  obtain ⟨its, rv, p, hz⟩ := I1.tuple hq
  refine wpAny_pyIter_tuple (show s1.heap.IsTuple a its.toArray from p) ?_
  refine ⟨s1.heap.objs.size, [s1.heap.objs.size], _, _, H1, rfl, I1.kept (t' := s1.toks) fun b o e => Heap.get?_push_of_some _ e, zfp a _, ⟨_, Heap.get?_push_size _ rfl, rfl, rfl⟩, fun b hb => ?_, q⟩
  have e : b = s1.heap.objs.size := by simpa using hb
  subst e
  exact I1.fpOk (Nat.le_refl _) (I1.hok.fresh (Nat.le_refl _))
theorem zgE {pins : List (Addr × Obj)} {σ : St} {H : Hp} {s : Shared} {R : It -> Hp -> Prop} {E : Value -> Shared -> Prop} {lo hi : Int} {t u v : Tok} {tk : Nat} (I : Inv X pins σ H s) (h1 : -(2 ^ 62) <= lo) (h2 : lo < 2 ^ 62) (h3 : -(2 ^ 62) <= hi) (h4 : hi < 2 ^ 62)
    (q : R (Itr lo (hi - lo).toNat) H) : wpAny (model X.prog X.w) X.A (pyIter (.ref s.heap.objs.size)) (PIE X pins σ tg R) E { s with heap := s.heap.push { cls := .type "range", data := .fields #[.int lo t, .int hi u, .int 1 v] }, toks := tk } := by
  refine wpAny_pyIter_range (IsRange.new ..) (small_one h1 h2 h3 h4) ?_
  have I1 : Inv X pins σ H { s with heap := s.heap.push { cls := .type "range", data := .fields #[.int lo t, .int hi u, .int 1 v] }, toks := tk } := I.kept fun b o e => Heap.get?_push_of_some _ e
  refine ⟨(s.heap.push { cls := .type "range", data := .fields #[.int lo t, .int hi u, .int 1 v] }).objs.size, [(s.heap.push { cls := .type "range", data := .fields #[.int lo t, .int hi u, .int 1 v] }).objs.size], _, _, H, rfl,
    I1.kept (t' := tk) fun b o e => Heap.get?_push_of_some _ e, zfq _ lo (hi - lo).toNat, ?_, fun b hb => ?_, q⟩
  . have e1 : lo + ((0 : Nat) : Int) * 1 = lo := by simp
    have e2 : (((hi - lo).toNat : Nat) : Int) - ((0 : Nat) : Int) = Builtin.Range.rangeSize lo hi 1 := by rw [rangeSize_one]; split <;> omega
    show IsRangeIter _ _ (lo + ((0 : Nat) : Int) * 1) ((((hi - lo).toNat : Nat) : Int) - ((0 : Nat) : Int)) 1
    rw [e1, e2]
    exact Heap.get?_push_size _ rfl
  . have e : b = (s.heap.push { cls := .type "range", data := .fields #[.int lo t, .int hi u, .int 1 v] }).objs.size := by simpa using hb
    subst e
    exact I1.fpOk (Nat.le_refl _) (I1.hok.fresh (Nat.le_refl _))
def iRng1 (ta : TA) : TI := fun σ H R => ta σ H fun vs H1 => ∃ j : Int, vs = [.int j] /\ -(2 ^ 62) <= j /\ j < 2 ^ 62 /\ R (Itr 0 j.toNat) H1
theorem zfW {a : Expr} {ta : TA} {p pos : Pos} (hg : Gl X "range") (hm : X.mg "range" = none) (ha : PA X [a] ta) (hs : starEach [a] X.env = [(false, eval a X.env)] := by rfl) : PI X tg (.Call (.Name "range" p) [a] [] pos) (iRng1 ta) := by
  intro pins s σ H R I h
  refine Call_ (ld_blt I hg hm boot_range (PyProof.Rows.callWith_type1 (thn (ha pos pins s σ H _ I h) fun us s1 ⟨vs, H1, I1, r1, q1⟩ => ?_) hs rfl))
  obtain ⟨j, e, q1, q2, q⟩ := q1
  subst e
  cases r1 with
  | cons r rr =>
    cases rr
    obtain ⟨t, rfl⟩ := r
    exact call_range_1 (zgE I1 (by omega) (by omega) q1 q2 (by simpa using q))
def tFor (wi : TI) (g : TG) (tb : TS) : TS := fun D σ H => wi σ H fun J H1 => ∃ W : Nat -> Nat -> St -> Hp -> Prop, (∃ m, W 0 m σ H1) /\ ∀ i m σ H, W i m σ H ->
  (J.stop i H /\ D.nx σ H) \/ (J.go i H /\ ∃ N : St -> Hp -> Prop, (∀ σ' H', N σ' H' -> ∃ m', m' < m /\ W (i + 1) m' σ' H') /\ ∀ x H', J.yld i H x H' -> g x σ H' fun σ2 H2 => tb { D with nx := N, ct := N, bk := D.nx } σ2 H2)
def pinsAt (fp : List Addr) (h : Heap) : List (Addr × Obj) := fp.filterMap fun b => (h.get? b).map fun o => (b, o)
theorem zaG {fp : List Addr} {h : Heap} {b : Addr} {o : Obj} (hb : b ∈ fp) (e : h.get? b = some o) : (b, o) ∈ pinsAt fp h := List.mem_filterMap.mpr ⟨b, hb, by rw [e]; rfl⟩
theorem zfX {fp : List Addr} {h : Heap} {p : Addr × Obj} (hp : p ∈ pinsAt fp h) : p.1 ∈ fp /\ h.get? p.1 = some p.2 := by
  obtain ⟨b, hb, e⟩ := List.mem_filterMap.mp hp
  cases q : h.get? b with
  | none => rw [q] at e; cases e
  | some o =>
    rw [q] at e
    have e' : (b, o) = p := Option.some.inj e
    subst e'
    exact ⟨hb, q⟩
theorem Inv.pinned {pins : List (Addr × Obj)} {σ : St} {H : Hp} {s : Shared} {fp : List Addr} (I : Inv X pins σ H s) (hf : ∀ b ∈ fp, FpOk X pins H b) (ho : ∀ b ∈ fp, ∃ o, s.heap.get? b = some o /\ ∀ v, o.data ≠ .cell v) : Inv X (pins ++ pinsAt fp s.heap) σ H s :=
  I.pins_of fun p hp => (List.mem_append.mp hp).elim (fun z => I.pin p (List.mem_append_right _ z)) fun z => by
    obtain ⟨hb, e⟩ := zfX z
    obtain ⟨f0, f1, f2, _⟩ := hf p.1 hb
    obtain ⟨o, e', d⟩ := ho p.1 hb
    rw [e] at e'; cases e'
    exact ⟨e, f0, f1, f2, d⟩
theorem Inv.unpinned {pins pl : List (Addr × Obj)} {σ : St} {H : Hp} {s : Shared} (I : Inv X (pins ++ pl) σ H s) : Inv X pins σ H s := I.pins_of fun p hp => I.pin p (List.mem_append_right _ (List.mem_append_left _ hp))
theorem ps_for {iter : Expr} {body : List Stmt} {wi : TI} {g : TG} {tb : TS} {pos : Pos} (hp : PassesOwn (model X.prog X.w) X.A X.env X.xe) (hc : X.calm = true) (hi : PI X tg iter wi) (hg : PG X tg g) (hb : PSs X body tb)
    (hs : ∀ x, foldedSetIterable iter X.env x = pure x := by intro _; rfl) : PS X (.For tg iter body [] pos) (tFor wi g tb) := by
  intro pins s σ H D I h
  refine wpAny_For (thn (hi pins s σ H _ I h) fun v s1 h1 => thn h1 fun itv s2 h2 => ?_) hs
  obtain ⟨it, fp, tn, J, H2, e, I2, T, st2, f2, W, ⟨m0, w0⟩, turn⟩ := h2
  subst e
  have stat : ∀ {H' : Hp}, (∀ b ∈ fp, H' b = none) -> ∀ b ∈ fp, FpOk X pins H' b := fun hn b hb => ⟨hn b hb, (f2 b hb).2⟩
  refine codeAny_forLoop_any (fun n s' => ∃ i σ' H', Inv X pins σ' H' s' /\ tn i s'.heap /\ (∀ b ∈ fp, H' b = none) /\ W i n σ' H') ?_ m0 ⟨0, σ, H2, I2, st2, fun b hb => (f2 b hb).1, w0⟩
  rintro n s3 ⟨i, σ3, H3, I3, st3, fr3, w3⟩
  rcases turn i n σ3 H3 w3 with ⟨stop, qn⟩ | ⟨go, N, hN, step⟩
  . refine wpAny_passesOwn hp (thn (T.done X rfl rfl rfl hc i pins s3 σ3 H3 X.xe I3 (stat fr3) st3 stop) fun r s4 ⟨hr, I4⟩ => ?_)
    subst hr
    exact wpAny_execs_nil ⟨σ3, H3, I4, qn⟩
  . refine wpAny_passesOwn hp (thn (T.item X rfl rfl rfl hc i pins s3 σ3 H3 X.xe I3 (stat fr3) st3 go) fun r s4 ⟨u, hr, h4⟩ => ?_)
    subst hr
    refine wpAny_passesOwn hp (thn h4 fun _ s5 ⟨x, H5, I5, r5, y5, st5, fr5⟩ => ?_)
    have I5' := I5.pinned (stat fr5) (T.obj _ _ st5)
    refine wpAny_passesOwn hp (thn (hg _ s5 σ3 H5 x u _ I5' r5 (step x H5 y5)) fun _ s6 ⟨σ6, H6, I6, q6⟩ => ?_)
    refine wpAny_passesOwn hp (thn (hb _ s6 σ6 H6 _ I6 q6) fun f s7 q7 => ?_)
    have again : ∀ {σ7 : St} {H7 : Hp}, Inv X (pins ++ pinsAt fp s5.heap) σ7 H7 s7 -> N σ7 H7 -> ∃ m, m < n /\ ∃ i σ' H', Inv X pins σ' H' s7 /\ tn i s7.heap /\ (∀ b ∈ fp, H' b = none) /\ W i m σ' H' := fun {σ7 H7} I7 n7 => by
      obtain ⟨m', hm, w7⟩ := hN σ7 H7 n7
      refine ⟨m', hm, i + 1, σ7, H7, I7.unpinned, T.keep _ _ _ st5 fun b hb o e => (I7.pin (b, o) (List.mem_append_right _ (List.mem_append_right _ (zaG hb e)))).1, fun b hb => ?_, w7⟩
      obtain ⟨o, e, d⟩ := T.obj _ _ st5 b hb
      exact (I7.pin (b, o) (List.mem_append_right _ (List.mem_append_right _ (zaG hb e)))).2.1
    cases f with
    | next => obtain ⟨σ7, H7, I7, n7⟩ := q7; exact again I7 n7
    | cont => obtain ⟨σ7, H7, I7, n7⟩ := q7; exact again I7 n7
    | brk => obtain ⟨σ7, H7, I7, q7⟩ := q7; exact ⟨σ7, H7, I7.unpinned, q7⟩
    | ret v => obtain ⟨x7, σ7, H7, I7, r7, q7⟩ := q7; exact ⟨x7, σ7, H7, I7.unpinned, r7, q7⟩
end
end L2
namespace L2
open PySem PySem.Spec PyProof.Rows
abbrev R2 := V -> V -> Hp -> VK -> Prop
def OpR (X : Cx) (f : Value -> Value -> Sem Value) (r : R2) : Prop :=
  ∀ (pins : List (Addr × Obj)) (s : Shared) (σ : St) (H : Hp) (x y : V) (v u : Value) (Q : VK), Inv X pins σ H s -> RelV x v -> RelV y u -> r x y H Q ->
    wpAny (model X.prog X.w) X.A (f v u) (EP X pins σ Q) X.xe s
def UnR (X : Cx) (f : Value -> Sem Value) (r : V -> Hp -> VK -> Prop) : Prop :=
  ∀ (pins : List (Addr × Obj)) (s : Shared) (σ : St) (H : Hp) (x : V) (v : Value) (Q : VK), Inv X pins σ H s -> RelV x v -> r x H Q ->
    wpAny (model X.prog X.w) X.A (f v) (EP X pins σ Q) X.xe s
def CallR (X : Cx) (f : Value) (r : List V -> Hp -> VK -> Prop) : Prop :=
  ∀ (pins : List (Addr × Obj)) (s : Shared) (σ : St) (H : Hp) (xs : List V) (us : List Value) (Q : VK), Inv X pins σ H s -> Vals xs us -> r xs H Q ->
    wpAny (model X.prog X.w) X.A (call f us) (EP X pins σ Q) X.xe s
def TruR (X : Cx) (r : V -> Hp -> (Bool -> Hp -> Prop) -> Prop) : Prop :=
  ∀ (pins : List (Addr × Obj)) (s : Shared) (σ : St) (H : Hp) (x : V) (v : Value) (Q : Bool -> Hp -> Prop), Inv X pins σ H s -> RelV x v -> r x H Q ->
    wpAny (model X.prog X.w) X.A (truthy v) (TP X pins σ Q) X.xe s
def tOp (r : R2) (ta tb : TE) : TE := fun σ H Q => ta σ H fun x H1 => tb σ H1 fun y H2 => r x y H2 Q
def tUn (r : V -> Hp -> VK -> Prop) (ta : TE) : TE := fun σ H Q => ta σ H fun x H1 => r x H1 Q
def rI (C : Int -> Int -> Prop) (g : Int -> Int -> V) : R2 := fun x y H Q => ∃ i j, x = .int i /\ y = .int j /\ C i j /\ Q (g i j) H
def rI0 (g : Int -> Int -> V) : R2 := fun x y H Q => ∃ i j, x = .int i /\ y = .int j /\ Q (g i j) H
def rU (g : Int -> V) : V -> Hp -> VK -> Prop := fun x H Q => ∃ i, x = .int i /\ Q (g i) H
section
variable {X : Cx} {a b c : Expr} {ta tb tc : TE} {pos : Pos}
theorem binT (ha : PE X a ta) (hb : PE X b tb) {pins : List (Addr × Obj)} {s : Shared} {σ : St} {H : Hp} {R : V -> V -> Hp -> Prop} (I : Inv X pins σ H s)
    (h : ta σ H fun x H1 => tb σ H1 fun y H2 => R x y H2) {Q : Value -> Shared -> Prop} {f : Value -> Value -> Sem Value}
    (hf : ∀ v u s2 x y H2, Inv X pins σ H2 s2 -> RelV x v -> RelV y u -> R x y H2 -> wpAny (model X.prog X.w) X.A (f v u) Q X.xe s2) :
    wpAny (model X.prog X.w) X.A (eval a X.env) (fun v s₁ => wpAny (model X.prog X.w) X.A (eval b X.env) (fun u s₂ => wpAny (model X.prog X.w) X.A (f v u) Q X.xe s₂) X.xe s₁) X.xe s := by
  refine thn (ha pins s σ H _ I h) fun v s1 ⟨x, H1, I1, r1, q1⟩ => ?_
  refine thn (hb pins s1 σ H1 _ I1 q1) fun u s2 ⟨y, H2, I2, r2, q2⟩ => ?_
  exact hf v u s2 x y H2 I2 r1 r2 q2
theorem pe_op {op : Operator} {r : R2} (ho : OpR X (binaryOp op) r) (ha : PE X a ta) (hb : PE X b tb) : PE X (.BinOp a op b pos) (tOp r ta tb) := by
  intro pins s σ H Q I h
  exact wpAny_BinOp (binT ha hb I h fun v u s2 x y H2 I2 rx ry q => ho pins s2 σ H2 x y v u Q I2 rx ry q)
theorem pe_un {op : UnaryOp} {r : V -> Hp -> VK -> Prop} (ho : UnR X (unaryOp op) r) (ha : PE X a ta) : PE X (.UnaryOp op a pos) (tUn r ta) := by
  intro pins s σ H Q I h
  exact UnaryOp_ (thn (ha pins s σ H _ I h) fun v s1 ⟨x, H1, I1, r1, q1⟩ => ho pins s1 σ H1 x v Q I1 r1 q1)
theorem opI {f : Value -> Value -> Sem Value} {C : Int -> Int -> Prop} {g : Int -> Int -> Int}
    (rule : ∀ (i j : Int) (t u : Tok) (s : Shared) (Q : Value -> Shared -> Prop) (E : Value -> Shared -> Prop), C i j -> Q (.int (g i j) s.toks) { s with toks := s.toks + 1 } -> wpAny (model X.prog X.w) X.A (f (.int i t) (.int j u)) Q E s) :
    OpR X f (rI C fun i j => .int (g i j)) := by
  intro pins s σ H x y v u Q I rx ry h
  obtain ⟨i, j, rfl, rfl, hc, q⟩ := h
  obtain ⟨t, rfl⟩ := rx
  obtain ⟨t', rfl⟩ := ry
  exact rule i j t t' s _ _ hc ⟨.int (g i j), H, I.tok _, ⟨_, rfl⟩, q⟩
theorem opI0 {f : Value -> Value -> Sem Value} {g : Int -> Int -> Int}
    (rule : ∀ (i j : Int) (t u : Tok) (s : Shared) (Q : Value -> Shared -> Prop) (E : Value -> Shared -> Prop), Q (.int (g i j) s.toks) { s with toks := s.toks + 1 } -> wpAny (model X.prog X.w) X.A (f (.int i t) (.int j u)) Q E s) :
    OpR X f (rI0 fun i j => .int (g i j)) := by
  intro pins s σ H x y v u Q I rx ry h
  obtain ⟨i, j, rfl, rfl, q⟩ := h
  obtain ⟨t, rfl⟩ := rx
  obtain ⟨t', rfl⟩ := ry
  exact rule i j t t' s _ _ ⟨.int (g i j), H, I.tok _, ⟨_, rfl⟩, q⟩
theorem opB0 {f : Value -> Value -> Sem Value} {g : Int -> Int -> Bool}
    (rule : ∀ (i j : Int) (t u : Tok) (s : Shared) (Q : Value -> Shared -> Prop) (E : Value -> Shared -> Prop), Q (.bool (g i j)) s -> wpAny (model X.prog X.w) X.A (f (.int i t) (.int j u)) Q E s) :
    OpR X f (rI0 fun i j => .bl (g i j)) := by
  intro pins s σ H x y v u Q I rx ry h
  obtain ⟨i, j, rfl, rfl, q⟩ := h
  obtain ⟨t, rfl⟩ := rx
  obtain ⟨t', rfl⟩ := ry
  exact rule i j t t' s _ _ ⟨.bl (g i j), H, I, rfl, q⟩
def CPow (i j : Int) : Prop := 0 <= j /\ j <= 1000000 /\ i.natAbs < 2 ^ 64
def CMul (i j : Int) : Prop := (-(2 ^ 64) < i /\ i < 2 ^ 64) \/ (-(2 ^ 64) < j /\ j < 2 ^ 64)
theorem CMul.ok {i j : Int} (h : CMul i j) : IntMulOk i j := by
  rcases h with ⟨h1, h2⟩ | ⟨h1, h2⟩
  . exact .of_left (intBits_le_64 h1 h2)
  . exact .of_right (intBits_le_64 h1 h2)
theorem op_add : OpR X (binaryOp .Add) (rI0 fun i j => .int (i + j)) := opI0 fun _ _ _ _ _ _ _ q => add_int q
theorem op_sub : OpR X (binaryOp .Sub) (rI0 fun i j => .int (i - j)) := opI0 fun _ _ _ _ _ _ _ q => sub_int q
theorem op_mod : OpR X (binaryOp .Mod) (rI (fun _ j => 0 < j) fun i j => .int (i % j)) := opI fun i j _ _ _ _ _ hc q => by
  have h1 : (0 : Int) < j := hc
  exact mod_int' (by omega) (by rw [Int.fmod_eq_emod_of_nonneg i (by omega)]; exact q)
theorem op_pow : OpR X (binaryOp .Pow) (rI CPow fun i j => .int (i ^ j.toNat)) := opI fun _ _ _ _ _ _ _ hc q => pow_int_small hc.1 hc.2.1 hc.2.2 q
theorem unI {f : Value -> Sem Value} {g : Int -> Int}
    (rule : ∀ (i : Int) (t : Tok) (s : Shared) (Q : Value -> Shared -> Prop) (E : Value -> Shared -> Prop), Q (.int (g i) s.toks) { s with toks := s.toks + 1 } -> wpAny (model X.prog X.w) X.A (f (.int i t)) Q E s) :
    UnR X f (rU fun i => .int (g i)) := by
  intro pins s σ H x v Q I rx h
  obtain ⟨i, rfl, q⟩ := h
  obtain ⟨t, rfl⟩ := rx
  exact rule i t s _ _ ⟨.int (g i), H, I.tok _, ⟨_, rfl⟩, q⟩
theorem un_neg : UnR X (unaryOp .USub) (rU fun i => .int (-i)) := unI fun _ _ _ _ _ q => neg_int q
end
def scal : V -> V -> Bool
  | .non, .non => true | .non, .int _ => true | .int _, .non => true | .non, .bl _ => true | .bl _, .non => true | .non, .str _ => true | .str _, .non => true
  | .int _, .int _ => true | .bl _, .bl _ => true | .str _, .str _ => true | .byt _, .byt _ => true
  | .int _, .str _ => true | .str _, .int _ => true | .bl _, .str _ => true | .str _, .bl _ => true
  | _, _ => false
def rEq : R2 := fun x y H Q => scal x y = true /\ Q (.bl (decide (x = y))) H
def rNe : R2 := fun x y H Q => scal x y = true /\ Q (.bl (!decide (x = y))) H
theorem zeE {i j : Int} : decide (V.int i = V.int j) = (i == j) := by
  rw [Bool.eq_iff_iff]
  simp
theorem dec_bl {i j : Bool} : decide (V.bl i = V.bl j) = (i == j) := by
  rw [Bool.eq_iff_iff]
  simp
theorem zeF {i j : Str} : decide (V.str i = V.str j) = (i == j) := by
  rw [Bool.eq_iff_iff]
  simp
theorem zeG {i j : Array UInt8} : decide (V.byt i = V.byt j) = (i.toList == j.toList) := by
  rw [Bool.eq_iff_iff]
  cases i
  cases j
  simp
section
variable {X : Cx} {a b c : Expr} {ta tb tc : TE} {pos : Pos}
theorem fin_bl {pins : List (Addr × Obj)} {σ : St} {H : Hp} {s : Shared} {Q : VK} {k k' : Bool} (I : Inv X pins σ H s) (q : Q (.bl k) H) (e : k = k') : EP X pins σ Q (.bool k') s := by
  subst e
  exact ⟨.bl k, H, I, rfl, q⟩
theorem op_eq : OpR X (compareOp .Eq) rEq := by
  intro pins s σ H x y v u Q I rx ry h
  obtain ⟨hs, q⟩ := h
  cases x with
  | non =>
    cases rx
    cases y with
    | non => cases ry; exact PySem.EqNone.eq_none_none (fin_bl I q (by simp))
    | bl j => cases ry; exact PySem.EqNone.eq_none_bool (fin_bl I q (by simp))
    | int j => obtain ⟨t', rfl⟩ := ry; exact PySem.EqNone.eq_none_int (fin_bl I q (by simp))
    | str j => obtain ⟨t', rfl⟩ := ry; exact PySem.EqNone.eq_none_str (fin_bl I q (by simp))
    | _ => exact absurd (show false = true from hs) Bool.false_ne_true
  | bl i =>
    cases rx
    cases y with
    | non => cases ry; exact PySem.EqNone.eq_bool_none (fin_bl I q (by simp))
    | bl j => cases ry; exact eq_bool (fin_bl I q dec_bl)
    | str j => obtain ⟨t', rfl⟩ := ry; exact PySem.EqMixed.eq_bool_str (fin_bl I q (by simp))
    | _ => exact absurd (show false = true from hs) Bool.false_ne_true
  | int i =>
    obtain ⟨t, rfl⟩ := rx
    cases y with
    | non => cases ry; exact PySem.EqNone.eq_int_none (fin_bl I q (by simp))
    | int j => obtain ⟨t', rfl⟩ := ry; exact eq_int (fin_bl I q zeE)
    | str j => obtain ⟨t', rfl⟩ := ry; exact PySem.EqMixed.eq_int_str (fin_bl I q (by simp))
    | _ => exact absurd (show false = true from hs) Bool.false_ne_true
  | str i =>
    obtain ⟨t, rfl⟩ := rx
    cases y with
    | non => cases ry; exact PySem.EqNone.eq_str_none (fin_bl I q (by simp))
    | bl j => cases ry; exact PySem.EqMixed.eq_str_bool (fin_bl I q (by simp))
    | int j => obtain ⟨t', rfl⟩ := ry; exact PySem.EqMixed.eq_str_int (fin_bl I q (by simp))
    | str j => obtain ⟨t', rfl⟩ := ry; exact eq_str (fin_bl I q zeF)
    | _ => exact absurd (show false = true from hs) Bool.false_ne_true
  | byt i =>
    obtain ⟨t, rfl⟩ := rx
    cases y with
    | byt j => obtain ⟨t', rfl⟩ := ry; exact PySem.W.eq_bytes (fin_bl I q zeG)
    | _ => exact absurd (show false = true from hs) Bool.false_ne_true
  | _ => cases y <;> exact absurd (show false = true from hs) Bool.false_ne_true
theorem op_ne : OpR X (compareOp .NotEq) rNe := by
  intro pins s σ H x y v u Q I rx ry h
  obtain ⟨hs, q⟩ := h
  cases x with
  | non =>
    cases rx
    cases y with
    | non => cases ry; exact PySem.EqNone.ne_none_none (fin_bl I q (by simp))
    | bl j => cases ry; exact PySem.EqNone.ne_none_bool (fin_bl I q (by simp))
    | int j => obtain ⟨t', rfl⟩ := ry; exact PySem.EqNone.ne_none_int (fin_bl I q (by simp))
    | str j => obtain ⟨t', rfl⟩ := ry; exact PySem.EqNone.ne_none_str (fin_bl I q (by simp))
    | _ => exact absurd (show false = true from hs) Bool.false_ne_true
  | bl i =>
    cases rx
    cases y with
    | non => cases ry; exact PySem.EqNone.ne_bool_none (fin_bl I q (by simp))
    | bl j => cases ry; exact ne_bool (fin_bl I q (congrArg not dec_bl))
    | str j => obtain ⟨t', rfl⟩ := ry; exact PySem.EqMixed.ne_bool_str (fin_bl I q (by simp))
    | _ => exact absurd (show false = true from hs) Bool.false_ne_true
  | int i =>
    obtain ⟨t, rfl⟩ := rx
    cases y with
    | non => cases ry; exact PySem.EqNone.ne_int_none (fin_bl I q (by simp))
    | int j => obtain ⟨t', rfl⟩ := ry; exact ne_int (fin_bl I q (congrArg not zeE))
    | str j => obtain ⟨t', rfl⟩ := ry; exact PySem.EqMixed.ne_int_str (fin_bl I q (by simp))
    | _ => exact absurd (show false = true from hs) Bool.false_ne_true
  | str i =>
    obtain ⟨t, rfl⟩ := rx
    cases y with
    | non => cases ry; exact PySem.EqNone.ne_str_none (fin_bl I q (by simp))
    | bl j => cases ry; exact PySem.EqMixed.ne_str_bool (fin_bl I q (by simp))
    | int j => obtain ⟨t', rfl⟩ := ry; exact PySem.EqMixed.ne_str_int (fin_bl I q (by simp))
    | str j => obtain ⟨t', rfl⟩ := ry; exact ne_str (fin_bl I q (congrArg not zeF))
    | _ => exact absurd (show false = true from hs) Bool.false_ne_true
  | byt i =>
    obtain ⟨t, rfl⟩ := rx
    cases y with
    | byt j => obtain ⟨t', rfl⟩ := ry; exact PySem.W.ne_bytes (fin_bl I q (congrArg not zeG))
    | _ => exact absurd (show false = true from hs) Bool.false_ne_true
  | _ => cases y <;> exact absurd (show false = true from hs) Bool.false_ne_true
theorem op_lt : OpR X (compareOp .Lt) (rI0 fun i j => .bl (decide (i < j))) := opB0 fun _ _ _ _ _ _ _ q => lt_int q
theorem op_le : OpR X (compareOp .LtE) (rI0 fun i j => .bl (decide (i <= j))) := opB0 fun _ _ _ _ _ _ _ q => le_int q
theorem op_gt : OpR X (compareOp .Gt) (rI0 fun i j => .bl (decide (j < i))) := opB0 fun _ _ _ _ _ _ _ q => gt_int q
theorem op_ge : OpR X (compareOp .GtE) (rI0 fun i j => .bl (decide (j <= i))) := opB0 fun _ _ _ _ _ _ _ q => ge_int q
theorem zfY : OpR X (compareOp .Lt) (fun x y H Q => ∃ i j, x = .str i /\ y = .str j /\ Q (.bl (decide (i.cps.toList < j.cps.toList))) H) := by
  intro pins s σ H x y v u Q I rx ry h
  obtain ⟨i, j, rfl, rfl, q⟩ := h
  obtain ⟨t, rfl⟩ := rx
  obtain ⟨t', rfl⟩ := ry
  exact lt_str (fin_bl I q rfl)
theorem zfZ : OpR X (compareOp .In) (fun x y H Q => ∃ i j, x = .str i /\ y = .str j /\ Q (.bl (!(Builtin.Str.occurrences j i 0 j.length 1).isEmpty)) H) := by
  intro pins s σ H x y v u Q I rx ry h
  obtain ⟨i, j, rfl, rfl, q⟩ := h
  obtain ⟨t, rfl⟩ := rx
  obtain ⟨t', rfl⟩ := ry
  exact in_str (fin_bl I q rfl)
theorem OpR.or {f : Value -> Value -> Sem Value} {r r' : R2} (h : OpR X f r) (h' : OpR X f r') : OpR X f (fun x y H Q => r x y H Q \/ r' x y H Q) := by
  intro pins s σ H x y v u Q I rx ry q
  rcases q with q | q
  . exact h pins s σ H x y v u Q I rx ry q
  . exact h' pins s σ H x y v u Q I rx ry q
theorem nomark (b : Expr) {op : CmpOp} (h : op ≠ .In := by decide) (h2 : op ≠ .NotIn := by decide) : behindInMarks op b = false := by
  have e1 : (op == CmpOp.In) = false := by cases op <;> first | rfl | exact absurd rfl h
  have e2 : (op == CmpOp.NotIn) = false := by cases op <;> first | rfl | exact absurd rfl h2
  cases b <;> simp [behindInMarks, e1, e2]
theorem zhE {op : CmpOp} {r : R2} (ho : OpR X (compareOp op) r) (ha : PE X a ta) (hb : PE X b tb) (hm : behindInMarks op b = false) : PE X (.Compare a [op] [b] pos) (tOp r ta tb) := by
  intro pins s σ H Q I h
  exact wpAny_Compare1 (binT ha hb I h fun v u s2 x y H2 I2 rx ry q => ho pins s2 σ H2 x y v u Q I2 rx ry q) hm
def tTest (t : TE) : TT := fun σ H Q => t σ H fun x H' => ∃ k, x = .bl k /\ Q k H'
theorem zhF {op : CmpOp} {r : R2} (ho : OpR X (compareOp op) r) (ha : PE X a ta) (hb : PE X b tb) (hm : behindInMarks op b = false) : PT X (.Compare a [op] [b] pos) (tTest (tOp r ta tb)) := by
  intro pins s σ H Q I h
  refine wpAny_isTrue_Compare1 (thn (ha pins s σ H _ I h) fun v s1 ⟨x, H1, I1, r1, q1⟩ => thn (hb pins s1 σ H1 _ I1 q1) fun u s2 ⟨y, H2, I2, r2, q2⟩ =>
    thn (ho pins s2 σ H2 x y v u _ I2 r1 r2 q2) fun c s3 ⟨z, H3, I3, r3, k, e, q3⟩ => ?_) hm
  subst e
  cases r3
  exact wpAny_truthy_bool ⟨H3, I3, q3⟩
def tChain (r r' : R2) (ta tb tc : TE) : TE := fun σ H Q => ta σ H fun x H1 => tb σ H1 fun y H2 => r x y H2 fun z H3 => ∃ k, z = .bl k /\
  (if k = true then tc σ H3 fun w' H4 => r' y w' H4 Q else Q (.bl false) H3)
theorem zgF {op op' : CmpOp} {r r' : R2} (ho : OpR X (compareOp op) r) (ho' : OpR X (compareOp op') r') (ha : PE X a ta) (hb : PE X b tb) (hc : PE X c tc)
    (hm : lastMarks [op, op'] [b, c] = false := by with_unfolding_all rfl) : PE X (.Compare a [op, op'] [b, c] pos) (tChain r r' ta tb tc) := by
  intro pins s σ H Q I h
  refine Compare_chain (thn (ha pins s σ H _ I h) fun v s1 ⟨x, H1, I1, r1, q1⟩ => chain_link (thn (hb pins s1 σ H1 _ I1 q1) fun u s2 ⟨y, H2, I2, r2, q2⟩ =>
    thn (ho pins s2 σ H2 x y v u _ I2 r1 r2 q2) fun d s3 ⟨z, H3, I3, r3, k, e, q3⟩ => ?_)) hm
  subst e
  cases r3
  refine wpAny_truthy_bool ?_
  cases k with
  | false => exact ite_ff ⟨.bl false, H3, I3, rfl, q3⟩
  | true => exact ite_tt (chain_last (thn (hc pins s3 σ H3 _ I3 q3) fun w' s4 ⟨z', H4, I4, r4, q4⟩ => ho' pins s4 σ H4 y z' u w' Q I4 r2 r4 q4))
theorem zgG {op op' : CmpOp} {r r' : R2} (ho : OpR X (compareOp op) r) (ho' : OpR X (compareOp op') r') (ha : PE X a ta) (hb : PE X b tb) (hc : PE X c tc)
    (hm : lastMarks [op, op'] [b, c] = false := by with_unfolding_all rfl) : PT X (.Compare a [op, op'] [b, c] pos) (tTest (tChain r r' ta tb tc)) := by
  intro pins s σ H Q I h
  refine isTrue_chain (thn (ha pins s σ H _ I h) fun v s1 ⟨x, H1, I1, r1, q1⟩ => test_link (thn (hb pins s1 σ H1 _ I1 q1) fun u s2 ⟨y, H2, I2, r2, q2⟩ =>
    thn (ho pins s2 σ H2 x y v u _ I2 r1 r2 q2) fun d s3 ⟨z, H3, I3, r3, k, e, q3⟩ => ?_)) hm
  subst e
  cases r3
  refine wpAny_truthy_bool ?_
  cases k with
  | false =>
    obtain ⟨k', e', q'⟩ := q3
    cases e'
    exact ite_ff ⟨H3, I3, q'⟩
  | true =>
    refine ite_tt (test_last (thn (hc pins s3 σ H3 _ I3 q3) fun w' s4 ⟨z', H4, I4, r4, q4⟩ => thn (ho' pins s4 σ H4 y z' u w' _ I4 r2 r4 q4) fun d' s5 ⟨z2, H5, I5, r5, k2, e2, q5⟩ => ?_))
    subst e2
    cases r5
    exact wpAny_truthy_bool ⟨H5, I5, q5⟩
def TruV (K : PySem.W.Frag) (x : V) (H : Hp) (k : Bool) : Prop :=
  match x with
  | .non => k = false
  | .bl b => k = b
  | .int i => k = (i != 0)
  | .str y => y.length <= sizeLine /\ k = ((y.length : Int) != 0)
  | .byt y => y.size <= sizeLine /\ k = ((y.size : Int) != 0)
  | .ref p => (∃ xs, SqL K H p xs /\ k = !xs.isEmpty) \/ (∃ xs, SqT K H p xs /\ k = !xs.isEmpty) \/ ∃ kvs, H p = some (.dK kvs) /\ k = !kvs.isEmpty
  | _ => False
theorem zfr {κ : Type} {kvs : List (κ × V)} {vs : List (κ × Value)} (r : KV kvs vs) : (!vs.isEmpty) = !kvs.isEmpty := by
  cases r <;> rfl
theorem zcI {xs : List V} {its : List Value} (r : Vals xs its) : (!its.toArray.isEmpty) = !xs.isEmpty := by
  cases r <;> simp
theorem line63 : (sizeLine : Nat) < 2 ^ 63 := by rw [sizeLine_eq]; decide
theorem tru_ok : TruR X (fun x H Q => ∃ k, TruV X.K x H k /\ Q k H) := by
  intro pins s σ H x v Q I rx h
  obtain ⟨k, e, q⟩ := h
  have hl := line63
  have hs : sizeLine = 16777216 := sizeLine_eq
  cases x with
  | non =>
    cases rx
    have e' : k = false := e
    subst e'
    exact truthy_none ⟨H, I, q⟩
  | bl b =>
    cases rx
    have e' : k = b := e
    subst e'
    exact wpAny_truthy_bool ⟨H, I, q⟩
  | int i =>
    obtain ⟨t, rfl⟩ := rx
    have e' : k = (i != 0) := e
    subst e'
    exact PySem.P.truthy_int ⟨H, I, q⟩
  | str y =>
    obtain ⟨t, rfl⟩ := rx
    obtain ⟨hy, e'⟩ : y.length <= sizeLine /\ k = ((y.length : Int) != 0) := e
    subst e'
    exact PySem.P.truthy_str (by omega) ⟨H, I.tok _, q⟩
  | byt y =>
    obtain ⟨t, rfl⟩ := rx
    obtain ⟨hy, e'⟩ : y.size <= sizeLine /\ k = ((y.size : Int) != 0) := e
    subst e'
    exact PySem.W.truthy_bytes (by omega) ⟨H, I.tok _, q⟩
  | ref p =>
    cases rx
    have e' : (∃ xs, SqL X.K H p xs /\ k = !xs.isEmpty) \/ (∃ xs, SqT X.K H p xs /\ k = !xs.isEmpty) \/ ∃ kvs, H p = some (.dK kvs) /\ k = !kvs.isEmpty := e
    rcases e' with ⟨xs, hx, e'⟩ | ⟨xs, hx, e'⟩ | ⟨kvs, hx, e'⟩
    . subst e'
      obtain ⟨its, r, pl, hz⟩ := I.list hx
      have hlen := r.length
      exact wpAny_truthy_list pl.isList (by simp only [List.size_toArray]; omega) ⟨H, I.tok _, by rw [zcI r]; exact q⟩
    . subst e'
      obtain ⟨its, r, pl, hz⟩ := I.tuple hx
      have hlen := r.length
      exact truthy_tuple pl (by simp only [List.size_toArray]; omega) ⟨H, I.tok _, by rw [zcI r]; exact q⟩
    . subst e'
      obtain ⟨hz, hS, vs, r, m⟩ : kvs.length <= sizeLine /\ (p == sysModules) = false /\ ∃ vs, KV kvs vs /\ s.heap.DictOf (mixKind X.prog X.w) p vs := I.hok p _ hx
      have hlen : kvs.length = vs.length := Paired.length r
      exact wpAny_truthy_dict hS m (by omega) ⟨H, I.tok _, by rw [zfr r]; exact q⟩
  | _ => exact (show False from e).elim
theorem zgH (ha : PE X a ta) (he : ∀ whole, isTrue a X.env whole = (do let v <- whole; standAt a.pos; holding [v] (truthy v))) :
    PT X a (fun σ H Q => ta σ H fun x H' => ∃ k, TruV X.K x H' k /\ Q k H') := by
  intro pins s σ H Q I h
  exact isTrue_plain (thn (ha pins s σ H _ I h) fun v s1 ⟨x, H1, I1, r1, q1⟩ => tru_ok pins s1 σ H1 x v Q I1 r1 q1) (he _)
theorem zfs : OpR X (binaryOp .Add) (fun x y H Q => ∃ i j, x = .str i /\ y = .str j /\ i.length + j.length <= sizeLine /\ Q (.str (i ++ j)) H) := by
  intro pins s σ H x y v u Q I rx ry h
  obtain ⟨i, j, rfl, rfl, hz, q⟩ := h
  obtain ⟨t, rfl⟩ := rx
  obtain ⟨t', rfl⟩ := ry
  exact add_str (fun t' tk => ⟨.str (i ++ j), H, I.tok _, ⟨_, rfl⟩, q⟩) hz
theorem vals1 {x : V} {us : List Value} (r : Vals [x] us) : ∃ u, us = [u] /\ RelV x u := by
  cases r with
  | cons r1 r2 => cases r2; exact ⟨_, rfl, r1⟩
theorem vals2 {x y : V} {us : List Value} (r : Vals [x, y] us) : ∃ u w', us = [u, w'] /\ RelV x u /\ RelV y w' := by
  cases r with
  | cons r1 r2 =>
    cases r2 with
    | cons r3 r4 => cases r4; exact ⟨_, _, rfl, r1, r3⟩
theorem zgI : CallR X (.builtin "abs") (fun xs H Q => ∃ i, xs = [.int i] /\ Q (.int (if i < 0 then -i else i)) H) := by
  intro pins s σ H xs us Q I r h
  obtain ⟨i, rfl, q⟩ := h
  obtain ⟨u, rfl, t, rfl⟩ := vals1 r
  exact call_abs_int fun u tk => ⟨.int (if i < 0 then -i else i), H, I.tok _, ⟨_, rfl⟩, q⟩
theorem zf0 (hc : X.calm = true) : CallR X (.builtin "max") (fun xs H Q => ∃ i j, xs = [.int i, .int j] /\ Q (.int (if j > i then j else i)) H) := by
  intro pins s σ H xs us Q I r h
  obtain ⟨i, j, rfl, q⟩ := h
  obtain ⟨u, w', rfl, ⟨t, rfl⟩, ⟨t', rfl⟩⟩ := vals2 r
  refine max_two_ints (I.ok.hd hc) fun h' tk k => ⟨_, H, I.kept k, ?_, q⟩
  by_cases hj : j > i
  . rw [if_pos hj, if_pos hj]; exact ⟨_, rfl⟩
  . rw [if_neg hj, if_neg hj]; exact ⟨_, rfl⟩
end
end L2
namespace L2
open PySem PySem.Spec PyProof.Rows
structure ObjM (h : Heap) (x dx C : Addr) (mA : Str -> Option Value) : Prop where
  obj : h.get? x = some (PySem.W.instObj C dx)
  ns : h.Ns1 dx mA
  ne : dx ≠ x
theorem zf1 {h : Heap} {dx : Addr} {mA : Str -> Option Value} (n : h.Ns1 dx mA) : ∃ od, h.get? dx = some od /\ ∀ name, PySem.W.lookIn name od = some (mA name) := by
  obtain ⟨o, es, ep, ho, hd, hk, _, hm⟩ := n
  refine ⟨o, ho, fun name => ?_⟩
  have e := hm name
  unfold nsFind findBy at e
  rw [<- Array.find?_toList] at e
  unfold PySem.W.lookIn
  rw [hd]
  dsimp only
  split
  . rename_i y q
    rw [q] at e
    exact congrArg some e
  . rename_i q
    rw [q] at e
    have a : es.toList.any (·.refKey) = false := by
      rw [List.any_eq_false]
      intro y hy
      obtain ⟨z, t, hkey⟩ := hk y (Array.mem_toList_iff.mp hy)
      simp [DictEntry.refKey, hkey]
    have a' : ¬ es.toList.any (·.refKey) = true := by rw [a]; exact Bool.false_ne_true
    rw [if_neg a']
    exact congrArg some e
theorem ObjM.look {h : Heap} {x dx C : Addr} {mA : Str -> Option Value} (I : ObjM h x dx C mA) : ∃ od, PySem.W.InstAt h x (PySem.W.instObj C dx) C (some od) /\ ∀ name, PySem.W.lookIn name od = some (mA name) :=
  let ⟨od, ho, hl⟩ := zf1 I.ns
  ⟨od, ⟨I.obj, rfl, rfl, ho⟩, hl⟩
section
variable {prog : Program} {w : World} {A : Around} {E : Value -> Shared -> Prop} {s : Shared} {K : PySem.W.Frag} {x dx C f : Addr} {mA : Str -> Option Value} {name : Str} {v : Value}
theorem zhG {expr : Bool} {Q : Value -> Shared -> Prop} (X : K.In s.heap) (I : ObjM s.heap x dx C mA) (hg : PySem.W.plainGet K C name = true) (hh : PySem.W.hasDictIn K C = true)
    (ha : PySem.W.findIn K (.ref C) name = some none) (hv : mA name = some v) (hv' : PySem.W.handedIn v = true) (h : Q v { s with toks := s.toks + 1 }) :
    wpAny (model prog w) A (getAttr (.ref x) name expr) Q E s := by
  obtain ⟨od, J, hl⟩ := I.look
  exact PySem.W.get_value X J (PySem.W.plainGet_of hg).1 (PySem.W.findObj_own hh ha rfl (by rw [hl, hv])) hv' h
theorem zgJ {pl : Sem Bool} {Q : Value × List Value -> Shared -> Prop} (X : K.In s.heap) (I : ObjM s.heap x dx C mA) (hg : PySem.W.plainGet K C name = true)
    (hf : PySem.W.findIn K (.ref C) name = some (some (.ref f))) (ht : PySem.W.isFn K (.ref f) = true) (hv : mA name = none) (h : Q (.ref f, [.ref x]) s) :
    wpAny (model prog w) A (getMethod (.ref x) name pl) Q E s := by
  obtain ⟨od, J, hl⟩ := I.look
  exact PySem.W.method_fn X J (PySem.W.plainGet_of hg).1 (PySem.W.plainGet_of hg).2 hf (beq_iff_eq.mp ht) (by show (PySem.W.lookIn name od).map (·.isSome) = some false; rw [hl, hv]; rfl) h
theorem zhH {ns : List Str} {Q : Unit -> Shared -> Prop} (X : K.In s.heap) (I : ObjM s.heap x dx C mA)
    (hs : PySem.W.findIn K (.ref C) "__setattr__" = some (some (.builtin "object.__setattr__"))) (hp : PySem.W.plainOver K C = true) (ht : PySem.W.takerIn K C name = some none) (hh : PySem.W.hasDictIn K C = true)
    (hw : PySem.Within mA ns) (hsz : ns.length <= sizeLine)
    (h : ∀ h', ObjM h' x dx C (fun y => if y = name then some v else mA y) -> Heap.SameBut dx s.heap h' -> Q () { s with heap := h', toks := s.toks + 2 }) :
    wpAny (model prog w) A (setAttr (.ref x) name v) Q E s := by
  obtain ⟨od, J, hl⟩ := I.look
  refine PySem.W.set_plain X J hs (PySem.W.osa_open (s := { s with toks := s.toks + 1 }) (r := none) X J hp ht fun b => ?_)
  obtain ⟨cd, hc, hd'⟩ := PySem.W.any_some hh
  have hx : s.heap.get? x = some ⟨.ref C, some dx, .plain, #[]⟩ := I.obj
  refine wpAny_bind (wpAny_pure (wpAny_bind (wpAny_bind (wpAny_loadPart hx (wpAny_bind (PySem.W.Looks.here (s := { s with toks := s.toks + 1 }) (PySem.W.looks_clsIn X hc) ?_))))))
  rw [hd']
  refine wpAny_pure (a := some dx) (wpAny_bind (wpAny_pure (wpAny_bind ?_)))
  refine wpAny_nsSet1 (s := { s with toks := s.toks + 1 }) I.ns fun h' hn2 hs2 => ?_
  obtain ⟨oD, esD, epD, hoD, hdD, hcD⟩ := hn2.count (PySem.Within.cons name v hw)
  refine wpAny_bind (wpAny_lookBehind hoD (by rw [hdD]; exact pastItsLine_dict (Nat.le_trans hcD (by rw [List.length_cons]; omega))) ?_)
  exact wpAny_pure (h _ ⟨(hs2.2 _ (Ne.symm I.ne)).trans I.obj, hn2, I.ne⟩ hs2)
theorem zgK {R : Result -> Shared -> Prop} {vs : List Value} {kw : List (Str × Value)} (X : K.In s.heap) (hm : PySem.W.makesIn K C = true)
    (hi : PySem.W.findIn K (.ref C) "__init__" = some (some (.ref f))) (hf : PySem.W.typeIn K (.ref f) = some (.type "function"))
    (h : codeAny (model prog w) (A.under (.builtin "type.__call__" ⟨.ref C :: vs, kw⟩)) (.call (.ref f) ⟨.ref (s.heap.objs.size + 1) :: vs, kw⟩) (PySem.W.InitBack (s.heap.objs.size + 1) R)
      { s with heap := (s.heap.push PySem.W.emptyDict).push (PySem.W.instObj C s.heap.objs.size) }) :
    codeAny (model prog w) A (.call (.ref C) ⟨vs, kw⟩) R s := by
  obtain ⟨hh, g, d, t, os⟩ := s
  exact PySem.W.make_core (PySem.W.makes_of X hm) (PySem.W.looks_findIn X hi) (fun self => PySem.W.bind_fn X self hf) (.inl rfl) h
end
def putF (f : Str) (v : V) : List (Str × V) -> List (Str × V)
  | [] => [(f, v)]
  | (g, x) :: r => if g = f then (g, v) :: r else (g, x) :: putF f v r
theorem zaP (f g : Str) (v : V) : ∀ fs : List (Str × V), (putF f v fs).lookup g = if g = f then some v else fs.lookup g
  | [] => by
    show List.lookup g [(f, v)] = _
    by_cases h : g = f
    . have hb : (g == f) = true := beq_iff_eq.mpr h
      simp only [List.lookup, hb, if_pos h]
    . have hb : (g == f) = false := beq_eq_false_iff_ne.mpr h
      simp only [List.lookup, hb, if_neg h]
  | (k, x) :: r => by
    have ih := zaP f g v r
    rw [show putF f v ((k, x) :: r) = (if k = f then (k, v) :: r else (k, x) :: putF f v r) from rfl]
    by_cases hk : k = f
    . rw [if_pos hk]
      by_cases h : g = k
      . have hb : (g == k) = true := beq_iff_eq.mpr h
        simp only [List.lookup, hb, if_pos (h.trans hk)]
      . have hb : (g == k) = false := beq_eq_false_iff_ne.mpr h
        simp only [List.lookup, hb, if_neg (fun e : g = f => h (e.trans hk.symm))]
    . rw [if_neg hk]
      by_cases h : g = k
      . have hb : (g == k) = true := beq_iff_eq.mpr h
        simp only [List.lookup, hb, if_neg (fun e : g = f => hk (h.symm.trans e))]
      . have hb : (g == k) = false := beq_eq_false_iff_ne.mpr h
        simp only [List.lookup, hb]
        exact ih
theorem zbL (f : Str) (v : V) : ∀ fs : List (Str × V), f ∈ (putF f v fs).map (·.1) /\ ∀ g, g ∈ fs.map (·.1) -> g ∈ (putF f v fs).map (·.1)
  | [] => ⟨by simp [putF], fun g h => by simp at h⟩
  | (k, x) :: r => by
    obtain ⟨i1, i2⟩ := zbL f v r
    rw [show putF f v ((k, x) :: r) = (if k = f then (k, v) :: r else (k, x) :: putF f v r) from rfl]
    by_cases hk : k = f
    . rw [if_pos hk]
      subst hk
      exact ⟨by simp, fun g h => by simpa using h⟩
    . rw [if_neg hk]
      refine ⟨?_, fun g h => ?_⟩
      . rw [List.map_cons]
        exact List.mem_cons_of_mem _ i1
      . rw [List.map_cons] at h ⊢
        rcases List.mem_cons.mp h with e | e
        . exact List.mem_cons.mpr (.inl e)
        . exact List.mem_cons_of_mem _ (i2 g e)
theorem zcg (f : Str) (v : V) : ∀ fs : List (Str × V), (putF f v fs).length <= fs.length + 1
  | [] => by simp [putF]
  | (k, x) :: r => by
    have ih := zcg f v r
    rw [show putF f v ((k, x) :: r) = (if k = f then (k, v) :: r else (k, x) :: putF f v r) from rfl]
    by_cases hk : k = f
    . rw [if_pos hk, List.length_cons, List.length_cons]; omega
    . rw [if_neg hk, List.length_cons, List.length_cons]; omega
theorem RelO.some_of {v : V} {o : Option Value} (r : RelO (some v) o) : ∃ u, o = some u /\ RelV v u := by
  cases o with
  | none => exact (show False from r).elim
  | some u => exact ⟨u, rfl, r⟩
theorem RelO.none_of {o : Option Value} (r : RelO none o) : o = none := by
  cases o with
  | none => rfl
  | some u => exact (show False from r).elim
theorem zf2 {v : V} {u : Value} (r : RelV v u) : PySem.W.handedIn u = true := by
  cases v with
  | non => cases (show u = Value.none from r); rfl
  | bl b => cases (show u = Value.bool b from r); rfl
  | int i => obtain ⟨t, e⟩ := (show ∃ t, u = Value.int i t from r); cases e; rfl
  | str x => obtain ⟨t, e⟩ := (show ∃ t, u = Value.str x t from r); cases e; rfl
  | byt b => obtain ⟨t, e⟩ := (show ∃ t, u = Value.bytes b t from r); cases e; rfl
  | flt b => obtain ⟨t, e⟩ := (show ∃ t, u = Value.float b t from r); cases e; rfl
  | ref a => cases (show u = Value.ref a from r); rfl
  | ty n => cases (show u = Value.type n from r); rfl
section
variable {P : Program} {w : World} {H H' : Hp} {h h' : Heap} {a C dx : Addr} {fs fs' : List (Str × V)}
theorem zb1 (hok : HOk P w H h) (e : H a = some (.ins C dx fs)) : ∃ mA, ObjM h a dx C mA /\ (∀ f, RelO (fs.lookup f) (mA f)) /\ PySem.Within mA (fs.map (·.1)) /\ fs.length <= 1000 /\ H dx = some (.own a) := by
  obtain ⟨d, z, ne, ob, mA, n, r, q⟩ := (show ObjOk P w H h a (.ins C dx fs) from hok a _ e)
  exact ⟨mA, ⟨ob, n, ne⟩, r, q, z, d⟩
end
structure Cls (K : PySem.W.Frag) (C : Addr) : Prop where
  pg : PySem.W.plainGet K C Str.empty = true
  hd : PySem.W.hasDictIn K C = true
  po : PySem.W.plainOver K C = true
  sa : PySem.W.findIn K (.ref C) "__setattr__" = some (some (.builtin "object.__setattr__"))
theorem Cls.get {K : PySem.W.Frag} {C : Addr} (c : Cls K C) (f : Str) : PySem.W.plainGet K C f = true := c.pg
def NoAttr (K : PySem.W.Frag) (C : Addr) (f : Str) : Prop := PySem.W.findIn K (.ref C) f = some none
theorem NoAttr.taker {K : PySem.W.Frag} {C : Addr} {f : Str} (n : NoAttr K C f) : PySem.W.takerIn K C f = some none := by
  unfold PySem.W.takerIn
  rw [show PySem.W.findIn K (.ref C) f = some none from n]
  rfl
structure Meth (K : PySem.W.Frag) (C : Addr) (m : Str) (f : Addr) : Prop where
  at_ : PySem.W.findIn K (.ref C) m = some (some (.ref f))
  fn : PySem.W.isFn K (.ref f) = true
  kp : PySem.W.keepIn K (.ref f) = true
section
variable {X : Cx} {pins : List (Addr × Obj)} {σ : St} {H : Hp} {s : Shared} {a C dx : Addr} {fs : List (Str × V)} {f : Str} {v : V} {A : Around} {E : Value -> Shared -> Prop}
theorem zft {b : Bool} {Q : Value -> Shared -> Prop} (I : Inv X pins σ H s) (e : H a = some (.ins C dx fs)) (c : Cls X.K C) (n : NoAttr X.K C f) (l : fs.lookup f = some v)
    (h : ∀ u s', Inv X pins σ H s' -> RelV v u -> Q u s') : wpAny (model X.prog X.w) A (getAttr (.ref a) f b) Q E s := by
  obtain ⟨mA, O, r, _, _, _⟩ := zb1 I.hok e
  obtain ⟨u, hu, ru⟩ := RelO.some_of (v := v) (o := mA f) (by rw [<- l]; exact r f)
  exact zhG I.kIn O (c.get f) c.hd n hu (zf2 ru) (h u _ (I.tok _) ru)
theorem zfu {m : Str} {g : Addr} {pl : Sem Bool} {Q : Value × List Value -> Shared -> Prop} (I : Inv X pins σ H s) (e : H a = some (.ins C dx fs)) (c : Cls X.K C) (k : Meth X.K C m g) (l : fs.lookup m = none)
    (h : Q (.ref g, [.ref a]) s) : wpAny (model X.prog X.w) A (getMethod (.ref a) m pl) Q E s := by
  obtain ⟨mA, O, r, _, _, _⟩ := zb1 I.hok e
  have hn : mA m = none := RelO.none_of (by rw [<- l]; exact r m)
  exact zgJ I.kIn O (c.get m) k.at_ k.fn hn h
theorem zfv {y : V} {u : Value} {Q : Unit -> Shared -> Prop} (I : Inv X pins σ H s) (e : H a = some (.ins C dx fs)) (c : Cls X.K C) (n : NoAttr X.K C f) (hl : fs.length < 1000) (ry : RelV y u)
    (h : ∀ s', Inv X pins σ (upd H a (.ins C dx (putF f y fs))) s' -> Q () s') : wpAny (model X.prog X.w) A (setAttr (.ref a) f u) Q E s := by
  obtain ⟨mA, O, r, wi, _, ho⟩ := zb1 I.hok e
  have hz : (fs.map (·.1)).length <= sizeLine := by rw [List.length_map, sizeLine_eq]; omega
  refine zhH I.kIn O c.sa c.po n.taker c.hd wi hz fun h' O' sb => h _ ?_
  have hd : ∃ o, h'.get? dx = some o := let ⟨o, _, _, e', _⟩ := O'.ns; ⟨o, e'⟩
  refine I.write (x := a) (e := dx) (by rw [e]; exact True.intro) (.inr ho) (fun b q hb z => (sb.2 b hb).trans z) hd ?_
  refine ⟨by rw [upd_ne O.ne]; exact ho, ?_, O.ne, O'.obj, _, O'.ns, fun g => ?_, fun g hg => ?_⟩
  . have := zcg f y fs; omega
  . show RelO ((putF f y fs).lookup g) (if g = f then some u else mA g)
    rw [zaP]
    by_cases q : g = f
    . rw [if_pos q, if_pos q]; exact ry
    . rw [if_neg q, if_neg q]; exact r g
  . by_cases q : g = f
    . rw [q]; exact (zbL f y fs).1
    . refine (zbL f y fs).2 g (wi g fun z => hg ?_)
      show (if g = f then some u else mA g) = none
      rw [if_neg q]; exact z
theorem Inv.made (I : Inv X pins σ H s) : Inv X pins σ (upd (upd H s.heap.objs.size (.own (s.heap.objs.size + 1))) (s.heap.objs.size + 1) (.ins C s.heap.objs.size []))
    { s with heap := (s.heap.push PySem.W.emptyDict).push (PySem.W.instObj C s.heap.objs.size) } := by
  have e1 : (s.heap.push PySem.W.emptyDict).get? s.heap.objs.size = some PySem.W.emptyDict := Heap.get?_push_size s.heap rfl
  have e2 : ((s.heap.push PySem.W.emptyDict).push (PySem.W.instObj C s.heap.objs.size)).get? (s.heap.objs.size + 1) = some (PySem.W.instObj C s.heap.objs.size) := by
    have := Heap.get?_push_size (s.heap.push PySem.W.emptyDict) (o := PySem.W.instObj C s.heap.objs.size) rfl
    rwa [Heap.size_push] at this
  have e3 : (s.heap.push PySem.W.emptyDict).Ns s.heap.objs.size (fun _ => none) := ⟨PySem.W.emptyDict, #[], _, e1, rfl, (fun e he => absurd he (by simp)), fun _ => rfl⟩
  have I1 := I.laid (a := s.heap.objs.size) (o := .own (s.heap.objs.size + 1)) (h' := s.heap.push PySem.W.emptyDict) (t' := s.toks) (fun b u q => Heap.get?_push_of_some _ q) (Nat.le_refl _) ⟨_, e1⟩
  refine I1.laid (a := s.heap.objs.size + 1) (o := .ins C s.heap.objs.size []) (t' := s.toks) (fun b u q => Heap.get?_push_of_some _ q) (Nat.le_of_eq (Heap.size_push _ _)) ?_
  have ne : s.heap.objs.size ≠ s.heap.objs.size + 1 := Nat.ne_of_lt (Nat.lt_succ_self _)
  refine ⟨by rw [upd_ne ne, zam], Nat.zero_le _, ne, e2, fun _ => none, (Heap.Ns1.of_empty e3).at fun o q => Heap.get?_push_of_some _ q, fun _ => True.intro, fun y hy => absurd rfl hy⟩
theorem zhI {prog : Program} {w : World} {env : Env} {e : Expr} {f : Str} {pos : Pos} {s : Shared} {Q : Value -> Shared -> Prop} (hb : attributeBase e f env (eval e env) = eval e env)
    (h : wpAny (model prog w) A (eval e env) (fun o s₁ => wpAny (model prog w) A (getAttr o f true) Q E s₁) E s) : wpAny (model prog w) A (eval (.Attribute e f pos) env) Q E s :=
  Attribute_any_ h (by rw [arm_eval_Attribute, hb])
end
def tFld (K : PySem.W.Frag) (ta : TE) (f : Str) : TE := fun σ H Q => ta σ H fun x H1 => ∃ a C dx fs v, x = .ref a /\ H1 a = some (.ins C dx fs) /\ Cls K C /\ NoAttr K C f /\ fs.lookup f = some v /\ Q v H1
def sFld (K : PySem.W.Frag) (ta tv : TE) (f : Str) : TS := fun D σ H => tv σ H fun y H1 => ta σ H1 fun x H2 => ∃ a C dx fs, x = .ref a /\ H2 a = some (.ins C dx fs) /\ Cls K C /\ NoAttr K C f /\ fs.length < 1000 /\
  D.nx σ (upd H2 a (.ins C dx (putF f y fs)))
section
variable {X : Cx} {o e value : Expr} {f : Str} {pos pos' tpos : Pos} {ta tv : TE}
theorem pe_fld (he : PE X e ta) (hb : attributeBase e f X.env (eval e X.env) = eval e X.env) : PE X (.Attribute e f pos) (tFld X.K ta f) := by
  intro pins s σ H Q I h
  refine zhI hb (thn (he pins s σ H _ I h) fun u s1 ⟨x, H1, I1, rx, a, C, dx, fs, v, ex, ea, c, n, l, q⟩ => ?_)
  subst ex
  obtain rfl : u = Value.ref a := rx
  exact zft I1 ea c n l fun u' s2 I2 ru => ⟨v, H1, I2, ru, q⟩
theorem ps_fld (ha : PE X o ta) (hv : PE X value tv) (hs : swapsWith value (some (.Attribute o f pos')) pos.line X.env = pure false) : PS X (.Assign [.Attribute o f pos'] value pos) (sFld X.K ta tv f) := by
  intro pins s σ H D I h
  refine plainObj_wpAny_Assign_Attribute (thn (hv pins s σ H _ I h) fun u s1 ⟨y, H1, I1, ry, q⟩ => thn (ha pins s1 σ H1 _ I1 q) fun ov s2 ⟨x, H2, I2, rx, a, C, dx, fs, ex, ea, c, n, l, q2⟩ => ?_) hs
  subst ex
  obtain rfl : ov = Value.ref a := rx
  exact zfv I2 ea c n l ry fun s3 I3 => ⟨σ, _, I3, q2⟩
end
section
variable {X : Cx} {pins : List (Addr × Obj)} {σ : St} {H : Hp} {s : Shared} {A : Around} {E : Value -> Shared -> Prop} {Q : Value -> Shared -> Prop} {c : Value} {b : Bool}
inductive TyOf (K : PySem.W.Frag) (H : Hp) : V -> Value -> Prop where
  | non : TyOf K H .non (.type "NoneType")
  | bl (x : Bool) : TyOf K H (.bl x) (.type "bool")
  | int (i : Int) : TyOf K H (.int i) (.type "int")
  | str (x : Str) : TyOf K H (.str x) (.type "str")
  | flt (x : UInt64) : TyOf K H (.flt x) (.type "float")
  | lst {a : Addr} {xs : List V} (e : H a = some (.lst xs)) : TyOf K H (.ref a) (.type "list")
  | frz {a : Addr} {o : Obj} {xs : List V} (e : H a = some (.frz o (.lst xs))) : TyOf K H (.ref a) (.type "list")
  | tup {a : Addr} {xs : List V} (e : H a = some (.tup xs)) : TyOf K H (.ref a) (.type "tuple")
  | dK {a : Addr} {kvs : List (Key × V)} (e : H a = some (.dK kvs)) : TyOf K H (.ref a) (.type "dict")
  | dT {a : Addr} {kvs : List (List Key × V)} (e : H a = some (.dT kvs)) : TyOf K H (.ref a) (.type "dict")
  | ins {a C dx : Addr} {fs : List (Str × V)} (e : H a = some (.ins C dx fs)) (cl : Cls K C) (ha : PySem.W.findIn K (.ref C) "__class__" = some (some (.builtin "object.__class__")))
      (hn : PySem.W.specialIn K (.builtin "object.__class__") "__get__" = some (some (.builtin "getset_descriptor.__get__"))) (htk : PySem.W.takesIn K (.builtin "object.__class__") = some true)
      (hm : PySem.W.mroIn K C (.type "object") = some true) : TyOf K H (.ref a) (.ref C)
theorem zf3 {x : V} {u t : Value} (I : Inv X pins σ H s) (rx : RelV x u) (ty : TyOf X.K H x t) (e : PySem.W.kitOne X.K t c = some b) (h : ∀ tk, Q (.bool b) { s with toks := tk }) :
    wpAny (model X.prog X.w) A (call (.builtin "isinstance") [u, c]) Q E s := by
  cases ty with
  | non => cases (show u = Value.none from rx); exact PySem.W.kia_one PySem.W.kitx_none I.kIn True.intro e (fun z => nomatch z) h
  | bl y => cases (show u = Value.bool y from rx); exact PySem.W.kia_one PySem.W.kitx_bool I.kIn True.intro e (fun z => nomatch z) h
  | int i => obtain ⟨t, q⟩ := (show ∃ t, u = Value.int i t from rx); cases q; exact PySem.W.kia_one PySem.W.kitx_int I.kIn True.intro e (fun z => nomatch z) h
  | str y => obtain ⟨t, q⟩ := (show ∃ t, u = Value.str y t from rx); cases q; exact PySem.W.kia_one PySem.W.kitx_str I.kIn True.intro e (fun z => nomatch z) h
  | flt y => obtain ⟨t, q⟩ := (show ∃ t, u = Value.float y t from rx); cases q; exact PySem.W.kia_one PySem.W.kitx_float I.kIn True.intro e (fun z => nomatch z) h
  | @lst a xs ea =>
    cases (show u = Value.ref a from rx)
    obtain ⟨_, _, n, _, h1⟩ := (show ObjOk X.prog X.w H s.heap a (.lst xs) from I.hok a _ ea)
    exact PySem.W.kia_one PySem.W.kitx_list I.kIn ⟨_, h1, rfl⟩ e (fun z => nomatch z) h
  | @frz a ob xs ea =>
    cases (show u = Value.ref a from rx)
    obtain ⟨_, _, _, n, _, h1⟩ := (show ObjOk X.prog X.w H s.heap a (.frz ob (.lst xs)) from I.hok a _ ea)
    exact PySem.W.kia_one PySem.W.kitx_list I.kIn ⟨_, h1, rfl⟩ e (fun z => nomatch z) h
  | @tup a xs ea =>
    cases (show u = Value.ref a from rx)
    obtain ⟨_, _, _, p⟩ := (show ObjOk X.prog X.w H s.heap a (.tup xs) from I.hok a _ ea)
    obtain ⟨o, h1, h2, _⟩ := p
    exact PySem.W.kia_one PySem.W.kitx_tuple I.kIn ⟨o, h1, h2⟩ e (fun z => nomatch z) h
  | @dK a kvs ea =>
    cases (show u = Value.ref a from rx)
    obtain ⟨_, _, vs, _, p⟩ := (show ObjOk X.prog X.w H s.heap a (.dK kvs) from I.hok a _ ea)
    obtain ⟨o, es, ep, h1, h2, _⟩ := p
    exact PySem.W.kia_one PySem.W.kitx_dict I.kIn ⟨o, h1, h2.1⟩ e (fun z => nomatch z) h
  | @dT a kvs ea =>
    cases (show u = Value.ref a from rx)
    obtain ⟨_, _, xs, _, o, es, ep, h1, h2, _⟩ := (show ObjOk X.prog X.w H s.heap a (.dT kvs) from I.hok a _ ea)
    exact PySem.W.kia_one PySem.W.kitx_dict I.kIn ⟨o, h1, h2.1⟩ e (fun z => nomatch z) h
  | @ins a C dx fs ea cl ha hn htk hm =>
    cases (show u = Value.ref a from rx)
    obtain ⟨mA, O, _⟩ := zb1 I.hok ea
    obtain ⟨od, J, _⟩ := O.look
    exact PySem.W.kia_one (PySem.W.kitx_own (cl.get _) cl.hd ha hn htk hm) I.kIn J e (fun z => nomatch z) h
end
end L2
namespace L2
open PySem PySem.Spec PyProof.Rows
structure Room (k : Nat) (A : Around) : Prop where
  hd : A.handled = none
  dp : A.depth + 3 * k + 5 < recursionLimit
  un : A.units + 16 * k + 200 < cLine
theorem Room.mono {j k : Nat} {A : Around} (r : Room k A) (h : j <= k) : Room j A := ⟨r.hd, by have := r.dp; omega, by have := r.un; omega⟩
theorem Room.deeper {k : Nat} {A : Around} (r : Room (k + 1) A) (env : Env) : Room k (A.deeper env) :=
  ⟨r.hd, by have := r.dp; show A.depth + 1 + 3 * k + 5 < _; omega, by have := r.un; show A.units + 3 + 16 * k + 200 < _; omega⟩
theorem zfw {A : Around} {C : Addr} {us : List Value} {kw : List (Str × Value)} : (A.under (.builtin "type.__call__" ⟨.ref C :: us, kw⟩)).depth = A.depth + 1 := by
  first | rfl | simp [Around.under, Code.weight, Code.isCreation, Code.isGuard, Code.isCaller, Code.frames, Code.isFrame, guardIds]
theorem zfx {A : Around} {C : Addr} {us : List Value} {kw : List (Str × Value)} : (A.under (.builtin "type.__call__" ⟨.ref C :: us, kw⟩)).units = A.units + 1 := by
  first | rfl | simp [Around.under, Code.cUnits, Code.frames, Code.isFrame]
theorem Room.make {k : Nat} {A : Around} (r : Room (k + 1) A) (C : Addr) (us : List Value) (kw : List (Str × Value)) : Room k (A.under (.builtin "type.__call__" ⟨.ref C :: us, kw⟩)) :=
  ⟨r.hd, by have := r.dp; rw [zfw]; omega, by have := r.un; rw [zfx]; omega⟩
theorem Room.depth {k : Nat} {A : Around} (r : Room k A) : A.depth < recursionLimit := by have := r.dp; omega
def tNil : TA := fun _ H Q => Q [] H
def tCons (ta : TE) (tr : TA) : TA := fun σ H Q => ta σ H fun x H1 => tr σ H1 fun xs H2 => Q (x :: xs) H2
section
variable {X : Cx} {e : Expr} {es : List Expr} {te : TE} {t : TA} {pos : Pos}
theorem pa_nil : PA X [] tNil := fun _ _ _ _ H Q I h => Calls.spliced_nil ⟨[], H, I, .nil, h⟩
theorem zcX (ha : PE X e te) (hr : PA X es t) (hs : starEach (e :: es) X.env = (false, eval e X.env) :: starEach es X.env := by rfl) : PA X (e :: es) (tCons te t) := by
  intro pos pins s σ H Q I h
  rw [hs]
  show wpAny _ _ (spliced ((false, eval e X.env) :: backTo pos (starEach es X.env))) _ _ s
  refine Calls.spliced_cons (thn (ha pins s σ H _ I h) fun u s1 ⟨x, H1, I1, r1, q1⟩ => ?_)
  exact thn (hr pos pins s1 σ H1 _ I1 q1) fun us s2 ⟨xs, H2, I2, r2, q2⟩ => ⟨x :: xs, H2, I2, .cons r1 r2, q2⟩
def tTup (t : TA) : TE := fun σ H Q => t σ H fun xs H1 => xs.length <= sizeLine /\ ∀ p, H1 p = none -> Q (.ref p) (upd H1 p (.tup xs))
def tLst (t : TA) : TE := fun σ H Q => t σ H fun xs H1 => xs.length <= sizeLine /\ ∀ p, H1 p = none -> Q (.ref p) (upd H1 p (.lst xs))
theorem pe_tup {x1} (h : PA X es t) : PE X (.Tuple es x1 pos) (tTup t) := by
  intro pins s σ H Q I hq
  refine wpAny_Tuple_spliced (thn (h pos pins s σ H _ I hq) fun us s1 ⟨xs, H1, I1, r, z, q⟩ => ⟨by rw [<- r.length]; exact z, ?_⟩)
  have hf : H1 s1.heap.objs.size = none := I1.hok.fresh (Nat.le_refl _)
  refine ⟨.ref s1.heap.objs.size, upd H1 s1.heap.objs.size (.tup xs), I1.laid (t' := s1.toks) (fun b u e => Heap.get?_push_of_some _ e) (Nat.le_refl _) ?_, rfl, q _ hf⟩
  exact ⟨z, us, r, ⟨_, Heap.get?_push_size _ rfl, rfl, _, rfl⟩⟩
theorem pe_lst (h : PA X es t) : PE X (.List es pos) (tLst t) := by
  intro pins s σ H Q I hq
  refine wpAny_List_spliced (thn (h pos pins s σ H _ I hq) fun us s1 ⟨xs, H1, I1, r, z, q⟩ => ⟨by rw [<- r.length]; exact z, ?_⟩)
  have hf : H1 s1.heap.objs.size = none := I1.hok.fresh (Nat.le_refl _)
  refine ⟨.ref s1.heap.objs.size, upd H1 s1.heap.objs.size (.lst xs), I1.laid (t' := s1.toks) (fun b u e => Heap.get?_push_of_some _ e) (Nat.le_refl _) ?_, rfl, q _ hf⟩
  exact ⟨z, us, 0, r, Heap.get?_push_size _ rfl⟩
end
abbrev Sp := List V -> Hp -> VK -> XK -> Prop
abbrev CXT := List Env -> Hp -> Shared -> XK -> Value -> Shared -> Prop
structure Env0 (P : Program) (w : World) (K : PySem.W.Frag) (mg : Str -> Option Value) (base : Heap) (A : Around) (outer : List Env) (s : Shared) (H : Hp) : Prop where
  frames : A.frames = some outer
  mod : Mod K mg base
  bs : ∀ b o, base.get? b = some o -> s.heap.get? b = some o /\ H b = none
  bsz : base.objs.size <= s.heap.objs.size
  funs : s.heap.FunFrames base outer
  frf : ∀ b ∈ frs outer, H b = none
  hok : HOk P w H s.heap
  bare : AllBare s.gens
def CE (outer : List Env) (P : Program) (w : World) (H : Hp) (s : Shared) (Q : VK) (u : Value) (s' : Shared) : Prop :=
  ∃ v H', s'.os = s.os /\ AllBare s'.gens /\ Un (frs outer) [] H H' s.heap s'.heap /\ HOk P w H' s'.heap /\ RelV v u /\ Q v H'
def CR (CX : CXT) (outer : List Env) (P : Program) (w : World) (H : Hp) (s : Shared) (Q : VK) (E : XK) (r : Result) (s' : Shared) : Prop :=
  match r with
  | .ok (.ret u) => CE outer P w H s Q u s'
  | .ok _ => False
  | .error e => CX outer H s E e s'
structure FnOk (P : Program) (w : World) (K : PySem.W.Frag) (mg : Str -> Option Value) (base : Heap) (CX : CXT) (k : Nat) (f : Addr) (fd : FuncData) (ps : List Str) (sp : Sp) : Prop where
  len : ∀ vs H Q E, sp vs H Q E -> vs.length = ps.length
  run : ∀ (A : Around) (outer : List Env) (s : Shared) (H : Hp) (args : Args) (us : List Value) (vs : List V) (Q : VK) (E : XK), Room k A -> Env0 P w K mg base A outer s H -> BindsTo s fd args (ps.zip us) -> Vals vs us -> sp vs H Q E ->
    codeAny (model P w) A (.call (.ref f) args) (CR CX outer P w H s Q E) s
theorem FnOk.imp {P : Program} {w : World} {K : PySem.W.Frag} {mg : Str -> Option Value} {base : Heap} {CX : CXT} {k : Nat} {f : Addr} {fd : FuncData} {ps : List Str} {sp sp' : Sp} (F : FnOk P w K mg base CX k f fd ps sp)
    (h : ∀ vs H Q E, sp' vs H Q E -> sp vs H Q E) : FnOk P w K mg base CX k f fd ps sp' :=
  ⟨fun vs H Q E q => F.len vs H Q E (h _ _ _ _ q), fun A outer s H args us vs Q E hr he hb hv hs => F.run A outer s H args us vs Q E hr he hb hv (h _ _ _ _ hs)⟩
theorem Env0.make {P : Program} {w : World} {K : PySem.W.Frag} {mg : Str -> Option Value} {base : Heap} {A : Around} {outer : List Env} {s : Shared} {H : Hp} (e : Env0 P w K mg base A outer s H) (C : Addr) (us : List Value) (kw : List (Str × Value)) :
    Env0 P w K mg base (A.under (.builtin "type.__call__" ⟨.ref C :: us, kw⟩)) outer s H := ⟨by first | exact e.frames | (simpa [Around.under, Code.envs, Code.isFrame, pushEnvs] using e.frames), e.mod, e.bs, e.bsz, e.funs, e.frf, e.hok, e.bare⟩
section
variable {X : Cx} {pins : List (Addr × Obj)} {σ : St} {H : Hp} {s s' : Shared}
theorem Inv.env0 (I : Inv X pins σ H s) : Env0 X.prog X.w X.K X.mg X.base X.A X.stack s H :=
  ⟨I.ok.frames, I.ok.mod, I.bs, Nat.le_trans I.ok.bsz I.sz, I.stack, I.stkFree, I.hok, I.bare⟩
theorem Inv.after {Q : VK} {u : Value} (I : Inv X pins σ H s) (h : CE X.stack X.prog X.w H s Q u s') : EP X pins σ Q u s' := by
  obtain ⟨v, H', os, bare, un, hok, r, q⟩ := h
  obtain ⟨hh, g, d, t, os'⟩ := s'
  obtain rfl : os' = s.os := os
  exact ⟨v, H', I.call (h' := hh) (g' := g) (d' := d) (t' := t) (ch := []) un hok bare (fun b z => absurd z (by simp)), r, q⟩
end
def Binds (K : PySem.W.Frag) (fd : FuncData) (ps : List Str) (ds : List Value) : Prop :=
  ∀ (s : Shared) (us : List Value), K.In s.heap -> (us ++ ds).length = ps.length -> BindsTo s fd ⟨us, []⟩ (ps.zip (us ++ ds))
theorem Binds.all {K : PySem.W.Frag} {fd : FuncData} {ps : List Str} (h : ∀ us : List Value, us.length = ps.length -> bindArgs fd ⟨us, []⟩ = pure (ps.zip us)) : Binds K fd ps [] := fun s us _ hl => by
  rw [List.append_nil] at hl ⊢
  exact .of_eq (h us hl)
def Passes (CX : CXT) (X : Cx) (E : XK) : Prop := ∀ (pins : List (Addr × Obj)) (σ : St) (H : Hp) (s : Shared) (e : Value) (s' : Shared), Inv X pins σ H s -> CX X.stack H s E e s' -> X.xe e s'
section
variable {X : Cx} {CX : CXT} {k : Nat} {f C : Addr} {fd : FuncData} {ps : List Str} {sp : Sp} {dvs : List V} {ds : List Value} {E : XK} {x m : Str} {p pos apos : Pos} {e o : Expr} {es : List Expr} {ta : TE} {t : TA}
structure Mk (K : PySem.W.Frag) (C f : Addr) : Prop where
  makes : PySem.W.makesIn K C = true
  init : PySem.W.findIn K (.ref C) "__init__" = some (some (.ref f))
  fn : PySem.W.isFn K (.ref f) = true
  kp : PySem.W.keepIn K (.ref C) = true
end
section
variable {X : Cx} {CX : CXT} {k : Nat} {f C : Addr} {fd : FuncData} {ps ks : List Str} {sp : Sp} {E : XK} {x m : Str} {p pos apos kpos : Pos} {e o : Expr} {es : List Expr} {kws : List Keyword} {te ta : TE} {t tk : TA} {nm : Option Str}
variable {g : List Value -> List Value -> List Value} {gV : List V -> List V -> List V}
end
structure FnScope (N P : List Str) (sc : Scope) : Prop where
  kind : sc.kind = .function
  co : sc.isCoroutine = false
  gen : sc.isGenerator = false
  nd : N.Nodup
  pre : N.take P.length = P
  par : ∀ x ∈ P, sc.names.lookup x = some .local \/ sc.names.lookup x = some .cell
  nofree : ∀ y ∈ sc.names, y.2 ≠ .free
theorem zdi {kindOf : Str -> Option NameKind} {x : Str} : ∀ {binds : List (Str × Value)} {m : Str -> Option Value}, (∀ v, (x, v) ∉ binds) -> bindL kindOf binds m x = m x
  | [], _, _ => rfl
  | (n, v) :: r, m, h => by
    unfold bindL
    rw [zdi fun w hw => h w (List.mem_cons_of_mem _ hw)]
    split
    . have : x ≠ n := by rintro rfl; exact h v List.mem_cons_self
      simp [this]
    . rfl
theorem zdj {kindOf : Str -> Option NameKind} {x : Str} : ∀ {binds : List (Str × Value)} {m : Str -> Option Value}, (∀ v, (x, v) ∉ binds) -> bindC kindOf binds m x = m x
  | [], _, _ => rfl
  | (n, v) :: r, m, h => by
    unfold bindC
    rw [zdj fun w hw => h w (List.mem_cons_of_mem _ hw)]
    split
    . rfl
    . have : x ≠ n := by rintro rfl; exact h v List.mem_cons_self
      simp [this]
theorem zdk {kindOf : Str -> Option NameKind} {x : Str} {v : Value} : ∀ {P : List Str} {vs : List Value} {i : Nat} {m : Str -> Option Value}, P.Nodup -> P[i]? = some x -> vs[i]? = some v -> kindOf x = some .local ->
    bindL kindOf (P.zip vs) m x = some v
  | [], _, _, _, _, h, _, _ => by simp at h
  | _ :: _, [], _, _, _, _, h, _ => by simp at h
  | p :: P, w :: vs, 0, m, nd, h1, h2, hk => by
    simp at h1 h2; subst h1; subst h2
    show bindL kindOf ((p, w) :: P.zip vs) m p = _
    unfold bindL
    rw [zdi fun v hv => (List.nodup_cons.mp nd).1 (List.of_mem_zip hv).1, if_pos hk]
    simp
  | p :: P, w :: vs, i + 1, m, nd, h1, h2, hk => by
    show bindL kindOf ((p, w) :: P.zip vs) m x = _
    unfold bindL
    exact zdk (i := i) (List.nodup_cons.mp nd).2 (by simpa using h1) (by simpa using h2) hk
theorem zdl {kindOf : Str -> Option NameKind} {x : Str} {v : Value} : ∀ {P : List Str} {vs : List Value} {i : Nat} {m : Str -> Option Value}, P.Nodup -> P[i]? = some x -> vs[i]? = some v -> kindOf x ≠ some .local ->
    bindC kindOf (P.zip vs) m x = some v
  | [], _, _, _, _, h, _, _ => by simp at h
  | _ :: _, [], _, _, _, _, h, _ => by simp at h
  | p :: P, w :: vs, 0, m, nd, h1, h2, hk => by
    simp at h1 h2; subst h1; subst h2
    show bindC kindOf ((p, w) :: P.zip vs) m p = _
    unfold bindC
    rw [zdj fun v hv => (List.nodup_cons.mp nd).1 (List.of_mem_zip hv).1, if_neg hk]
    simp
  | p :: P, w :: vs, i + 1, m, nd, h1, h2, hk => by
    show bindC kindOf ((p, w) :: P.zip vs) m x = _
    unfold bindC
    exact zdl (i := i) (List.nodup_cons.mp nd).2 (by simpa using h1) (by simpa using h2) hk
def start (N : List Str) (vs : List V) : St := vs.map some ++ List.replicate (N.length - vs.length) none
def cxOf (CX : CXT) (P : Program) (w : World) (K : PySem.W.Frag) (mg : Str -> Option Value) (base : Heap) (N : List Str) (qual : Str) (scope : Scope) (f : Addr) (cd : Value) (A : Around) (outer : List Env) (s : Shared) (H : Hp) (E : XK) : Cx where
  prog := P
  w := w
  K := K
  mg := mg
  base := base
  A := A.deeper (envOfC qual scope s.heap.objs.size f cd)
  N := N
  s₀ := s
  H₀ := H
  env := envOfC qual scope s.heap.objs.size f cd
  outer := outer
  stack := envOfC qual scope s.heap.objs.size f cd :: outer
  ex := []
  calm := true
  fn := fun _ => true
  pn := []
  xe := fun e s' => wpAny (model P w) (A.deeper (envOfC qual scope s.heap.objs.size f cd)) (leaving (envOfC qual scope s.heap.objs.size f cd) e) (fun _ s'' => CX outer H s E e s'') (fun e' s'' => CX outer H s E e' s'') s'
theorem zdL {sc : Scope} {n : Nat} {x : Str} (h : sc.names.lookup x = some .cell) : ∃ c, (cellsFrom n sc.names []).lookup x = some c := by
  have q := PySem.W.cellsFrom_some sc.names n [] (.inl h)
  exact Option.isSome_iff_exists.mp q
theorem zf4 {CX : CXT} {P : Program} {w : World} {K : PySem.W.Frag} {mg : Str -> Option Value} {base : Heap} {N ps : List Str} {qual : Str} {scope : Scope} {f : Addr} {cd : Value} {A : Around} {outer : List Env} {s s1 : Shared} {H : Hp} {E : XK} {us : List Value} {vs : List V}
    (S : FnScope N ps scope) (hd : A.handled = none) (e0 : Env0 P w K mg base A outer s H) (hl : vs.length = ps.length) (r : Vals vs us)
    (x : InCallC s s.heap.objs.size (bindL (envOfC qual scope s.heap.objs.size f cd).kindOf (ps.zip us) fun _ => none) (cellsFrom (s.heap.objs.size + 1) scope.names []) (bindC (envOfC qual scope s.heap.objs.size f cd).kindOf (ps.zip us) fun _ => none) s1) :
    Inv (cxOf CX P w K mg base N qual scope f cd A outer s H E) [] (start N vs) H s1 := by
  have hpl : ps.length <= N.length := by have := congrArg List.length S.pre; rw [List.length_take] at this; omega
  obtain ⟨h1, tk, rfl, hk⟩ := x.done
  have noA : ∀ b : Addr, b ∉ (cxOf CX P w K mg base N qual scope f cd A outer s H E).ex := fun b z => absurd (show b ∈ ([] : List Addr) from z) (by simp)
  refine ⟨⟨e0.mod, S.kind, rfl, rfl, Nat.le_refl _, fun y z c h1 h2 => ?_, fun y hy => ?_, fun y c _ h => ?_, fun _ => hd, Around.frames_deeper e0.frames, .inr ⟨rfl, rfl⟩, fun b z => absurd z (noA b), e0.bs, e0.bsz, fun b _ _ => noA b, fun b z => absurd z (noA b), e0.funs, e0.frf⟩,
    rfl, e0.bare, Un.kept hk, ⟨_, x.toInCall.ns, fun i y v h1 h2 h3 => ?_⟩, fun y c h => ⟨_, x.cell y c h⟩, e0.hok.fresh (Nat.le_refl _), fun y c h => ?_, fun p hp => absurd (show p ∈ ([] : List (Addr × Obj)) from hp) (by simp), e0.hok.kept hk, ?_⟩
  . exact name_of_addr x.apart (PySem.mem_of_lookup h1) (PySem.mem_of_lookup h2)
  . have hy : scope.names.lookup y = some .cell \/ scope.names.lookup y = some .free := hy
    rcases hy with hy | hy
    . exact zdL hy
    . exact absurd rfl (S.nofree _ (PySem.mem_of_lookup hy))
  . exact Nat.le_of_lt (x.above y c (PySem.mem_of_lookup h))
  . have hi : i < vs.length := by
      unfold start at h2
      by_cases hi : i < vs.length
      . exact hi
      . rw [List.getElem?_append_right (by simpa using hi)] at h2
        rw [List.getElem?_replicate] at h2
        split at h2 <;> cases h2
    have ha : vs[i]? = some v := by
      unfold start at h2
      rw [List.getElem?_append_left (by simpa using hi), List.getElem?_map] at h2
      cases e : vs[i]? with
      | none => rw [e] at h2; cases h2
      | some a => rw [e] at h2; cases h2; rfl
    obtain ⟨u, hu, rv⟩ := r.get ha
    have hp : ps[i]? = some y := by
      rw [<- S.pre, List.getElem?_take_of_lt (by omega)]; exact h1
    have ndP : ps.Nodup := by rw [<- S.pre]; exact S.nd.sublist (List.take_sublist _ _)
    refine ⟨u, rv, ?_⟩
    rcases S.par y (List.mem_of_getElem? hp) with k | k
    . exact .inl ⟨k, zdk ndP hp hu k⟩
    . obtain ⟨c, e⟩ := zdL (n := s.heap.objs.size + 1) k
      refine .inr ⟨.inl k, c, e, ?_⟩
      have q := x.cell y c e
      rw [zdl ndP hp hu (by show scope.names.lookup y ≠ _; rw [k]; decide)] at q
      exact q
  . exact e0.hok.fresh (Nat.le_of_lt (x.above y c (PySem.mem_of_lookup h)))
  . unfold start
    show _ = N.length
    rw [List.length_append, List.length_map, List.length_replicate]
    omega
theorem fn_of {CX : CXT} {P : Program} {w : World} {K : PySem.W.Frag} {mg : Str -> Option Value} {base : Heap} {k : Nat} {f : Addr} {name qual : Str} {params : Arguments} {body : List Stmt} {scope : Scope} {dV kV doc pm cdv ct oc : Value} {an od : Option Addr}
    {osl : Array (Option Value)} {N ps : List Str} {sp : Sp} (lk : K.lookup f = some ⟨oc, od, .func (PySem.W.fnOf name qual params body scope dV kV doc pm an cdv ct), osl⟩) (hcd : PySem.W.codeIn K cdv qual = true) (S : FnScope N ps scope)
    (len : ∀ vs H Q E, sp vs H Q E -> vs.length = ps.length)
    (hbody : ∀ (A : Around) (outer : List Env) (s : Shared) (H : Hp) (vs : List V) (Q : VK) (E : XK), Room k (A.deeper (envOfC qual scope s.heap.objs.size f cdv)) -> sp vs H Q E ->
      ∃ t, PSs (cxOf CX P w K mg base N qual scope f cdv A outer s H E) body t /\ t { nx := fun _ H' => Q .non H', rt := Q } (start N vs) H) :
    FnOk P w K mg base CX (k + 1) f (PySem.W.fnOf name qual params body scope dV kV doc pm an cdv ct) ps sp := by
  refine ⟨len, fun A outer s H args us vs Q E hr e0 hb r hsp => ?_⟩
  have hl := len _ _ _ _ hsp
  have KX : K.In s.heap := e0.mod.kin.keeps fun b o e => (e0.bs b o e).1
  have lim : s.heap.NoLimit := e0.mod.nolimit.keeps fun b o e => (e0.bs b o e).1
  have hkind : ∀ y ∈ ps.zip us, scope.names.lookup y.1 = some .local \/ (scope.names.lookup y.1 = some .cell /\ ((cellsFrom (s.heap.objs.size + 1) scope.names []).lookup y.1).isSome = true) := fun ⟨n, v⟩ hy => by
    rcases S.par n (List.of_mem_zip hy).1 with q | q
    . exact .inl q
    . exact .inr ⟨q, PySem.W.cellsFrom_some _ _ _ (.inl q)⟩
  refine codeAny_call_function hr.depth (KX _ _ lk) rfl S.co S.gen rfl (PySem.W.codeRec_of KX hcd) (hb _ _ _ _ ?_)
  refine wpAny_newFunctionEnv_cells S.kind hkind fun env he s1 x => ?_
  subst he
  refine ⟨lim.keeps x.toInCall.keep, codeAny_func ?_⟩
  obtain ⟨t, ht, hq⟩ := hbody A outer s H vs Q E (hr.deeper _) hsp
  have I : Inv (cxOf CX P w K mg base N qual scope f cdv A outer s H E) [] (start N vs) H s1 := zf4 S hr.hd e0 hl r x
  refine wpAny_mono (ht [] s1 (start N vs) H _ I hq) (fun fl s' hs => ?_) fun e s' hs => hs
  have fin : ∀ {σ' : St} {H' : Hp} {v : V} {u : Value}, Inv (cxOf CX P w K mg base N qual scope f cdv A outer s H E) [] σ' H' s' -> RelV v u -> Q v H' -> CE outer P w H s Q u s' :=
    fun {σ' H' v u} J rv q => ⟨v, H', J.os, J.bare, J.base, J.hok, rv, q⟩
  cases fl with
  | ret u =>
    obtain ⟨v, σ', H', J, rv, q⟩ := hs
    exact fin J rv q
  | next =>
    obtain ⟨σ', H', J, q⟩ := hs
    exact fin (v := V.non) (u := Value.none) J rfl q
  | brk =>
    obtain ⟨_, _, _, q⟩ := hs
    exact False.elim q
  | cont =>
    obtain ⟨_, _, _, q⟩ := hs
    exact False.elim q
end L2
namespace L2
open PySem PySem.Spec PyProof.Rows
section
variable {X : Cx} {x : Str} {p pos : Pos} {e : Expr} {es : List Expr} {t : TA} {id T : String} {r : List V -> Hp -> VK -> Prop}
def tCB (r : List V -> Hp -> VK -> Prop) (t : TA) : TE := fun σ H Q => t σ H fun vs H1 => r vs H1 Q
theorem zdM (hc : CallR X (.builtin id) r) (hg : Gl X x) (hm : X.mg x = none) (hv : bootBuiltins x = some (.builtin id)) (ha : PA X (e :: es) t) (hn : x ≠ "__name__" := by decide) (hdb : (x == ("__debug__" : Str)) = false := by decide)
    (he : starEach (e :: es) X.env = (false, eval e X.env) :: starEach es X.env := by rfl) (hpl : (backTo pos (starEach es X.env)).any (·.1) = false := by rfl) : PE X (.Call (.Name x p) (e :: es) [] pos) (tCB r t) := by
  intro pins s σ H Q I h
  refine wpAny_Call_Name_kw (ld_blt I hg hm hv ?_ hn hdb)
  exact PyProof.Rows.callWith_builtin1 (thn (ha pos pins s σ H _ I h) fun us s1 ⟨vs, H1, I1, r1, q1⟩ => hc pins s1 σ H1 vs us Q I1 r1 q1) he hpl
end
end L2
namespace HT
open PySem PyProof.Rows
section
open PySem.SeqAt
open PySem.AutoSeq1 (wpAny_loadPart')
open PySem.MeetsSeq PySem.MeetsSeq2 PySem.MeetsSeq3
end
section
variable {prog : Program} {w : World} {A : Around} {E : Value -> Shared -> Prop} {s : Shared}
theorem cat_tup {t b : Addr} {vs ws : List Value} {Q : Value -> Shared -> Prop} (ht : IsTup s.heap t vs.toArray) (hb : IsTup s.heap b ws.toArray) (hv : vs ≠ [])
    (h1 : ws = [] -> Q (.ref t) s) (h2 : ws ≠ [] -> Q (.ref s.heap.objs.size) { s with heap := s.heap.push { cls := .type "tuple", data := .seq (vs ++ ws).toArray } })
    (hsz : vs.length + ws.length <= sizeLine) : wpAny (model prog w) A (binaryOp .Add (.ref t) (.ref b)) Q E s := by
  obtain ⟨⟨cls, dd, data, sl⟩, ho, hc, n, hd⟩ := id ht
  obtain ⟨⟨cls2, dd2, data2, sl2⟩, ho2, hc2, n2, hd2⟩ := id hb
  simp only at hc hd hc2 hd2
  subst hc hd hc2 hd2
  have e : vs.toArray ++ ws.toArray = (vs ++ ws).toArray := by simp
  by_cases hw : ws = []
  . exact concat_meets ⟨_, ho, rfl⟩ ⟨_, ho2, rfl⟩ noFill_tuple_add seq_tuple_add PySem.F.slot_tuple_add PySem.F.entry_tuple_add (PySem.F.args_tuple_add_2 _ _)
      (tuple_addW1 t b vs.toArray ws.toArray n n2 dd dd2 sl sl2 (by simpa using hv) (by simp [hw])) ⟨ho, ho2, h1 hw⟩
  . refine concat_meets ⟨_, ho, rfl⟩ ⟨_, ho2, rfl⟩ noFill_tuple_add seq_tuple_add PySem.F.slot_tuple_add PySem.F.entry_tuple_add (PySem.F.args_tuple_add_2 _ _)
      (tuple_addW2 t b vs.toArray ws.toArray n n2 dd dd2 sl sl2 (by simpa using hv) (by simpa using hw) (by rw [List.size_toArray, List.size_toArray]; exact hsz)) ⟨ho, ho2, ?_⟩
    rw [e]
    exact h2 hw
def sIx (n d : Nat) : Option Int -> Nat
  | none => d
  | some v => if v < 0 then (v + (n : Int)).toNat else min v.toNat n
theorem sIx_none (n d : Nat) : sIx n d none = d := rfl
theorem sIx_nat (n d k : Nat) : sIx n d (some (k : Int)) = min k n := by
  show (if (k : Int) < 0 then ((k : Int) + (n : Int)).toNat else min (k : Int).toNat n) = min k n
  rw [if_neg (by omega), Int.toNat_natCast]
theorem sIx_le (n d : Nat) (hd : d <= n) (o : Option Int) : sIx n d o <= n := by
  cases o with
  | none => exact hd
  | some v =>
    show (if v < 0 then (v + (n : Int)).toNat else min v.toNat n) <= n
    by_cases hv : v < 0
    . rw [if_pos hv]; omega
    . rw [if_neg hv]; exact Nat.min_le_right _ _
theorem zeH (v : Int) (n d : Nat) : (if v < 0 then max (v + (n : Int)) 0 else min v (n : Int)) = ((sIx n d (some v) : Nat) : Int) := by
  show (if v < 0 then max (v + (n : Int)) 0 else min v (n : Int)) = (((if v < 0 then (v + (n : Int)).toNat else min v.toNat n) : Nat) : Int)
  by_cases hv : v < 0
  . simp only [if_pos hv]; omega
  . simp only [if_neg hv]; omega
theorem zfy (lo hi : Option Int) (n : Nat) : Builtin.Slice.sliceAdjust lo hi 1 (n : Int) = (((sIx n 0 lo : Nat) : Int), ((sIx n n hi : Nat) : Int)) := by
  have h1 : ¬ ((1 : Int) < 0) := by omega
  unfold Builtin.Slice.sliceAdjust
  simp only [h1, if_false]
  refine Prod.ext ?_ ?_
  . cases lo with
    | none => rfl
    | some v => exact zeH v n 0
  . cases hi with
    | none => rfl
    | some v => exact zeH v n n
theorem zfz (i j : Nat) : Builtin.Slice.slicePlaces (i : Int) (j : Int) 1 = j - i := by
  unfold Builtin.Slice.slicePlaces
  have h1 : (1 : Int) > 0 := by omega
  simp only [h1, if_true, Int.ediv_one]
  split <;> omega
theorem zcJ {v : Value} {o : Option Int} {Q : Option Int -> Shared -> Prop} (p : IsPart v o) (h : Q o s) : wpAny (model prog w) A (Builtin.Slice.slicePartIndex v) Q E s := by
  cases p with
  | none => exact slicePart_none h
  | int i t => exact slicePart_int h
theorem zct {sl : Addr} {vl vu : Value} {lo hi : Option Int} {n : Nat} {Q : Int × Int × Nat -> Shared -> Prop} (hs : s.heap.IsSliceOf sl vl vu .none) (pl : IsPart vl lo) (pu : IsPart vu hi)
    (h : Q (((sIx n 0 lo : Nat) : Int), 1, sIx n n hi - sIx n 0 lo) s) : wpAny (model prog w) A (Builtin.Slice.sliceApplied (.ref sl) (pure (n : Int))) Q E s := by
  obtain ⟨os, hos, hcs, hds⟩ := id hs
  unfold Builtin.Slice.sliceApplied Builtin.Slice.sliceFields
  refine wpAny_bind (wpAny_bind (wpAny_field hos hds (x := vl) rfl (wpAny_bind (wpAny_field hos hds (x := vu) rfl (wpAny_bind (wpAny_field hos hds (x := .none) rfl (wpAny_pure ?_)))))))
  refine wpAny_bind (slicePart_none ?_)
  show wpAny _ _ (if ((1 : Int) == 0) = true then _ else _) _ _ s
  rw [if_neg (by decide)]
  refine wpAny_bind (zcJ pl (wpAny_bind (zcJ pu (wpAny_bind (wpAny_pure ?_)))))
  show wpAny _ _ (match Builtin.Slice.sliceAdjust lo hi 1 (n : Int) with | (lo, hi) => pure (lo, (1 : Int), Builtin.Slice.slicePlaces lo hi 1)) _ _ s
  rw [zfy lo hi n]
  show wpAny _ _ (pure (((sIx n 0 lo : Nat) : Int), (1 : Int), Builtin.Slice.slicePlaces ((sIx n 0 lo : Nat) : Int) ((sIx n n hi : Nat) : Int) 1)) _ _ s
  rw [zfz]
  exact wpAny_pure h
theorem zgL (xs : Array Value) (i k : Nat) : ((List.range k).filterMap fun (m : Nat) => xs[((i : Int) + (m : Int) * 1).toNat]?).toArray = ((xs.toList.drop i).take k).toArray := by
  have e : (fun (m : Nat) => xs[((i : Int) + (m : Int) * 1).toNat]?) = fun m => xs[i + m]? := by
    funext m
    have : ((i : Int) + (m : Int) * 1).toNat = i + m := by omega
    rw [this]
  rw [e]
  have := pick_run xs i k
  rw [List.filterMap_map] at this
  have e2 : ((fun x => xs[x]?) ∘ fun x => i + x) = fun m => xs[i + m]? := rfl
  rw [e2] at this
  rw [this]
theorem getItem_tuple_cut {t sl : Addr} {items : Array Value} {vl vu : Value} {lo hi : Option Int} {Q : Value -> Shared -> Prop} (ht : IsTup s.heap t items) (hs : s.heap.IsSliceOf sl vl vu .none) (pl : IsPart vl lo) (pu : IsPart vu hi)
    (hw : ¬ (sIx items.size 0 lo = 0 /\ sIx items.size items.size hi = items.size))
    (h : Q (.ref s.heap.objs.size) { s with heap := s.heap.push { cls := .type "tuple", data := .seq ((items.toList.drop (sIx items.size 0 lo)).take (sIx items.size items.size hi - sIx items.size 0 lo)).toArray } })
    (hsz : items.size <= sizeLine) : wpAny (model prog w) A (getItem (.ref t) (.ref sl)) Q E s := by
  have htake : sizeOk (.seq ((items.toList.drop (sIx items.size 0 lo)).take (sIx items.size items.size hi - sIx items.size 0 lo)).toArray) := by
    show ((items.toList.drop (sIx items.size 0 lo)).take (sIx items.size items.size hi - sIx items.size 0 lo)).toArray.size <= sizeLine
    rw [List.size_toArray, List.length_take, List.length_drop, Array.length_toList]
    omega
  have hj : sIx items.size items.size hi <= items.size := sIx_le _ _ (Nat.le_refl _) hi
  obtain ⟨os, hos, hcs, hds⟩ := id hs
  have hTs : s.TypeIs (.ref sl) "slice" := ⟨os, hos, hcs⟩
  unfold getItem
  try with_reducible refine wpAny_holding ?_
  first | refine wpAny_bind (wpAny_pure ?_) | skip
  refine wpAny_bind (wpAny_sequenceKey ht.typeIs (by decide) ?_)
  refine wpAny_bind (wpAny_callSpecial?_slot (name := Str.ofString "__getitem__") ht.typeIs PyProof.Rows.slot_tuple_getitem
    (wpAny_call_entry PyProof.Rows.slot_tuple_getitem ht.typeIs entry_tuple_getitem ?_ (args_tuple_getitem _ _)))
  show wpAny _ _ (Builtin.Tuple.tupleItemsOf (.ref t) >>= _) _ _ s
  refine wpAny_bind (tupleItemsOf_ ht ?_)
  refine wpAny_bind (wpAny_typeOf hTs ?_)
  rw [if_pos (by decide)]
  refine wpAny_bind (zct hs pl pu ?_)
  have hno : ¬ ((((sIx items.size 0 lo : Nat) : Int) == 0 && (1 : Int) == 1 && (sIx items.size items.size hi - sIx items.size 0 lo) == items.size) = true) := by
    intro q
    rw [Bool.and_eq_true, Bool.and_eq_true] at q
    have q1 : ((sIx items.size 0 lo : Nat) : Int) = 0 := eq_of_beq q.1.1
    have q2 : sIx items.size items.size hi - sIx items.size 0 lo = items.size := eq_of_beq q.2
    exact hw ⟨by omega, by omega⟩
  show wpAny _ _ (if (((sIx items.size 0 lo : Nat) : Int) == 0 && (1 : Int) == 1 && (sIx items.size items.size hi - sIx items.size 0 lo) == items.size) = true then _ else _) _ _ s
  rw [if_neg hno, zgL]
  first
    | exact wpAny_bind (m := Builtin.Tuple.tupleExact _) (wpAny_newObj_type (wpAny_pure ⟨_, rfl, wpAny_pure h⟩) htake)
    | exact wpAny_bind (m := Builtin.Tuple.tupleExact _) (wpAny_newObj_type (wpAny_bind (wpAny_pure (wpAny_pure ⟨_, rfl, wpAny_pure h⟩))) htake)
    | exact wpAny_bind (wpAny_bind (m := Builtin.Tuple.tupleExact _) (wpAny_newObj_type (wpAny_pure (wpAny_pure ⟨_, rfl, wpAny_pure h⟩)) htake))
    | exact wpAny_bind (wpAny_bind (m := Builtin.Tuple.tupleExact _) (wpAny_newObj_type (wpAny_pure ⟨_, rfl, wpAny_pure h⟩) htake))
end
end HT
namespace L2
open PySem PySem.Spec PyProof.Rows
abbrev TO := St -> Hp -> (Option Int -> Hp -> Prop) -> Prop
def PO (X : Cx) (e : Option Expr) (t : TO) : Prop :=
  ∀ (pins : List (Addr × Obj)) (s : Shared) (σ : St) (H : Hp) (Q : Option Int -> Hp -> Prop), Inv X pins σ H s -> t σ H Q ->
    wpAny (model X.prog X.w) X.A (evalPart e X.env) (fun u s' => ∃ o H', Inv X pins σ H' s' /\ IsPart u o /\ Q o H') X.xe s
def tNoPart : TO := fun _ H Q => Q none H
def tPart (t : TE) : TO := fun σ H Q => t σ H fun x H1 => ∃ i, x = .int i /\ Q (some i) H1
section
variable {X : Cx} {e : Expr} {te : TE} {lo hi : Option Expr} {tl th : TO} {pos p2 : Pos}
theorem zhJ : PO X none tNoPart := by
  intro pins s σ H Q I h
  rw [evalPart_none]
  exact wpAny_pure ⟨none, H, I, .none, h⟩
theorem zhK (h : PE X e te) : PO X (some e) (tPart te) := by
  intro pins s σ H Q I hw
  rw [evalPart_some]
  refine thn (h pins s σ H _ I hw) fun u s1 ⟨x, H1, I1, r1, q1⟩ => ?_
  obtain ⟨i, rfl, q⟩ := q1
  obtain ⟨t, rfl⟩ := r1
  exact ⟨some i, H1, I1, .int i t, q⟩
def SlR (X : Cx) (r : V -> Option Int -> Option Int -> Hp -> VK -> Prop) : Prop :=
  ∀ (pins : List (Addr × Obj)) (s : Shared) (σ : St) (H : Hp) (x : V) (v vl vu : Value) (lo hi : Option Int) (sl : Addr) (Q : VK), Inv X pins σ H s -> RelV x v -> s.heap.IsSliceOf sl vl vu .none -> IsPart vl lo -> IsPart vu hi -> r x lo hi H Q ->
    ∃ T id, typeLookup (.type T) "__getitem__" = pure (some (.builtin id)) /\ s.TypeIs v T /\ wpAny (model X.prog X.w) X.A (getItem v (.ref sl)) (EP X pins σ Q) X.xe s
theorem SlR.or {r r' : V -> Option Int -> Option Int -> Hp -> VK -> Prop} (h : SlR X r) (h' : SlR X r') : SlR X (fun x lo hi H Q => r x lo hi H Q \/ r' x lo hi H Q) := by
  intro pins s σ H x v vl vu lo hi sl Q I rx hs pl pu q
  rcases q with q | q
  . exact h pins s σ H x v vl vu lo hi sl Q I rx hs pl pu q
  . exact h' pins s σ H x v vl vu lo hi sl Q I rx hs pl pu q
def tSl (r : V -> Option Int -> Option Int -> Hp -> VK -> Prop) (te : TE) (tl th : TO) : TE := fun σ H Q => te σ H fun x H1 => tl σ H1 fun l H2 => th σ H2 fun u H3 => r x l u H3 Q
theorem zgM {r : V -> Option Int -> Option Int -> Hp -> VK -> Prop} (hr : SlR X r) (he : PE X e te) (hl : PO X lo tl) (hu : PO X hi th) : PE X (.Subscript e (.Slice lo hi none p2) pos) (tSl r te tl th) := by
  intro pins s σ H Q I h
  refine Subscript_ (thn (he pins s σ H _ I h) fun v s1 ⟨x, H1, I1, r1, q1⟩ => ?_)
  refine wpAny_Slice (thn (hl pins s1 σ H1 _ I1 q1) fun vl s2 ⟨l, H2, I2, pl, q2⟩ => thn (hu pins s2 σ H2 _ I2 q2) fun vu s3 ⟨u, H3, I3, pu, q3⟩ => ?_)
  rw [evalPart_none]
  refine wpAny_pure ?_
  have I4 : Inv X pins σ H3 { s3 with heap := s3.heap.push { cls := .type "slice", data := .fields #[vl, vu, .none] } } := I3.kept (t' := s3.toks) fun b ob q => Heap.get?_push_of_some _ q
  obtain ⟨T, id, hT, ht, hg⟩ := hr pins { s3 with heap := s3.heap.push { cls := .type "slice", data := .fields #[vl, vu, .none] } } σ H3 x v vl vu l u s3.heap.objs.size Q I4 r1 (Heap.IsSliceOf.new ..) pl pu q3
  show wpAny (model X.prog X.w) X.A (subscriptTail e (.Slice lo hi none p2) v (.ref s3.heap.objs.size)) (EP X pins σ Q) X.xe { s3 with heap := s3.heap.push { cls := .type "slice", data := .fields #[vl, vu, .none] } }
  exact tail_any (ops := [.ref s3.heap.objs.size, v]) ht hT hg (by with_unfolding_all rfl)
def cutV (xs : List V) (lo hi : Option Int) : List V := (xs.drop (HT.sIx xs.length 0 lo)).take (HT.sIx xs.length xs.length hi - HT.sIx xs.length 0 lo)
theorem zch (xs : List V) (lo hi : Option Int) : (cutV xs lo hi).length <= xs.length := by
  unfold cutV
  rw [List.length_take, List.length_drop]
  omega
def rSlT (K : PySem.W.Frag) : V -> Option Int -> Option Int -> Hp -> VK -> Prop := fun x lo hi H Q => ∃ a xs, x = .ref a /\ SqT K H a xs /\
  ¬ (HT.sIx xs.length 0 lo = 0 /\ HT.sIx xs.length xs.length hi = xs.length) /\ ∀ p, H p = none -> Q (.ref p) (upd H p (.tup (cutV xs lo hi)))
theorem sl_tup : SlR X (rSlT X.K) := by
  intro pins s σ H x v vl vu lo hi sl Q I rx hs pl pu h
  obtain ⟨a, xs, rfl, hx, hw, q⟩ := h
  cases rx
  obtain ⟨its, r, ht, hz⟩ := I.tuple hx
  have hlen : its.toArray.size = xs.length := by rw [List.size_toArray]; exact r.length.symm
  refine ⟨"tuple", _, PyProof.Rows.slot_tuple_getitem.lookup, ht.typeIs, ?_⟩
  refine HT.getItem_tuple_cut ht hs pl pu (by rw [hlen]; exact hw) ?_ (by rw [hlen]; exact hz)
  rw [hlen]
  refine ⟨.ref s.heap.objs.size, _, I.laid (t' := s.toks) (o := .tup (cutV xs lo hi)) (fun b ob q => Heap.get?_push_of_some _ q) (Nat.le_refl _) ?_, rfl, q _ (I.hok.fresh (Nat.le_refl _))⟩
  exact ⟨Nat.le_trans (zch xs lo hi) hz, _, (r.drop (HT.sIx xs.length 0 lo)).take (HT.sIx xs.length xs.length hi - HT.sIx xs.length 0 lo), IsTup.new _ _⟩
def rCatT (K : PySem.W.Frag) : R2 := fun x y H Q => ∃ a b xs ys, x = .ref a /\ y = .ref b /\ SqT K H a xs /\ SqT K H b ys /\ xs ≠ [] /\ xs.length + ys.length <= sizeLine /\
  (ys = [] -> Q (.ref a) H) /\ (ys ≠ [] -> ∀ p, H p = none -> Q (.ref p) (upd H p (.tup (xs ++ ys))))
theorem Vals.nil_iff {xs : List V} {us : List Value} (r : Vals xs us) : us = [] ↔ xs = [] := by
  cases r with
  | nil => simp
  | cons _ _ => simp
theorem zhL : OpR X (binaryOp .Add) (rCatT X.K) := by
  intro pins s σ H x y v u Q I rx ry h
  obtain ⟨a, b, xs, ys, rfl, rfl, ha, hb, hx, hz, q1, q2⟩ := h
  cases rx
  cases ry
  obtain ⟨its, r1, p1, _⟩ := I.tuple ha
  obtain ⟨its2, r2, p2, _⟩ := I.tuple hb
  refine HT.cat_tup p1 p2 (fun z => hx (r1.nil_iff.mp z)) (fun z => ⟨.ref a, H, I, rfl, q1 (r2.nil_iff.mp z)⟩) (fun z => ?_) (by rw [<- r1.length, <- r2.length]; exact hz)
  refine ⟨.ref s.heap.objs.size, _, I.laid (t' := s.toks) (o := .tup (xs ++ ys)) (fun b ob q => Heap.get?_push_of_some _ q) (Nat.le_refl _) ?_, rfl, q2 (fun w => z (r2.nil_iff.mpr w)) _ (I.hok.fresh (Nat.le_refl _))⟩
  exact ⟨by rw [List.length_append]; exact hz, _, r1.append r2, IsTup.new _ _⟩
end
end L2
namespace L2
open PySem PySem.Spec PyProof.Rows
def ixN (n : Nat) (i : Int) : Option Nat := if 0 <= i then (if i < n then some i.toNat else none) else if -(n : Int) <= i then some (i + n).toNat else none
def atI {α : Type} (xs : List α) (i : Int) : Option α := (ixN xs.length i).bind fun j => xs[j]?
theorem zeI {n : Nat} {i : Int} {j : Nat} (h : ixN n i = some j) : seqIndex? i n = some j /\ j < n /\ -(n : Int) <= i /\ i < n := by
  unfold ixN at h
  by_cases h0 : 0 <= i
  . rw [if_pos h0] at h
    by_cases h1 : i < n
    . rw [if_pos h1] at h
      have e : i.toNat = j := Option.some.inj h
      exact ⟨by rw [seqIndex_of h0 h1, e], by omega, by omega, h1⟩
    . rw [if_neg h1] at h; cases h
  . rw [if_neg h0] at h
    by_cases h1 : -(n : Int) <= i
    . rw [if_pos h1] at h
      have e : (i + n).toNat = j := Option.some.inj h
      exact ⟨by rw [seqIndex_neg (by omega) h1, e], by omega, h1, by omega⟩
    . rw [if_neg h1] at h; cases h
theorem zb2 {α : Type} {xs : List α} {i : Int} {v : α} (h : atI xs i = some v) : ∃ j, seqIndex? i xs.length = some j /\ xs[j]? = some v /\ j < xs.length /\ -(xs.length : Int) <= i /\ i < xs.length := by
  unfold atI at h
  cases e : ixN xs.length i with
  | none => rw [e] at h; cases h
  | some j =>
    rw [e] at h
    obtain ⟨h1, h2, h3, h4⟩ := zeI e
    exact ⟨j, h1, h, h2, h3, h4⟩
theorem zbf {α : Type} {xs : List α} {j : Nat} {v : α} (h : xs[j]? = some v) : atI xs (j : Int) = some v := by
  have hj : j < xs.length := (List.getElem?_eq_some_iff.mp h).1
  have e : ixN xs.length (j : Int) = some j := by
    unfold ixN
    rw [if_pos (by omega), if_pos (by omega)]; simp
  unfold atI; rw [e]; exact h
def PlainIx (b : Expr) : Prop := ∀ o i, subscripted b false o i = operate [o, i] (getItem o i)
def IxR (X : Cx) (r : R2) : Prop :=
  ∀ (value slice : Expr) (pins : List (Addr × Obj)) (s : Shared) (σ : St) (H : Hp) (x y : V) (v u : Value) (Q : VK), Inv X pins σ H s -> RelV x v -> RelV y u -> r x y H Q ->
    subscripted slice false v u = operate [v, u] (getItem v u) -> wpAny (model X.prog X.w) X.A (subscriptTail value slice v u) (EP X pins σ Q) X.xe s
def MtR (X : Cx) (id : String) (r : V -> List V -> Hp -> VK -> Prop) : Prop :=
  ∀ (pins : List (Addr × Obj)) (s : Shared) (σ : St) (H : Hp) (x : V) (xs : List V) (v : Value) (us : List Value) (Q : VK), Inv X pins σ H s -> RelV x v -> Vals xs us -> r x xs H Q ->
    wpAny (model X.prog X.w) X.A (call (.builtin id) (v :: us)) (EP X pins σ Q) X.xe s
section
variable {X : Cx} {a b : Expr} {ta tb : TE} {pos : Pos}
theorem IxR.or {r r' : R2} (h : IxR X r) (h' : IxR X r') : IxR X (fun x y H Q => r x y H Q \/ r' x y H Q) := by
  intro value slice pins s σ H x y v u Q I rx ry q hs
  rcases q with q | q
  . exact h value slice pins s σ H x y v u Q I rx ry q hs
  . exact h' value slice pins s σ H x y v u Q I rx ry q hs
theorem pe_ix {r : R2} (hr : IxR X r) (ha : PE X a ta) (hb : PE X b tb) (hs : PlainIx b) : PE X (.Subscript a b pos) (tOp r ta tb) := by
  intro pins s σ H Q I h
  exact Subscript_ (binT ha hb I h fun v u s2 x y H2 I2 rx ry q => hr a b pins s2 σ H2 x y v u Q I2 rx ry q (hs _ _))
def rIxL (K : PySem.W.Frag) : R2 := fun x y H Q => ∃ p xs i v, x = .ref p /\ y = .int i /\ SqL K H p xs /\ atI xs i = some v /\ Q v H
def rIxT (K : PySem.W.Frag) : R2 := fun x y H Q => ∃ p xs i v, x = .ref p /\ y = .int i /\ SqT K H p xs /\ atI xs i = some v /\ Q v H
def rIxS : R2 := fun x y H Q => ∃ z i c, x = .str z /\ y = .int i /\ z.length <= sizeLine /\ atI z.cps.toList i = some c /\ Q (.str ⟨#[c]⟩) H
theorem zhM : IxR X (rIxL X.K) := by
  intro value slice pins s σ H x y v u Q I rx ry h hs
  obtain ⟨p, xs, i, z, rfl, rfl, hq, he, q⟩ := h
  cases rx
  obtain ⟨t, rfl⟩ := ry
  obtain ⟨its, r, pl, hz⟩ := I.list hq
  obtain ⟨j, h1, h2, h3, h4, h5⟩ := zb2 he
  obtain ⟨w, ew, rw'⟩ := r.get h2
  have hl := r.length
  have hn := line63
  have fin : EP X pins σ Q w s := ⟨z, H, I, rw', q⟩
  by_cases h0 : 0 <= i
  . have hj : i.toNat = j := by
      rw [seqIndex_of h0 h5] at h1
      exact Option.some.inj h1
    exact item_listR pl.isList h0 (by omega) (by rw [hj]; simpa using ew) fin hs
  . have hj : (i + (its.toArray.size : Int)).toNat = j := by
      rw [seqIndex_neg (by omega) h4] at h1
      rw [List.size_toArray, <- hl]
      exact Option.some.inj h1
    exact subscriptTail_builtinR (x := w) pl.isList.typeIs slot_list_getitem.lookup
      (wpAny_getItem_list_neg (Q := fun r s' => r = w /\ EP X pins σ Q r s') pl.isList (by omega) (by rw [List.size_toArray] <;> omega) (by omega) (by rw [hj]; simpa using ew) ⟨rfl, fin⟩) hs
theorem ix_tup : IxR X (rIxT X.K) := by
  intro value slice pins s σ H x y v u Q I rx ry h hs
  obtain ⟨p, xs, i, z, rfl, rfl, hq, he, q⟩ := h
  cases rx
  obtain ⟨t, rfl⟩ := ry
  obtain ⟨its, r, pl, hz⟩ := I.tuple hq
  obtain ⟨j, h1, h2, h3, h4, h5⟩ := zb2 he
  obtain ⟨w, ew, rw'⟩ := r.get h2
  have hl := r.length
  have hn := line63
  have fin : EP X pins σ Q w s := ⟨z, H, I, rw', q⟩
  exact subscriptTail_builtinR (x := w) pl.typeIs slot_tuple_getitem.lookup
    (getItem_tuple (j := j) (Q := fun r s' => r = w /\ EP X pins σ Q r s') pl (by omega) (by omega) (by rw [List.size_toArray, <- hl]; exact h1) (by simpa using ew) ⟨rfl, fin⟩) hs
theorem ix_str : IxR X rIxS := by
  intro value slice pins s σ H x y v u Q I rx ry h hs
  obtain ⟨z, i, c, rfl, rfl, hz, he, q⟩ := h
  obtain ⟨t, rfl⟩ := rx
  obtain ⟨t', rfl⟩ := ry
  obtain ⟨j, h1, h2, h3, h4, h5⟩ := zb2 he
  have hl : z.cps.toList.length = z.length := by simp [Str.length]
  rw [hl] at h1 h4 h5
  have hn := line63
  exact tail_any (typeIs_str s z t) slot_str_getitem.lookup (getItem_str (c := c) (by
    have e1 : decide (i < -(2 ^ 63 : Int)) = false := decide_eq_false (by omega)
    have e2 : decide (i ≥ 2 ^ 63) = false := decide_eq_false (by omega)
    rw [e1, e2, Bool.or_false]) (by rw [h1]; simpa using h2) ⟨.str ⟨#[c]⟩, H, I.tok _, ⟨_, rfl⟩, q⟩) hs
def rIx (K : PySem.W.Frag) : R2 := fun x y H Q => rIxL K x y H Q \/ rIxT K x y H Q \/ rIxS x y H Q
theorem ix_seq : IxR X (rIx X.K) := zhM.or (ix_tup.or ix_str)
theorem zfA (its : List Value) (n j : Nat) (u : Value) : Obj.mapSeq (·.setIfInBounds j u) { cls := .type "list", data := .seq its.toArray n } = { cls := .type "list", data := .seq (its.set j u).toArray n } := by
  simp [Obj.mapSeq]
theorem Inv.lst {pins : List (Addr × Obj)} {σ : St} {H : Hp} {s : Shared} {p : Addr} {xs : List V} (I : Inv X pins σ H s) (h : H p = some (.lst xs)) :
    ∃ (its : List Value) (n : Nat), Vals xs its /\ s.heap.get? p = some { cls := .type "list", data := .seq its.toArray n } /\ xs.length <= sizeLine := by
  obtain ⟨z, its, n, r, e⟩ := I.hok p _ h
  exact ⟨its, n, r, e, z⟩
theorem Inv.lstUpd {pins : List (Addr × Obj)} {σ : St} {H : Hp} {s : Shared} {p : Addr} {xs ys : List V} {its its' : List Value} {n n' : Nat} {f : Obj -> Obj} (I : Inv X pins σ H s) (h : H p = some (.lst xs))
    (ho : s.heap.get? p = some { cls := .type "list", data := .seq its.toArray n }) (hf : f { cls := .type "list", data := .seq its.toArray n } = { cls := .type "list", data := .seq its'.toArray n' }) (r : Vals ys its') (hz : ys.length <= sizeLine) (t : Nat) :
    Inv X pins σ (upd H p (.lst ys)) { s with heap := s.heap.update p f, toks := t } := by
  have e : (s.heap.update p f).get? p = some { cls := .type "list", data := .seq its'.toArray n' } := by
    rw [Heap.get?_update_self f ho (by rw [hf] <;> rfl), hf]
  refine I.write (x := p) (e := p) (by rw [h]; trivial) (.inl rfl) (fun b u hb q => (Heap.get?_update_other _ _ (Ne.symm hb)).trans q) ⟨_, e⟩ ?_
  exact ⟨hz, its', n', r, e⟩
def rSetL : V -> V -> V -> Hp -> (Hp -> Prop) -> Prop := fun o i v H Q => ∃ p xs k j, o = .ref p /\ i = .int k /\ H p = some (.lst xs) /\ ixN xs.length k = some j /\ Q (upd H p (.lst (xs.set j v)))
theorem zgN : PSet X rSetL := by
  intro pins s σ H o i v ov iv u Q I ro ri rv h
  obtain ⟨p, xs, k, j, rfl, rfl, hp, hj, q⟩ := h
  cases ro
  obtain ⟨t, rfl⟩ := ri
  obtain ⟨its, n, r, ho, hz⟩ := I.lst hp
  obtain ⟨h1, h2, h3, h4⟩ := zeI hj
  have hl := r.length
  have hn := line63
  have I' : Inv X pins σ (upd H p (.lst (xs.set j v))) { s with heap := s.heap.update p (Obj.mapSeq (·.setIfInBounds j u)) } :=
    I.lstUpd hp ho (zfA its n j u) (r.set rv j) (by rw [List.length_set]; exact hz) s.toks
  by_cases h0 : 0 <= k
  . have hk : k.toNat = j := by
      rw [seqIndex_of h0 h4] at h1
      exact Option.some.inj h1
    exact PySem.W.ki_setAt ho h0 (by omega) (by rw [List.size_toArray, <- hl]; exact h4) (by rw [hk]; exact ⟨_, I', q⟩)
  . have hk : (k + (its.toArray.size : Int)).toNat = j := by
      rw [seqIndex_neg (by omega) h3] at h1
      rw [List.size_toArray, <- hl]
      exact Option.some.inj h1
    exact PySem.W.ki_setBack ho (by omega) (by rw [List.size_toArray, <- hl]; exact h3) (by omega) (by rw [hk]; exact ⟨_, I', q⟩)
theorem zdN (lo hi : Option Int) (n : Nat) : (sliceBounds lo hi none n).1 = ((HT.sIx n 0 lo : Nat) : Int) /\ (sliceBounds lo hi none n).2.1 = ((HT.sIx n n hi : Nat) : Int) /\ (sliceBounds lo hi none n).2.2 = 1 := by
  refine ⟨?_, ?_, rfl⟩
  . cases lo with
    | none => simp [sliceBounds, HT.sIx]
    | some i =>
      simp only [sliceBounds, HT.sIx, Option.getD_none, show (1 : Int) > 0 by decide, if_true]
      by_cases h : i < 0
      . simp only [h, if_true] <;> omega
      . simp only [h, if_false] <;> omega
  . cases hi with
    | none => simp [sliceBounds, HT.sIx]
    | some i =>
      simp only [sliceBounds, HT.sIx, Option.getD_none, show (1 : Int) > 0 by decide, if_true]
      by_cases h : i < 0
      . simp only [h, if_true] <;> omega
      . simp only [h, if_false] <;> omega
theorem zdD (its : List Value) (lo hi : Option Int) : slicePick its.toArray lo hi none = ((its.drop (HT.sIx its.length 0 lo)).take (HT.sIx its.length its.length hi - HT.sIx its.length 0 lo)).toArray := by
  obtain ⟨h1, h2, h3⟩ := zdN lo hi its.toArray.size
  unfold slicePick
  rw [h1, h2, h3]
  simp only [sliceRange_one, pick_run, List.size_toArray] <;> rfl
def rSlL (K : PySem.W.Frag) : V -> Option Int -> Option Int -> Hp -> VK -> Prop := fun x lo hi H Q => ∃ a xs, x = .ref a /\ SqL K H a xs /\ ∀ p, H p = none -> Q (.ref p) (upd H p (.lst (cutV xs lo hi)))
theorem zhN : SlR X (rSlL X.K) := by
  intro pins s σ H x v vl vu lo hi sl Q I rx hs pl pu h
  obtain ⟨a, xs, rfl, hx, q⟩ := h
  cases rx
  obtain ⟨its, r, ht, hz⟩ := I.list hx
  have hlen := r.length
  refine ⟨"list", _, slot_list_getitem.lookup, ht.isList.typeIs, ?_⟩
  refine wpAny_getItem_list_slice ht.isList hs pl pu .none (by simp) ?_ (by rw [List.size_toArray] <;> omega)
  rw [zdD, <- hlen]
  refine ⟨.ref s.heap.objs.size, _, I.laid (t' := s.toks) (o := .lst (cutV xs lo hi)) (fun b ob q => Heap.get?_push_of_some _ q) (Nat.le_refl _) ?_, rfl, q _ (I.hok.fresh (Nat.le_refl _))⟩
  exact ⟨Nat.le_trans (zch xs lo hi) hz, _, 0, (r.drop (HT.sIx xs.length 0 lo)).take (HT.sIx xs.length xs.length hi - HT.sIx xs.length 0 lo), Heap.get?_push_size _ rfl⟩
theorem zdO : OpR X (compareOp .NotIn) (fun x y H Q => ∃ i j, x = .str i /\ y = .str j /\ Q (.bl (!(!(Builtin.Str.occurrences j i 0 j.length 1).isEmpty))) H) := by
  intro pins s σ H x y v u Q I rx ry h
  obtain ⟨i, j, rfl, rfl, q⟩ := h
  obtain ⟨t, rfl⟩ := rx
  obtain ⟨t', rfl⟩ := ry
  exact notIn_str ⟨.bl _, H, I, rfl, q⟩
theorem zdP : CallR X (.builtin "len") (fun xs H Q => ∃ p ys, xs = [.ref p] /\ (SqL X.K H p ys \/ SqT X.K H p ys) /\ Q (.int ys.length) H) := by
  intro pins s σ H xs us Q I r h
  obtain ⟨p, ys, rfl, hq, q⟩ := h
  obtain ⟨u, rfl, rx⟩ := vals1 r
  cases rx
  have hn := line63
  rcases hq with hq | hq
  . obtain ⟨its, r', pl, hz⟩ := I.list hq
    have hlen := r'.length
    exact Calls.call_len_list pl.isList (by simp only [List.size_toArray] <;> omega) ⟨.int ys.length, H, I.tok _, ⟨s.toks + 1, by rw [List.size_toArray, hlen]⟩, q⟩
  . obtain ⟨its, r', pl, hz⟩ := I.tuple hq
    have hlen := r'.length
    exact len_tuple pl (by simp only [List.size_toArray] <;> omega) ⟨.int ys.length, H, I.tok _, ⟨s.toks + 1, by rw [List.size_toArray, hlen]⟩, q⟩
theorem zdQ : CallR X (.builtin "len") (fun xs H Q => ∃ z, xs = [.str z] /\ z.length <= sizeLine /\ Q (.int z.length) H) := by
  intro pins s σ H xs us Q I r h
  obtain ⟨z, rfl, hz, q⟩ := h
  obtain ⟨u, rfl, t, rfl⟩ := vals1 r
  have hn := line63
  exact len_str (by omega) ⟨.int z.length, H, I.tok _, ⟨_, rfl⟩, q⟩
theorem CallR.or {f : Value} {r r' : List V -> Hp -> VK -> Prop} (h : CallR X f r) (h' : CallR X f r') : CallR X f (fun xs H Q => r xs H Q \/ r' xs H Q) := by
  intro pins s σ H xs us Q I rs q
  rcases q with q | q
  . exact h pins s σ H xs us Q I rs q
  . exact h' pins s σ H xs us Q I rs q
def tyV (K : PySem.W.Frag) (T : String) (x : V) (H : Hp) : Prop := match x with
  | .str _ => T = "str"
  | .int _ => T = "int"
  | .ref p => (T = "list" /\ ∃ xs, SqL K H p xs) \/ (T = "tuple" /\ ∃ o, K.lookup p = some o /\ o.cls = .type "tuple" /\ o.dict = none) \/
      (T = "dict" /\ ((∃ kvs, H p = some (.dK kvs)) \/ ∃ kvs, H p = some (.dT kvs))) \/ (T = "set" /\ ∃ S n, H p = some (.set S n))
  | _ => False
theorem tyV_is {pins : List (Addr × Obj)} {σ : St} {H : Hp} {s : Shared} {T : String} {x : V} {v : Value} (I : Inv X pins σ H s) (r : RelV x v) (ty : tyV X.K T x H) :
    s.TypeIs v T /\ ∀ a, v = .ref a -> ∃ ob, s.heap.get? a = some ob /\ ob.dict = none := by
  cases x with
  | str z =>
    obtain ⟨t, rfl⟩ := r
    cases (show T = "str" from ty)
    exact ⟨typeIs_str s z t, fun _ e => nomatch e⟩
  | int i =>
    obtain ⟨t, rfl⟩ := r
    cases (show T = "int" from ty)
    exact ⟨typeIs_int s i t, fun _ e => nomatch e⟩
  | ref p =>
    cases r
    rcases ty with ⟨rfl, xs, hq⟩ | ⟨rfl, o, hk, hc, hd⟩ | ⟨rfl, hk⟩ | ⟨rfl, S, n, hk⟩
    . obtain ⟨its, _, pl, _⟩ := I.list hq
      refine ⟨pl.isList.typeIs, fun a e => ?_⟩
      cases e
      obtain ⟨o, n, e, c, hd, _⟩ := pl
      exact ⟨o, e, hd⟩
    . refine ⟨⟨o, I.kIn p o hk, hc⟩, fun a e => ?_⟩
      cases e
      exact ⟨o, I.kIn _ o hk, hd⟩
    . have z : ∃ o, s.heap.get? p = some o /\ o.ExactDict := by
        rcases hk with ⟨kvs, hk⟩ | ⟨kvs, hk⟩
        . obtain ⟨_, _, _, _, o, _, _, e, ex, _⟩ := I.hok p _ hk
          exact ⟨o, e, ex⟩
        . obtain ⟨_, _, _, _, o, _, _, e, ex, _⟩ := I.hok p _ hk
          exact ⟨o, e, ex⟩
      obtain ⟨o, e, ex⟩ := z
      refine ⟨⟨o, e, ex.1⟩, fun a e2 => ?_⟩
      cases e2
      exact ⟨o, e, ex.2.1⟩
    . obtain ⟨o, _, _, _, e, ex, _⟩ := I.hok p _ hk
      refine ⟨⟨o, e, ex.1⟩, fun a e2 => ?_⟩
      cases e2
      exact ⟨o, e, ex.2.1⟩
  | _ => exact False.elim ty
def tBM (K : PySem.W.Frag) (T : String) (r : V -> List V -> Hp -> VK -> Prop) (to : TE) (t : TA) : TE := fun σ H Q => to σ H fun x H1 => tyV K T x H1 /\ t σ H1 fun xs H2 => r x xs H2 Q
variable {o e : Expr} {es : List Expr} {to : TE} {t : TA} {name : Str} {apos cpos : Pos} {T id : String} {r : V -> List V -> Hp -> VK -> Prop}
theorem pe_bm (pa : PlainAttrs T) (slot : Slot T name id) (hty : typeOf (.builtin id) = pure (.type "method_descriptor")) (hm : MtR X id r) (ho : PE X o to) (ha : PA X (e :: es) t)
    (hbase : attributeBase o name X.env (eval o X.env) = eval o X.env := by rfl)
    (hfew : ((backTo cpos (starEach (e :: es) X.env)).all (fun x => !x.1) && (backToKw cpos (keywordEach [] X.env)).all (fun x => x.1.isSome)
      && decide ((e :: es).length + ([] : List Keyword).length + (if ([] : List Keyword).isEmpty then 0 else 1) < 30)) = true := by rfl)
    (hline : (apos.endLine == cpos.line) = true := by rfl) (hs : starEach (e :: es) X.env = (false, eval e X.env) :: starEach es X.env := by rfl) (hplain : (backTo cpos (starEach es X.env)).any (·.1) = false := by rfl) :
    PE X (.Call (.Attribute o name apos) (e :: es) [] cpos) (tBM X.K T r to t) := by
  intro pins s σ H Q I h
  refine wpAny_Call_method_late hbase hfew hline rfl (thn (ho pins s σ H _ I h) fun v s1 ⟨x, H1, I1, r1, ty, q1⟩ => ?_)
  obtain ⟨h1, h2⟩ := tyV_is I1 r1 ty
  refine ⟨T, id, pa, slot, hty, h1, h2, ?_⟩
  have hA := ha cpos pins s1 σ H1 _ I1 q1
  rw [hs] at hA ⊢
  refine Calls.callWith_builtin (by show (false || (backTo cpos (starEach es X.env)).any (·.1)) = false; rw [hplain] <;> rfl) (Calls.evalArgs_plain ?_)
  exact thn hA fun us s2 ⟨vs, H2, I2, r2, q2⟩ => hm pins s2 σ H2 x vs v us Q I2 r1 r2 q2
/- xs.append(e), list.index on a module's tuple .. are MtR facts of 06m -/
end
end L2
namespace L2
open PySem PySem.Spec PyProof.Rows
def MtM (X : Cx) (id : String) (r : V -> List V -> Hp -> VK -> Prop) : Prop :=
  ∀ (pins : List (Addr × Obj)) (s : Shared) (σ : St) (H : Hp) (x : V) (xs : List V) (v : Value) (us : List Value) (Q : VK), Inv X pins σ H s -> RelV x v -> Vals xs us -> r x xs H Q ->
    wpAny (model X.prog X.w) X.A (call (.builtin id) (v :: us)) (EP X pins σ Q) X.xe s
theorem Vals.one : ∀ {x : V} {us : List Value}, Vals [x] us -> ∃ u, us = [u] /\ RelV x u
  | _, _, .cons r .nil => ⟨_, rfl, r⟩
theorem Vals.eraseIdx : ∀ {xs : List V} {us : List Value} (i : Nat), Vals xs us -> Vals (xs.eraseIdx i) (us.eraseIdx i)
  | _, _, _, .nil => .nil
  | _, _, 0, .cons _ t => t
  | _, _, i + 1, .cons r t => .cons r (Vals.eraseIdx i t)
theorem Vals.rep {xs : List V} {us : List Value} (h : Vals xs us) : ∀ k : Nat, Vals (List.replicate k xs).flatten (List.replicate k us).flatten
  | 0 => .nil
  | k + 1 => by
    rw [List.replicate_succ, List.replicate_succ, List.flatten_cons, List.flatten_cons]
    exact Vals.append h (Vals.rep h k)
theorem zdm {α : Type} : ∀ (l : List α) (i : Nat), (l.eraseIdx i).length <= l.length
  | [], _ => Nat.le_refl _
  | _ :: _, 0 => Nat.le_succ _
  | _ :: r, i + 1 => Nat.succ_le_succ (zdm r i)
section
variable {X : Cx} {pins : List (Addr × Obj)} {σ : St} {H : Hp} {s : Shared} {l b : Addr} {xs ys zs : List V}
theorem Inv.lset {its its' : List Value} {n : Nat} {f : Array Value -> Array Value} {t' : Nat} (I : Inv X pins σ H s) (hH : H l = some (.lst xs))
    (e : s.heap.get? l = some { cls := .type "list", data := .seq its.toArray n }) (hf : f its.toArray = its'.toArray) (hv : Vals ys its') (hz : ys.length <= sizeLine) :
    Inv X pins σ (upd H l (.lst ys)) { s with heap := s.heap.update l (Obj.mapSeq f), toks := t' } := by
  have q := PySem.IsL.update e f
  rw [hf] at q
  refine I.write (x := l) (e := l) (by rw [hH]; exact trivial) (.inl rfl) (fun b' u hb hu => (Heap.get?_update_other s.heap (Obj.mapSeq f) (Ne.symm hb)).trans hu) ⟨_, q⟩ ?_
  exact ⟨hz, its', _, hv, q⟩
theorem Inv.lnew {its : List Value} {t' : Nat} (I : Inv X pins σ H s) (hv : Vals ys its) (hz : ys.length <= sizeLine) :
    Inv X pins σ (upd H s.heap.objs.size (.lst ys)) { s with heap := s.heap.push { cls := .type "list", data := .seq its.toArray }, toks := t' } :=
  I.laid (fun _ _ q => Heap.get?_push_of_some _ q) (Nat.le_refl _) ⟨hz, its, 0, hv, Heap.get?_push_size _ rfl⟩
theorem Inv.fresh (I : Inv X pins σ H s) : H s.heap.objs.size = none := I.hok.fresh (Nat.le_refl _)
theorem Inv.lstM (I : Inv X pins σ H s) (hH : H l = some (.lst xs)) : xs.length <= sizeLine /\ ∃ (its : List Value) (n : Nat), Vals xs its /\ xs.length = its.length /\ s.heap.get? l = some { cls := .type "list", data := .seq its.toArray n } := by
  obtain ⟨z, its, n, r, e⟩ := I.hok l _ hH
  exact ⟨z, its, n, r, r.length, e⟩
theorem zgO {n : Nat} (h : n <= sizeLine) : Builtin.List.listTooLong n = false := by
  unfold Builtin.List.listTooLong
  exact decide_eq_false (by omega)
end
section
variable {X : Cx}
def rAppend : V -> List V -> Hp -> VK -> Prop := fun x vs H Q => ∃ l xs y, x = .ref l /\ vs = [y] /\ H l = some (.lst xs) /\ xs.length < sizeLine /\ Q .non (upd H l (.lst (xs ++ [y])))
theorem zbM : MtM X "list.append" rAppend := by
  intro pins s σ H x vs v us Q I rx rv h
  obtain ⟨l, xs, y, rfl, rfl, hH, hz, q⟩ := h
  cases rx
  obtain ⟨u, rfl, ru⟩ := rv.one
  obtain ⟨z, its, n, r, hl, e⟩ := I.lstM hH
  refine call_meets F.slot_list_append ⟨_, e, rfl⟩ F.entry_list_append (F.args_list_append_2 _ _) (PySem.list_append l its.toArray n u (by rw [List.size_toArray]; omega)) ⟨e, ?_⟩
  refine ⟨.non, _, I.lset (its' := its ++ [u]) hH e (by simp) (r.append (.cons ru .nil)) ?_, rfl, q⟩
  rw [List.length_append, List.length_singleton]
  omega
def rExtend : V -> List V -> Hp -> VK -> Prop := fun x vs H Q => ∃ l b xs zs, x = .ref l /\ vs = [.ref b] /\ H l = some (.lst xs) /\ H b = some (.lst zs) /\ xs.length + zs.length <= sizeLine /\ Q .non (upd H l (.lst (xs ++ zs)))
theorem zf5 : MtM X "list.extend" rExtend := by
  intro pins s σ H x vs v us Q I rx rv h
  obtain ⟨l, b, xs, zs, rfl, rfl, hH, hB, hz, q⟩ := h
  cases rx
  obtain ⟨u, rfl, ru⟩ := rv.one
  cases ru
  obtain ⟨z, its, n, r, hl, e⟩ := I.lstM hH
  obtain ⟨z2, its2, n2, r2, hl2, e2⟩ := I.lstM hB
  have hsz : its.toArray.size + its2.toArray.size <= sizeLine := by rw [List.size_toArray, List.size_toArray]; omega
  have hlong : ¬ (!its.toArray.isEmpty && Builtin.List.listTooLong (its.toArray.size + its2.toArray.size)) = true := by
    rw [zgO hsz, Bool.and_false]
    exact Bool.false_ne_true
  refine call_meets F.slot_list_extend ⟨_, e, rfl⟩ F.entry_list_extend (F.args_list_extend_2 _ _)
    (AutoSeq1.list_extend_list_list_0 l its.toArray n b its2.toArray n2 hlong (by rw [List.size_toArray]; omega) (by omega)) ⟨e, e2, ?_⟩
  refine ⟨.non, _, I.lset (its' := its ++ its2) hH e (by simp) (r.append r2) ?_, rfl, q⟩
  rw [List.length_append]
  omega
def rPopAt : V -> List V -> Hp -> VK -> Prop := fun x vs H Q => ∃ l xs i k y, x = .ref l /\ vs = [.int i] /\ H l = some (.lst xs) /\ -(2 ^ 63) <= i /\ i < 2 ^ 63 /\ seqIndex? i xs.length = some k /\ xs[k]? = some y /\ Q y (upd H l (.lst (xs.eraseIdx k)))
theorem zgP : MtM X "list.pop" rPopAt := by
  intro pins s σ H x vs v us Q I rx rv h
  obtain ⟨l, xs, i, k, y, rfl, rfl, hH, h1, h2, hk, hy, q⟩ := h
  cases rx
  obtain ⟨u, rfl, ru⟩ := rv.one
  obtain ⟨t, rfl⟩ := ru
  obtain ⟨z, its, n, r, hl, e⟩ := I.lstM hH
  obtain ⟨w, hw, rw'⟩ := r.get hy
  refine call_meets F.slot_list_pop ⟨_, e, rfl⟩ F.entry_list_pop (F.args_list_pop_2 _ _)
    (MeetsSeq.list_pop_at l its.toArray n i t k w (fitsIndex_both h1 h2) (by rw [List.size_toArray, <- hl]; exact hk) (by rw [<- Array.getElem?_toList]; exact hw) (by rw [List.size_toArray]; omega)) ⟨e, ?_⟩
  refine ⟨y, _, I.lset (its' := its.eraseIdx k) hH e ?_ (r.eraseIdx k) ?_, rw', q⟩
  . show its.toArray.eraseIdxIfInBounds k = (its.eraseIdx k).toArray
    rw [List.eraseIdxIfInBounds_toArray]
  . have := zdm xs k
    omega
end
section
variable {prog : Program} {w : World} {A : Around} {E : Value -> Shared -> Prop} {s : Shared}
end
section
variable {X : Cx}
end
end L2
namespace L2
open PySem PySem.Spec PyProof.Rows
section
variable {κ : Type} [DecidableEq κ]
def valV (kvs : List (κ × V)) (k : κ) : Option V := (kvs.find? fun kv => decide (kv.1 = k)).map (·.2)
def putK (kvs : List (κ × V)) (k : κ) (v : V) : List (κ × V) :=
  if (kvs.any fun kv => decide (kv.1 = k)) = true then kvs.map (fun kv => if kv.1 = k then (kv.1, v) else kv) else kvs ++ [(k, v)]
theorem zbr {p : κ × V} {r : List (κ × V)} {k : κ} (e : p.1 = k) : valV (p :: r) k = some p.2 := by simp [valV, List.find?_cons, e]
theorem zaZ {p : κ × V} {r : List (κ × V)} {k : κ} (e : ¬ p.1 = k) : valV (p :: r) k = valV r k := by simp [valV, List.find?_cons, e]
theorem zcu (k : κ) : ∀ kvs : List (κ × V), (kvs.any fun kv => decide (kv.1 = k)) = (valV kvs k).isSome
  | [] => rfl
  | p :: r => by
    rw [List.any_cons]
    by_cases e : p.1 = k
    . simp only [zbr e, decide_eq_true e, Bool.true_or, Option.isSome_some]
    . rw [zaZ e, decide_eq_false e, Bool.false_or]; exact zcu k r
theorem zci (kvs : List (κ × V)) (k : κ) (v : V) : (putK kvs k v).length <= kvs.length + 1 := by
  unfold putK
  split
  . rw [List.length_map]; omega
  . rw [List.length_append, List.length_cons, List.length_nil]; omega
theorem RelO.isSome_eq {o : Option V} {u : Option Value} (r : RelO o u) : o.isSome = u.isSome := by
  cases o with
  | none => cases u with
    | none => rfl
    | some _ => exact (show False from r).elim
  | some _ => cases u with
    | none => exact (show False from r).elim
    | some _ => rfl
theorem KV.val {kvs : List (κ × V)} {vs : List (κ × Value)} (r : KV kvs vs) (k : κ) : RelO (valV kvs k) (valueAt vs k) := by
  unfold KV at r
  induction r with
  | nil => exact True.intro
  | @cons p q ps qs h t ih =>
    obtain ⟨h1, h2⟩ := h
    by_cases e : p.1 = k
    . have e' : q.1 = k := h1.symm.trans e
      have b : valueAt (q :: qs) k = some q.2 := by simp [valueAt, List.find?_cons, e']
      rw [zbr e, b]; exact h2
    . have e' : ¬ q.1 = k := fun z => e (h1.trans z)
      have b : valueAt (q :: qs) k = valueAt qs k := by simp [valueAt, List.find?_cons, e']
      rw [zaZ e, b]; exact ih
theorem KV.any {kvs : List (κ × V)} {vs : List (κ × Value)} (r : KV kvs vs) (k : κ) : (kvs.any fun kv => decide (kv.1 = k)) = vs.any fun kv => decide (kv.1 = k) := by
  unfold KV at r
  induction r with
  | nil => rfl
  | cons h t ih => rw [List.any_cons, List.any_cons, ih, h.1]
theorem KV.repl {kvs : List (κ × V)} {vs : List (κ × Value)} (r : KV kvs vs) (k : κ) {y : V} {u : Value} (ry : RelV y u) :
    KV (kvs.map fun kv => if kv.1 = k then (kv.1, y) else kv) (vs.map fun kv => if kv.1 = k then (kv.1, u) else kv) := by
  unfold KV at r ⊢
  induction r with
  | nil => exact .nil
  | @cons p q ps qs h t ih =>
    rw [List.map_cons, List.map_cons]
    refine .cons ?_ ih
    obtain ⟨h1, h2⟩ := h
    by_cases e : p.1 = k
    . rw [if_pos e, if_pos (h1.symm.trans e)]; exact ⟨h1, ry⟩
    . rw [if_neg e, if_neg (fun z => e (h1.trans z))]; exact ⟨h1, h2⟩
theorem KV.put {kvs : List (κ × V)} {vs : List (κ × Value)} (r : KV kvs vs) (k : κ) {y : V} {u : Value} (ry : RelV y u) : KV (putK kvs k y) (stored vs k u) := by
  unfold putK stored
  rw [r.any k]
  by_cases e : (vs.any fun kv => decide (kv.1 = k)) = true
  . rw [if_pos e, if_pos e]; exact r.repl k ry
  . rw [if_neg e, if_neg e]; exact Paired.snoc r ⟨rfl, ry⟩
theorem KV.length {kvs : List (κ × V)} {vs : List (κ × Value)} (r : KV kvs vs) : kvs.length = vs.length := Paired.length r
end
theorem kV_is {P : Program} {w : World} {k : Key} {u : Value} (r : RelV (kV k) u) : (mixKind P w).is k u = true := by
  cases k with
  | inl i => obtain ⟨t, e⟩ := (show ∃ t, u = Value.int i t from r); subst e; exact zce P w i t
  | inr x => obtain ⟨t, e⟩ := (show ∃ t, u = Value.str x t from r); subst e; exact zcf P w x t
theorem kOf_is {P : Program} {w : World} {y : V} {k : Key} {u : Value} (e : kOf y = some k) (r : RelV y u) : (mixKind P w).is k u = true := by
  cases y with
  | int i => cases e; obtain ⟨t, e⟩ := (show ∃ t, u = Value.int i t from r); subst e; exact zce P w i t
  | str x => cases e; obtain ⟨t, e⟩ := (show ∃ t, u = Value.str x t from r); subst e; exact zcf P w x t
  | bl b => cases e; cases (show u = Value.bool b from r); exact decide_eq_true rfl
  | _ => cases e
theorem zdn {P : Program} {w : World} : ∀ {ys : List V} {ks : List Key} {us : List Value}, ys.map kOf = ks.map some -> Vals ys us -> ItemsAre (mixKind P w) ks us
  | [], [], _, _, r => by cases r; exact .nil
  | [], _ :: _, _, e, _ => by simp at e
  | _ :: _, [], _, e, _ => by simp at e
  | y :: ys, k :: ks, _, e, r => by
    rw [List.map_cons, List.map_cons] at e
    injection e with e1 e2
    cases r with
    | cons h t => exact .cons (kOf_is e1 h) (zdn e2 t)
def KTup (H : Hp) (b : Addr) (k : List Key) : Prop := ∃ ys, H b = some (.tup ys) /\ ys.map kOf = k.map some
theorem KTup.of {H : Hp} {b : Addr} {k : List Key} (e : H b = some (.tup (k.map kV))) : KTup H b k := ⟨_, e, by rw [List.map_map]; exact List.map_congr_left fun x _ => kOf_kV x⟩
abbrev KT (H : Hp) : List (List Key × V) -> List (List Key × Addr × Value) -> Prop := Paired fun p q => p.1 = q.1 /\ (∃ ys, H q.2.1 = some (.tup ys) /\ ys.map kOf = p.1.map some) /\ RelV p.2 q.2.2
theorem KT.val {H : Hp} {kvs : List (List Key × V)} {xs : List (List Key × Addr × Value)} (r : KT H kvs xs) (k : List Key) : RelO (valV kvs k) ((atKey xs k).map (·.2)) := by
  induction r with
  | nil => exact True.intro
  | @cons p q ps qs h t ih =>
    obtain ⟨h1, _, h2⟩ := h
    by_cases e : p.1 = k
    . have e' : q.1 = k := h1.symm.trans e
      have b : atKey (q :: qs) k = some q.2 := by simp [atKey, List.find?_cons, e']
      rw [zbr e, b]; exact h2
    . have e' : ¬ q.1 = k := fun z => e (h1.trans z)
      have b : atKey (q :: qs) k = atKey qs k := by simp [atKey, List.find?_cons, e']
      rw [zaZ e, b]; exact ih
theorem KT.repl {H : Hp} {kvs : List (List Key × V)} {xs : List (List Key × Addr × Value)} (r : KT H kvs xs) (k : List Key) {y : V} {u : Value} (ry : RelV y u) :
    KT H (kvs.map fun kv => if kv.1 = k then (kv.1, y) else kv) (xs.map (putAt k u)) := by
  induction r with
  | nil => exact .nil
  | @cons p q ps qs h t ih =>
    rw [List.map_cons, List.map_cons]
    refine .cons ?_ ih
    obtain ⟨h1, h2, h3⟩ := h
    unfold putAt
    by_cases e : p.1 = k
    . rw [if_pos e, if_pos (h1.symm.trans e)]; exact ⟨h1, h2, ry⟩
    . rw [if_neg e, if_neg (fun z => e (h1.trans z))]; exact ⟨h1, h2, h3⟩
theorem KT.put {H : Hp} {kvs : List (List Key × V)} {xs : List (List Key × Addr × Value)} (r : KT H kvs xs) (k : List Key) {b : Addr} {y : V} {u : Value} (hb : KTup H b k) (ry : RelV y u) :
    KT H (putK kvs k y) (storedH xs k b u) := by
  have e : (kvs.any fun kv => decide (kv.1 = k)) = (atKey xs k).isSome := by
    rw [zcu, (r.val k).isSome_eq, Option.isSome_map]
  unfold putK storedH
  rw [e]
  by_cases q : (atKey xs k).isSome = true
  . rw [if_pos q, if_pos q]; exact r.repl k ry
  . rw [if_neg q, if_neg q]; exact Paired.snoc r ⟨rfl, hb, ry⟩
theorem KT.keeps {H H' : Hp} {kvs : List (List Key × V)} {xs : List (List Key × Addr × Value)} (r : KT H kvs xs) (ht : ∀ b ys, H b = some (.tup ys) -> H' b = some (.tup ys)) : KT H' kvs xs :=
  Paired.mapP r fun _ _ z => ⟨z.1, z.2.1.imp fun _ e => ⟨ht _ _ e.1, e.2⟩, z.2.2⟩
section
variable {P : Program} {w : World} {H : Hp} {h : Heap} {a : Addr}
theorem rd_of {u : HO} (ok : HOk P w H h) (e : Rd H a u) : ObjOk P w H h a u := e.ok ok
theorem dk_rd {kvs : List (Key × V)} (ok : HOk P w H h) (e : Rd H a (.dK kvs)) : kvs.length <= sizeLine /\ (a == sysModules) = false /\ ∃ vs, KV kvs vs /\ h.DictOf (mixKind P w) a vs :=
  show ObjOk P w H h a (.dK kvs) from rd_of ok e
theorem dk_of {kvs : List (Key × V)} (ok : HOk P w H h) (e : H a = some (.dK kvs)) : kvs.length <= sizeLine /\ (a == sysModules) = false /\ ∃ vs, KV kvs vs /\ h.DictOf (mixKind P w) a vs := dk_rd ok (.inl e)
theorem key_of {ks : List Key} (ok : HOk P w H h) (e : KTup H a ks) : (tupleKind (mixKind P w)).is h ks a := by
  obtain ⟨ys, e, ek⟩ := e
  obtain ⟨_, its, r, o, h1, h2, n, h3⟩ := (show ObjOk P w H h a (.tup ys) from ok a _ e)
  exact ⟨o, its.toArray, n, h1, h2, h3, by simpa using zdn ek r⟩
theorem dt_rd {kvs : List (List Key × V)} (ok : HOk P w H h) (e : Rd H a (.dT kvs)) : kvs.length <= sizeLine /\ (a == sysModules) = false /\
    ∃ xs, KT H kvs xs /\ h.DictOfH (tupleKind (mixKind P w)) a xs := by
  obtain ⟨z, y, xs, r, o, es, ep, h1, h2, h3, h4, h5⟩ := (show ObjOk P w H h a (.dT kvs) from rd_of ok e)
  refine ⟨z, y, xs, r, o, es, ep, h1, h2, h3, h4, fun x hx => ?_, h5⟩
  have all : ∀ {l : List (List Key × V)} {m : List (List Key × Addr × Value)}, KT H l m -> ∀ x ∈ m, (tupleKind (mixKind P w)).is h x.1 x.2.1 := by
    intro l m q
    induction q with
    | nil => intro x hx; exact nomatch hx
    | @cons p q ps qs hq t ih =>
      intro x hx
      rcases List.mem_cons.mp hx with e | hx
      . subst e
        exact key_of ok (by rw [<- hq.1]; exact hq.2.1)
      . exact ih x hx
  exact all r x hx
theorem dt_of {kvs : List (List Key × V)} (ok : HOk P w H h) (e : H a = some (.dT kvs)) : kvs.length <= sizeLine /\ (a == sysModules) = false /\
    ∃ xs, KT H kvs xs /\ h.DictOfH (tupleKind (mixKind P w)) a xs := dt_rd ok (.inl e)
end
def DGet (H : Hp) (a : Addr) (y : V) (r : Option V) : Prop :=
  (∃ kvs k, Rd H a (.dK kvs) /\ y = kV k /\ r = valV kvs k) \/ ∃ kvs k b, Rd H a (.dT kvs) /\ y = .ref b /\ KTup H b k /\ r = valV kvs k
def DPut (H : Hp) (a : Addr) (y v : V) (H' : Hp) : Prop :=
  (∃ kvs k, H a = some (.dK kvs) /\ y = kV k /\ kvs.length < sizeLine /\ H' = upd H a (.dK (putK kvs k v))) \/
  ∃ kvs k b, H a = some (.dT kvs) /\ y = .ref b /\ KTup H b k /\ kvs.length < sizeLine /\ H' = upd H a (.dT (putK kvs k v))
theorem DGet.k {H : Hp} {a : Addr} {kvs : List (Key × V)} {k : Key} (e : H a = some (.dK kvs)) : DGet H a (kV k) (valV kvs k) := .inl ⟨kvs, k, .inl e, rfl, rfl⟩
theorem DGet.t {H : Hp} {a b : Addr} {kvs : List (List Key × V)} {k : List Key} (e : H a = some (.dT kvs)) (eb : KTup H b k) : DGet H a (.ref b) (valV kvs k) := .inr ⟨kvs, k, b, .inl e, rfl, eb, rfl⟩
theorem DPut.k {H : Hp} {a : Addr} {kvs : List (Key × V)} {k : Key} {v : V} (e : H a = some (.dK kvs)) (hl : kvs.length < sizeLine) : DPut H a (kV k) v (upd H a (.dK (putK kvs k v))) := .inl ⟨kvs, k, e, rfl, hl, rfl⟩
theorem DPut.t {H : Hp} {a b : Addr} {kvs : List (List Key × V)} {k : List Key} {v : V} (e : H a = some (.dT kvs)) (eb : KTup H b k) (hl : kvs.length < sizeLine) :
    DPut H a (.ref b) v (upd H a (.dT (putK kvs k v))) := .inr ⟨kvs, k, b, e, rfl, eb, hl, rfl⟩
section
variable {X : Cx} {pins : List (Addr × Obj)} {σ : St} {H : Hp} {s : Shared} {a : Addr} {y v : V} {u r : Value} {o : Option V} {A : Around} {E : Value -> Shared -> Prop}
theorem Inv.big (I : Inv X pins σ H s) : sysModules < s.heap.objs.size := by
  have h : mainGlobals < s.heap.objs.size := (I.mod.glob.keeps I.bk).lt
  exact Nat.lt_trans (by decide) h
theorem zf6 {Q : Value -> Shared -> Prop} (hu : A.units + 1 < cLine) (I : Inv X pins σ H s) (g : DGet H a y (some v)) (ry : RelV y u) (h : ∀ w' s', Inv X pins σ H s' -> RelV v w' -> Q w' s') :
    wpAny (model X.prog X.w) A (getItem (.ref a) u) Q E s := by
  rcases g with ⟨kvs, k, e, ey, l⟩ | ⟨kvs, k, b, e, ey, eb, l⟩
  . subst ey
    obtain ⟨z, hd, vs, rel, dd⟩ := dk_rd I.hok e
    obtain ⟨w', hw, rw'⟩ := RelO.some_of (v := v) (o := valueAt vs k) (by rw [l]; exact rel.val k)
    exact wpAny_getItem_of (kV_is ry) dd.mapOf hw (h w' _ (I.tok _) rw')
  . subst ey
    cases (show u = Value.ref b from ry)
    obtain ⟨z, hd, xs, rel, dd⟩ := dt_rd I.hok e
    obtain ⟨w', hw, rw'⟩ := RelO.some_of (v := v) (o := (atKey xs k).map (·.2)) (by rw [l]; exact rel.val k)
    obtain ⟨p, hp, hp2⟩ := Option.map_eq_some_iff.mp hw
    refine wpAny_getItem_heap (tupleKind_room_in1 hu) (key_of I.hok eb) dd hp ?_
    rw [hp2]
    exact h w' _ (I.tok _) rw'
theorem d_in {Q : Value -> Shared -> Prop} (hu : A.units + 1 < cLine) (I : Inv X pins σ H s) (g : DGet H a y o) (ry : RelV y u) (h : ∀ s', Inv X pins σ H s' -> Q (.bool o.isSome) s') :
    wpAny (model X.prog X.w) A (compareOp .In u (.ref a)) Q E s := by
  rcases g with ⟨kvs, k, e, ey, l⟩ | ⟨kvs, k, b, e, ey, eb, l⟩
  . subst ey
    obtain ⟨z, hd, vs, rel, dd⟩ := dk_rd I.hok e
    refine wpAny_in_of (kV_is ry) hd dd.mapOf ?_
    rw [<- (rel.val k).isSome_eq, <- l]
    exact h _ (I.tok _)
  . subst ey
    cases (show u = Value.ref b from ry)
    obtain ⟨z, hd, xs, rel, dd⟩ := dt_rd I.hok e
    refine wpAny_in_heap (tupleKind_room_in1 hu) (key_of I.hok eb) hd dd ?_
    have q := (rel.val k).isSome_eq
    rw [Option.isSome_map] at q
    rw [<- q, <- l]
    exact h _ (I.tok _)
theorem zhO {Q : Value -> Shared -> Prop} (hu : A.units + 1 < cLine) (I : Inv X pins σ H s) (g : DGet H a y o) (ry : RelV y u) (h : ∀ s', Inv X pins σ H s' -> Q (.bool (!o.isSome)) s') :
    wpAny (model X.prog X.w) A (compareOp .NotIn u (.ref a)) Q E s := by
  rcases g with ⟨kvs, k, e, ey, l⟩ | ⟨kvs, k, b, e, ey, eb, l⟩
  . subst ey
    obtain ⟨z, hd, vs, rel, dd⟩ := dk_rd I.hok e
    refine wpAny_notIn_of (kV_is ry) hd dd.mapOf ?_
    rw [<- (rel.val k).isSome_eq, <- l]
    exact h _ (I.tok _)
  . subst ey
    cases (show u = Value.ref b from ry)
    obtain ⟨z, hd, xs, rel, dd⟩ := dt_rd I.hok e
    refine wpAny_notIn_heap (tupleKind_room_in1 hu) (key_of I.hok eb) hd dd ?_
    have q := (rel.val k).isSome_eq
    rw [Option.isSome_map] at q
    rw [<- q, <- l]
    exact h _ (I.tok _)
theorem zeJ {h' : Heap} {t' : Nat} {ob : HO} (I : Inv X pins σ H s) (mu : Mut (H a)) (hs : Heap.SameBut a s.heap h') (he : ∃ q, h'.get? a = some q) (new : ObjOk X.prog X.w (upd H a ob) h' a ob) :
    Inv X pins σ (upd H a ob) { s with heap := h', toks := t' } :=
  I.write (x := a) (e := a) mu (.inl rfl) (fun b q hb z => (hs.2 b hb).trans z) he new
theorem dk_new {P : Program} {w : World} {H' : Hp} {h' : Heap} {kvs : List (Key × V)} {vs : List (Key × Value)} (z : kvs.length <= sizeLine) (hd : (a == sysModules) = false) (rel : KV kvs vs) (dd : h'.DictOf (mixKind P w) a vs) :
    ObjOk P w H' h' a (.dK kvs) := ⟨z, hd, vs, rel, dd⟩
theorem zf7 {H' : Hp} {Q : Unit -> Shared -> Prop} (hu : A.units + 1 < cLine) (I : Inv X pins σ H s) (g : DPut H a y v H') (ry : RelV y u) (rv : RelV v r) (h : ∀ s', Inv X pins σ H' s' -> Q () s') :
    wpAny (model X.prog X.w) A (setItem (.ref a) u r) Q E s := by
  rcases g with ⟨kvs, k, e, ey, l, eH⟩ | ⟨kvs, k, b, e, ey, eb, l, eH⟩
  . subst ey eH
    obtain ⟨z, hd, vs, rel, dd⟩ := dk_of I.hok e
    have hz : vs.length <= sizeLine := by rw [<- rel.length]; exact z
    have hl : (putK kvs k v).length <= sizeLine := by have := zci kvs k v; omega
    refine wpAny_setItem_pairs (hsz := hz) (kV_is ry) dd fun h' dd' hs => h _ ?_
    have he : ∃ q, h'.get? a = some q := let ⟨q, _, _, hq, _⟩ := dd'; ⟨q, hq⟩
    exact zeJ I (by rw [e]; exact True.intro) hs he (dk_new hl hd (rel.put k rv) dd')
  . subst ey eH
    cases (show u = Value.ref b from ry)
    obtain ⟨z, hd, xs, rel, dd⟩ := dt_of I.hok e
    have hz : xs.length <= sizeLine := by rw [<- Paired.length rel]; exact z
    have hl : (putK kvs k v).length <= sizeLine := by have := zci kvs k v; omega
    refine wpAny_setItem_heap (hsz := hz) (tupleKind_room_in1 hu) (key_of I.hok eb) dd fun h' dd' hs => h _ ?_
    obtain ⟨q, es, ep, hq, h2, h3, h4, _, h5⟩ := dd'
    refine zeJ I (by rw [e]; exact True.intro) hs ⟨q, hq⟩ ⟨hl, hd, _, (rel.put k eb rv).keeps fun c ys ec => ?_, q, es, ep, hq, h2, h3, h4, h5⟩
    rw [upd_ne (ne_of ec e (fun z => nomatch z))]
    exact ec
end
section
variable {X : Cx} {pins : List (Addr × Obj)} {σ : St} {H : Hp} {s : Shared} {a : Addr} {kvs : List (Key × V)} {k : Key} {u : Value} {A : Around} {E : Value -> Shared -> Prop}
theorem d_len {Q : Value -> Shared -> Prop} (I : Inv X pins σ H s) (e : Rd H a (.dK kvs)) (h : ∀ t s', Inv X pins σ H s' -> Q (.int kvs.length t) s') : wpAny (model X.prog X.w) A (call (.builtin "len") [.ref a]) Q E s := by
  obtain ⟨z, hd, vs, rel, dd⟩ := dk_rd I.hok e
  refine call_len_dict hd dd (by rw [<- rel.length]; rw [sizeLine_eq] at z; omega) ?_
  rw [<- rel.length]
  exact h _ _ (I.tok _)
end
def NoSl (i : Expr) : Prop := ∀ ov iv, subscripted i false ov iv = operate [ov, iv] (getItem ov iv)
theorem zhP {prog : Program} {w : World} {A : Around} {E : Value -> Shared -> Prop} {s : Shared} {env : Env} {value slice : Expr} {pos : Pos} {T id : String} {Q : Value -> Shared -> Prop}
    (hl : typeLookup (.type T) "__getitem__" = pure (some (.builtin id))) (hs : NoSl slice)
    (h : wpAny (model prog w) A (eval value env) (fun o s₁ => wpAny (model prog w) A (eval slice env) (fun i s₂ => s₂.TypeIs o T /\ wpAny (model prog w) A (getItem o i) Q E s₂) E s₁) E s) :
    wpAny (model prog w) A (eval (.Subscript value slice pos) env) Q E s := by
  refine Subscript_ (wpAny_mono h (fun o s₁ h₁ => wpAny_mono h₁ (fun i s₂ h₂ => ?_) fun _ _ x => x) fun _ _ x => x)
  obtain ⟨hT, h₂⟩ := h₂
  unfold subscriptTail
  refine wpAny_bind ?_
  rw [getitemInPython_of_ne hT.not_modules]
  refine wpAny_bind (wpAny_specialOf hT hl ?_)
  have fin : wpAny (model prog w) A (subscripted slice false o i) (fun r s₃ => wpAny (model prog w) A (letTemporaryGo value o r >>= fun _ => pure r) Q E s₃) E s₂ := by
    rw [hs o i]
    exact wpAny_operating (wpAny_mono h₂ (fun r s₃ h₃ => wpAny_bind (wpAny_letTemporaryGo (wpAny_pure h₃))) fun _ _ x => x)
  first
    | exact wpAny_pure (wpAny_bind fin)
    | exact wpAny_bind (wpAny_pure (wpAny_bind fin))
    | exact wpAny_bind fin
theorem zej {X : Cx} {pins : List (Addr × Obj)} {σ : St} {H : Hp} {s : Shared} {a : Addr} {y : V} {o : Option V} (I : Inv X pins σ H s) (g : DGet H a y o) : s.TypeIs (.ref a) "dict" := by
  rcases g with ⟨kvs, k, e, _, _⟩ | ⟨kvs, k, b, e, _, _, _⟩
  . obtain ⟨_, _, vs, _, dd⟩ := dk_rd I.hok e
    exact dd.typeIs
  . obtain ⟨_, _, xs, _, dd⟩ := dt_rd I.hok e
    exact dd.typeIs
def tDGet (td ty : TE) : TE := fun σ H Q => td σ H fun x H1 => ty σ H1 fun y H2 => ∃ a v, x = .ref a /\ DGet H2 a y (some v) /\ Q v H2
def sDPut (td ty tv : TE) : TS := fun D σ H => tv σ H fun v H1 => td σ H1 fun x H2 => ty σ H2 fun y H3 => ∃ a H4, x = .ref a /\ DPut H3 a y v H4 /\ D.nx σ H4
section
variable {X : Cx} {o i e value : Expr} {pos pos' tpos : Pos} {td ty tv : TE}
theorem zhQ (hu : X.A.units + 1 < cLine) (ho : PE X o td) (hi : PE X i ty) (hs : NoSl i) : PE X (.Subscript o i pos) (tDGet td ty) := by
  intro pins s σ H Q I h
  refine zhP PySem.F.slot_dict_getitem.lookup hs (thn (ho pins s σ H _ I h) fun u s1 ⟨x, H1, I1, rx, q1⟩ => thn (hi pins s1 σ H1 _ I1 q1) fun iv s2 ⟨y, H2, I2, ry, a, v, ex, g, q2⟩ => ?_)
  subst ex
  obtain rfl : u = Value.ref a := rx
  exact ⟨zej I2 g, zf6 hu I2 g ry fun w' s3 I3 rw' => ⟨v, H2, I3, rw', q2⟩⟩
theorem zhR (hu : X.A.units + 1 < cLine) (ho : PE X o td) (hi : PE X i ty) (hv : PE X value tv) (hs : swapsWith value (some (.Subscript o i pos')) pos.line X.env = pure false) :
    PS X (.Assign [.Subscript o i pos'] value pos) (sDPut td ty tv) := by
  intro pins s σ H D I h
  refine wpAny_Assign_Subscript (thn (hv pins s σ H _ I h) fun r s1 ⟨v, H1, I1, rv, q1⟩ => thn (ho pins s1 σ H1 _ I1 q1) fun u s2 ⟨x, H2, I2, rx, q2⟩ => thn (hi pins s2 σ H2 _ I2 q2) fun iv s3 ⟨y, H3, I3, ry, a, H4, ex, g, q3⟩ => ?_) hs
  subst ex
  obtain rfl : u = Value.ref a := rx
  exact zf7 hu I3 g ry rv fun s4 I4 => ⟨σ, H4, I4, q3⟩
end
theorem zgQ {P : Program} {w : World} {H : Hp} (h : Heap) (hb : sysModules < h.objs.size) : ObjOk P w H (h.push { cls := .type "dict", data := .dict #[] }) h.objs.size (.dK []) :=
  ⟨Nat.zero_le _, beq_eq_false_iff_ne.mpr (Ne.symm (Nat.ne_of_lt hb)), [], .nil, Heap.DictOf.new h⟩
theorem zgR {P : Program} {w : World} {H : Hp} (h : Heap) (hb : sysModules < h.objs.size) : ObjOk P w H (h.push { cls := .type "dict", data := .dict #[] }) h.objs.size (.dT []) :=
  ⟨Nat.zero_le _, beq_eq_false_iff_ne.mpr (Ne.symm (Nat.ne_of_lt hb)), [], .nil, _, #[], 0, Heap.get?_push_size _ rfl, ⟨rfl, rfl, rfl⟩, rfl, rfl, List.nodup_nil⟩
def tDNewK : TE := fun _ H Q => ∀ p, H p = none -> Q (.ref p) (upd H p (.dK []))
def tDNewT : TE := fun _ H Q => ∀ p, H p = none -> Q (.ref p) (upd H p (.dT []))
section
variable {X : Cx} {pos : Pos}
theorem zgS : PE X (.Dict [] [] pos) tDNewK := fun pins s σ H Q I h =>
  wpAny_Dict_empty ⟨.ref s.heap.objs.size, _, I.laid (a := s.heap.objs.size) (o := .dK []) (t' := s.toks) (fun _ _ q => Heap.get?_push_of_some _ q) (Nat.le_refl _) (zgQ s.heap I.big), rfl, h _ (I.hok.fresh (Nat.le_refl _))⟩
theorem zgT : PE X (.Dict [] [] pos) tDNewT := fun pins s σ H Q I h =>
  wpAny_Dict_empty ⟨.ref s.heap.objs.size, _, I.laid (a := s.heap.objs.size) (o := .dT []) (t' := s.toks) (fun _ _ q => Heap.get?_push_of_some _ q) (Nat.le_refl _) (zgR s.heap I.big), rfl, h _ (I.hok.fresh (Nat.le_refl _))⟩
end
section
variable {X : Cx} {pins : List (Addr × Obj)} {σ : St} {H : Hp} {s : Shared} {a : Addr} {y d : V} {u r : Value} {o : Option V} {A : Around} {E : Value -> Shared -> Prop}
end
section
variable {X : Cx} {o e f : Expr} {apos cpos : Pos} {td ty tx : TE}
end
section
variable {X : Cx} {pins : List (Addr × Obj)} {σ : St} {H : Hp} {s : Shared} {a : Addr} {kvs : List (Key × V)} {A : Around} {E : Value -> Shared -> Prop}
end
section
variable {X : Cx} {pins : List (Addr × Obj)} {σ : St} {H : Hp} {s : Shared} {a : Addr} {y : V} {u : Value} {A : Around} {E : Value -> Shared -> Prop}
end
end L2
namespace Att
open PySem PySem.W PySem.Calls PyProof.Rows
theorem zcK {P : Params} {h : Heap} : ∀ (ns : List Int) (vs : List Value), WellAll P h vs (ns.map WData.int) -> IntsAre vs ns := by
  intro ns
  induction ns with
  | nil =>
    intro vs w
    rw [List.map_nil] at w
    cases w
    exact .nil
  | cons n ns ih =>
    intro vs w
    rw [List.map_cons] at w
    cases w with
    | cons a b =>
      cases a
      exact .cons _ _ (ih _ b)
theorem zf8 {l : OpenLaw} {n : Nat} (hn : l.most = some n) {P : Params} {h : Heap} {args : List WData} {vals : List Value}
    (hpre : l.row.toRowW.claim.pre args = true) (hwl : WellAll P h vals args) :
    ∃ a vs ns, vals = [Value.ref a] /\ args = [WData.list (ns.map WData.int)] /\ h.get? a = some { cls := .type "list", data := .seq vs.toArray } /\ IntsAre vs ns /\ ns.length <= n := by
  have hsh : WShape.hasAll [] args [.list .int] = true := (pre_splitW hpre).1
  have hc : l.pre.holds [] { args := args } = true := (pre_splitW hpre).2
  obtain ⟨d, r, rfl, h1, h2⟩ := hasAllW_cons hsh
  obtain rfl := hasAllW_nil h2
  obtain ⟨xs, rfl, h3⟩ := hasW_list h1
  obtain ⟨ns, rfl⟩ := items_int h3
  have hlen : ns.length <= n := by
    unfold OpenLaw.pre at hc
    have h4 : (WTm.not (.lt (.lit (.int (n : Int))) (.len (.arg 0)))).holds [] { args := [.list (ns.map .int)] } = true := by
      have h4 := (holds_andW hc).1
      rw [hn] at h4
      exact h4
    have h5 := condW_of h4 (w_not (w_lt w_lit (w_len_list (w_arg rfl))))
    rw [List.length_map] at h5
    refine Nat.le_of_not_lt fun q => ?_
    have q' : (n : Int) < ((ns.length : Nat) : Int) := by omega
    first
      | (rw [decide_eq_true q'] at h5; exact absurd h5 (by decide))
      | (simp at h5; omega)
  cases hwl with
  | cons w1 w2 =>
    cases w2
    cases w1 with
    | list ho hall => exact ⟨_, _, ns, rfl, rfl, ho, zcK ns _ hall, hlen⟩
theorem zf9 (l : OpenLaw) (args : List WData) : l.row.toRowW.claim.post args (.bool true) args = true :=
  postW_of (r := l.row.toRowW) (X := (true == true))
    (show WShape.has [] (.bool true) .bool = true by first | rfl | decide | simp [WShape.has, WShape.arms, WShape.armsAll])
    (show (WTm.eq .res (.lit (.bool true))).value [] { args := args, res := some (.bool true), after := args } = some (.bool (true == true)) from w_eq_bool (w_res rfl) w_lit) rfl
theorem attach_call {l : OpenLaw} {n : Nat} {q : Program} {loose : List Str} {XP : (Str -> Option Value) -> Heap -> Prop} {YP : World -> Heap -> Prop} {d : DefRec}
    (hn : l.most = some n) (hdf : d.params.defaults = [])
    (call : ∀ (w : World) (s₀ s₁ : Shared) (mg mb : Str -> Option Value) (fa : Addr) (o : Obj) (pm cd doc : Value) (a : Addr) (vs : List Value) (ns : List Int),
      Ground q loose [] XP w s₀ mg mb s₁.heap -> YP w s₁.heap ->
      s₁.heap.get? fa = some o -> o.data = .func (docDef d.name d.params d.body d.scope pm cd doc) -> s₁.heap.CodeRec cd d.name -> mg d.name = some (.ref fa) ->
      s₁.heap.get? a = some { cls := .type "list", data := .seq vs.toArray } -> IntsAre vs ns -> ns.length <= n -> s₁.gens = #[] ->
      codeAny (model l.prog w) callerA (.call (.ref fa) ⟨[.ref a], []⟩) (fun r s' => r = .ok (.ret (.bool true)) /\ OldK s₁.heap s'.heap /\ s'.os = s₁.os /\ AllBare s'.gens) s₁) :
    WalkO q loose XP YP l.row.toRowW d [] (fun f vs => PySem.call f vs) := by
  intro w s₀ s₁ mg mb G Y fa o pm cd doc dV kV ho hd hcd hD hmg hg args vals as hpre hlay hrd hwl hlo
  obtain rfl : dV = .none := Dflts.none hD hdf
  obtain rfl : kV = .none := Dflts.noKw hD
  obtain ⟨a, vs, ns, rfl, rfl, hobj, hints, hlen⟩ := zf8 hn hpre hwl
  refine enter_call (codeAny_mono (call w s₀ s₁ mg mb fa o pm cd doc a vs ns G Y ho (fd_plain hd) hcd hmg hobj hints hlen hg) fun r s' hq => ?_)
  obtain ⟨rfl, h2, h3, h4⟩ := hq
  exact ⟨.inl ⟨.bool true, .bool true, [], rfl, fun _ => rfl, .bool true, zf9 l _, fun _ => ⟨List.Pairwise.nil, fun _ hm => (nomatch hm)⟩⟩, h2, h3, h4⟩
section
variable {prog : Program} {w : World} {A : Around} {E : Value -> Shared -> Prop} {s : Shared} {K : Frag}
end
end Att
namespace L2
open PySem PySem.Spec PyProof.Rows
theorem zdo : ∀ {vs : List Value} {ns : List Int}, IntsAre vs ns -> Vals (ns.map V.int) vs
  | _, _, .nil => .nil
  | _, _, .cons n t h => .cons ⟨t, rfl⟩ (zdo h)
def Only (H : Hp) : Prop := ∀ b, H b = none \/ ∃ o xs, H b = some (.frz o (.lst xs))
theorem zgU {P : Program} {w : World} {K : PySem.W.Frag} {mg mb : Str -> Option Value} {CX : CXT} {k : Nat} {fa a : Addr} {fd : FuncData} {x : Str} {sp : Sp} {s₁ : Shared} {vs : List Value} {ns : List Int}
    (KX : K.In s₁.heap) (hns : s₁.heap.Ns mainGlobals mg) (hb : s₁.heap.Ns builtinsNs mb) (hbb : ∀ x : Str, x ≠ "__name__" -> mb x = bootBuiltins x) (hlim : s₁.heap.NoLimit) (hg : s₁.gens = #[])
    (ha : s₁.heap.get? a = some { cls := .type "list", data := .seq vs.toArray }) (hi : IntsAre vs ns) (hl : ns.length <= sizeLine) (hr : Room k callerA)
    (F : ∀ base : Heap, K.In base -> base.Ns mainGlobals mg -> FnOk P w K mg base CX k fa fd [x] sp) (hbind : ∀ (s : Shared) (u : Value), BindsTo s fd ⟨[u], []⟩ [(x, u)])
    (hsp : ∀ H : Hp, Only H -> SqL K H a (ns.map V.int) -> sp [.ref a] H (fun v _ => v = .bl true) fun _ _ _ => False)
    (hCX : ∀ H e s', CX [] H s₁ (fun _ _ _ => False) e s' -> False) :
    codeAny (model P w) callerA (.call (.ref fa) ⟨[.ref a], []⟩) (fun r s' => r = .ok (.ret (.bool true)) /\ OldK s₁.heap s'.heap /\ s'.os = s₁.os /\ AllBare s'.gens) s₁ := by
  have rv := zdo hi
  have lenV := hi.length
  have core : ∀ H : Hp, Only H -> SqL K H a (ns.map V.int) -> HOk P w H s₁.heap -> (∀ b, H b ≠ none -> b = a) -> (H a ≠ none -> K.lookup a = none) ->
      codeAny (model P w) callerA (.call (.ref fa) ⟨[.ref a], []⟩) (fun r s' => r = .ok (.ret (.bool true)) /\ OldK s₁.heap s'.heap /\ s'.os = s₁.os /\ AllBare s'.gens) s₁ := by
    intro H hO hS hok hA hK
    have base_of : ∀ {b : Addr} {o : Obj}, s₁.heap.get? b = some o -> H b = none -> (hidT s₁.heap H).get? b = some o := fun e n => zgB e n
    have noA : ∀ {b : Addr} {o : Obj} {es : Array DictEntry} {ep : Nat}, s₁.heap.get? b = some o -> o.data = .dict es ep -> H b = none := fun {b o es ep} e d => by
      cases q : H b with
      | none => rfl
      | some u =>
        have e' : b = a := hA b (by rw [q]; simp)
        subst e'
        rw [ha] at e; cases e
        have d' : Data.seq vs.toArray _ = Data.dict es ep := d
        cases d'
    have nsK : ∀ {b : Addr} {m : Str -> Option Value}, s₁.heap.Ns b m -> (hidT s₁.heap H).Ns b m := fun {b m} ⟨o, es, ep, e, d, r⟩ => ⟨o, es, ep, base_of e (noA e d), d, r⟩
    have hKb : K.In (hidT s₁.heap H) := fun b o e => base_of (KX b o e) (by
      cases q : H b with
      | none => rfl
      | some u =>
        have e' : b = a := hA b (by rw [q]; simp)
        subst e'
        rw [hK (by rw [q]; simp)] at e; cases e)
    have hM : Mod K mg (hidT s₁.heap H) := ⟨hKb, nsK hns, ⟨mb, nsK hb, hbb⟩, let ⟨mc, h1, h2⟩ := hlim; ⟨mc, nsK h1, h2⟩⟩
    have e0 : Env0 P w K mg (hidT s₁.heap H) callerA [] s₁ H := ⟨rfl, hM, fun b o e => zhx e, Nat.le_of_eq (zfU _ _), trivial, fun b hb => absurd (show b ∈ ([] : List Addr) from hb) (by simp), hok, .of_eq hg⟩
    refine codeAny_mono ((F _ hKb (nsK hns)).run callerA [] s₁ H ⟨[.ref a], []⟩ [.ref a] [.ref a] _ _ hr e0 (hbind s₁ (.ref a)) (.cons rfl .nil) (hsp H hO hS)) fun r s' h => ?_
    cases r with
    | error e => exact (hCX H e s' h).elim
    | ok fl =>
      cases fl with
      | next => exact False.elim h
      | brk => exact False.elim h
      | cont => exact False.elim h
      | ret u =>
        obtain ⟨v, H', os, bare, un, hok', r', q⟩ := h
        have q' : v = .bl true := q
        subst q'
        obtain rfl : u = Value.bool true := r'
        refine ⟨rfl, OldK.of_keep fun b o e => ?_, os, bare⟩
        cases q : H b with
        | none => exact un.keep b o e q (by intro z; exact absurd (show b ∈ ([] : List Addr) from z) (by simp)) (by simp)
        | some u =>
          rcases hO b with z | ⟨ob, xs, z⟩
          . rw [q] at z; cases z
          . have z2 := un.frzs b ob _ z
            obtain ⟨e1, _⟩ := hok b _ z
            obtain ⟨e2, _⟩ := hok' b _ z2
            rw [e] at e1; cases e1
            exact e2
  cases hk : K.lookup a with
  | some o =>
    have e := KX a o hk
    rw [ha] at e
    cases e
    refine core (fun _ => none) (fun _ => .inl rfl) (.inr ⟨_, vs.toArray, _, hk, rfl, rfl, rfl, by rw [List.size_toArray, lenV]; exact hl, by simpa using rv⟩) (fun b u z => by have z' : (none : Option HO) = some u := z; cases z') (fun b z => absurd rfl z) fun z => absurd rfl z
  | none =>
    refine core (fun b => if b = a then some (.frz { cls := .type "list", data := .seq vs.toArray } (.lst (ns.map V.int))) else none) (fun b => ?_) (.inl (.inr ⟨{ cls := .type "list", data := .seq vs.toArray }, if_pos rfl⟩)) (fun b u z => ?_) (fun b z => ?_) fun _ => hk
    . by_cases hb : b = a
      . exact .inr ⟨_, _, if_pos hb⟩
      . exact .inl (if_neg hb)
    . by_cases hb : b = a
      . have z' := (if_pos hb).symm.trans z
        cases z'
        subst hb
        exact ⟨ha, by rw [List.length_map]; exact hl, vs, _, rv, ha⟩
      . have z' := (if_neg hb).symm.trans z
        cases z'
    . by_cases hb : b = a
      . exact hb
      . exact absurd (if_neg hb) z
end L2
namespace L2
open PySem PySem.Spec PyProof.Rows
theorem walk_of {l : PySem.W.OpenLaw} {n k : Nat} {q : Program} {loose : List Str} {XP : (Str -> Option Value) -> Heap -> Prop} {YP : World -> Heap -> Prop} {d : DefRec} {K : Params -> PySem.W.Frag} {CX : World -> CXT} {sp : World -> Sp} {x : Str}
    (hn : l.most = some n) (hn2 : n <= sizeLine) (hdf : d.params.defaults = []) (hr : Room k callerA)
    (hY : ∀ (w : World) (h : Heap), YP w h -> (K w.params).In h)
    (F : ∀ (w : World) (mg : Str -> Option Value) (fa : Addr) (h : Heap), (K w.params).In h -> h.Ns mainGlobals mg -> mg d.name = some (.ref fa) ->
      ∃ fd : FuncData, (∀ (s : Shared) (u : Value), BindsTo s fd ⟨[u], []⟩ [(x, u)]) /\
        ∀ base : Heap, (K w.params).In base -> base.Ns mainGlobals mg -> FnOk l.prog w (K w.params) mg base (CX w) k fa fd [x] (sp w))
    (hsp : ∀ (w : World) (H : Hp) (a : Addr) (ns : List Int), ns.length <= n -> Only H -> SqL (K w.params) H a (ns.map V.int) -> sp w [.ref a] H (fun v _ => v = .bl true) fun _ _ _ => False)
    (hCX : ∀ (w : World) (H : Hp) (s : Shared) (e : Value) (s' : Shared), CX w [] H s (fun _ _ _ => False) e s' -> False) :
    PySem.W.WalkO q loose XP YP l.row.toRowW d [] (fun f vs => PySem.call f vs) := by
  refine Att.attach_call hn hdf fun w s₀ s₁ mg mb fa o pm cd doc a vs ns G Y ho hd hcd hmg hobj hints hlen hg => ?_
  have KX := hY w _ Y
  obtain ⟨fd, hb, hF⟩ := F w mg fa _ KX G.T.g hmg
  exact zgU KX G.T.g G.T.b G.T.builtins G.T.nolimit hg hobj hints (Nat.le_trans hlen hn2) hr hF hb (fun H hO hS => hsp w H a ns hlen hO hS) fun H e s' => hCX w H s₁ e s'
end L2
/- THE LAST THEOREM (shape; LID, My.* are yours):
   My.Adr: a structure of the addresses that your layer names (classes, functions); My.Txt K t: a structure (Prop) of the equations over K;
   My.txt_mk : {K} {implicit addresses ..} (e1 : nsIn K mainGlobals "law" = some (some (.ref f))) (e2 : K.lookup f = some ⟨oc, od, .func (fnOf "law" "law" params body scope dV kV doc pm an cdv ct), sl⟩) (e3 : codeIn K cdv "law" = true) .. : ∃ t, My.Txt K t
(the tactic k_is has no namespace: write k_is) -/
namespace L2
open PySem PySem.Spec PyProof.Rows
def inClass (s : Stmt) (j : Nat) : Stmt := match s with
  | .ClassDef _ _ _ body _ _ _ _ _ _ _ => body.getD j (.Pass ⟨0, 0, 0, 0⟩)
  | _ => .Pass ⟨0, 0, 0, 0⟩
def defArgs (s : Stmt) : Arguments := match s with
  | .FunctionDef _ a _ _ _ _ _ _ _ _ => a
  | _ => { posonlyargs := [], args := [], vararg := none, kwonlyargs := [], kw_defaults := [], kwarg := none, defaults := [] }
def defBody (s : Stmt) : List Stmt := match s with
  | .FunctionDef _ _ b _ _ _ _ _ _ _ => b
  | _ => []
def defScope (s : Stmt) : Scope := match s with
  | .FunctionDef _ _ _ _ _ _ sc _ _ _ => sc
  | _ => { kind := .function, names := [], isGenerator := false, isCoroutine := false }
abbrev E0 : XK := fun _ _ _ => False
structure Fun (K : PySem.W.Frag) (x qual : Str) (st : Stmt) (f : Addr) (fd : FuncData) : Prop where
  ex : ∃ (oc : Value) (od : Option Addr) (kV doc pm : Value) (an : Option Addr) (cdv ct : Value) (osl : Array (Option Value)),
    fd = PySem.W.fnOf x qual (defArgs st) (defBody st) (defScope st) .none kV doc pm an cdv ct /\ K.lookup f = some ⟨oc, od, .func fd, osl⟩ /\ PySem.W.codeIn K cdv qual = true
  kp : PySem.W.keepIn K (.ref f) = true
section
variable {P : Program} {w : World} {K : PySem.W.Frag} {mg : Str -> Option Value} {base : Heap}
theorem Fun.binds {x qual : Str} {st : Stmt} {f : Addr} {fd : FuncData} {ps : List Str} (F : Fun K x qual st f fd)
    (h : ∀ (kV doc pm : Value) (an : Option Addr) (cdv ct : Value) (us : List Value), us.length = ps.length -> bindArgs (PySem.W.fnOf x qual (defArgs st) (defBody st) (defScope st) .none kV doc pm an cdv ct) ⟨us, []⟩ = pure (ps.zip us)) : Binds K fd ps [] := by
  obtain ⟨oc, od, kV, doc, pm, an, cdv, ct, osl, rfl, lk, hcd⟩ := F.ex
  exact .all (h kV doc pm an cdv ct)
theorem fun_mk {x qual : Str} {st : Stmt} {f : Addr} {oc : Value} {od an : Option Addr} {osl : Array (Option Value)} {kV doc pm cdv ct : Value} (l : K.lookup f = some ⟨oc, od, .func (PySem.W.fnOf x qual (defArgs st) (defBody st) (defScope st) .none kV doc pm an cdv ct), osl⟩)
    (c : PySem.W.codeIn K cdv qual = true) (k : PySem.W.keepIn K (.ref f) = true) : Fun K x qual st f (PySem.W.fnOf x qual (defArgs st) (defBody st) (defScope st) .none kV doc pm an cdv ct) := ⟨⟨oc, od, kV, doc, pm, an, cdv, ct, osl, rfl, l, c⟩, k⟩
end
section
variable {X : Cx}
theorem pv (i : Nat) {x : Str} {pos : Pos} (hN : X.N[i]? = some x := by rfl) (hv : Vis X.env.scope x := by first | exact Or.inl rfl | exact Or.inr (Or.inl rfl) | exact Or.inr (Or.inr rfl)) (hd : (x == ("__debug__" : Str)) = false := by decide)
    (hcd : (x == ("__classdict__" : Str)) = false := by decide) : PE X (.Name x pos) (tVar i) := pe_var hN hv hd hcd
theorem zga : CallR X (.builtin "len") (fun xs H Q => ∃ a kvs, xs = [V.ref a] /\ H a = some (.dK kvs) /\ Q (.int kvs.length) H) := by
  intro pins s σ H xs us Q I r h
  obtain ⟨a, kvs, rfl, ha, q⟩ := h
  obtain ⟨u, rfl, ru⟩ := vals1 r
  cases ru
  exact d_len I (.inl ha) fun t s' I' => ⟨.int kvs.length, H, I', ⟨t, rfl⟩, q⟩
end
section
variable {κ : Type} [DecidableEq κ]
end
end L2

set_option maxHeartbeats 4000000
namespace L2
open PySem PySem.Spec PyProof.Rows
section
variable {X : Cx} {pins : List (Addr × Obj)} {σ : St} {H : Hp} {s : Shared} {h' : Heap}
theorem Inv.turnedL {t' : Nat} {fp : List Addr} (I : Inv X pins σ H s) (k : ∀ b o, b ∉ fp -> s.heap.get? b = some o -> h'.get? b = some o) (hf : ∀ b ∈ fp, FpOk X pins H b) :
    Inv X pins σ H { s with heap := h', toks := t' } := by
  have nit : ∀ b u, H b = some u -> b ∉ fp := fun b u e z => by
    have q := (hf b z).1
    rw [q] at e
    cases e
  refine I.step (g' := s.gens) (d' := s.drawn) (ch := fp) (fun b hb => ?_) (fun b o _ _ hc e _ => k b o hc e) (fun b o _ _ hc e _ => ⟨o.slots, k b o hc e⟩) (fun _ _ _ _ n => n)
    (fun b o hc e => ⟨o, k b o hc e⟩) (fun _ _ e => e) (fun _ _ _ e => e) (fun b ps e => ⟨#[], by rw [e]; simp⟩) (fun m hm => ?_) (fun b u e => ?_) I.bare
  . obtain ⟨_, f1, _, f3, f4, f5⟩ := hf b hb
    exact ⟨f3, f1, f4, f5⟩
  . obtain ⟨o, es, ep, ho, r⟩ := hm
    exact ⟨o, es, ep, k _ o (fun z => (hf _ z).2.1 rfl) ho, r⟩
  . refine (I.hok b u e).stay (fun c v hc q => k c v ?_ q) (fun _ q => q) fun _ _ q => q
    rcases hc with z | z
    . rw [z]; exact nit b u e
    . exact nit c _ z
theorem Inv.adopt {T : Addr} {ob : HO} (I : Inv X pins σ H s) (hn : H T = none) (hT : X.s₀.heap.objs.size <= T) (hL : T ≠ X.env.locals) (hc : ∀ x c, X.env.cells.lookup x = some c -> c ≠ T)
    (hp : ∀ p ∈ X.pn ++ pins, p.1 ≠ T) (new : ObjOk X.prog X.w (upd H T ob) s.heap T ob) : Inv X pins σ (upd H T ob) s := by
  have hne : ∀ b u, H b = some u -> b ≠ T := fun b u e => zan e hn
  refine I.step (h' := s.heap) (g' := s.gens) (d' := s.drawn) (t' := s.toks) (ch := [T]) (fun b hb => ?_) (fun b o _ _ _ e _ => e) (fun b o _ _ _ e _ => ⟨o.slots, e⟩) (fun b o hb e n => ?_) (fun b o _ e => ⟨o, e⟩)
    (fun b xs e => by rw [upd_ne (hne b _ e)]; exact e) (fun b o u e => by rw [upd_ne (hne b _ e)]; exact e) (fun b ps e => ⟨#[], by rw [upd_ne (hne b _ e), e]; simp⟩) (fun m hm => hm) (fun b u e => ?_) I.bare
  . have e : b = T := by simpa using hb
    subst e
    exact ⟨.inr hT, hL, hc, hp⟩
  . rw [upd_ne (fun z => hb (by simp [z]))]; exact n
  . by_cases hb : b = T
    . subst hb; rw [zam] at e; cases e; exact new
    . rw [upd_ne hb] at e
      exact (I.hok b u e).stay (fun c v _ q => q) (fun c q => by rw [upd_ne (hne c _ q)]; exact q) fun c xs q => by rw [upd_ne (hne c _ q)]; exact q
end
def Ite (K : PySem.W.Frag) (a : Addr) : It :=
  ⟨fun i H => ∃ xs x, SqL K H a xs /\ xs[i]? = some x, fun i H x H' => ∃ (T : Addr) (y : V), x = .ref T /\ H T = none /\ H' = upd H T (.tup [.int i, y]) /\ ∀ xs, SqL K H a xs -> xs[i]? = some y, fun i H => ∃ xs, SqL K H a xs /\ xs.length <= i⟩
theorem zgb {P : Program} {w : World} {K : PySem.W.Frag} {es : List Expr} {k : Nat} {tp : Pos} (a it e : Addr) (hei : e ≠ it) :
    Turn P w K (.Tuple es k tp) (Ite K a) [e, it] e (fun i h => (∃ old, IsEnum h e it i old) /\ h.IsListIter it a i) where
  mem := by simp
  obj := fun i h st b hb => by
    obtain ⟨⟨old, he⟩, o, ho, hc, hd⟩ := st
    have hb' : b = e \/ b = it := by simpa using hb
    rcases hb' with rfl | rfl
    . exact ⟨_, he, fun v z => by
        have z' : Data.fields _ = Data.cell v := z
        cases z'⟩
    . exact ⟨o, ho, fun v z => by rw [hd] at z; cases z⟩
  keep := fun i h h' st k => by
    obtain ⟨⟨old, he⟩, hit⟩ := st
    exact ⟨⟨old, k e (by simp) _ he⟩, hit.at fun o q => k it (by simp) o q⟩
  item := by
    intro X hP hw hK hc i pins s σ H E I hf st hg
    subst hP hw hK
    obtain ⟨xs, x, hq, hx⟩ := hg
    obtain ⟨its, rv, p, hz⟩ := I.list hq
    obtain ⟨u, hu, ru⟩ := rv.get hx
    obtain ⟨⟨old, he⟩, hit⟩ := st
    refine wpAny_pyNext_enum_item he hit p.isList (x := u) (by simpa using hu) hei fun h1 ho hit1 hT hsz hk => ?_
    refine ⟨.ref s.heap.objs.size, rfl, wpAny_letOwnedTupleGo_enum ho fun h2 he2 hs2 => ?_⟩
    replace hs2 : Heap.SameBut e h1 h2 := hs2
    have helt : e < s.heap.objs.size := Heap.lt_size he
    have I1 : Inv X pins σ H { s with heap := h2, toks := s.toks + 1 } := I.turnedL (fp := [e, it]) (fun b o hb q => by
      have n1 : b ≠ e := fun z => hb (by simp [z])
      have n2 : b ≠ it := fun z => hb (by simp [z])
      exact (hs2.2 b n1).trans (hk b o n1 n2 q)) hf
    have hT2 : h2.get? s.heap.objs.size = some { cls := .type "tuple", data := .seq #[.int i s.toks, u] } := (hs2.2 _ (Nat.ne_of_gt helt)).trans hT
    have fp := I.fpOk (H' := H) (Nat.le_refl s.heap.objs.size) (I.hok.fresh (Nat.le_refl _))
    obtain ⟨f0, f1, f2, f3, f4, f5⟩ := fp
    have I2 : Inv X pins σ (upd H s.heap.objs.size (.tup [.int i, x])) { s with heap := h2, toks := s.toks + 1 } :=
      I1.adopt (T := s.heap.objs.size) f0 (I.sz) f1 f4 f5 ⟨by show 2 <= sizeLine; decide, [.int i s.toks, u], .cons ⟨_, rfl⟩ (.cons ru .nil), ⟨_, hT2, rfl, _, rfl⟩⟩
    refine ⟨.ref s.heap.objs.size, _, I2, rfl, ⟨s.heap.objs.size, x, rfl, f0, rfl, fun ys hy => by rw [I.list_inj hy hq]; exact hx⟩, ⟨⟨u, by simpa using he2⟩, hit1.extBut hs2.extBut (Ne.symm hei)⟩, fun b hb => ?_⟩
    obtain ⟨g0, _⟩ := hf b hb
    obtain ⟨o, hob, _⟩ : ∃ o, s.heap.get? b = some o /\ True := by
      have hb' : b = e \/ b = it := by simpa using hb
      rcases hb' with rfl | rfl
      . exact ⟨_, he, trivial⟩
      . obtain ⟨o, q, _⟩ := hit
        exact ⟨o, q, trivial⟩
    rw [upd_ne (Nat.ne_of_lt (Heap.lt_size hob))]
    exact g0
  done := by
    intro X hP hw hK hc i pins s σ H E I hf st hg
    subst hP hw hK
    obtain ⟨xs, hq, hx⟩ := hg
    obtain ⟨its, rv, p, hz⟩ := I.list hq
    obtain ⟨⟨old, he⟩, hit⟩ := st
    have hl := rv.length
    exact wpAny_pyNext_enum_end (I.ok.hd hc) he hit p.isList (by simp; omega) fun h' eb => ⟨rfl, I.turnedL (fp := [e, it]) (t' := s.toks) (fun b o hb q => eb b o (fun z => hb (by simp [z])) q) hf⟩
  self := fun _ _ _ _ _ st h => by
    obtain ⟨⟨old, he⟩, _⟩ := st
    exact wpAny_pyIter_enum he h
section
variable {X : Cx}
def iEnum (K : PySem.W.Frag) (ta : TA) : TI := fun σ H R => ta σ H fun vs H1 => ∃ a, vs = [.ref a] /\ (∃ xs, SqL K H1 a xs) /\ R (Ite K a) H1
theorem zhS {l : Expr} {ta : TA} {p pos tp : Pos} {es : List Expr} {k : Nat} (hg : Gl X "enumerate") (hm : X.mg "enumerate" = none) (ha : PA X [l] ta) (hs : starEach [l] X.env = [(false, eval l X.env)] := by rfl) :
    PI X (.Tuple es k tp) (.Call (.Name "enumerate" p) [l] [] pos) (iEnum X.K ta) := by
  intro pins s σ H R I h
  refine Call_ (ld_blt I hg hm boot_enumerate (PyProof.Rows.callWith_type1 (thn (ha pos pins s σ H _ I h) fun us s1 ⟨vs, H1, I1, r1, q1⟩ => ?_) hs rfl))
  obtain ⟨a, e, ⟨xs, hq⟩, q⟩ := q1
  subst e
  cases r1 with
  | cons r rr =>
    cases rr
    cases r
    obtain ⟨its, rv, pl, hz⟩ := I1.list hq
    refine call_enumerate_list pl.isList fun h' he hit hsz hk => wpAny_pyIter_enum he ?_
    refine ⟨s1.heap.objs.size + 1, [s1.heap.objs.size + 1, s1.heap.objs.size], _, _, H1, rfl, I1.kept (t' := s1.toks) fun b o e => hk b o e, zgb a _ _ (Nat.succ_ne_self _), ⟨⟨_, he⟩, hit⟩, fun b hb => ?_, q⟩
    have hb' : b = s1.heap.objs.size + 1 \/ b = s1.heap.objs.size := by simpa using hb
    rcases hb' with rfl | rfl
    . exact I1.fpOk (Nat.le_succ _) (I1.hok.fresh (Nat.le_succ _))
    . exact I1.fpOk (Nat.le_refl _) (I1.hok.fresh (Nat.le_refl _))
end
def Its (x : Str) : It := ⟨fun i _ => i < x.cps.size, fun i H v H' => H' = H /\ ∃ c, x.cps[i]? = some c /\ v = .str ⟨#[c]⟩, fun i _ => x.cps.size <= i⟩
theorem zgc {P : Program} {w : World} {A : Around} (hh : A.handled = none) (it : Addr) (x : Str) (t : Tok) :
    Walks P w A it [it] [it] x.cps.size (SignAt x) (fun i h => h.IsStrIter it (strIterType x) x t i) := by
  cases ha : x.cps.all (· < 128) with
  | false =>
    have e : strIterType x = "str_iterator" := by simp [strIterType, ha]
    rw [e]
    exact Walks.strWide hh it x t
  | true =>
    have e : strIterType x = "str_ascii_iterator" := by simp [strIterType, ha]
    rw [e]
    exact Walks.strAscii hh it x t
theorem zgV {P : Program} {w : World} {K : PySem.W.Frag} {y : Str} {py : Pos} (it : Addr) (x : Str) (t : Tok) : Turn P w K (.Name y py) (Its x) [it] it (fun i h => h.IsStrIter it (strIterType x) x t i) where
  mem := by simp
  obj := fun i h st b hb => by
    have e : b = it := by simpa using hb
    subst e
    obtain ⟨o, e, c, d⟩ := st
    exact ⟨o, e, fun v z => by rw [d] at z; cases z⟩
  keep := fun i h h' st k => by
    obtain ⟨o, e, r⟩ := st
    exact ⟨o, k it (by simp) o e, r⟩
  item := by
    intro X hP hw hK hc i pins s σ H E I hf st hg
    subst hP hw hK
    refine (zgc (I.ok.hd hc) it x t).item i s _ _ hg st fun v h1 tk hv st1 kk => ?_
    obtain ⟨c, u, hcp, rfl⟩ := hv
    have I1 : Inv X pins σ H { s with heap := h1, toks := tk } := I.turnedL (fp := [it]) kk hf
    exact ⟨_, rfl, wpAny_pure ⟨.str ⟨#[c]⟩, H, I1, ⟨u, rfl⟩, ⟨rfl, c, hcp, rfl⟩, st1, fun b hb => (hf b hb).1⟩⟩
  done := by
    intro X hP hw hK hc i pins s σ H E I hf st hg
    subst hP hw hK
    have hx : x.cps[i]? = none := Array.getElem?_eq_none hg
    cases ha : x.cps.all (· < 128) with
    | false =>
      have e : strIterType x = "str_iterator" := by simp [strIterType, ha]
      rw [e] at st
      exact wpAny_pyNext_wide_end (I.ok.hd hc) st hx fun h' eb => ⟨rfl, I.turnedL (fp := [it]) (t' := s.toks) (fun b o hb q => eb b o (fun z => hb (by simp [z])) q) hf⟩
    | true =>
      have e : strIterType x = "str_ascii_iterator" := by simp [strIterType, ha]
      rw [e] at st
      exact wpAny_pyNext_ascii_end (I.ok.hd hc) st hx fun h' eb => ⟨rfl, I.turnedL (fp := [it]) (t' := s.toks) (fun b o hb q => eb b o (fun z => hb (by simp [z])) q) hf⟩
  self := fun A i s Q E st h => by
    cases ha : x.cps.all (· < 128) with
    | false =>
      have e : strIterType x = "str_iterator" := by simp [strIterType, ha]
      rw [e] at st
      exact wpAny_pyIter_striter_wide st h
    | true =>
      have e : strIterType x = "str_ascii_iterator" := by simp [strIterType, ha]
      rw [e] at st
      exact wpAny_pyIter_striter_ascii st h
section
variable {X : Cx}
def iStr (tl : TE) : TI := fun σ H R => tl σ H fun x H1 => ∃ t, x = .str t /\ R (Its t) H1
theorem pi_str {l : Expr} {tl : TE} {y : Str} {py : Pos} (hl : PE X l tl) : PI X (.Name y py) l (iStr tl) := by
  intro pins s σ H R I h
  refine thn (hl pins s σ H _ I h) fun v s1 ⟨x, H1, I1, r1, q1⟩ => ?_
  obtain ⟨t, e, q⟩ := q1
  subst e
  obtain ⟨tk, rfl⟩ := r1
  refine wpAny_pyIter_strU ?_
  refine ⟨s1.heap.objs.size, [s1.heap.objs.size], _, _, H1, rfl, I1.kept (t' := s1.toks) fun b o e => Heap.get?_push_of_some _ e, zgV _ t tk, ⟨_, Heap.get?_push_size _ rfl, rfl, rfl⟩, fun b hb => ?_, q⟩
  have e : b = s1.heap.objs.size := by simpa using hb
  subst e
  exact I1.fpOk (Nat.le_refl _) (I1.hok.fresh (Nat.le_refl _))
end
def closNames (env : Env) : List (Str × NameKind) -> List (Str × Addr) -> List (Str × Addr)
  | [], acc => acc
  | (n, k) :: r, acc => closNames env r (if k = .free then (n, (env.cells.lookup n).getD 0) :: acc else acc)
theorem zcL {env : Env} {scope : Scope} (h : ∀ y ∈ scope.names, y.2 = .free -> (env.cells.lookup y.1).isSome = true) : closureFor scope env = pure (closNames env scope.names []) := by
  have all : ∀ (l : List (Str × NameKind)) (acc : List (Str × Addr)), (∀ y ∈ l, y.2 = .free -> (env.cells.lookup y.1).isSome = true) ->
      (forIn l acc fun (x : Str × NameKind) (cs : List (Str × Addr)) => if (x.2 == NameKind.free) = true then (do let a <- cellOf env x.1; pure (ForInStep.yield ((x.1, a) :: cs))) else (pure (ForInStep.yield cs) : Sem _)) = pure (closNames env l acc) := by
    intro l
    induction l with
    | nil => intro acc _; rfl
    | cons y r ih =>
      intro acc hl
      obtain ⟨n, k⟩ := y
      rw [List.forIn_cons]
      have hr := fun z hz => hl z (List.mem_cons_of_mem _ hz)
      by_cases hk : k = .free
      . subst hk
        obtain ⟨c, hc⟩ := Option.isSome_iff_exists.mp (hl (n, .free) List.mem_cons_self rfl)
        have e1 : cellOf env n = pure c := by
          simp only [cellOf]
          have hc' : env.cells.lookup n = some c := hc
          rw [hc']
        simp only [beq_self_eq_true, if_true, e1, pure_bind, closNames]
        have hc' : env.cells.lookup n = some c := hc
        rw [hc']
        exact ih _ hr
      . have hb : (k == NameKind.free) = false := by simpa using hk
        simp only [hb, Bool.false_eq_true, if_false, pure_bind, closNames, hk]
        exact ih _ hr
  unfold closureFor
  have q := all scope.names [] h
  first
    | exact q
    | (simp only [bind_pure]; exact q)
    | (rw [<- q]; simp)
theorem za0 {env : Env} : ∀ {l : List (Str × NameKind)} {acc : List (Str × Addr)}, (∀ y ∈ l, y.2 = .free -> (env.cells.lookup y.1).isSome = true) -> (∀ y c, acc.lookup y = some c -> env.cells.lookup y = some c) ->
    ∀ y c, (closNames env l acc).lookup y = some c -> env.cells.lookup y = some c
  | [], _, _, h, y, c, e => h y c e
  | (n, k) :: r, acc, hl, h, y, c, e => by
    refine za0 (l := r) (fun z hz => hl z (List.mem_cons_of_mem _ hz)) ?_ y c e
    intro y c e
    by_cases hk : k = .free
    . rw [if_pos hk] at e
      rw [List.lookup_cons] at e
      cases hy : y == n with
      | true =>
        rw [hy] at e
        have e' : y = n := by simpa using hy
        obtain ⟨c', hc'⟩ := Option.isSome_iff_exists.mp (hl (n, k) List.mem_cons_self hk)
        have hc'' : env.cells.lookup n = some c' := hc'
        rw [hc''] at e
        rw [e', hc'']
        exact e
      | false =>
        rw [hy] at e
        exact h y c e
    . rw [if_neg hk] at e
      exact h y c e
theorem za1 {env : Env} : ∀ {l : List (Str × NameKind)} {acc : List (Str × Addr)} {y : Str}, (y, NameKind.free) ∈ l \/ (acc.lookup y).isSome = true -> ((closNames env l acc).lookup y).isSome = true
  | [], _, _, h => by
    rcases h with h | h
    . cases h
    . exact h
  | (n, k) :: r, acc, y, h => by
    refine za1 (l := r) ?_
    rcases h with h | h
    . rcases List.mem_cons.mp h with e | e
      . right
        cases e
        rw [if_pos rfl, List.lookup_cons]
        simp
      . exact .inl e
    . right
      by_cases hk : k = .free
      . rw [if_pos hk, List.lookup_cons]
        cases hy : y == n with
        | true => rfl
        | false => exact h
      . rw [if_neg hk]; exact h
theorem zak {names : List (Str × NameKind)} {x : Str} {k : NameKind} (h : names.lookup x = some k) : (x, k) ∈ names := PySem.mem_of_lookup h
theorem zav {env : Env} {x : Str} {k : NameKind} : ∀ {names : List (Str × NameKind)}, (names.map fun (n, k) => if (k == NameKind.free && env.scope.kind == .function && env.kindOf n == some .cell) then (n, NameKind.cell) else (n, k)).lookup x = some k ->
    names.lookup x = some k \/ (k = .cell /\ names.lookup x = some .free)
  | [], h => by simp at h
  | (n, kk) :: r, h => by
    have ih := @zav env x k r
    by_cases hc : (kk == NameKind.free && env.scope.kind == .function && env.kindOf n == some .cell) = true
    . have hf : kk = .free := by
        have q := (Bool.and_eq_true _ _).mp ((Bool.and_eq_true _ _).mp hc).1
        simpa using q.1
      subst hf
      have h' : List.lookup x ((n, NameKind.cell) :: (r.map fun (n, k) => if (k == NameKind.free && env.scope.kind == .function && env.kindOf n == some .cell) then (n, NameKind.cell) else (n, k))) = some k := by
        have e : (fun (p : Str × NameKind) => match p with | (n, k) => if (k == NameKind.free && env.scope.kind == .function && env.kindOf n == some .cell) = true then (n, NameKind.cell) else (n, k)) (n, NameKind.free) = (n, NameKind.cell) := by
          show (if _ then _ else _) = _
          rw [if_pos hc]
        rw [List.map_cons] at h
        rw [<- e]
        exact h
      rw [List.lookup_cons] at h' ⊢
      cases hx : x == n with
      | true =>
        rw [hx] at h'
        right
        exact ⟨(Option.some.inj h').symm, rfl⟩
      | false =>
        rw [hx] at h'
        exact ih h'
    . have h' : List.lookup x ((n, kk) :: (r.map fun (n, k) => if (k == NameKind.free && env.scope.kind == .function && env.kindOf n == some .cell) then (n, NameKind.cell) else (n, k))) = some k := by
        have e : (fun (p : Str × NameKind) => match p with | (n, k) => if (k == NameKind.free && env.scope.kind == .function && env.kindOf n == some .cell) = true then (n, NameKind.cell) else (n, k)) (n, kk) = (n, kk) := by
          show (if _ then _ else _) = _
          rw [if_neg hc]
        rw [List.map_cons] at h
        rw [<- e]
        exact h
      rw [List.lookup_cons] at h' ⊢
      cases hx : x == n with
      | true =>
        rw [hx] at h'
        exact .inl h'
      | false =>
        rw [hx] at h'
        exact ih h'
def cxComp (X : Cx) (pins : List (Addr × Obj)) (x₁ : Str) (jf : List (Nat × Str)) (scope : Scope) (cl : List (Str × Addr)) (s : Shared) (H : Hp) (fp : List Addr) : Cx where
  prog := X.prog
  w := X.w
  K := X.K
  mg := X.mg
  base := X.base
  A := X.A
  N := x₁ :: jf.map (·.2)
  s₀ := s
  H₀ := H
  env := compEnvC scope cl s.heap.objs.size X.env
  outer := X.stack
  stack := X.stack
  ex := fp
  fn := fun _ => false
  calm := X.calm
  pn := X.pn ++ pins
  xe := fun _ _ => False
def compSt (v : Option V) (js : List (Nat × Str)) (σ : St) : St := v :: js.map fun j => (σ[j.1]?).join
def PTs (X : Cx) (ifs : List Expr) (t : TT) : Prop :=
  ∀ (pins : List (Addr × Obj)) (s : Shared) (σ : St) (H : Hp) (Q : Bool -> Hp -> Prop), Inv X pins σ H s -> t σ H Q ->
    wpAny (model X.prog X.w) X.A (forIn ifs true fun c r => if r = true then do let ok <- isTrue c X.env (eval c X.env); pure (ForInStep.yield ok) else pure (ForInStep.yield r)) (TP X pins σ Q) X.xe s
def tYes : TT := fun _ H Q => Q true H
theorem zhT {X : Cx} : PTs X [] tYes := fun pins s σ H Q I h => wpAny_tests_nil ⟨H, I, h⟩
theorem zhU {X : Cx} {c : Expr} {t : TT} (hc : PT X c t) : PTs X [c] t := fun pins s σ H Q I h => wpAny_tests_one (hc pins s σ H Q I h)
def tComp (jf : List (Nat × Str)) (wi : TI) (tc : TT) (te : TE) : TE := fun σ H Q => wi σ H fun J H1 => ∀ D, H1 D = none -> ∃ W : Nat -> Nat -> List V -> Hp -> Prop, (∃ m, W 0 m [] (upd H1 D (.lst []))) /\
  ∀ i m ys H2, W i m ys H2 -> H2 D = some (.lst ys) /\ ((J.stop i H2 /\ Q (.ref D) H2) \/ (J.go i H2 /\ ys.length < sizeLine /\ ∀ x H3, J.yld i H2 x H3 -> tc (compSt (some x) jf σ) H3 fun b H5 =>
    if b = true then te (compSt (some x) jf σ) H5 fun v H6 => H6 D = some (.lst ys) /\ ∃ m', m' < m /\ W (i + 1) m' (ys ++ [v]) (upd H6 D (.lst (ys ++ [v]))) else ∃ m', m' < m /\ W (i + 1) m' ys H5))
section
variable {X : Cx} {pins : List (Addr × Obj)} {σ : St} {H : Hp} {s : Shared} {x₁ : Str} {jf : List (Nat × Str)} {scope : Scope} {fp : List Addr}
theorem Inv.block {h1 : Heap} {tk : Nat} (I : Inv X pins σ H s) (hf : ∀ b ∈ fp, FpOk X pins H b) (hlt : ∀ b ∈ fp, b < s.heap.objs.size) (hjf : ∀ p ∈ jf, X.N[p.1]? = some p.2) (hjl : ∀ p ∈ jf, scope.names.lookup p.2 = some .free) (hkind : scope.kind = .function)
    (hcell : ∀ y ∈ scope.names, y.2 ≠ .cell) (hfr : ∀ y ∈ scope.names, y.2 = .free -> X.env.kindOf y.1 = some .cell \/ X.env.kindOf y.1 = some .free)
    (hn : h1.Ns s.heap.objs.size (fun _ => none)) (hk : ∀ b o, s.heap.get? b = some o -> h1.get? b = some o) :
    Inv (cxComp X pins x₁ jf scope (closNames X.env scope.names []) s H fp) [] (compSt none jf σ) H { s with heap := h1, toks := tk } := by
  have hsome : ∀ y ∈ scope.names, y.2 = .free -> (X.env.cells.lookup y.1).isSome = true := fun y hy hyf => Option.isSome_iff_exists.mpr (I.ok.has y.1 (hfr y hy hyf))
  have sub : ∀ y c, (closNames X.env scope.names []).lookup y = some c -> X.env.cells.lookup y = some c := za0 hsome (fun y c e => by simp at e)
  have hsz := I.sz
  have inE : ∀ b, b ∈ (cxComp X pins x₁ jf scope (closNames X.env scope.names []) s H fp).ex -> b ∈ fp := fun b z => z
  have stk : ∀ b ∈ frs X.stack, b < s.heap.objs.size := fun b hb => by
    obtain ⟨_, o, ho, _⟩ := I.stack.mem hb
    exact Heap.lt_size ho
  refine ⟨⟨I.ok.mod, hkind, I.ok.glob, I.ok.blt, Nat.le_refl _, fun y z c e1 e2 => I.ok.inj y z c (sub y c e1) (sub z c e2), fun y hy => ?_, fun y c hfn _ => (by cases hfn), I.ok.hd, I.ok.frames, .inl rfl, fun b hb => ?_, fun b o e => I.bs b o e, Nat.le_trans I.ok.bsz hsz, fun b o e z => ?_, fun b hb z => ?_, I.stack, I.stkFree⟩,
    rfl, I.bare, Un.kept hk, ⟨_, hn, fun i y v e1 e2 e3 => ?_⟩, fun y c e => ?_, I.hok.fresh (Nat.le_refl _), fun y c e => I.freeC y c (sub y c e), fun p hp => ?_, I.hok.kept hk, ?_⟩
  . have hy' : (relabel scope X.env).names.lookup y = some .cell \/ (relabel scope X.env).names.lookup y = some .free := hy
    have mem : (y, NameKind.free) ∈ scope.names := by
      rcases hy' with q | q
      . rcases zav (env := X.env) q with z | z
        . exact absurd rfl (hcell _ (zak z))
        . exact zak z.2
      . rcases zav (env := X.env) q with z | z
        . exact zak z
        . exact zak z.2
    exact Option.isSome_iff_exists.mp (za1 (.inl mem))
  . exact ⟨Nat.ne_of_lt (hlt b hb), fun y c e => (hf b hb).2.2.2.2.1 y c (sub y c e)⟩
  . rcases (hf b z).2.2.2.1 with q | q
    . exact I.ok.noex b o e q
    . exact absurd (Nat.lt_of_lt_of_le (Heap.lt_size e) (Nat.le_trans I.ok.bsz q)) (Nat.lt_irrefl _)
  . rcases List.mem_cons.mp (I.stkSub b z) with q | q
    . exact (hf b hb).2.1 q
    . exact (hf b hb).2.2.1 q
  . have e1' : (x₁ :: jf.map (·.2))[i]? = some y := e1
    unfold compSt at e2
    cases i with
    | zero => cases e2
    | succ i =>
      rw [List.getElem?_cons_succ, List.getElem?_map] at e1' e2
      cases q : jf[i]? with
      | none => rw [q] at e2; cases e2
      | some p =>
        rw [q] at e1' e2
        have ey : p.2 = y := Option.some.inj e1'
        have ev : (σ[p.1]?).join = some v := Option.some.inj e2
        have hp : p ∈ jf := List.mem_of_getElem? q
        have eσ : σ[p.1]? = some (some v) := by
          cases z : σ[p.1]? with
          | none => rw [z] at ev; cases ev
          | some r => rw [z] at ev; rw [show r = some v from ev]
        have hfree : scope.names.lookup y = some .free := by rw [<- ey]; exact hjl p hp
        have mem := zak hfree
        have kX := hfr _ mem rfl
        obtain ⟨m, hnX, hl⟩ := I.loc
        obtain ⟨u, ru, lk⟩ := hl p.1 y v (by rw [<- ey]; exact hjf p hp) eσ (by
          rcases kX with z | z
          . exact .inr (.inl z)
          . exact .inr (.inr z))
        refine ⟨u, ru, .inr ⟨?_, ?_⟩⟩
        . have e3' : Vis (relabel scope X.env) y := e3
          rcases e3' with z | z | z
          . exfalso
            rcases zav (env := X.env) z with q | q
            . rw [hfree] at q; cases q
            . cases q.1
          . exact .inl z
          . exact .inr z
        . rcases lk with ⟨z, _⟩ | ⟨_, c, hc, hcell'⟩
          . exfalso
            rcases kX with q | q
            . rw [show X.env.kindOf y = some .cell from q] at z; cases z
            . rw [show X.env.kindOf y = some .free from q] at z; cases z
          . obtain ⟨c', hc'⟩ := Option.isSome_iff_exists.mp (za1 (env := X.env) (acc := []) (.inl mem))
            have e := sub y c' hc'
            rw [hc] at e
            cases e
            obtain ⟨o, ho, hd⟩ := hcell'
            exact ⟨c, hc', o, hk c o ho, hd⟩
  . obtain ⟨v, o, ho, hd⟩ := I.cell y c (sub y c e)
    exact ⟨v, o, hk c o ho, hd⟩
  . have hp' : p ∈ X.pn ++ pins := by simpa [cxComp] using hp
    obtain ⟨e, n, ne, nf, d⟩ := I.pin p hp'
    refine ⟨hk _ _ e, n, Nat.ne_of_lt (Heap.lt_size e), fun z => ?_, d⟩
    rcases List.mem_cons.mp (I.stkSub p.1 z) with q | q
    . exact ne q
    . exact nf q
  . unfold compSt
    show _ = (x₁ :: jf.map (·.2)).length
    rw [List.length_cons, List.length_cons, List.length_map, List.length_map]
end
theorem zbN {prog : Program} {w : World} {A : Around} {R : Result -> Shared -> Prop} {s : Shared} {elt target iter : Expr} {ifs : List Expr} {scope : Scope} {pos : Pos} {it acc : Value} {env : Env} (I : Nat -> Shared -> Prop)
    (turn : ∀ n s, I n s -> wpAny (model prog w) A (pyNext it) (fun r s₁ => match r with
      | none => R (.ok .next) s₁
      | some v => wpAny (model prog w) A (letOwnedTupleGo target it v) (fun _ s₂ => wpAny (model prog w) A (assign target env v) (fun _ s₃ =>
          wpAny (model prog w) A (forIn ifs true fun c r => if r = true then do let ok <- isTrue c env (eval c env); pure (ForInStep.yield ok) else pure (ForInStep.yield r)) (fun ok s₄ =>
            if ok = true then wpAny (model prog w) A (eval elt env) (fun x s₅ => wpAny (model prog w) A (call (.builtin "list.append") [acc, x]) (fun _ s₆ => ∃ m, m < n /\ I m s₆) (fun _ _ => False) s₅) (fun _ _ => False) s₄
            else ∃ m, m < n /\ I m s₄) (fun _ _ => False) s₃) (fun _ _ => False) s₂) (fun _ _ => False) s₁) (fun _ _ => False) s)
    (n : Nat) (h : I n s) : codeAny (model prog w) A (.compLoop (.ListComp elt [⟨target, iter, ifs, 0⟩] scope pos) 0 it acc env) R s := by
  refine codeAny_loop rfl I (fun n s hI => ?_) n h
  show wpAny _ A ((compTurn (.ListComp elt [⟨target, iter, ifs, 0⟩] scope pos) 0 it acc env).onRaise (fun x => do noteFrame x env; theTreesLotGoes x)) _ _ s
  refine wpAny_noted ?_
  rw [compTurn_list]
  refine wpAny_bind (wpAny_standAt (wpAny_bind (wpAny_mono (turn n s hI) (fun r s₁ h₁ => ?_) fun _ _ z => z.elim)))
  cases r with
  | none => exact wpAny_pure h₁
  | some v =>
    refine wpAny_bind (wpAny_mono h₁ (fun _ s₂ h₂ => ?_) fun _ _ z => z.elim)
    refine wpAny_bind (wpAny_mono h₂ (fun _ s₃ h₃ => wpAny_bind (wpAny_mono h₃ (fun ok s₄ h₄ => ?_) fun _ _ z => z.elim)) fun _ _ z => z.elim)
    cases ok with
    | false => exact wpAny_pure ⟨rfl, h₄⟩
    | true =>
      exact wpAny_bind (wpAny_bind (wpAny_mono h₄ (fun x s₅ h₅ => wpAny_bind (wpAny_mono h₅ (fun _ s₆ h₆ => wpAny_pure (wpAny_pure ⟨rfl, h₆⟩)) fun _ _ z => z.elim)) fun _ _ z => z.elim))
section
variable {X : Cx} {x₁ : Str} {px : Pos} {jf : List (Nat × Str)} {scope : Scope} {iter elt : Expr} {ifs : List Expr} {pos : Pos} {wi : TI} {tc : TT} {te : TE}
theorem zdR (hcalm : X.calm = true) (hi : PI X (.Name x₁ px) iter wi) (hc : ∀ pins cl s H fp, PTs (cxComp X pins x₁ jf scope cl s H fp) ifs tc) (he : ∀ pins cl s H fp, PE (cxComp X pins x₁ jf scope cl s H fp) elt te)
    (hN : (x₁ :: jf.map (·.2)).Nodup) (hx : scope.names.lookup x₁ = some .local) (hjf : ∀ p ∈ jf, X.N[p.1]? = some p.2) (hjl : ∀ p ∈ jf, scope.names.lookup p.2 = some .free) (hkind : scope.kind = .function)
    (hcell : ∀ y ∈ scope.names, y.2 ≠ .cell) (hfr : ∀ y ∈ scope.names, y.2 = .free -> X.env.kindOf y.1 = some .cell \/ X.env.kindOf y.1 = some .free)
    (hnames : ∀ y ∈ scope.names, y.2 = .local -> scope.names.lookup y.1 = some .local) {use : Option (Value -> Sem Unit)} {Qf : Value -> Shared -> Prop} {cpos : Pos}
    {pins : List (Addr × Obj)} {σ : St} {H : Hp} {s : Shared} {Q : VK} (I : Inv X pins σ H s) (h : tComp jf wi tc te σ H Q)
    (fin : ∀ D C s6 H6 m6, Inv X pins σ H6 s6 -> Q (.ref D) H6 -> FpOk X pins H6 C -> s6.heap.Ns C m6 -> compPost (model X.prog X.w) X.A X.xe use Qf (.ref D) C (.ok .next) s6) (hs : ∀ x, foldedSetIterable iter X.env x = pure x) :
    wpAny (model X.prog X.w) X.A (comprehension (.ListComp elt [⟨.Name x₁ px, iter, ifs, 0⟩] scope pos) scope X.env cpos (newList []) false (eval iter X.env) use) Qf X.xe s := by
  have hsome : ∀ y ∈ scope.names, y.2 = .free -> (X.env.cells.lookup y.1).isSome = true := fun y hy hyf => Option.isSome_iff_exists.mpr (I.ok.has y.1 (hfr y hy hyf))
  refine wpAny_comprehension_free (use := use) rfl hs (zcL hsome) hkind hnames (thn (hi pins s σ H _ I h) fun xv s1 h1 => thn h1 fun itv s2 h2 => ?_)
  obtain ⟨it, fp, tn, J, H2, e, I2, T, st2, f2, h⟩ := h2
  subst e
  refine wpAny_newObj_type (wpAny_newFunctionEnv hcell (by intro y hy; simp at hy) (fun h₁ hns₁ hsb₁ => ?_) hkind)
  have hD0 : H2 s2.heap.objs.size = none := I2.hok.fresh (Nat.le_refl _)
  obtain ⟨W, ⟨m0, w0⟩, step⟩ := h s2.heap.objs.size hD0
  dsimp only at hns₁ hsb₁ ⊢
  have I3 : Inv X pins σ (upd H2 s2.heap.objs.size (.lst [])) { s2 with heap := s2.heap.push { cls := .type "list", dict := none, data := .seq ([] : List Value).toArray } } :=
    I2.laid (t' := s2.toks) (fun b u q => Heap.get?_push_of_some _ q) (Nat.le_refl _) ⟨Nat.zero_le _, [], 0, .nil, Heap.get?_push_size _ rfl⟩
  generalize hH3 : s2.heap.push { cls := .type "list", dict := none, data := .seq ([] : List Value).toArray } = hp3 at hns₁ hsb₁ I3 ⊢
  have hsz3 : hp3.objs.size = s2.heap.objs.size + 1 := by rw [<- hH3, Heap.size_push]
  have k23 : ∀ b o, s2.heap.get? b = some o -> hp3.get? b = some o := fun b o q => by rw [<- hH3]; exact Heap.get?_push_of_some _ q
  have flt : ∀ b ∈ fp, b < s2.heap.objs.size := fun b hb => by
    obtain ⟨o, q, _⟩ := T.obj 0 _ st2 b hb
    exact Heap.lt_size q
  have f3 : ∀ b ∈ fp, FpOk X pins (upd H2 s2.heap.objs.size (.lst [])) b := fun b hb => by
    obtain ⟨g0, g⟩ := f2 b hb
    exact ⟨by rw [upd_ne (Nat.ne_of_lt (flt b hb))]; exact g0, g⟩
  have kC : ∀ b o, hp3.get? b = some o -> h₁.get? b = some o := fun b o q => (hsb₁.2 b (Nat.ne_of_lt (Heap.lt_size q))).trans (Heap.get?_push_of_some _ q)
  have B0 := I3.block (x₁ := x₁) (jf := jf) (scope := scope) (fp := fp) (h1 := h₁) (tk := s2.toks + ([] : List (Str × Value)).length) f3 (fun b hb => by show b < hp3.objs.size; rw [hsz3]; exact Nat.lt_succ_of_lt (flt b hb)) hjf hjl hkind hcell hfr (by simpa using hns₁) kC
  have st4 : tn 0 h₁ := T.keep _ _ _ st2 fun b _ o q => kC b o (k23 b o q)
  have w0' := w0
  have stat : ∀ {H' : Hp}, (∀ b ∈ fp, H' b = none) -> ∀ b ∈ fp, FpOk (cxComp X pins x₁ jf scope (closNames X.env scope.names []) { s2 with heap := hp3 } (upd H2 s2.heap.objs.size (.lst [])) fp) [] H' b := fun hn b hb => by
    obtain ⟨_, g1, g2, g3, g4, g5⟩ := f2 b hb
    refine ⟨hn b hb, Nat.ne_of_lt (by show b < hp3.objs.size; rw [hsz3]; exact Nat.lt_succ_of_lt (flt b hb)), fun z => ?_, .inl hb, fun y c q => g4 y c (za0 hsome (fun y c e => by simp at e) y c q), fun p hp => g5 p (by simpa [cxComp] using hp)⟩
    rcases List.mem_cons.mp (I2.stkSub b z) with q | q
    . exact g1 q
    . exact g2 q
  have loop : codeAny (model X.prog X.w) X.A (.compLoop (.ListComp elt [⟨.Name x₁ px, iter, ifs, 0⟩] scope pos) 0 (.ref it) (.ref s2.heap.objs.size) (compEnvC scope (closNames X.env scope.names []) hp3.objs.size X.env))
      (compPost (model X.prog X.w) X.A X.xe use Qf (.ref s2.heap.objs.size) hp3.objs.size) { s2 with heap := h₁, toks := s2.toks + ([] : List (Str × Value)).length } := by
    refine zbN (fun n s' => ∃ i ys H', Inv (cxComp X pins x₁ jf scope (closNames X.env scope.names []) { s2 with heap := hp3 } (upd H2 s2.heap.objs.size (.lst [])) fp) [] (compSt none jf σ) H' s' /\ tn i s'.heap /\ (∀ b ∈ fp, H' b = none) /\ W i n ys H') ?_ m0
      ⟨0, [], _, B0, st4, fun b hb => (f3 b hb).1, w0⟩
    rintro n s5 ⟨i, ys, H5, I5, st5, fr5, w5⟩
    obtain ⟨hD5, alt⟩ := step i n ys H5 w5
    rcases alt with ⟨stop, q5⟩ | ⟨go, hlen, next⟩
    . refine wpAny_mono (T.done (cxComp X pins x₁ jf scope (closNames X.env scope.names []) { s2 with heap := hp3 } (upd H2 s2.heap.objs.size (.lst [])) fp) rfl rfl rfl hcalm i [] s5 _ H5 (fun _ _ => False) I5 (stat fr5) st5 stop) (fun r s6 ⟨hr, I6⟩ => ?_) fun _ _ z => z
      subst hr
      obtain ⟨m6, hn6, _⟩ := id I6.loc
      refine fin _ _ s6 H5 m6 ?_ q5 (I3.fpOk (Nat.le_refl _) I6.free) hn6
      refine I3.call' (ch := fp) I6.os I6.base I6.hok I6.bare (fun b hb => ?_)
      obtain ⟨_, g1, g2, g3, g4, g5⟩ := f2 b hb
      exact ⟨g3, g1, g4, g5⟩
    . refine wpAny_mono (T.item (cxComp X pins x₁ jf scope (closNames X.env scope.names []) { s2 with heap := hp3 } (upd H2 s2.heap.objs.size (.lst [])) fp) rfl rfl rfl hcalm i [] s5 _ H5 (fun _ _ => False) I5 (stat fr5) st5 go) (fun r s6 ⟨u, hr, h6⟩ => ?_) fun _ _ z => z
      subst hr
      refine wpAny_mono h6 (fun _ s7 ⟨x, H7, I7, r7, y7, st7, fr7⟩ => ?_) fun _ _ z => z
      have I7' := I7.pinned (stat fr7) (T.obj _ _ st7)
      have hloc : Loc (cxComp X pins x₁ jf scope (closNames X.env scope.names []) { s2 with heap := hp3 } (upd H2 s2.heap.objs.size (.lst [])) fp).env.scope x₁ := .inl (lookup_relabel_local hx)
      refine wpAny_assign_Name (zaY (i := 0) I7' hN rfl hloc r7 (fun s8 I8 => ?_) (.inr (lookup_relabel_local hx)))
      have q8 := next x H7 y7
      have I8' : Inv (cxComp X pins x₁ jf scope (closNames X.env scope.names []) { s2 with heap := hp3 } (upd H2 s2.heap.objs.size (.lst [])) fp) ([] ++ pinsAt fp s7.heap) (compSt (some x) jf σ) H7 s8 := I8
      have again : ∀ {s9 : Shared} {H9 : Hp} {zs : List V} {m' : Nat}, Inv (cxComp X pins x₁ jf scope (closNames X.env scope.names []) { s2 with heap := hp3 } (upd H2 s2.heap.objs.size (.lst [])) fp) ([] ++ pinsAt fp s7.heap) (compSt (some x) jf σ) H9 s9 -> m' < n -> W (i + 1) m' zs H9 ->
          ∃ m, m < n /\ ∃ i ys H', Inv (cxComp X pins x₁ jf scope (closNames X.env scope.names []) { s2 with heap := hp3 } (upd H2 s2.heap.objs.size (.lst [])) fp) [] (compSt none jf σ) H' s9 /\ tn i s9.heap /\ (∀ b ∈ fp, H' b = none) /\ W i m ys H' := fun {s9 H9 zs m'} I9 hm w9 => by
        refine ⟨m', hm, i + 1, zs, H9, I9.unpinned.weak (by simp [compSt]) (fun j v e => ?_), T.keep _ _ _ st7 fun b hb o e => (I9.pin (b, o) (List.mem_append_right _ (List.mem_append_right _ (zaG hb e)))).1, fun b hb => ?_, w9⟩
        . cases j with
          | zero => simp [compSt] at e
          | succ j => simpa [compSt] using e
        . obtain ⟨o, e, d⟩ := T.obj _ _ st7 b hb
          exact (I9.pin (b, o) (List.mem_append_right _ (List.mem_append_right _ (zaG hb e)))).2.1
      refine wpAny_mono (hc pins _ _ _ fp ([] ++ pinsAt fp s7.heap) s8 _ H7 _ I8' q8) (fun ok s9 ⟨H9, I9, q9⟩ => ?_) fun _ _ z => z
      cases ok with
      | false =>
        rw [if_neg Bool.false_ne_true] at q9 ⊢
        obtain ⟨m', hm, w9⟩ := q9
        exact again I9 hm w9
      | true =>
        rw [if_pos rfl] at q9 ⊢
        refine wpAny_mono (he pins _ _ _ fp ([] ++ pinsAt fp s7.heap) s9 _ H9 _ I9 q9) (fun y s10 ⟨v, H10, I10, r10, hD10, m', hm, w10⟩ => ?_) fun _ _ z => z
        refine wpAny_mono (zbM (X := (cxComp X pins x₁ jf scope (closNames X.env scope.names []) { s2 with heap := hp3 } (upd H2 s2.heap.objs.size (.lst [])) fp)) ([] ++ pinsAt fp s7.heap) s10 (compSt (some x) jf σ) H10 (.ref s2.heap.objs.size) [v] (.ref s2.heap.objs.size) [y] (fun _ H' => H' = upd H10 s2.heap.objs.size (.lst (ys ++ [v]))) I10 rfl (.cons r10 .nil) ⟨_, ys, v, rfl, rfl, hD10, hlen, rfl⟩)
          (fun _ s11 ⟨_, H11, I11, _, e11⟩ => ?_) fun _ _ z => z
        subst e11
        exact again I11 hm w10
  exact codeAny_compStart_list loop (T.self _ 0 _ _ _ st4 loop)
theorem zeK (hcalm : X.calm = true) (hi : PI X (.Name x₁ px) iter wi) (hc : ∀ pins cl s H fp, PTs (cxComp X pins x₁ jf scope cl s H fp) ifs tc) (he : ∀ pins cl s H fp, PE (cxComp X pins x₁ jf scope cl s H fp) elt te)
    (hN : (x₁ :: jf.map (·.2)).Nodup) (hx : scope.names.lookup x₁ = some .local) (hjf : ∀ p ∈ jf, X.N[p.1]? = some p.2) (hjl : ∀ p ∈ jf, scope.names.lookup p.2 = some .free) (hkind : scope.kind = .function)
    (hcell : ∀ y ∈ scope.names, y.2 ≠ .cell) (hfr : ∀ y ∈ scope.names, y.2 = .free -> X.env.kindOf y.1 = some .cell \/ X.env.kindOf y.1 = some .free)
    (hnames : ∀ y ∈ scope.names, y.2 = .local -> scope.names.lookup y.1 = some .local) (hs : ∀ x, foldedSetIterable iter X.env x = pure x := by intro _; rfl) :
    PE X (.ListComp elt [⟨.Name x₁ px, iter, ifs, 0⟩] scope pos) (tComp jf wi tc te) := by
  intro pins s σ H Q I h
  rw [eval_ListComp]
  refine zdR hcalm hi hc he hN hx hjf hjl hkind hcell hfr hnames (use := none) (Qf := EP X pins σ Q) I h (fun D C s6 H6 m6 I6 q6 f6 n6 => ?_) hs
  refine ⟨m6, n6, fun h' hs' => ⟨.ref D, H6, ?_, rfl, q6⟩⟩
  exact I6.turnedL (fp := [C]) (t' := s6.toks) (fun b o hb q => (hs'.2 b (fun z => hb (by simp [z]))).trans q) (fun b hb => by
    have e : b = C := by simpa using hb
    subst e
    exact f6)
theorem zhV {y : Str} {py spos : Pos} {i : Nat} (hcalm : X.calm = true) (hi : PI X (.Name x₁ px) iter wi) (hc : ∀ pins cl s H fp, PTs (cxComp X pins x₁ jf scope cl s H fp) ifs tc) (he : ∀ pins cl s H fp, PE (cxComp X pins x₁ jf scope cl s H fp) elt te)
    (hN : (x₁ :: jf.map (·.2)).Nodup) (hx : scope.names.lookup x₁ = some .local) (hjf : ∀ p ∈ jf, X.N[p.1]? = some p.2) (hjl : ∀ p ∈ jf, scope.names.lookup p.2 = some .free) (hkind : scope.kind = .function)
    (hcell : ∀ y ∈ scope.names, y.2 ≠ .cell) (hfr : ∀ y ∈ scope.names, y.2 = .free -> X.env.kindOf y.1 = some .cell \/ X.env.kindOf y.1 = some .free)
    (hnames : ∀ y ∈ scope.names, y.2 = .local -> scope.names.lookup y.1 = some .local) (hNX : X.N.Nodup) (hi' : X.N[i]? = some y) (hy : X.env.scope.names.lookup y = some .local)
    (hsw : swapsWith (.ListComp elt [⟨.Name x₁ px, iter, ifs, 0⟩] scope pos) (some (.Name y py)) spos.line X.env = pure true) (hs : ∀ x, foldedSetIterable iter X.env x = pure x := by intro _; rfl) :
    PS X (.Assign [.Name y py] (.ListComp elt [⟨.Name x₁ px, iter, ifs, 0⟩] scope pos) spos) (tAsg (tComp jf wi tc te) (gName i)) := by
  intro pins s σ H D I h
  rw [exec_Assign_Name_used _ _ _ _ hsw]
  refine wpAny_bind (wpAny_standAt (wpAny_bind ?_))
  show wpAny _ X.A (do let _ <- comprehension (.ListComp elt [⟨.Name x₁ px, iter, ifs, 0⟩] scope pos) scope X.env _ (newList []) false (eval iter X.env) (some (assign (.Name y py) X.env))) _ _ s
  refine wpAny_bind (wpAny_mono (zdR (Qf := fun _ s' => SP X pins D .next s') hcalm hi hc he hN hx hjf hjl hkind hcell hfr hnames (use := some (assign (.Name y py) X.env)) I h (fun D' C s6 H6 m6 I6 q6 f6 n6 => ?_) hs) (fun _ s' hq => wpAny_pure (wpAny_pure hq)) fun _ _ e => e)
  refine wpAny_assign_Name (zdh I6 hNX hi' (.inl hy) (v := .ref D') rfl (fun s7 I7 ⟨a, hsa, ha⟩ => ?_) (.inr hy))
  have ne : C ≠ a := by
    rcases ha with z | z
    . rw [z]; exact f6.2.1
    . exact fun q => f6.2.2.2.2.1 y a z q.symm
  refine ⟨m6, n6.sameBut hsa ne, fun h' hs' => ⟨_, H6, ?_, q6⟩⟩
  exact I7.turnedL (fp := [C]) (t' := s7.toks) (fun b o hb q => (hs'.2 b (fun z => hb (by simp [z]))).trans q) (fun b hb => by
    have e : b = C := by simpa using hb
    subst e
    exact f6)
end
end L2

namespace L2
open PySem PySem.Spec PyProof.Rows
section
variable {X : Cx} {a b e : Expr} {ta tb : TE} {p p2 pos : Pos}
theorem zgW {c : V} {cv : Value} (rc : ∀ u, RelV c u -> u = cv) :
    CallR X (.builtin "isinstance") (fun xs H Q => ∃ x t r, xs = [x, c] /\ TyOf X.K H x t /\ PySem.W.kitOne X.K t cv = some r /\ Q (.bl r) H) := by
  intro pins s σ H xs us Q I r h
  obtain ⟨x, t, k, rfl, ty, hk, q⟩ := h
  obtain ⟨u, w', rfl, rx, ry⟩ := vals2 r
  obtain rfl := rc _ ry
  exact zf3 I rx ty hk fun tk => ⟨.bl k, H, I.tok _, rfl, q⟩
theorem rc_ty (n : String) : ∀ u, RelV (.ty n) u -> u = Value.type n := fun _ r => r
theorem zgd : OpR X (compareOp .LtE) (fun x y H Q => ∃ i j, x = .str i /\ y = .str j /\ Q (.bl (!decide (j.cps.toList < i.cps.toList))) H) := by
  intro pins s σ H x y v u Q I rx ry h
  obtain ⟨i, j, rfl, rfl, q⟩ := h
  obtain ⟨t, rfl⟩ := rx
  obtain ⟨t', rfl⟩ := ry
  exact PySem.P.le_str (fin_bl I q rfl)
theorem zdS : MtR X "str.count" (fun x vs H Q => ∃ z y, x = .str z /\ vs = [.str y] /\ Q (.int ((Builtin.Str.occurrences z y 0 z.length (z.length + 1)).length : Nat)) H) := by
  intro pins s σ H x vs v us Q I rx rv h
  obtain ⟨z, y, rfl, rfl, q⟩ := h
  obtain ⟨t, rfl⟩ := rx
  obtain ⟨u, rfl, t', rfl⟩ := vals1 rv
  exact call_gives F.slot_str_count (typeIs_str s z t) F.entry_str_count (F.args_str_count_2 _ _) (gives_str_count z y t t') ⟨.int _, H, I.tok _, ⟨_, rfl⟩, q⟩
theorem zgX (hc : X.calm = true) : CallR X (.builtin "all") (fun xs H Q => ∃ (a : Addr) (bs : List Bool), xs = [.ref a] /\ SqL X.K H a (bs.map V.bl) /\ Q (.bl (bs.all id)) H) := by
  intro pins s σ H xs us Q I r h
  obtain ⟨l, bs, rfl, hq, q⟩ := h
  obtain ⟨u, rfl, rx⟩ := vals1 r
  cases rx
  obtain ⟨its, rv, pl, hz⟩ := I.list hq
  have hlt : l < s.heap.objs.size := by obtain ⟨_, _, e, _⟩ := pl; exact Heap.lt_size e
  have hlen : its.length = bs.length := by rw [<- rv.length, List.length_map]
  refine call_all_walk (wpAny_pyIter_list pl.isList ?_)
  refine ⟨s.heap.objs.size, [s.heap.objs.size, l], [s.heap.objs.size], its.toArray.size, _, _, fun i => (bs[i]?).getD true, rfl, Walks.list (A := X.A.in1) (I.ok.hd hc) _ l (Nat.ne_of_lt hlt) its.toArray,
    ⟨⟨_, Heap.get?_push_size _ rfl, rfl, rfl⟩, pl.isList.push _⟩, fun i v s' Q' E' hP hQ => ?_, fun h' tk hk => ?_⟩
  . have hP' : its[i]? = some v := by simpa using hP
    have hi : i < its.length := (List.getElem?_eq_some_iff.mp hP').1
    have hb : (bs.map V.bl)[i]? = some (V.bl (bs[i]'(by omega))) := by rw [List.getElem?_map, List.getElem?_eq_getElem (by omega)]; rfl
    obtain ⟨u, hu, ru⟩ := rv.get hb
    rw [hP'] at hu
    cases hu
    cases ru
    have e : (bs[i]?).getD true = bs[i]'(by omega) := by rw [List.getElem?_eq_getElem (by omega)]; rfl
    have hQ2 : Q' ((bs[i]?).getD true) s' := hQ
    rw [e] at hQ2
    exact wpAny_truthy_bool hQ2
  . have e : ((List.range its.toArray.size).all fun i => (bs[i]?).getD true) = bs.all id := by
      rw [List.size_toArray, hlen, Bool.eq_iff_iff, List.all_eq_true, List.all_eq_true]
      constructor
      . intro z c hc'
        obtain ⟨i, hi, rfl⟩ := List.getElem_of_mem hc'
        have := z i (List.mem_range.mpr hi)
        rw [List.getElem?_eq_getElem hi] at this
        exact this
      . intro z i hi
        have hi' := List.mem_range.mp hi
        rw [List.getElem?_eq_getElem hi']
        exact z _ (List.getElem_mem hi')
    rw [e]
    refine ⟨.bl _, H, I.kept (t' := tk) fun b o q => ?_, rfl, q⟩
    exact hk b o (fun hm => by rw [List.mem_singleton.mp hm] at q; exact Nat.lt_irrefl _ (Heap.lt_size q)) (Heap.get?_push_of_some _ q)
end
end L2
namespace L2
open PySem PySem.Spec PyProof.Rows
section
variable {X : Cx}
theorem zgY : OpR X (binaryOp .FloorDiv) (rI (fun _ j => 0 < j /\ j < 2 ^ 200) fun i j => .int (i / j)) := opI fun i j _ _ _ _ _ hc q => by
  obtain ⟨h1, h2⟩ := hc
  refine floordiv_int (by omega) (by rw [Int.fdiv_eq_ediv_of_nonneg i (by omega)]; exact q) (.inl (PyProof.noPylong_of_log2 ?_))
  have h3 : j.natAbs < 2 ^ 200 := by omega
  have h4 : j.natAbs.log2 < 200 := (Nat.log2_lt (by omega)).mpr h3
  omega
theorem zgZ : OpR X (binaryOp .Mult) (rI IntMulOk fun i j => .int (i * j)) := opI fun _ _ _ _ _ _ _ hc q => mul_int q hc
end
end L2
namespace L2
open PySem PySem.Spec PyProof.Rows
theorem bt_int : bootBuiltins "int" = some (.type "int") := by decide +kernel
theorem zhW : bootBuiltins "bool" = some (.type "bool") := by decide +kernel
theorem bt_str : bootBuiltins "str" = some (.type "str") := by decide +kernel
end L2

namespace L2
open PySem PySem.Spec PyProof.Rows
theorem ObjOk.some {P : Program} {w : World} {H : Hp} {h : Heap} {a : Addr} {o : HO} (x : ObjOk P w H h a o) : ∃ ob, h.get? a = Option.some ob := by
  cases o with
  | lst xs => obtain ⟨_, _, _, _, e⟩ := x; exact ⟨_, e⟩
  | tup xs => obtain ⟨_, _, _, o, e, _⟩ := x; exact ⟨o, e⟩
  | dK kvs => obtain ⟨_, _, _, _, o, _, _, e, _⟩ := x; exact ⟨_, e⟩
  | dT kvs => obtain ⟨_, _, _, _, o, _, _, e, _⟩ := x; exact ⟨_, e⟩
  | set S n => obtain ⟨o, _, _, _, e, _⟩ := x; exact ⟨_, e⟩
  | ins C dx fs => obtain ⟨_, _, _, e, _⟩ := x; exact ⟨_, e⟩
  | own y => obtain ⟨_, e⟩ := x; exact ⟨_, e⟩
  | xd fs => obtain ⟨_, ⟨_, _, _, e, _⟩, _⟩ := x; exact ⟨_, e⟩
  | rng lo hi => obtain ⟨_, _, _, e⟩ := x; exact ⟨_, e⟩
  | frz ob u => obtain ⟨e, _⟩ := x; exact ⟨_, e⟩
  | tbl ps => exact ⟨_, (show h.get? a = Option.some _ from x)⟩
  | met f y => exact ⟨_, (show h.get? a = Option.some _ from x)⟩
  | ext φ => obtain ⟨_, ⟨_, e⟩, _⟩ := x; exact ⟨_, e⟩
def Firm (X : Cx) (pins : List (Addr × Obj)) (H : Hp) (h B : Heap) : Prop :=
  ∀ b o, h.get? b = some o -> b ∉ frs X.stack -> ((∃ u, H b = some u) \/ (∃ o', X.s₀.heap.get? b = some o') \/ ∃ p ∈ X.pn ++ pins, p.1 = b) -> B.get? b = some o
section
variable {X : Cx} {pins : List (Addr × Obj)} {σ : St} {H : Hp} {s : Shared}
theorem Inv.nofr (I : Inv X pins σ H s) {b : Addr} {o : Obj} (e : X.s₀.heap.get? b = some o) (hb : b ∉ X.fs) : b ∉ frs X.stack := fun z => by
  rcases List.mem_cons.mp (I.stkSub b z) with q | q
  . exact Nat.ne_of_lt (Nat.lt_of_lt_of_le (Heap.lt_size e) I.ok.above) q
  . exact hb q
theorem Inv.nofrT (I : Inv X pins σ H s) {b : Addr} {u : HO} (e : H b = some u) : b ∉ frs X.stack := fun z => by
  have q := I.stkFree b z
  rw [q] at e
  cases e
theorem Inv.nofrP (I : Inv X pins σ H s) {p : Addr × Obj} (hp : p ∈ X.pn ++ pins) : p.1 ∉ frs X.stack := fun z => by
  obtain ⟨_, _, ne, nf, _⟩ := I.pin p hp
  rcases List.mem_cons.mp (I.stkSub p.1 z) with q | q
  . exact ne q
  . exact nf q
theorem Inv.flown {B h' : Heap} {t' : Nat} (I : Inv X pins σ H s) (hex : X.ex = []) (F : Firm X pins H s.heap B) (st : B.StaysIn h') (sm : s.heap.UpToSlots h') : Inv X pins σ H { s with heap := h', toks := t' } := by
  have nx : ∀ b, b ∉ X.ex := fun b z => by rw [hex] at z; cases z
  refine ⟨I.ok, I.os, I.bare, ⟨fun b o e n hb hx => ?_, fun b o e n hb hx => ?_, I.base.free, fun b o e hx => ?_, I.base.tups, I.base.frzs, I.base.tbls⟩, ?_, fun x c e => ?_, I.free, I.freeC, fun p hp => ?_, fun b u e => ?_, I.len⟩
  . exact st b o (F b o (I.base.keep b o e n hb hx) (I.nofr e hb) (.inr (.inl ⟨o, e⟩)))
  . obtain ⟨sl, q⟩ := I.base.slot b o e n hb hx
    obtain ⟨_, o', ho', hd⟩ := I.funs.mem hb
    rw [q] at ho'
    cases ho'
    obtain ⟨sl', q'⟩ := sm b _ q hd
    exact ⟨sl', q'⟩
  . obtain ⟨o', q⟩ := I.base.there b o e hx
    by_cases hb : b ∈ X.fs
    . obtain ⟨_, o'', ho'', hd⟩ := I.funs.mem hb
      rw [q] at ho''
      cases ho''
      obtain ⟨sl', q'⟩ := sm b _ q hd
      exact ⟨_, q'⟩
    . exact ⟨o', st b o' (F b o' q (I.nofr e hb) (.inr (.inl ⟨o, e⟩)))⟩
  . obtain ⟨m, hn, hl⟩ := I.loc
    refine ⟨m, sm.ns hn, fun i x v e1 e2 e3 => ?_⟩
    obtain ⟨u, r, l⟩ := hl i x v e1 e2 e3
    refine ⟨u, r, ?_⟩
    rcases l with l | ⟨k, c, e, o, ho, hd⟩
    . exact .inl l
    . obtain ⟨sl, q⟩ := sm c o ho fun vs z => by rw [hd] at z; cases z
      exact .inr ⟨k, c, e, _, q, hd⟩
  . obtain ⟨v, o, ho, hd⟩ := I.cell x c e
    obtain ⟨sl, q⟩ := sm c o ho fun vs z => by rw [hd] at z; cases z
    exact ⟨v, _, q, hd⟩
  . obtain ⟨e, n, ne, nf, d⟩ := I.pin p hp
    exact ⟨st _ _ (F _ _ e (I.nofrP hp) (.inr (.inr ⟨p, hp, rfl⟩))), n, ne, nf, d⟩
  . refine (I.hok b u e).stay (fun c v hc q => ?_) (fun _ q => q) fun _ _ q => q
    rcases hc with z | z
    . subst z
      exact st _ _ (F _ _ q (I.nofrT e) (.inl ⟨_, e⟩))
    . exact st _ _ (F _ _ q (I.nofrT z) (.inl ⟨_, z⟩))
end
structure Arr (X : Cx) (pins : List (Addr × Obj)) (σ : St) (H : Hp) (a : Addr) (cls : Value) (s : Shared) : Prop where
  inv : Inv X pins σ H s
  un : H a = none
  new : X.s₀.heap.get? a = none
  nl : a ≠ X.env.locals
  nc : ∀ x c, X.env.cells.lookup x = some c -> c ≠ a
  np : ∀ p ∈ X.pn ++ pins, p.1 ≠ a
  fly : ∃ B a0, Firm X pins H s.heap B /\ B.StaysIn s.heap /\ B.get? a = none /\ s.heap.FunFrames B X.stack /\
    ((∃ oe vs, s.heap.get? a = some oe /\ oe.cls = cls /\ oe.data = .fields vs /\ vs[0]? = some a0 /\ vs[1]? = some .none) \/ s.heap.TracedW B a cls a0)
def CXE (P : Program) (w : World) : CXT := fun outer H s E e s' => ∃ (a : Addr) (cls a0 : Value) (H' : Hp) (B : Heap), e = .ref a /\ s'.os = s.os /\ AllBare s'.gens /\ Un (frs outer) [] H H' s.heap s'.heap /\ HOk P w H' s'.heap /\
  Heap.FlyingW B outer a cls a0 s'.heap /\ (∀ b o, s'.heap.get? b = some o -> b ∉ frs outer -> ((∃ u, H' b = some u) \/ ∃ o', s.heap.get? b = some o') -> B.get? b = some o) /\ H' a = none /\ s.heap.get? a = none /\ E cls none H'
section
variable {X : Cx} {pins : List (Addr × Obj)} {σ : St} {H : Hp} {s : Shared}
theorem zg0 {h' : Heap} {e : Addr} {cls : Value} {args : List Value} {t' : Nat} (I : Inv X pins σ H s) (hex : X.ex = []) (hx : Heap.MadeExcOf s.heap h' e cls args) : Arr X pins σ H e cls { s with heap := h', toks := t' } := by
  have nx : ∀ b, b ∉ X.ex := fun b z => by rw [hex] at z; cases z
  have none_of : ∀ b o, s.heap.get? b = some o -> b ≠ e := fun b o q z => by rw [z, hx.new] at q; cases q
  have eq_of : ∀ b o o1, h'.get? b = some o -> s.heap.get? b = some o1 -> o1 = o := fun b o o1 q q1 => by
    have z := hx.keeps b o1 q1
    rw [q] at z
    exact (Option.some.inj z).symm
  obtain ⟨t, he, _, _⟩ := hx.there
  refine ⟨I.kept hx.keeps, ?_, ?_, fun z => ?_, fun x c q z => ?_, fun p hp z => ?_, PySem.W.hideAll s.heap (frs X.stack), .ref t, fun b o q nb alt => ?_, fun b o q => hx.keeps b o (PySem.W.of_hideAll _ q), ?_, ?_, .inl ⟨_, _, he, rfl, rfl, rfl, rfl⟩⟩
  . cases q : H e with
    | none => rfl
    | some u =>
      obtain ⟨ob, z⟩ := (I.hok e u q).some
      exact absurd rfl (none_of e ob z)
  . cases q : X.s₀.heap.get? e with
    | none => rfl
    | some o =>
      obtain ⟨ob, z⟩ := I.base.there e o q (nx e)
      exact absurd rfl (none_of e ob z)
  . obtain ⟨m, ⟨o, _, _, ho, _⟩, _⟩ := I.loc
    exact none_of _ o ho z.symm
  . obtain ⟨v, o, ho, _⟩ := I.cell x c q
    exact none_of _ o ho z
  . exact none_of _ _ (I.pin p hp).1 z
  . have there : ∃ o1, s.heap.get? b = some o1 := by
      rcases alt with ⟨u, q'⟩ | ⟨o', q'⟩ | ⟨p, hp, rfl⟩
      . exact (I.hok b u q').some
      . exact I.base.there b o' q' (nx b)
      . exact ⟨_, (I.pin p hp).1⟩
    obtain ⟨o1, q1⟩ := there
    rw [<- eq_of b o o1 q q1]
    exact PySem.W.hideAll_get _ q1 nb
  . cases q : (PySem.W.hideAll s.heap (frs X.stack)).get? e with
    | none => rfl
    | some o => exact absurd rfl (none_of e o (PySem.W.of_hideAll _ q))
  . refine (PySem.W.funFrames_hide I.stack fun env henv b hb => List.mem_filterMap.mpr ⟨env, henv, hb⟩).of_keeps fun b o q _ => ⟨o, hx.keeps b o q, rfl⟩
theorem zg1 {E : XK} {e : Value} {s' : Shared} (I : Inv X pins σ H s) (hex : X.ex = []) (h : CXE X.prog X.w X.stack H s E e s') : ∃ a cls H', e = .ref a /\ Arr X pins σ H' a cls s' /\ E cls none H' := by
  obtain ⟨a, cls, a0, H', B, rfl, os, bare, un, hok, ⟨f1, f2, f3, f4⟩, ext, na, ns, q⟩ := h
  have nx : ∀ b, b ∉ X.ex := fun b z => by rw [hex] at z; cases z
  have none_of : ∀ b o, s.heap.get? b = some o -> b ≠ a := fun b o q z => by rw [z, ns] at q; cases q
  refine ⟨a, cls, H', rfl, ⟨I.call' (ch := []) os un hok bare (fun b z => absurd z (by simp)), na, ?_, fun z => ?_, fun x c q z => ?_, fun p hp z => ?_, B, a0, fun b o q nb alt => ?_, f1, f2, f3, .inr f4⟩, q⟩
  . cases q : X.s₀.heap.get? a with
    | none => rfl
    | some o =>
      obtain ⟨ob, z⟩ := I.base.there a o q (nx a)
      exact absurd rfl (none_of a ob z)
  . obtain ⟨m, ⟨o, _, _, ho, _⟩, _⟩ := I.loc
    exact none_of _ o ho z.symm
  . obtain ⟨v, o, ho, _⟩ := I.cell x c q
    exact none_of _ o ho z
  . exact none_of _ _ (I.pin p hp).1 z
  . refine ext b o q nb ?_
    rcases alt with ⟨u, q'⟩ | ⟨o', q'⟩ | ⟨p, hp, rfl⟩
    . exact .inl ⟨u, q'⟩
    . exact .inr (I.base.there b o' q' (nx b))
    . exact .inr ⟨_, (I.pin p hp).1⟩
theorem Arr.land {a : Addr} {cls : Value} {Q : Unit -> Shared -> Prop} {E : Value -> Shared -> Prop} {M : Model} {A : Around} (R : Arr X pins σ H a cls s) (hex : X.ex = []) (hfr : A.frames = some X.stack) {outer : List Env} (hst : X.stack = X.env :: outer) (hf : X.env.frame = some X.env.locals)
    (hQ : ∀ h' B a0, Firm X pins H s.heap B -> Heap.FlyingW B X.stack a cls a0 h' -> s.heap.UpToSlots h' -> Inv X pins σ H { s with heap := h' } -> Q () { s with heap := h' }) :
    wpAny M A (noteFrame (.ref a) X.env) (fun _ s₂ => wpAny M A (setFlight (.ref a) none) Q E s₂) E s := by
  obtain ⟨B, a0, fm, st, hb, ff, alt⟩ := R.fly
  have after : ∀ h4, Heap.HeldW B X.stack a cls a0 X.env.locals h4 -> s.heap.UpToSlots h4 -> wpAny M A (setFlight (.ref a) none) Q E { s with heap := h4 } := fun h4 hh sm => by
    refine wpAny_landsW (s := { s with heap := h4 }) hh fun h5 fl sm5 => ?_
    have sm' : s.heap.UpToSlots h5 := sm.trans sm5
    exact hQ h5 B a0 fm fl sm' (R.inv.flown (t' := s.toks) hex fm fl.1 sm')
  rw [hst] at hfr
  rw [hst] at ff
  rcases alt with ⟨oe, vs, he, hc, hd, h0, h1⟩ | tr
  . subst hc
    have hsz : 1 < vs.size := (Array.getElem?_eq_some_iff.mp h1).1
    unfold noteFrame
    simp only [hf]
    refine wpAny_bind (wpAny_field he hd h1 ?_)
    rw [if_neg (by decide)]
    refine wpAny_entryW hfr ff hf he st hb hd hsz h0 fun h4 hN => ?_
    obtain ⟨k1, k2, k3, k4⟩ := hN
    exact after h4 (by rw [hst]; exact ⟨k1, hb, k2, k3⟩) k4
  . exact wpAny_looks_onW hfr hf ⟨st, hb, ff, tr⟩ fun h4 hh sm => after h4 (by rw [hst]; exact hh) sm
theorem zdp {P : Program} {w : World} {K : PySem.W.Frag} {mg : Str -> Option Value} {base : Heap} {N : List Str} {qual : Str} {scope : Scope} {f : Addr} {cd : Value} {A : Around} {outer : List Env} {s0 : Shared} {H0 : Hp} {E : XK} {a : Addr} {cls : Value}
    (R : Arr (cxOf (CXE P w) P w K mg base N qual scope f cd A outer s0 H0 E) pins σ H a cls s) (q : E cls none H) : (cxOf (CXE P w) P w K mg base N qual scope f cd A outer s0 H0 E).xe (.ref a) s := by
  show wpAny _ _ (leaving _ _) _ _ s
  unfold leaving
  refine wpAny_bind (R.land (E := fun e' s'' => CXE P w outer H0 s0 E e' s'') rfl R.inv.ok.frames rfl rfl fun h' B a0 fm fl sm I' => ?_)
  have I := R.inv
  obtain ⟨k1, k2, ⟨_, _, k3⟩, k4⟩ := fl
  refine ⟨a, cls, a0, H, B, rfl, I'.os, I'.bare, I'.base, I'.hok, ⟨k1, k2, k3, k4⟩, fun b o e nb alt => ?_, R.un, R.new, q⟩
  have nstk : b ∉ frs (cxOf (CXE P w) P w K mg base N qual scope f cd A outer s0 H0 E).stack := by
    rcases alt with ⟨u, z⟩ | ⟨o', z⟩
    . exact I.nofrT z
    . exact I.nofr z nb
  have there : ∃ o1, s.heap.get? b = some o1 := by
    rcases alt with ⟨u, z⟩ | ⟨o', z⟩
    . exact (I.hok b u z).some
    . exact I.base.there b o' z (fun z => absurd (show b ∈ ([] : List Addr) from z) (by simp))
  obtain ⟨o1, q1⟩ := there
  have z : B.get? b = some o1 := fm b o1 q1 nstk (by
    rcases alt with ⟨u, z⟩ | ⟨o', z⟩
    . exact .inl ⟨u, z⟩
    . exact .inr (.inl ⟨o', z⟩))
  have z2 := k1 b o1 z
  rw [show (Heap.get? h' b) = some o from e] at z2
  cases z2
  exact z
end
def RaisesS (X : Cx) (Ex : St -> XK) : Prop := ∀ (pins : List (Addr × Obj)) (σ : St) (H : Hp) (s : Shared) (a : Addr) (cls : Value), Arr X pins σ H a cls s -> Ex σ cls none H -> X.xe (.ref a) s
def PassesS (CX : CXT) (X : Cx) (Ex : St -> XK) : Prop := ∀ (pins : List (Addr × Obj)) (σ : St) (H : Hp) (s : Shared) (e : Value) (s' : Shared), Inv X pins σ H s -> CX X.stack H s (Ex σ) e s' -> X.xe e s'
section
variable {P : Program} {w : World} {K : PySem.W.Frag} {mg : Str -> Option Value} {base : Heap} {N : List Str} {qual : Str} {scope : Scope} {f : Addr} {cd : Value} {A : Around} {outer : List Env} {s0 : Shared} {H0 : Hp} {E : XK}
theorem zaH : RaisesS (cxOf (CXE P w) P w K mg base N qual scope f cd A outer s0 H0 E) (fun _ => E) := fun _ _ _ _ _ _ R q => zdp R q
theorem zhX : Passes (CXE P w) (cxOf (CXE P w) P w K mg base N qual scope f cd A outer s0 H0 E) E := fun pins σ H s e s' I h => by
  obtain ⟨a, cls, H', rfl, R, q⟩ := zg1 (X := cxOf (CXE P w) P w K mg base N qual scope f cd A outer s0 H0 E) I rfl h
  exact zdp R q
end
section
variable {X : Cx} {x : Str} {C : Addr} {bm : List Value} {B newId initId : String} {np cpos pos : Pos} {e : Expr} {es : List Expr} {t : TA} {Ex : St -> XK}
def tRaise (cls : Value) (Ex : St -> XK) (t : TA) : TS := fun _ σ H => t σ H fun vs H1 => vs.length <= 1000 /\ Ex σ cls none H1
theorem zg2 (O : OwnCls x C bm newId X.mg X.base) (FB : ExcBaseFacts B newId initId bm) (hc : X.calm = true) (hex : X.ex = []) (hr : RaisesS X Ex) (hg : Gl X x) (ha : PA X (e :: es) t)
    (hdb : (x == ("__debug__" : Str)) = false := by decide) (he : starEach (e :: es) X.env = (false, eval e X.env) :: starEach es X.env := by rfl) (hpl : (backTo cpos (starEach es X.env)).any (·.1) = false := by rfl) :
    PS X (.Raise (some (.Call (.Name x np) (e :: es) [] cpos)) none pos) (tRaise (.ref C) Ex t) := by
  intro pins s σ H D I h
  obtain ⟨tl, NN, nm, q, bs, hdct, sn, sub, ab, col, dd, k0, k1, k2, k3, k5, mN, hC, hN, hni, T⟩ := O.obj
  refine wpAny_Raise_call_subT (C := C) (nm := nm) (q := q) (N := NN) (bs := bs) (bm := tl) (hdct := hdct) (sn := sn) (sub := sub) (ab := ab) (col := col) (dd := dd) (k0 := k0) (k1 := k1) (k2 := k2) (k3 := k3) (k5 := k5) FB (mN := mN)
    (T.hasType FB.hasBase) (I.ok.hd hc) (by rw [he]; show (false || (backTo cpos (starEach es X.env)).any (·.1)) = false; rw [hpl]; rfl) hni (zbZ I hg O.bound ⟨rfl, ?_⟩ hdb)
  have hA := ha cpos pins s σ H _ I h
  rw [he] at hA ⊢
  refine Calls.evalArgs_plain (thn hA fun us s2 ⟨vs, H1, I1, r1, hl, q1⟩ => ⟨rfl, ?_, I1.bk _ _ hC, hN.keeps I1.bk, T.keeps I1.bk, fun h' a hm => hr pins σ H1 _ a _ (zg0 (t' := s2.toks) I1 hex hm) q1⟩)
  show us.length <= sizeLine
  rw [<- r1.length]
  exact Nat.le_trans hl (by decide)
end
section
variable {X : Cx} {CX : CXT} {k : Nat} {f C : Addr} {fd : FuncData} {ps : List Str} {sp : Sp} {dvs : List V} {ds : List Value} {Ex : St -> XK} {x m : Str} {p pos apos : Pos} {e o : Expr} {es : List Expr} {ta : TE} {t : TA}
theorem zeL {pins : List (Addr × Obj)} {σ : St} {H : Hp} {s : Shared} {Q : VK} {us : List Value} {vs : List V} (F : FnOk X.prog X.w X.K X.mg X.base CX k f fd ps sp) (hr : Room k X.A) (hb : Binds X.K fd ps ds) (hd : Vals dvs ds) (hx : PassesS CX X Ex)
    (I : Inv X pins σ H s) (r : Vals vs us) (h : sp (vs ++ dvs) H Q (Ex σ)) : wpAny (model X.prog X.w) X.A (call (.ref f) us) (EP X pins σ Q) X.xe s := by
  have r2 : Vals (vs ++ dvs) (us ++ ds) := r.append hd
  have hl : (us ++ ds).length = ps.length := by rw [<- r2.length]; exact F.len _ _ _ _ h
  refine wpAny_call (codeAny_mono (F.run X.A X.stack s H ⟨us, []⟩ (us ++ ds) (vs ++ dvs) Q (Ex σ) hr I.env0 (hb s us I.kIn hl) r2 h) fun r s' hq => ?_)
  cases r with
  | error e => exact hx pins σ H s e s' I hq
  | ok fl =>
    cases fl with
    | ret u => exact I.after hq
    | next => exact False.elim hq
    | brk => exact False.elim hq
    | cont => exact False.elim hq
def tCallS (sp : Sp) (dvs : List V) (Ex : St -> XK) (t : TA) : TE := fun σ H Q => t σ H fun vs H1 => sp (vs ++ dvs) H1 Q (Ex σ)
theorem zg3 (F : FnOk X.prog X.w X.K X.mg X.base CX k f fd ps sp) (hr : Room k X.A) (hg : Gl X x) (hm : X.mg x = some (.ref f)) (hk : PySem.W.keepIn X.K (.ref f) = true) (hb : Binds X.K fd ps ds) (hd : Vals dvs ds) (hx : PassesS CX X Ex)
    (ha : PA X (e :: es) t) (hdb : (x == ("__debug__" : Str)) = false := by decide) (he : starEach (e :: es) X.env = (false, eval e X.env) :: starEach es X.env := by rfl) (hpl : (backTo pos (starEach es X.env)).any (·.1) = false := by rfl) :
    PE X (.Call (.Name x p) (e :: es) [] pos) (tCallS sp dvs Ex t) := by
  intro pins s σ H Q I h
  refine wpAny_Call_Name_kw (zbZ I hg hm ?_ hdb)
  refine PySem.W.callWith_K (h₀ := X.base) I.ok.mod.kin hk (thn (ha pos pins s σ H _ I h) fun us s1 ⟨vs, H1, I1, r, q⟩ => ⟨I1.kIn, ?_⟩) he hpl
  exact zeL F hr hb hd hx I1 r q
def tMethS (C : Addr) (m : Str) (sp : Sp) (dvs : List V) (Ex : St -> XK) (ta : TE) (t : TA) : TE := fun σ H Q => ta σ H fun x H1 => ∃ a dx fs, x = .ref a /\ H1 a = some (.ins C dx fs) /\ fs.lookup m = none /\
  t σ H1 fun vs H2 => sp (x :: (vs ++ dvs)) H2 Q (Ex σ)
theorem zg4 {pl : Sem Bool} (he : PE X o ta) (c : Cls X.K C) (hm : Meth X.K C m f) (F : FnOk X.prog X.w X.K X.mg X.base CX k f fd ps sp) (hr : Room k X.A) (hb : Binds X.K fd ps ds) (hd : Vals dvs ds) (hx : PassesS CX X Ex) (ha : PA X (e :: es) t)
    (hst : starEach (e :: es) X.env = (false, eval e X.env) :: starEach es X.env := by rfl) (hpl : (backTo pos (starEach es X.env)).any (·.1) = false := by rfl)
    (ht : eval (.Call (.Attribute o m apos) (e :: es) [] pos) X.env = (do
      let ov <- eval o X.env
      standAt apos.atName
      let (f, first) <- holding [ov] (getMethod ov m pl)
      callWith pos f first (backTo pos (starEach (e :: es) X.env)) (backToKw pos (keywordEach [] X.env))) := by rfl) :
    PE X (.Call (.Attribute o m apos) (e :: es) [] pos) (tMethS C m sp dvs Ex ta t) := by
  intro pins s σ H Q I h
  refine PySem.W.methodCall_KW (pl := pl) (thn (he pins s σ H _ I h) fun u s1 ⟨x, H1, I1, rx, a, dx, fs, ex, ea, l, q⟩ => ?_) ht
  subst ex
  obtain rfl : u = Value.ref a := rx
  refine zfu I1 ea c hm l ?_
  refine PySem.W.callWith_K (first := [.ref a]) (h₀ := X.base) I.ok.mod.kin hm.kp (thn (ha pos pins s1 σ H1 _ I1 q) fun us s2 ⟨vs, H2, I2, r, q2⟩ => ⟨I2.kIn, ?_⟩) hst hpl
  exact zeL (us := .ref a :: us) (vs := .ref a :: vs) F hr hb hd hx I2 (.cons rfl r) q2
end
def excO (a : Addr) (cls : Value) : HO := .ext fun h => ∃ ob vs, h.get? a = some ob /\ ob.cls = cls /\ ob.data = .fields vs
section
variable {X : Cx} {pins pins' : List (Addr × Obj)} {σ : St} {H : Hp} {s : Shared} {xe : Value -> Shared -> Prop}
end
section
variable {X : Cx} {xc n : Str} {C : Addr} {i : Nat} {body suite : List Stmt} {b0 : Stmt} {np hpos pos : Pos} {tb : (St -> XK) -> TS} {th : TS} {outer : List Env}
end
section
variable {P : Program} {w : World} {K : PySem.W.Frag} {mg : Str -> Option Value} {base : Heap}
theorem Fun.okE {x qual : Str} {st : Stmt} {f : Addr} {fd : FuncData} {N ps : List Str} {k : Nat} {sp : Sp} (F : Fun K x qual st f fd) (S : FnScope N ps (defScope st)) (len : ∀ vs H Q E, sp vs H Q E -> vs.length = ps.length)
    (hbody : ∀ (cdv : Value) (A : Around) (outer : List Env) (s : Shared) (H : Hp) (vs : List V) (Q : VK) (E : XK), Room k (A.deeper (envOfC qual (defScope st) s.heap.objs.size f cdv)) -> sp vs H Q E ->
      ∃ t, PSs (cxOf (CXE P w) P w K mg base N qual (defScope st) f cdv A outer s H E) (defBody st) t /\ t { nx := fun _ H' => Q .non H', rt := Q } (start N vs) H) : FnOk P w K mg base (CXE P w) (k + 1) f fd ps sp := by
  obtain ⟨oc, od, kV, doc, pm, an, cdv, ct, osl, rfl, lk, hcd⟩ := F.ex
  exact fn_of lk hcd S len fun A outer s H vs Q E hr hsp => hbody cdv A outer s H vs Q E hr hsp
end
end L2


namespace L2
open PySem PySem.Spec PyProof.Rows
theorem zg5 {K : PySem.W.Frag} {hp : Heap} {g : Str -> Option Value} {nm : Str} {Ca : Addr} {bb : List Value} {nid : String} (Z : K.In hp) (hb : g nm = some (.ref Ca)) (ok : PySem.W.excIn K Ca bb nid = true) : OwnCls nm Ca bb nid g hp := by
  refine ⟨hb, ?_⟩
  unfold PySem.W.excIn at ok
  split at ok
  . rename_i dA cA sA hA
    split at ok
    . rename_i D' tl w0 w1 w2 w3 bn w5 eM eS
      simp only [Bool.and_eq_true, beq_iff_eq, Bool.not_eq_true'] at ok
      obtain ⟨⟨⟨⟨⟨rfl, rfl⟩, e1⟩, e2⟩, e3⟩, e4⟩ := ok
      obtain ⟨f1, f2, f3, f4, f5, f6, f7, f8, f9, f10, f11⟩ := cA
      dsimp only at eM e1 e3 e4
      subst eM e1
      have eA : sA = #[w0, w1, w2, w3, some (.builtin bn), w5] := by
        obtain ⟨ll⟩ := sA
        simp only at eS
        rw [eS]
      subst eA
      refine ⟨tl, f4, f1, f5, f2, f6, f7, f8, f9, f10, dA, w0, w1, w2, w3, w5, _, Z _ _ hA, .of_isNs (PySem.W.isNs_of_in Z e3), ?_, PySem.W.tail_of_in Z e2⟩
      exact PySem.W.nsMap_none_of_in Z e3 e4
    . cases ok
  . cases ok
mutual
inductive DaV (K : PySem.W.Frag) (H : Hp) : V -> PyData -> Prop
  | non : DaV K H .non .none
  | bl (b) : DaV K H (.bl b) (.bool b)
  | int (i) : DaV K H (.int i) (.int i)
  | str (x) : DaV K H (.str x) (.str x)
  | lst {a xs ds} : SqL K H a xs -> DaVs K H xs ds -> DaV K H (.ref a) (.list ds)
  | tup {a xs ds} : SqT K H a xs -> DaVs K H xs ds -> DaV K H (.ref a) (.tuple ds)
inductive DaVs (K : PySem.W.Frag) (H : Hp) : List V -> List PyData -> Prop
  | nil : DaVs K H [] []
  | cons {x xs d ds} : DaV K H x d -> DaVs K H xs ds -> DaVs K H (x :: xs) (d :: ds)
end
section
variable {X : Cx} {pins : List (Addr × Obj)} {σ : St} {H : Hp} {s : Shared}
mutual
theorem DaV.reads (I : Inv X pins σ H s) : ∀ {x : V} {d : PyData} {u : Value}, DaV X.K H x d -> RelV x u -> ∃ as, Reads s.heap u d as
  | _, _, _, .non, r => by cases r; exact ⟨_, .none⟩
  | _, _, _, .bl b, r => by cases r; exact ⟨_, .bool b⟩
  | _, _, _, .int i, r => by obtain ⟨t, rfl⟩ := r; exact ⟨_, .int i t⟩
  | _, _, _, .str x, r => by obtain ⟨t, rfl⟩ := r; exact ⟨_, .str x t⟩
  | _, _, _, .lst (a := a) h1 h2, r => by
    cases r
    obtain ⟨its, rv, ⟨o, n, e1, e2, e3⟩, _⟩ := I.list h1
    obtain ⟨as, q⟩ := DaVs.reads I h2 rv
    exact ⟨_, .list (vs := its.toArray) (n := n) e1 (by first | exact e2.1 | exact e2) (by first | exact e2.2.2 | exact e2.2 | exact e3 | exact e3.2) (by simpa using q)⟩
  | _, _, _, .tup (a := a) h1 h2, r => by
    cases r
    obtain ⟨its, rv, ⟨o, e1, e2, n, e3⟩, _⟩ := I.tuple h1
    obtain ⟨as, q⟩ := DaVs.reads I h2 rv
    exact ⟨_, .tuple (vs := its.toArray) (n := n) e1 e2 e3 (by simpa using q)⟩
theorem DaVs.reads (I : Inv X pins σ H s) : ∀ {xs : List V} {ds : List PyData} {us : List Value}, DaVs X.K H xs ds -> Vals xs us -> ∃ as, ReadsAll s.heap us ds as
  | _, _, _, .nil, r => by cases r; exact ⟨_, .nil⟩
  | _, _, _, .cons h1 h2, r => by
    cases r with
    | cons r1 r2 =>
      obtain ⟨as, q1⟩ := DaV.reads I h1 r1
      obtain ⟨bs, q2⟩ := DaVs.reads I h2 r2
      exact ⟨_, .cons q1 q2⟩
end
def rEqD (K : PySem.W.Frag) : R2 := fun x y H Q => ∃ d e, DaV K H x d /\ DaV K H y e /\ d.canLay0 = true /\ e.canLay0 = true /\ d.depth <= 60 /\ Q (.bl (PyData.eqv d e)) H
def rNeD (K : PySem.W.Frag) : R2 := fun x y H Q => ∃ d e, DaV K H x d /\ DaV K H y e /\ d.canLay0 = true /\ e.canLay0 = true /\ d.depth <= 60 /\ Q (.bl (!PyData.eqv d e)) H
theorem op_eqD (hu : X.A.units + 64 < cLine) : OpR X (compareOp .Eq) (rEqD X.K) := by
  intro pins s σ H x y v u Q I rx ry h
  obtain ⟨d, e, h1, h2, c1, c2, dp, q⟩ := h
  obtain ⟨as, r1⟩ := h1.reads I rx
  obtain ⟨bs, r2⟩ := h2.reads I ry
  exact SeqAt.compareEq_reads r1 r2 c1 c2 (by have := Nat.min_le_left d.depth e.depth; omega) ⟨.bl _, H, I, rfl, q⟩
theorem op_neD (hu : X.A.units + 64 < cLine) : OpR X (compareOp .NotEq) (rNeD X.K) := by
  intro pins s σ H x y v u Q I rx ry h
  obtain ⟨d, e, h1, h2, c1, c2, dp, q⟩ := h
  obtain ⟨as, r1⟩ := h1.reads I rx
  obtain ⟨bs, r2⟩ := h2.reads I ry
  exact SeqAt.compareNe_reads r1 r2 c1 c2 (by have := Nat.min_le_left d.depth e.depth; omega) ⟨.bl _, H, I, rfl, q⟩
end
theorem hu64 {A : Around} {k : Nat} (hr : Room k A) : A.units + 64 < cLine := by
  have := hr.un
  omega
def rCatS (K : PySem.W.Frag) : R2 := fun x y H Q => ∃ l b xs zs, x = .ref l /\ y = .ref b /\ SqL K H l xs /\ SqL K H b zs /\ xs.length + zs.length <= sizeLine /\ ∀ p, H p = none -> Q (.ref p) (upd H p (.lst (xs ++ zs)))
theorem zeM {X : Cx} : OpR X (binaryOp .Add) (rCatS X.K) := by
  intro pins s σ H x y v u Q I rx ry h
  obtain ⟨l, b, xs, zs, rfl, rfl, hH, hB, hz, q⟩ := h
  cases rx
  cases ry
  obtain ⟨its, r, ⟨o, n, e1, e2, e3, e4⟩, z⟩ := I.list hH
  obtain ⟨its2, r2, ⟨o2, n2, g1, g2, g3, g4⟩, z2⟩ := I.list hB
  obtain ⟨oc, od, oda, osl⟩ := o
  obtain ⟨oc2, od2, oda2, osl2⟩ := o2
  dsimp only at e2 e3 e4 g2 g3 g4
  subst e2 e3 e4 g2 g3 g4
  have l1 := r.length
  have l2 := r2.length
  refine concat_meets ⟨_, e1, rfl⟩ ⟨_, g1, rfl⟩ noFill_list_add seq_list_add PySem.F.slot_list_add PySem.F.entry_list_add (PySem.F.args_list_add_2 _ _) (list_addW l b its.toArray its2.toArray n n2 none none osl osl2 (by rw [List.size_toArray, List.size_toArray]; omega)) ⟨e1, g1, ?_⟩
  have ea : its.toArray ++ its2.toArray = (its ++ its2).toArray := by simp
  rw [ea]
  exact ⟨.ref s.heap.objs.size, _, I.lnew (t' := s.toks) (r.append r2) (by rw [List.length_append]; exact hz), rfl, q _ I.fresh⟩
end L2

namespace L2
open PySem PySem.Spec PyProof.Rows
section
variable {X : Cx} {pins : List (Addr × Obj)} {σ : St} {H : Hp} {s : Shared}
open Classical in
def isD (h : Heap) (d : PyData) (v : Value) : Bool := if q : ∃ e as, e.canLay0 = true /\ Reads h v e as then PyData.eqv q.choose d else false
theorem isD_of {h : Heap} {d e : PyData} {v : Value} {as : List Addr} (c : e.canLay0 = true) (r : Reads h v e as) : isD h d v = PyData.eqv e d := by
  have q : ∃ e as, e.canLay0 = true /\ Reads h v e as := ⟨e, as, c, r⟩
  unfold isD
  rw [dif_pos q]
  obtain ⟨as', c', r'⟩ := q.choose_spec
  have z : q.choose = e := by first | exact (Reads.unique _ _ r' r).1 | exact (Reads.unique r' r).1 | exact Reads.unique _ _ _ _ _ c' r' r | exact PySem.SeqAt.Reads.unique _ _ _ _ _ c' r' r | exact PySem.Reads.unique _ _ _ _ _ c' r' r
  rw [z]
theorem zcY (I : Inv X pins σ H s) : ∀ {xs : List V} {ds : List PyData} {us : List Value}, DaVs X.K H xs ds -> Vals xs us -> us.length = ds.length /\ ∀ (j : Nat) u d, us[j]? = some u -> ds[j]? = some d -> ∃ as, Reads s.heap u d as
  | _, _, _, .nil, r => by cases r; exact ⟨rfl, fun j u d e => by cases e⟩
  | _, _, _, .cons h1 h2, r => by
    cases r with
    | cons r1 r2 =>
      obtain ⟨l, q⟩ := zcY I h2 r2
      refine ⟨by rw [List.length_cons, List.length_cons, l], fun j u d e1 e2 => ?_⟩
      cases j with
      | zero => cases e1; cases e2; exact h1.reads I r1
      | succ j => exact q j u d e1 e2
def rInD (K : PySem.W.Frag) : R2 := fun x y H Q => ∃ p xs d ds, y = .ref p /\ SqL K H p xs /\ DaV K H x d /\ DaVs K H xs ds /\ d.canLay0 = true /\ (∀ e ∈ ds, e.canLay0 = true /\ e.depth <= 30) /\ Q (.bl (ds.any fun e => PyData.eqv e d)) H
theorem zcZ {h : Heap} {d : PyData} : ∀ {us : List Value} {ds : List PyData}, us.length = ds.length -> (∀ (j : Nat) u e, us[j]? = some u -> ds[j]? = some e -> isD h d u = PyData.eqv e d) -> us.any (isD h d) = ds.any fun e => PyData.eqv e d
  | [], [], _, _ => rfl
  | u :: us, e :: ds, hl, hh => by
    rw [List.any_cons, List.any_cons, hh 0 u e rfl rfl, zcZ (us := us) (ds := ds) (Nat.succ.inj hl) fun j u' e' a b => hh (j + 1) u' e' a b]
theorem op_inD (hu : X.A.units + 64 < cLine) : OpR X (compareOp .In) (rInD X.K) := by
  intro pins s σ H x y v u Q I rx ry h
  obtain ⟨p, xs, d, ds, rfl, hq, hd, hds, cd, cds, q⟩ := h
  cases ry
  obtain ⟨its, r, pl, hz⟩ := I.list hq
  obtain ⟨as, ra⟩ := hd.reads I rx
  obtain ⟨hl, hat⟩ := zcY I hds r
  refine SeqAt.in_listAt (isD s.heap d) pl.isList (fun y hy => ?_) ⟨.bl _, H, I, rfl, ?_⟩
  . have hy' : y ∈ its := by simpa using hy
    obtain ⟨j, hj⟩ := List.getElem?_of_mem hy'
    have hlt := (List.getElem?_eq_some_iff.mp hj).1
    have hdj : ds[j]? = some (ds[j]'(by omega)) := List.getElem?_eq_getElem (by omega)
    obtain ⟨bs, rb⟩ := hat j _ _ hj hdj
    have cj := cds _ (List.mem_of_getElem? hdj)
    rw [isD_of cj.1 rb]
    exact SeqAt.eqAt_reads _ _ _ _ _ _ _ _ rb ra cj.1 cd (by
      have := Nat.min_le_left (ds[j]'(by omega)).depth d.depth
      show X.A.units + 1 + _ < cLine
      omega)
  . have e : its.toArray.any (isD s.heap d) = ds.any fun e => PyData.eqv e d := by
      rw [<- Array.any_toList]
      refine zcZ hl fun j u e h1 h2 => ?_
      obtain ⟨bs, rb⟩ := hat j _ _ h1 h2
      exact isD_of (cds _ (List.mem_of_getElem? h2)).1 rb
    rw [e]
    exact q
end
end L2

namespace L2
open PySem PySem.Spec PyProof.Rows
section
variable {X : Cx} {tg : Expr}
theorem zcj (ns : List Int) : ∀ k, k <= ns.length -> preSum (fun i => (ns[i]?).getD 0) k = (ns.take k).sum
  | 0, _ => by simp [preSum]
  | k + 1, h => by
    show preSum _ k + (ns[k]?).getD 0 = _
    rw [zcj ns k (by omega), List.take_succ, List.sum_append]
    congr 1
    rw [List.getElem?_eq_getElem (by omega)]
    simp
theorem zg6 (hc : X.calm = true) : CallR X (.builtin "sum") (fun xs H Q => ∃ (a : Addr) (ns : List Int), xs = [.ref a] /\ SqL X.K H a (ns.map V.int) /\ Q (.int ns.sum) H) := by
  intro pins s σ H xs us Q I r h
  obtain ⟨l, bs, rfl, hq, q⟩ := h
  obtain ⟨u, rfl, rx⟩ := vals1 r
  cases rx
  obtain ⟨its, rv, pl, hz⟩ := I.list hq
  have hlt : l < s.heap.objs.size := by obtain ⟨_, _, e, _⟩ := pl; exact Heap.lt_size e
  have hlen : its.length = bs.length := by rw [<- rv.length, List.length_map]
  refine call_sum_walkAnyS (wpAny_pyIter_list pl.isList ?_)
  refine ⟨s.heap.objs.size, [s.heap.objs.size, l], [s.heap.objs.size], _, its.toArray.size, _, _, fun i => (bs[i]?).getD 0, rfl, (Walks.list (prog := X.prog) (w := X.w) (A := X.A.in1) (I.ok.hd hc) s.heap.objs.size l (Nat.ne_of_lt hlt) its.toArray).toS,
    ⟨⟨_, Heap.get?_push_size _ rfl, rfl, rfl⟩, pl.isList.push _⟩, fun b hb => ?_, fun i v hP => ?_, fun s' t' hm => ?_⟩
  . rcases List.mem_cons.mp hb with rfl | hb
    . exact Heap.lt_size (Heap.get?_push_size _ rfl)
    . obtain rfl := List.mem_singleton.mp hb
      obtain ⟨_, _, e, _⟩ := pl
      exact Heap.lt_size (Heap.get?_push_of_some _ e)
  . have hP' : its[i]? = some v := by simpa using hP
    have hi : i < its.length := (List.getElem?_eq_some_iff.mp hP').1
    have hb : (bs.map V.int)[i]? = some (V.int (bs[i]'(by omega))) := by rw [List.getElem?_map, List.getElem?_eq_getElem (by omega)]; rfl
    obtain ⟨u, hu, ru⟩ := rv.get hb
    rw [hP'] at hu
    cases hu
    obtain ⟨t, rfl⟩ := ru
    refine ⟨t, ?_⟩
    show Value.int _ t = Value.int ((bs[i]?).getD 0) t
    rw [List.getElem?_eq_getElem (by omega)]; rfl
  . obtain ⟨h', g', d', tk', os'⟩ := s'
    have e1 : g' = s.gens := hm.gens
    have e2 : d' = s.drawn := hm.drawn
    have e3 : os' = s.os := hm.os
    subst e1 e2 e3
    have e : preSum (fun i => (bs[i]?).getD 0) its.toArray.size = bs.sum := by
      rw [List.size_toArray, hlen, zcj bs _ (Nat.le_refl _), List.take_of_length_le (Nat.le_refl _)]
    rw [e]
    refine ⟨.int _, H, I.kept (t' := tk') fun b o q => ?_, ⟨_, rfl⟩, q⟩
    exact hm.heap b o (fun hb => by rw [List.mem_singleton.mp hb] at q; exact Nat.lt_irrefl _ (Heap.lt_size q)) (Heap.get?_push_of_some _ q)
def Itr3 (lo c : Int) (n : Nat) : It := ⟨fun i _ => i < n, fun i H x H' => H' = H /\ x = .int (lo + i * c), fun i _ => n <= i⟩
theorem zek {P : Program} {w : World} {K : PySem.W.Frag} {tg : Expr} (it : Addr) (lo c : Int) (n : Nat) : Turn P w K tg (Itr3 lo c n) [it] it (fun i h => IsRangeIter h it (lo + (i : Nat) * c) ((n : Int) - (i : Nat)) c) where
  mem := by simp
  obj := fun i h st b hb => by
    have e : b = it := by simpa using hb
    subst e
    exact ⟨_, st, fun v z => by
      have z' : Data.fields _ = Data.cell v := z
      cases z'⟩
  keep := fun i h h' st k => k it (by simp) _ st
  item := by
    intro X hP hw hK hc i pins s σ H E I hf st hg
    subst hP hw hK
    obtain ⟨f0, f1, f2, f3, f4, f5⟩ := hf it (by simp)
    have W := Walks.range (prog := X.prog) (w := X.w) (I.ok.hd hc) it lo c n
    refine W.item i s _ _ hg st fun v h' tk hv st' kk => ?_
    obtain ⟨t, rfl⟩ := hv
    have I1 : Inv X pins σ H { s with heap := h', toks := tk } := I.turned (fun b o hb e => kk b o (by simpa using hb) e) f0 f1 f3 f4 f5
    exact ⟨_, rfl, go_of (s := { s with heap := h', toks := tk }) (n := "range_iterator") st' rfl rfl (by decide) ⟨.int (lo + i * c), H, I1, ⟨t, rfl⟩, ⟨rfl, rfl⟩, st', fun b hb => (hf b hb).1⟩⟩
  done := by
    intro X hP hw hK hc i pins s σ H E I hf st hg
    subst hP hw hK
    obtain ⟨f0, f1, f2, f3, f4, f5⟩ := hf it (by simp)
    exact wpAny_pyNext_range_end (I.ok.hd hc) st (by have : n <= i := hg; omega) fun h' eb => ⟨rfl, I.turned (t' := s.toks) (fun b o hb e => eb b o hb e) f0 f1 f3 f4 f5⟩
  self := fun _ _ _ _ _ st h => wpAny_pyIter_rangeiter st h
theorem zge {a b c : Int} (hc : 0 < c) : Builtin.Range.rangeSize a b c = (((if a < b then (b - a - 1) / c + 1 else 0 : Int).toNat : Nat) : Int) := by
  unfold Builtin.Range.rangeSize
  rw [if_pos hc]
  split
  . have : 0 <= (b - a - 1) / c := Int.ediv_nonneg (by omega) (by omega)
    omega
  . rfl
theorem zbg {x : Int} (h : x.natAbs < 2 ^ 42) : Builtin.Range.rangeFitsLong x = true := by
  have h2 : x.natAbs < 4398046511104 := h
  simp only [Builtin.Range.rangeFitsLong, Bool.and_eq_true, decide_eq_true_eq]
  omega
theorem zgf {a b c : Int} (ha : a.natAbs < 2 ^ 40) (hb : b.natAbs < 2 ^ 40) (hc : 0 < c) : (Builtin.Range.rangeSize a b c).natAbs < 2 ^ 42 := by
  have ha2 : a.natAbs < 1099511627776 := ha
  have hb2 : b.natAbs < 1099511627776 := hb
  show _ < 4398046511104
  unfold Builtin.Range.rangeSize
  rw [if_pos hc]
  split
  . have h1 : 0 <= (b - a - 1) / c := Int.ediv_nonneg (by omega) (by omega)
    have h2 : (b - a - 1) / c <= b - a - 1 := Int.ediv_le_self _ (by omega)
    generalize (b - a - 1) / c = d at *
    omega
  . decide
theorem zfB {a b c : Int} (ha : a.natAbs < 2 ^ 40) (hb : b.natAbs < 2 ^ 40) (hc : 0 < c) (hc' : c < 2 ^ 20) : Builtin.Range.small a b c = true := by
  have l : (2 : Nat) ^ 40 < 2 ^ 42 := by decide
  unfold Builtin.Range.small
  rw [zbg (Nat.lt_trans ha l), zbg (Nat.lt_trans hb l), zbg (x := c) (by have h2 : c < 1048576 := hc'; show _ < 4398046511104; omega), zbg (zgf ha hb hc), if_pos hc, zbg (x := b + (c - 1)) (by have h2 : c < 1048576 := hc'; have h3 : b.natAbs < 1099511627776 := hb; show _ < 4398046511104; omega)]
  simp
def iRng3 (ta : TA) : TI := fun σ H R => ta σ H fun vs H1 => ∃ i j c : Int, vs = [.int i, .int j, .int c] /\ (i.natAbs < 2 ^ 40 /\ j.natAbs < 2 ^ 40 /\ 0 < c /\ c < 2 ^ 20) /\ R (Itr3 i c (if i < j then (j - i - 1) / c + 1 else 0 : Int).toNat) H1
theorem zgg {pins : List (Addr × Obj)} {σ : St} {H : Hp} {s : Shared} {R : It -> Hp -> Prop} {E : Value -> Shared -> Prop} {lo hi c : Int} {t u v : Tok} {tk : Nat} (I : Inv X pins σ H s) (h1 : lo.natAbs < 2 ^ 40) (h2 : hi.natAbs < 2 ^ 40) (h3 : 0 < c) (h4 : c < 2 ^ 20)
    (q : R (Itr3 lo c (if lo < hi then (hi - lo - 1) / c + 1 else 0 : Int).toNat) H) : wpAny (model X.prog X.w) X.A (pyIter (.ref s.heap.objs.size)) (PIE X pins σ tg R) E { s with heap := s.heap.push { cls := .type "range", data := .fields #[.int lo t, .int hi u, .int c v] }, toks := tk } := by
  refine wpAny_pyIter_range (IsRange.new ..) (zfB h1 h2 h3 h4) ?_
  have I1 : Inv X pins σ H { s with heap := s.heap.push { cls := .type "range", data := .fields #[.int lo t, .int hi u, .int c v] }, toks := tk } := I.kept fun b o e => Heap.get?_push_of_some _ e
  refine ⟨(s.heap.push { cls := .type "range", data := .fields #[.int lo t, .int hi u, .int c v] }).objs.size, [(s.heap.push { cls := .type "range", data := .fields #[.int lo t, .int hi u, .int c v] }).objs.size], _, _, H, rfl,
    I1.kept (t' := tk) fun b o e => Heap.get?_push_of_some _ e, zek _ lo c (if lo < hi then (hi - lo - 1) / c + 1 else 0 : Int).toNat, ?_, fun b hb => ?_, q⟩
  . have e1 : lo + ((0 : Nat) : Int) * c = lo := by simp
    have e2 : (((if lo < hi then (hi - lo - 1) / c + 1 else 0 : Int).toNat : Nat) : Int) - ((0 : Nat) : Int) = Builtin.Range.rangeSize lo hi c := by rw [zge h3]; omega
    show IsRangeIter _ _ (lo + ((0 : Nat) : Int) * c) ((((if lo < hi then (hi - lo - 1) / c + 1 else 0 : Int).toNat : Nat) : Int) - ((0 : Nat) : Int)) c
    rw [e1, e2]
    exact Heap.get?_push_size _ rfl
  . have e : b = (s.heap.push { cls := .type "range", data := .fields #[.int lo t, .int hi u, .int c v] }).objs.size := by simpa using hb
    subst e
    exact I1.fpOk (Nat.le_refl _) (I1.hok.fresh (Nat.le_refl _))
theorem zgh {a b c : Expr} {ta : TA} {p pos : Pos} (hg : Gl X "range") (hm : X.mg "range" = none) (ha : PA X [a, b, c] ta) (hs : starEach [a, b, c] X.env = [(false, eval a X.env), (false, eval b X.env), (false, eval c X.env)] := by rfl) (hs2 : starEach [b, c] X.env = [(false, eval b X.env), (false, eval c X.env)] := by rfl) :
    PI X tg (.Call (.Name "range" p) [a, b, c] [] pos) (iRng3 ta) := by
  intro pins s σ H R I h
  refine Call_ (ld_blt I hg hm boot_range (PyProof.Rows.callWith_type1 (thn (ha pos pins s σ H _ I h) fun us s1 ⟨vs, H1, I1, r1, q1⟩ => ?_) (by rw [hs, hs2]) (by rw [hs2]; rfl)))
  obtain ⟨i, j, c, e, ⟨q1, q2, q3, q4⟩, q⟩ := q1
  subst e
  cases r1 with
  | cons r rr =>
    cases rr with
    | cons r' rr =>
      cases rr with
      | cons r'' rr =>
        cases rr
        obtain ⟨t, rfl⟩ := r
        obtain ⟨t', rfl⟩ := r'
        obtain ⟨t'', rfl⟩ := r''
        exact call_range_3 (by omega) (zgg I1 q1 q2 q3 q4 q) (.inl (PyProof.noPylong_small (by omega)))
end
end L2

namespace L2
open PySem PySem.Spec PyProof.Rows
open PySem.Builtin PySem.Builtin.Str
section
variable {X : Cx}
def cutS (z : Str) (lo hi : Option Int) : Str := ⟨((z.cps.toList.drop (HT.sIx z.cps.toList.length 0 lo)).take (HT.sIx z.cps.toList.length z.cps.toList.length hi - HT.sIx z.cps.toList.length 0 lo)).toArray⟩
theorem za7 (n d : Nat) (i : Int) : max 0 (min (if i < 0 then i + (n : Int) else i) (n : Int)) = ((HT.sIx n d (some i) : Nat) : Int) := by
  show max 0 (min (if i < 0 then i + (n : Int) else i) (n : Int)) = (((if i < 0 then (i + (n : Int)).toNat else min i.toNat n) : Nat) : Int)
  split <;> omega
theorem zbs {a b : Int} {A B : Nat} (ha : a = A) (hb : b = B) : sliceRange a b 1 = (List.range (B - A)).map fun k => A + k := by
  subst ha hb
  unfold sliceRange
  simp only [show (1 : Int) > 0 by decide, if_true]
  have : (if (A : Int) < (B : Int) then ((B : Int) - A + 1 - 1) / 1 else 0).toNat = B - A := by
    split <;> (try simp only [Int.ediv_one]) <;> omega
  rw [this]
  apply List.map_congr_left
  intro k _
  omega
theorem zg7 (xs : List Nat) (i k : Nat) : (List.range k).filterMap (fun m => xs[i + m]?) = (xs.drop i).take k := by
  induction k generalizing i with
  | zero => simp
  | succ k ih =>
    rw [List.range_succ_eq_map, List.filterMap_cons, List.filterMap_map]
    have e : ((fun m => xs[i + m]?) ∘ Nat.succ) = fun m => xs[(i + 1) + m]? := by
      funext m; show xs[i + (m + 1)]? = _; congr 1; omega
    rw [e, ih (i + 1)]
    cases h : xs[i]? with
    | none =>
      have hl : xs.length <= i := List.getElem?_eq_none_iff.mp h
      simp only [Nat.add_zero, h]
      rw [List.drop_of_length_le (by omega), List.drop_of_length_le hl]; simp
    | some v =>
      have hi := (List.getElem?_eq_some_iff.mp h).1
      simp only [Nat.add_zero, h]
      rw [List.drop_eq_getElem_cons hi, List.take_succ_cons]
      congr 1
      exact (Option.some.inj ((List.getElem?_eq_getElem hi).symm.trans h)).symm
theorem zfC (n : Nat) (lo hi : Option Int) : strSliceIndices lo hi 1 n = (List.range (HT.sIx n n hi - HT.sIx n 0 lo)).map fun k => HT.sIx n 0 lo + k := by
  cases lo with
  | none =>
    cases hi with
    | none => exact zbs rfl rfl
    | some j => exact zbs rfl (za7 n n j)
  | some i =>
    cases hi with
    | none => exact zbs (za7 n 0 i) rfl
    | some j => exact zbs (za7 n 0 i) (za7 n n j)
theorem zg8 (z : Str) (lo hi : Option Int) : Txt.slice z lo hi = cutS z lo hi := by
  have hz : z.length = z.cps.toList.length := by simp [Str.length]
  unfold Txt.slice cutS
  rw [hz, zfC, List.filterMap_map]
  have e : ((fun x => z.cps[x]?) ∘ fun k => HT.sIx z.cps.toList.length 0 lo + k) = fun m => z.cps.toList[HT.sIx z.cps.toList.length 0 lo + m]? := by
    funext m; simp
  rw [e, zg7]
  split
  . rename_i hc
    simp only [beq_self_eq_true, Bool.true_and, beq_iff_eq, List.length_map, List.length_range] at hc
    have h1 : HT.sIx z.cps.toList.length z.cps.toList.length hi <= z.cps.toList.length := HT.sIx_le _ _ (Nat.le_refl _) _
    have h2 : HT.sIx z.cps.toList.length 0 lo = 0 \/ z.cps.toList.length = 0 := by omega
    rw [hc]
    rcases h2 with h2 | h2
    . rw [h2, List.drop_zero, List.take_of_length_le (Nat.le_refl _)]
    . have : z.cps.toList = [] := List.eq_nil_of_length_eq_zero h2
      have h3 : z.cps = #[] := by simpa using this
      simp [h3]
      cases z; simp_all
  . rfl
theorem zcM {v : Value} {o : Option Int} (p : IsPart v o) : ∃ l : Option (Int × Tok), v = partValue l /\ l.map (·.1) = o := by
  cases p with
  | none => exact ⟨none, rfl, rfl⟩
  | int i t => exact ⟨some (i, t), rfl, rfl⟩
theorem sl_str : SlR X (fun x lo hi H Q => ∃ z, x = .str z /\ z.length <= sizeLine /\ Q (.str (cutS z lo hi)) H) := by
  intro pins s σ H x v vl vu lo hi sl Q I rx hs pl pu h
  obtain ⟨z, rfl, hz, q⟩ := h
  obtain ⟨t, rfl⟩ := rx
  obtain ⟨l, rfl, rfl⟩ := zcM pl
  obtain ⟨u, rfl, rfl⟩ := zcM pu
  refine ⟨"str", _, F.slot_str_getitem.lookup, typeIs_str _ _ _, ?_⟩
  refine wpAny_getItem_str_slice (l := l) (u := u) (st := none) hs rfl ?_
  refine post_val_or_str ⟨Nat.le_trans (Txt.slice_le z (l.map (·.1)) (u.map (·.1))) hz, fun t' k => ?_⟩
  have e := zg8 z (l.map (·.1)) (u.map (·.1))
  refine ⟨.str (cutS z (l.map (·.1)) (u.map (·.1))), H, I.tok _, ⟨t', ?_⟩, q⟩
  rw [<- e]; rfl
def repS (z : Str) (n : Nat) : Str := ⟨((List.replicate n z.cps.toList).flatten).toArray⟩
end
end L2


namespace L2
open PySem PySem.Spec PyProof.Rows
def cxComp2 (X : Cx) (pins : List (Addr × Obj)) (x₁ x₂ : Str) (jf : List (Nat × Str)) (scope : Scope) (cl : List (Str × Addr)) (s : Shared) (H : Hp) (fp : List Addr) : Cx where
  prog := X.prog
  w := X.w
  K := X.K
  mg := X.mg
  base := X.base
  A := X.A
  N := x₁ :: x₂ :: jf.map (·.2)
  s₀ := s
  H₀ := H
  env := compEnvC scope cl s.heap.objs.size X.env
  outer := X.stack
  stack := X.stack
  ex := fp
  fn := fun _ => false
  calm := X.calm
  pn := X.pn ++ pins
  xe := fun _ _ => False
def compSt2 (v v2 : Option V) (js : List (Nat × Str)) (σ : St) : St := v :: v2 :: js.map fun j => (σ[j.1]?).join
def tComp2 (K : PySem.W.Frag) (jf : List (Nat × Str)) (wi : TI) (tc : TT) (te : TE) : TE := fun σ H Q => wi σ H fun J H1 => ∀ D, H1 D = none -> ∃ W : Nat -> Nat -> List V -> Hp -> Prop, (∃ m, W 0 m [] (upd H1 D (.lst []))) /\
  ∀ i m ys H2, W i m ys H2 -> H2 D = some (.lst ys) /\ ((J.stop i H2 /\ Q (.ref D) H2) \/ (J.go i H2 /\ ys.length < sizeLine /\ ∀ x H3, J.yld i H2 x H3 -> ∃ a u v, x = .ref a /\ SqT K H3 a [u, v] /\ tc (compSt2 (some u) (some v) jf σ) H3 fun b H5 =>
    if b = true then te (compSt2 (some u) (some v) jf σ) H5 fun w H6 => H6 D = some (.lst ys) /\ ∃ m', m' < m /\ W (i + 1) m' (ys ++ [w]) (upd H6 D (.lst (ys ++ [w]))) else ∃ m', m' < m /\ W (i + 1) m' ys H5))
section
variable {X : Cx} {pins : List (Addr × Obj)} {σ : St} {H : Hp} {s : Shared} {x₁ x₂ : Str} {jf : List (Nat × Str)} {scope : Scope} {fp : List Addr}
theorem Inv.block2 {h1 : Heap} {tk : Nat} (I : Inv X pins σ H s) (hf : ∀ b ∈ fp, FpOk X pins H b) (hlt : ∀ b ∈ fp, b < s.heap.objs.size) (hjf : ∀ p ∈ jf, X.N[p.1]? = some p.2) (hjl : ∀ p ∈ jf, scope.names.lookup p.2 = some .free) (hkind : scope.kind = .function)
    (hcell : ∀ y ∈ scope.names, y.2 ≠ .cell) (hfr : ∀ y ∈ scope.names, y.2 = .free -> X.env.kindOf y.1 = some .cell \/ X.env.kindOf y.1 = some .free)
    (hn : h1.Ns s.heap.objs.size (fun _ => none)) (hk : ∀ b o, s.heap.get? b = some o -> h1.get? b = some o) :
    Inv (cxComp2 X pins x₁ x₂ jf scope (closNames X.env scope.names []) s H fp) [] (compSt2 none none jf σ) H { s with heap := h1, toks := tk } := by
  have hsome : ∀ y ∈ scope.names, y.2 = .free -> (X.env.cells.lookup y.1).isSome = true := fun y hy hyf => Option.isSome_iff_exists.mpr (I.ok.has y.1 (hfr y hy hyf))
  have sub : ∀ y c, (closNames X.env scope.names []).lookup y = some c -> X.env.cells.lookup y = some c := za0 hsome (fun y c e => by simp at e)
  have hsz := I.sz
  have inE : ∀ b, b ∈ (cxComp2 X pins x₁ x₂ jf scope (closNames X.env scope.names []) s H fp).ex -> b ∈ fp := fun b z => z
  have stk : ∀ b ∈ frs X.stack, b < s.heap.objs.size := fun b hb => by
    obtain ⟨_, o, ho, _⟩ := I.stack.mem hb
    exact Heap.lt_size ho
  refine ⟨⟨I.ok.mod, hkind, I.ok.glob, I.ok.blt, Nat.le_refl _, fun y z c e1 e2 => I.ok.inj y z c (sub y c e1) (sub z c e2), fun y hy => ?_, fun y c hfn _ => (by cases hfn), I.ok.hd, I.ok.frames, .inl rfl, fun b hb => ?_, fun b o e => I.bs b o e, Nat.le_trans I.ok.bsz hsz, fun b o e z => ?_, fun b hb z => ?_, I.stack, I.stkFree⟩,
    rfl, I.bare, Un.kept hk, ⟨_, hn, fun i y v e1 e2 e3 => ?_⟩, fun y c e => ?_, I.hok.fresh (Nat.le_refl _), fun y c e => I.freeC y c (sub y c e), fun p hp => ?_, I.hok.kept hk, ?_⟩
  . have hy' : (relabel scope X.env).names.lookup y = some .cell \/ (relabel scope X.env).names.lookup y = some .free := hy
    have mem : (y, NameKind.free) ∈ scope.names := by
      rcases hy' with q | q
      . rcases zav (env := X.env) q with z | z
        . exact absurd rfl (hcell _ (zak z))
        . exact zak z.2
      . rcases zav (env := X.env) q with z | z
        . exact zak z
        . exact zak z.2
    exact Option.isSome_iff_exists.mp (za1 (.inl mem))
  . exact ⟨Nat.ne_of_lt (hlt b hb), fun y c e => (hf b hb).2.2.2.2.1 y c (sub y c e)⟩
  . rcases (hf b z).2.2.2.1 with q | q
    . exact I.ok.noex b o e q
    . exact absurd (Nat.lt_of_lt_of_le (Heap.lt_size e) (Nat.le_trans I.ok.bsz q)) (Nat.lt_irrefl _)
  . rcases List.mem_cons.mp (I.stkSub b z) with q | q
    . exact (hf b hb).2.1 q
    . exact (hf b hb).2.2.1 q
  . have e1' : (x₁ :: x₂ :: jf.map (·.2))[i]? = some y := e1
    unfold compSt2 at e2
    cases i with
    | zero => cases e2
    | succ i => cases i with
     | zero => cases e2
     | succ i =>
      rw [List.getElem?_cons_succ, List.getElem?_cons_succ, List.getElem?_map] at e1' e2
      cases q : jf[i]? with
      | none => rw [q] at e2; cases e2
      | some p =>
        rw [q] at e1' e2
        have ey : p.2 = y := Option.some.inj e1'
        have ev : (σ[p.1]?).join = some v := Option.some.inj e2
        have hp : p ∈ jf := List.mem_of_getElem? q
        have eσ : σ[p.1]? = some (some v) := by
          cases z : σ[p.1]? with
          | none => rw [z] at ev; cases ev
          | some r => rw [z] at ev; rw [show r = some v from ev]
        have hfree : scope.names.lookup y = some .free := by rw [<- ey]; exact hjl p hp
        have mem := zak hfree
        have kX := hfr _ mem rfl
        obtain ⟨m, hnX, hl⟩ := I.loc
        obtain ⟨u, ru, lk⟩ := hl p.1 y v (by rw [<- ey]; exact hjf p hp) eσ (by
          rcases kX with z | z
          . exact .inr (.inl z)
          . exact .inr (.inr z))
        refine ⟨u, ru, .inr ⟨?_, ?_⟩⟩
        . have e3' : Vis (relabel scope X.env) y := e3
          rcases e3' with z | z | z
          . exfalso
            rcases zav (env := X.env) z with q | q
            . rw [hfree] at q; cases q
            . cases q.1
          . exact .inl z
          . exact .inr z
        . rcases lk with ⟨z, _⟩ | ⟨_, c, hc, hcell'⟩
          . exfalso
            rcases kX with q | q
            . rw [show X.env.kindOf y = some .cell from q] at z; cases z
            . rw [show X.env.kindOf y = some .free from q] at z; cases z
          . obtain ⟨c', hc'⟩ := Option.isSome_iff_exists.mp (za1 (env := X.env) (acc := []) (.inl mem))
            have e := sub y c' hc'
            rw [hc] at e
            cases e
            obtain ⟨o, ho, hd⟩ := hcell'
            exact ⟨c, hc', o, hk c o ho, hd⟩
  . obtain ⟨v, o, ho, hd⟩ := I.cell y c (sub y c e)
    exact ⟨v, o, hk c o ho, hd⟩
  . have hp' : p ∈ X.pn ++ pins := by simpa [cxComp2] using hp
    obtain ⟨e, n, ne, nf, d⟩ := I.pin p hp'
    refine ⟨hk _ _ e, n, Nat.ne_of_lt (Heap.lt_size e), fun z => ?_, d⟩
    rcases List.mem_cons.mp (I.stkSub p.1 z) with q | q
    . exact ne q
    . exact nf q
  . unfold compSt2
    show _ = (x₁ :: x₂ :: jf.map (·.2)).length
    simp
end
section
variable {X : Cx} {x₁ x₂ : Str} {px p1 p2 : Pos} {kk : Nat} {jf : List (Nat × Str)} {scope : Scope} {iter elt : Expr} {ifs : List Expr} {pos : Pos} {wi : TI} {tc : TT} {te : TE}
theorem zgi (hcalm : X.calm = true) (hi : PI X (.Tuple [.Name x₁ p1, .Name x₂ p2] kk px) iter wi) (hc : ∀ pins cl s H fp, PTs (cxComp2 X pins x₁ x₂ jf scope cl s H fp) ifs tc) (he : ∀ pins cl s H fp, PE (cxComp2 X pins x₁ x₂ jf scope cl s H fp) elt te)
    (hN : (x₁ :: x₂ :: jf.map (·.2)).Nodup) (hx : scope.names.lookup x₁ = some .local) (hx2 : scope.names.lookup x₂ = some .local) (hjf : ∀ p ∈ jf, X.N[p.1]? = some p.2) (hjl : ∀ p ∈ jf, scope.names.lookup p.2 = some .free) (hkind : scope.kind = .function)
    (hcell : ∀ y ∈ scope.names, y.2 ≠ .cell) (hfr : ∀ y ∈ scope.names, y.2 = .free -> X.env.kindOf y.1 = some .cell \/ X.env.kindOf y.1 = some .free)
    (hnames : ∀ y ∈ scope.names, y.2 = .local -> scope.names.lookup y.1 = some .local) {use : Option (Value -> Sem Unit)} {Qf : Value -> Shared -> Prop} {cpos : Pos}
    {pins : List (Addr × Obj)} {σ : St} {H : Hp} {s : Shared} {Q : VK} (I : Inv X pins σ H s) (h : tComp2 X.K jf wi tc te σ H Q)
    (fin : ∀ D C s6 H6 m6, Inv X pins σ H6 s6 -> Q (.ref D) H6 -> FpOk X pins H6 C -> s6.heap.Ns C m6 -> compPost (model X.prog X.w) X.A X.xe use Qf (.ref D) C (.ok .next) s6) (hs : ∀ x, foldedSetIterable iter X.env x = pure x) :
    wpAny (model X.prog X.w) X.A (comprehension (.ListComp elt [⟨.Tuple [.Name x₁ p1, .Name x₂ p2] kk px, iter, ifs, 0⟩] scope pos) scope X.env cpos (newList []) false (eval iter X.env) use) Qf X.xe s := by
  have hsome : ∀ y ∈ scope.names, y.2 = .free -> (X.env.cells.lookup y.1).isSome = true := fun y hy hyf => Option.isSome_iff_exists.mpr (I.ok.has y.1 (hfr y hy hyf))
  refine wpAny_comprehension_free (use := use) rfl hs (zcL hsome) hkind hnames (thn (hi pins s σ H _ I h) fun xv s1 h1 => thn h1 fun itv s2 h2 => ?_)
  obtain ⟨it, fp, tn, J, H2, e, I2, T, st2, f2, h⟩ := h2
  subst e
  refine wpAny_newObj_type (wpAny_newFunctionEnv hcell (by intro y hy; simp at hy) (fun h₁ hns₁ hsb₁ => ?_) hkind)
  have hD0 : H2 s2.heap.objs.size = none := I2.hok.fresh (Nat.le_refl _)
  obtain ⟨W, ⟨m0, w0⟩, step⟩ := h s2.heap.objs.size hD0
  dsimp only at hns₁ hsb₁ ⊢
  have I3 : Inv X pins σ (upd H2 s2.heap.objs.size (.lst [])) { s2 with heap := s2.heap.push { cls := .type "list", dict := none, data := .seq ([] : List Value).toArray } } :=
    I2.laid (t' := s2.toks) (fun b u q => Heap.get?_push_of_some _ q) (Nat.le_refl _) ⟨Nat.zero_le _, [], 0, .nil, Heap.get?_push_size _ rfl⟩
  generalize hH3 : s2.heap.push { cls := .type "list", dict := none, data := .seq ([] : List Value).toArray } = hp3 at hns₁ hsb₁ I3 ⊢
  have hsz3 : hp3.objs.size = s2.heap.objs.size + 1 := by rw [<- hH3, Heap.size_push]
  have k23 : ∀ b o, s2.heap.get? b = some o -> hp3.get? b = some o := fun b o q => by rw [<- hH3]; exact Heap.get?_push_of_some _ q
  have flt : ∀ b ∈ fp, b < s2.heap.objs.size := fun b hb => by
    obtain ⟨o, q, _⟩ := T.obj 0 _ st2 b hb
    exact Heap.lt_size q
  have f3 : ∀ b ∈ fp, FpOk X pins (upd H2 s2.heap.objs.size (.lst [])) b := fun b hb => by
    obtain ⟨g0, g⟩ := f2 b hb
    exact ⟨by rw [upd_ne (Nat.ne_of_lt (flt b hb))]; exact g0, g⟩
  have kC : ∀ b o, hp3.get? b = some o -> h₁.get? b = some o := fun b o q => (hsb₁.2 b (Nat.ne_of_lt (Heap.lt_size q))).trans (Heap.get?_push_of_some _ q)
  have B0 := I3.block2 (x₁ := x₁) (x₂ := x₂) (jf := jf) (scope := scope) (fp := fp) (h1 := h₁) (tk := s2.toks + ([] : List (Str × Value)).length) f3 (fun b hb => by show b < hp3.objs.size; rw [hsz3]; exact Nat.lt_succ_of_lt (flt b hb)) hjf hjl hkind hcell hfr (by simpa using hns₁) kC
  have st4 : tn 0 h₁ := T.keep _ _ _ st2 fun b _ o q => kC b o (k23 b o q)
  have w0' := w0
  have stat : ∀ {H' : Hp}, (∀ b ∈ fp, H' b = none) -> ∀ b ∈ fp, FpOk (cxComp2 X pins x₁ x₂ jf scope (closNames X.env scope.names []) { s2 with heap := hp3 } (upd H2 s2.heap.objs.size (.lst [])) fp) [] H' b := fun hn b hb => by
    obtain ⟨_, g1, g2, g3, g4, g5⟩ := f2 b hb
    refine ⟨hn b hb, Nat.ne_of_lt (by show b < hp3.objs.size; rw [hsz3]; exact Nat.lt_succ_of_lt (flt b hb)), fun z => ?_, .inl hb, fun y c q => g4 y c (za0 hsome (fun y c e => by simp at e) y c q), fun p hp => g5 p (by simpa [cxComp2] using hp)⟩
    rcases List.mem_cons.mp (I2.stkSub b z) with q | q
    . exact g1 q
    . exact g2 q
  have loop : codeAny (model X.prog X.w) X.A (.compLoop (.ListComp elt [⟨.Tuple [.Name x₁ p1, .Name x₂ p2] kk px, iter, ifs, 0⟩] scope pos) 0 (.ref it) (.ref s2.heap.objs.size) (compEnvC scope (closNames X.env scope.names []) hp3.objs.size X.env))
      (compPost (model X.prog X.w) X.A X.xe use Qf (.ref s2.heap.objs.size) hp3.objs.size) { s2 with heap := h₁, toks := s2.toks + ([] : List (Str × Value)).length } := by
    refine zbN (fun n s' => ∃ i ys H', Inv (cxComp2 X pins x₁ x₂ jf scope (closNames X.env scope.names []) { s2 with heap := hp3 } (upd H2 s2.heap.objs.size (.lst [])) fp) [] (compSt2 none none jf σ) H' s' /\ tn i s'.heap /\ (∀ b ∈ fp, H' b = none) /\ W i n ys H') ?_ m0
      ⟨0, [], _, B0, st4, fun b hb => (f3 b hb).1, w0⟩
    rintro n s5 ⟨i, ys, H5, I5, st5, fr5, w5⟩
    obtain ⟨hD5, alt⟩ := step i n ys H5 w5
    rcases alt with ⟨stop, q5⟩ | ⟨go, hlen, next⟩
    . refine wpAny_mono (T.done (cxComp2 X pins x₁ x₂ jf scope (closNames X.env scope.names []) { s2 with heap := hp3 } (upd H2 s2.heap.objs.size (.lst [])) fp) rfl rfl rfl hcalm i [] s5 _ H5 (fun _ _ => False) I5 (stat fr5) st5 stop) (fun r s6 ⟨hr, I6⟩ => ?_) fun _ _ z => z
      subst hr
      obtain ⟨m6, hn6, _⟩ := id I6.loc
      refine fin _ _ s6 H5 m6 ?_ q5 (I3.fpOk (Nat.le_refl _) I6.free) hn6
      refine I3.call' (ch := fp) I6.os I6.base I6.hok I6.bare (fun b hb => ?_)
      obtain ⟨_, g1, g2, g3, g4, g5⟩ := f2 b hb
      exact ⟨g3, g1, g4, g5⟩
    . refine wpAny_mono (T.item (cxComp2 X pins x₁ x₂ jf scope (closNames X.env scope.names []) { s2 with heap := hp3 } (upd H2 s2.heap.objs.size (.lst [])) fp) rfl rfl rfl hcalm i [] s5 _ H5 (fun _ _ => False) I5 (stat fr5) st5 go) (fun r s6 ⟨u, hr, h6⟩ => ?_) fun _ _ z => z
      subst hr
      refine wpAny_mono h6 (fun _ s7 ⟨x, H7, I7, r7, y7, st7, fr7⟩ => ?_) fun _ _ z => z
      have I7' := I7.pinned (stat fr7) (T.obj _ _ st7)
      have hloc : Loc (cxComp2 X pins x₁ x₂ jf scope (closNames X.env scope.names []) { s2 with heap := hp3 } (upd H2 s2.heap.objs.size (.lst [])) fp).env.scope x₁ := .inl (lookup_relabel_local hx)
      have hloc2 : Loc (cxComp2 X pins x₁ x₂ jf scope (closNames X.env scope.names []) { s2 with heap := hp3 } (upd H2 s2.heap.objs.size (.lst [])) fp).env.scope x₂ := .inl (lookup_relabel_local hx2)
      obtain ⟨a8, u1, u2, rfl, sq8, q8⟩ := next x H7 y7
      have PGt : PG (cxComp2 X pins x₁ x₂ jf scope (closNames X.env scope.names []) { s2 with heap := hp3 } (upd H2 s2.heap.objs.size (.lst [])) fp) (.Tuple [.Name x₁ p1, .Name x₂ p2] kk px) (gTup X.K 2 (gCons (gName 0) (gCons (gName 1) gNil))) :=
        pg_tup hcalm (zcs (zb0 hN rfl hloc (.inr (lookup_relabel_local hx))) (zcs (zb0 hN rfl hloc2 (.inr (lookup_relabel_local hx2))) zeC))
      refine wpAny_mono (PGt ([] ++ pinsAt fp s7.heap) s7 _ H7 (.ref a8) _ (fun σ' H' => σ' = compSt2 (some u1) (some u2) jf σ /\ H7 = H') I7' r7 ⟨a8, [u1, u2], rfl, sq8, rfl, u1, [u2], rfl, u2, [], rfl, rfl, rfl, rfl⟩) (fun _ s8 ⟨σ8, H8, I8, e8, e8'⟩ => ?_) fun _ _ z => z
      subst e8 e8'
      have I8' : Inv (cxComp2 X pins x₁ x₂ jf scope (closNames X.env scope.names []) { s2 with heap := hp3 } (upd H2 s2.heap.objs.size (.lst [])) fp) ([] ++ pinsAt fp s7.heap) (compSt2 (some u1) (some u2) jf σ) H7 s8 := I8
      have again : ∀ {s9 : Shared} {H9 : Hp} {zs : List V} {m' : Nat}, Inv (cxComp2 X pins x₁ x₂ jf scope (closNames X.env scope.names []) { s2 with heap := hp3 } (upd H2 s2.heap.objs.size (.lst [])) fp) ([] ++ pinsAt fp s7.heap) (compSt2 (some u1) (some u2) jf σ) H9 s9 -> m' < n -> W (i + 1) m' zs H9 ->
          ∃ m, m < n /\ ∃ i ys H', Inv (cxComp2 X pins x₁ x₂ jf scope (closNames X.env scope.names []) { s2 with heap := hp3 } (upd H2 s2.heap.objs.size (.lst [])) fp) [] (compSt2 none none jf σ) H' s9 /\ tn i s9.heap /\ (∀ b ∈ fp, H' b = none) /\ W i m ys H' := fun {s9 H9 zs m'} I9 hm w9 => by
        refine ⟨m', hm, i + 1, zs, H9, I9.unpinned.weak (by simp [compSt2]) (fun j v e => ?_), T.keep _ _ _ st7 fun b hb o e => (I9.pin (b, o) (List.mem_append_right _ (List.mem_append_right _ (zaG hb e)))).1, fun b hb => ?_, w9⟩
        . cases j with
          | zero => simp [compSt2] at e
          | succ j => cases j with
            | zero => simp [compSt2] at e
            | succ j => simpa [compSt2] using e
        . obtain ⟨o, e, d⟩ := T.obj _ _ st7 b hb
          exact (I9.pin (b, o) (List.mem_append_right _ (List.mem_append_right _ (zaG hb e)))).2.1
      refine wpAny_mono (hc pins _ _ _ fp ([] ++ pinsAt fp s7.heap) s8 _ H7 _ I8' q8) (fun ok s9 ⟨H9, I9, q9⟩ => ?_) fun _ _ z => z
      cases ok with
      | false =>
        rw [if_neg Bool.false_ne_true] at q9 ⊢
        obtain ⟨m', hm, w9⟩ := q9
        exact again I9 hm w9
      | true =>
        rw [if_pos rfl] at q9 ⊢
        refine wpAny_mono (he pins _ _ _ fp ([] ++ pinsAt fp s7.heap) s9 _ H9 _ I9 q9) (fun y s10 ⟨v, H10, I10, r10, hD10, m', hm, w10⟩ => ?_) fun _ _ z => z
        refine wpAny_mono (zbM (X := (cxComp2 X pins x₁ x₂ jf scope (closNames X.env scope.names []) { s2 with heap := hp3 } (upd H2 s2.heap.objs.size (.lst [])) fp)) ([] ++ pinsAt fp s7.heap) s10 (compSt2 (some u1) (some u2) jf σ) H10 (.ref s2.heap.objs.size) [v] (.ref s2.heap.objs.size) [y] (fun _ H' => H' = upd H10 s2.heap.objs.size (.lst (ys ++ [v]))) I10 rfl (.cons r10 .nil) ⟨_, ys, v, rfl, rfl, hD10, hlen, rfl⟩)
          (fun _ s11 ⟨_, H11, I11, _, e11⟩ => ?_) fun _ _ z => z
        subst e11
        exact again I11 hm w10
  exact codeAny_compStart_list loop (T.self _ 0 _ _ _ st4 loop)
theorem zg9 (hcalm : X.calm = true) (hi : PI X (.Tuple [.Name x₁ p1, .Name x₂ p2] kk px) iter wi) (hc : ∀ pins cl s H fp, PTs (cxComp2 X pins x₁ x₂ jf scope cl s H fp) ifs tc) (he : ∀ pins cl s H fp, PE (cxComp2 X pins x₁ x₂ jf scope cl s H fp) elt te)
    (hN : (x₁ :: x₂ :: jf.map (·.2)).Nodup) (hx : scope.names.lookup x₁ = some .local) (hx2 : scope.names.lookup x₂ = some .local) (hjf : ∀ p ∈ jf, X.N[p.1]? = some p.2) (hjl : ∀ p ∈ jf, scope.names.lookup p.2 = some .free) (hkind : scope.kind = .function)
    (hcell : ∀ y ∈ scope.names, y.2 ≠ .cell) (hfr : ∀ y ∈ scope.names, y.2 = .free -> X.env.kindOf y.1 = some .cell \/ X.env.kindOf y.1 = some .free)
    (hnames : ∀ y ∈ scope.names, y.2 = .local -> scope.names.lookup y.1 = some .local) (hs : ∀ x, foldedSetIterable iter X.env x = pure x := by intro _; rfl) :
    PE X (.ListComp elt [⟨.Tuple [.Name x₁ p1, .Name x₂ p2] kk px, iter, ifs, 0⟩] scope pos) (tComp2 X.K jf wi tc te) := by
  intro pins s σ H Q I h
  rw [eval_ListComp]
  refine zgi hcalm hi hc he hN hx hx2 hjf hjl hkind hcell hfr hnames (use := none) (Qf := EP X pins σ Q) I h (fun D C s6 H6 m6 I6 q6 f6 n6 => ?_) hs
  refine ⟨m6, n6, fun h' hs' => ⟨.ref D, H6, ?_, rfl, q6⟩⟩
  exact I6.turnedL (fp := [C]) (t' := s6.toks) (fun b o hb q => (hs'.2 b (fun z => hb (by simp [z]))).trans q) (fun b hb => by
    have e : b = C := by simpa using hb
    subst e
    exact f6)
end
section
variable {X : Cx}
end
end L2



namespace Sm
open PySem L2
inductive AV where
  | non | bl (b : Bool) | int (i : Int) | str (x : Str)
  | tup (xs : List AV)
  | fl (xs : List AV)
  | ref (n : Nat)
  | exc (c : Nat)
  deriving Inhabited
inductive AO where
  | lst (xs : List AV)
  | dct (t : Bool) (kvs : List (AV × AV))
  | ins (c : Nat) (fs : List (Option AV))
abbrev AH := List AO
abbrev En := List (Option AV)
inductive Out (α : Type) where
  | ok (a : α) (h : AH)
  | ex (c : Nat) (h : AH)
  | bad
@[simp] def Out.bind {α β : Type} (o : Out α) (f : α -> AH -> Out β) : Out β :=
  match o with
  | .ok a h => f a h
  | .ex c h => .ex c h
  | .bad => .bad
inductive OutS where
  | nx (e : En) (h : AH)
  | rt (v : AV) (h : AH)
  | bk (e : En) (h : AH)
  | ct (e : En) (h : AH)
  | ex (c : Nat) (e : En) (h : AH)
  | bad
abbrev SE := En -> AH -> Out AV
abbrev SB := En -> AH -> Out Bool
abbrev SL := En -> AH -> Out (List AV)
abbrev SS := En -> AH -> OutS
abbrev Fn := List AV -> AH -> Out AV
@[simp] def Out.go {α : Type} (o : Out α) (e : En) (f : α -> AH -> OutS) : OutS :=
  match o with
  | .ok a h => f a h
  | .ex c h => .ex c e h
  | .bad => .bad
structure Tb where
  K : PySem.W.Frag
  cls : Nat -> Option Addr
  exc : Nat -> Option Addr
  fields : Nat -> List Str
  nd : ∀ c, (fields c).Nodup
  few : ∀ c, (fields c).length <= 500
def KL (K : PySem.W.Frag) (a : Addr) (xs : List V) : Prop := ∃ (o : Obj) (its : Array Value) (n : Nat), K.lookup a = some o /\ o.cls = .type "list" /\ o.dict = none /\ o.data = .seq its n /\ its.size <= sizeLine /\ Vals xs its.toList
structure Ix where
  refs : List Addr
  priv : List Addr
def Ix.all (ι : Ix) : List Addr := ι.refs ++ ι.priv
mutual
inductive RV (T : Tb) (ι : Ix) (H : Hp) : AV -> V -> Prop
  | non : RV T ι H .non .non
  | bl (b : Bool) : RV T ι H (.bl b) (.bl b)
  | int (i : Int) : RV T ι H (.int i) (.int i)
  | str {x : Str} (n : x.length <= sizeLine) (o : x.cps.all (· < 0x110000) = true) : RV T ι H (.str x) (.str x)
  | tup {xs : List AV} {us : List V} {a : Addr} (n : a ∉ ι.all) (h : H a = some (.tup us)) (r : RVs T ι H xs us) : RV T ι H (.tup xs) (.ref a)
  | fl {xs : List AV} {us : List V} {a : Addr} (n : a ∉ ι.all) (h : Rd H a (.lst us)) (r : RVs T ι H xs us) : RV T ι H (.fl xs) (.ref a)
  | kfl {xs : List AV} {us : List V} {a : Addr} (h : KL T.K a us) (r : RVs T ι H xs us) : RV T ι H (.fl xs) (.ref a)
  | ref {k : Nat} {a : Addr} (h : ι.refs[k]? = some a) : RV T ι H (.ref k) (.ref a)
  | exc {c : Nat} {C a : Addr} (n : a ∉ ι.all) (h : T.exc c = some C) (q : H a = some (excO a (.ref C))) : RV T ι H (.exc c) (.ref a)
inductive RVs (T : Tb) (ι : Ix) (H : Hp) : List AV -> List V -> Prop
  | nil : RVs T ι H [] []
  | cons {x : AV} {u : V} {xs : List AV} {us : List V} (r : RV T ι H x u) (rs : RVs T ι H xs us) : RVs T ι H (x :: xs) (u :: us)
end
structure Grow (ι : Ix) (H : Hp) (ι' : Ix) (H' : Hp) : Prop where
  pre : ∃ n, ι'.refs = ι.refs ++ n /\ ∀ a ∈ n, H a = none
  priv : ι'.priv = ι.priv
  keep : ∀ a o, a ∉ ι.refs -> H a = some o -> H' a = some o
  live : ∀ a ∈ ι.all, H' a ≠ none
theorem zdT : ∀ {l : List Addr} {i j : Nat} {a : Addr}, l.Nodup -> l[i]? = some a -> l[j]? = some a -> i = j
  | [], _, _, _, _, e, _ => by simp at e
  | x :: l, 0, 0, _, _, _, _ => rfl
  | x :: l, 0, j + 1, a, n, e, f => by
    simp at e f; subst e
    exact absurd (List.mem_of_getElem? f) (List.nodup_cons.mp n).1
  | x :: l, i + 1, 0, a, n, e, f => by
    simp at e f; subst f
    exact absurd (List.mem_of_getElem? e) (List.nodup_cons.mp n).1
  | x :: l, i + 1, j + 1, a, n, e, f => by
    simp at e f
    rw [zdT (List.nodup_cons.mp n).2 e f]
theorem Ix.nr {ι : Ix} {a : Addr} (h : a ∉ ι.all) : a ∉ ι.refs := fun z => h (List.mem_append_left _ z)
theorem Ix.np {ι : Ix} {a : Addr} (h : a ∉ ι.all) : a ∉ ι.priv := fun z => h (List.mem_append_right _ z)
theorem Grow.refl {ι : Ix} {H : Hp} (l : ∀ a ∈ ι.all, H a ≠ none) : Grow ι H ι H := ⟨⟨[], by simp, by simp⟩, rfl, fun _ _ _ e => e, l⟩
theorem Grow.at {ι ι' : Ix} {H H' : Hp} (g : Grow ι H ι' H') {k : Nat} {a : Addr} (h : ι.refs[k]? = some a) : ι'.refs[k]? = some a := by
  obtain ⟨n, e, _⟩ := g.pre
  rw [e, List.getElem?_append_left (List.getElem?_eq_some_iff.mp h).1]
  exact h
theorem Grow.outR {ι ι' : Ix} {H H' : Hp} (g : Grow ι H ι' H') {a : Addr} {o : HO} (n : a ∉ ι.refs) (e : H a = some o) : a ∉ ι'.refs := fun z => by
  obtain ⟨m, e', hm⟩ := g.pre
  rw [e'] at z
  rcases List.mem_append.mp z with z | z
  . exact n z
  . rw [hm a z] at e; cases e
theorem Grow.out {ι ι' : Ix} {H H' : Hp} (g : Grow ι H ι' H') {a : Addr} {o : HO} (n : a ∉ ι.all) (e : H a = some o) : a ∉ ι'.all := fun z => by
  rcases List.mem_append.mp z with z | z
  . exact g.outR (Ix.nr n) e z
  . rw [g.priv] at z; exact Ix.np n z
theorem Grow.trans {ι ι' ι'' : Ix} {H H' H'' : Hp} (g : Grow ι H ι' H') (k : Grow ι' H' ι'' H'') : Grow ι H ι'' H'' := by
  obtain ⟨n, e1, hn⟩ := g.pre
  obtain ⟨m, e2, hm⟩ := k.pre
  refine ⟨⟨n ++ m, by rw [e2, e1]; simp, fun a ha => ?_⟩, k.priv.trans g.priv, fun a o na e => k.keep a o (g.outR na e) (g.keep a o na e), fun a ha => k.live a ?_⟩
  . rcases List.mem_append.mp ha with z | z
    . exact hn a z
    . have q := hm a z
      by_cases hi : a ∈ ι.refs
      . exact absurd q (g.live a (List.mem_append_left _ hi))
      . cases e : H a with
        | none => rfl
        | some o => rw [g.keep a o hi e] at q; cases q
  . rcases List.mem_append.mp ha with z | z
    . exact List.mem_append_left _ (by rw [e1]; exact List.mem_append_left _ z)
    . exact List.mem_append_right _ (by rw [g.priv]; exact z)
structure Ext (ι : Ix) (H : Hp) (ι' : Ix) (H' : Hp) : Prop where
  at_ : ∀ {k : Nat} {a : Addr}, ι.refs[k]? = some a -> ι'.refs[k]? = some a
  keep : ∀ a o, a ∉ ι.all -> H a = some o -> H' a = some o
  out : ∀ a o, a ∉ ι.all -> H a = some o -> a ∉ ι'.all
theorem Grow.ext {ι ι' : Ix} {H H' : Hp} (g : Grow ι H ι' H') : Ext ι H ι' H' := ⟨g.at, fun a o n e => g.keep a o (Ix.nr n) e, fun a o n e => g.out n e⟩
theorem Ext.trans {ι ι' ι'' : Ix} {H H' H'' : Hp} (g : Ext ι H ι' H') (k : Ext ι' H' ι'' H'') : Ext ι H ι'' H'' :=
  ⟨fun e => k.at_ (g.at_ e), fun a o n e => k.keep a o (g.out a o n e) (g.keep a o n e), fun a o n e => k.out a o (g.out a o n e) (g.keep a o n e)⟩
theorem zeN {ι ι' : Ix} {H H' : Hp} (g : Ext ι H ι' H') {a : Addr} {u : HO} (n : a ∉ ι.all) (r : Rd H a u) : Rd H' a u := by
  rcases r with r | ⟨o, r⟩
  . exact .inl (g.keep a _ n r)
  . exact .inr ⟨o, g.keep a _ n r⟩
theorem rd_out {ι ι' : Ix} {H H' : Hp} (g : Ext ι H ι' H') {a : Addr} {u : HO} (n : a ∉ ι.all) (r : Rd H a u) : a ∉ ι'.all := by
  rcases r with r | ⟨o, r⟩
  . exact g.out _ _ n r
  . exact g.out _ _ n r
mutual
theorem RV.ext {T : Tb} {ι ι' : Ix} {H H' : Hp} (g : Ext ι H ι' H') : ∀ {x : AV} {u : V}, RV T ι H x u -> RV T ι' H' x u
  | _, _, .non => .non
  | _, _, .bl b => .bl b
  | _, _, .int i => .int i
  | _, _, .str n o => .str n o
  | _, _, .tup n h r => .tup (g.out _ _ n h) (g.keep _ _ n h) (RVs.ext g r)
  | _, _, .fl n h r => .fl (rd_out g n h) (zeN g n h) (RVs.ext g r)
  | _, _, .kfl h r => .kfl h (RVs.ext g r)
  | _, _, .ref h => .ref (g.at_ h)
  | _, _, .exc n h q => .exc (g.out _ _ n q) h (g.keep _ _ n q)
theorem RVs.ext {T : Tb} {ι ι' : Ix} {H H' : Hp} (g : Ext ι H ι' H') : ∀ {xs : List AV} {us : List V}, RVs T ι H xs us -> RVs T ι' H' xs us
  | _, _, .nil => .nil
  | _, _, .cons r rs => .cons (RV.ext g r) (RVs.ext g rs)
end
theorem RV.mono {T : Tb} {ι ι' : Ix} {H H' : Hp} (g : Grow ι H ι' H') {x : AV} {u : V} (r : RV T ι H x u) : RV T ι' H' x u := r.ext g.ext
theorem RVs.mono {T : Tb} {ι ι' : Ix} {H H' : Hp} (g : Grow ι H ι' H') {xs : List AV} {us : List V} (r : RVs T ι H xs us) : RVs T ι' H' xs us := r.ext g.ext
section
variable {T : Tb} {ι : Ix} {H : Hp}
theorem RVs.length : ∀ {xs : List AV} {us : List V}, RVs T ι H xs us -> xs.length = us.length
  | _, _, .nil => rfl
  | _, _, .cons _ rs => by simp [RVs.length rs]
theorem RVs.get : ∀ {xs : List AV} {us : List V} {i : Nat} {x : AV}, RVs T ι H xs us -> xs[i]? = some x -> ∃ u, us[i]? = some u /\ RV T ι H x u
  | _, _, _, _, .nil, e => by simp at e
  | _, _, 0, _, .cons r _, e => by simp at e; subst e; exact ⟨_, rfl, r⟩
  | _, _, i + 1, x, .cons _ t, e => by
    obtain ⟨u, h1, h2⟩ := RVs.get (i := i) (x := x) t (by simpa using e)
    exact ⟨u, by simpa using h1, h2⟩
theorem RVs.append : ∀ {xs ys : List AV} {us ws : List V}, RVs T ι H xs us -> RVs T ι H ys ws -> RVs T ι H (xs ++ ys) (us ++ ws)
  | _, _, _, _, .nil, s => s
  | _, _, _, _, .cons r t, s => .cons r (RVs.append t s)
theorem RVs.set {x : AV} {u : V} (r : RV T ι H x u) : ∀ {xs : List AV} {us : List V} (i : Nat), RVs T ι H xs us -> RVs T ι H (xs.set i x) (us.set i u)
  | _, _, _, .nil => .nil
  | _, _, 0, .cons _ t => .cons r t
  | _, _, i + 1, .cons q t => .cons q (RVs.set r i t)
theorem RVs.take : ∀ {xs : List AV} {us : List V} (n : Nat), RVs T ι H xs us -> RVs T ι H (xs.take n) (us.take n)
  | _, _, 0, _ => by simpa using RVs.nil
  | _, _, _ + 1, .nil => .nil
  | _, _, n + 1, .cons r t => .cons r (RVs.take n t)
theorem RVs.drop : ∀ {xs : List AV} {us : List V} (n : Nat), RVs T ι H xs us -> RVs T ι H (xs.drop n) (us.drop n)
  | _, _, 0, r => r
  | _, _, _ + 1, .nil => .nil
  | _, _, n + 1, .cons _ t => RVs.drop n t
end
def kA : Key -> AV
  | .inl i => .int i
  | .inr x => .str x
def OR (T : Tb) (ι : Ix) (H : Hp) : AO -> HO -> Prop
  | .lst xs, o => ∃ us, o = .lst us /\ RVs T ι H xs us
  | .dct false kvs, o => ∃ kus : List (Key × V), o = .dK kus /\ Paired (fun (p : AV × AV) (q : Key × V) => p.1 = kA q.1 /\ RV T ι H p.2 q.2) kvs kus
  | .dct true kvs, o => ∃ kus : List (List Key × V), o = .dT kus /\ Paired (fun (p : AV × AV) (q : List Key × V) => p.1 = .tup (q.1.map kA) /\ RV T ι H p.2 q.2) kvs kus
  | .ins c fs, o => ∃ C dx fus, T.cls c = some C /\ o = .ins C dx fus /\ (fus.map (·.1)).Nodup /\ (∀ p ∈ fus, p.1 ∈ T.fields c) /\ fs.length = (T.fields c).length /\
      ∀ (i : Nat) (v : AV), fs[i]? = some (some v) -> ∃ f u, (T.fields c)[i]? = some f /\ fus.lookup f = some u /\ RV T ι H v u
theorem OR.mono {T : Tb} {ι ι' : Ix} {H H' : Hp} (g : Grow ι H ι' H') {o : AO} {u : HO} (h : OR T ι H o u) : OR T ι' H' o u := by
  cases o with
  | lst xs => obtain ⟨us, e, r⟩ := h; exact ⟨us, e, r.mono g⟩
  | dct t kvs =>
    cases t with
    | false => obtain ⟨us, e, r⟩ := h; exact ⟨us, e, Paired.mapP r fun _ _ ⟨a, b⟩ => ⟨a, b.mono g⟩⟩
    | true => obtain ⟨us, e, r⟩ := h; exact ⟨us, e, Paired.mapP r fun _ _ ⟨a, b⟩ => ⟨a, b.mono g⟩⟩
  | ins c fs =>
    obtain ⟨C, dx, fus, a, b, n, w, l, r⟩ := h
    refine ⟨C, dx, fus, a, b, n, w, l, fun i v e => ?_⟩
    obtain ⟨f, u, e1, e2, q⟩ := r i v e
    exact ⟨f, u, e1, e2, q.mono g⟩
structure Sim (T : Tb) (ι : Ix) (h : AH) (H : Hp) : Prop where
  len : ι.refs.length = h.length
  nd : ι.refs.Nodup
  plive : ∀ a ∈ ι.priv, H a ≠ none
  obj : ∀ (i : Nat) (o : AO) (a : Addr), h[i]? = some o -> ι.refs[i]? = some a -> ∃ u, H a = some u /\ OR T ι H o u
section
variable {T : Tb} {ι : Ix} {h : AH} {H : Hp}
theorem Sim.live (S : Sim T ι h H) : ∀ a ∈ ι.all, H a ≠ none := fun a ha z => by
  rcases List.mem_append.mp ha with ha | ha
  . obtain ⟨i, hi⟩ := List.mem_iff_getElem?.mp ha
    have hl : i < h.length := by rw [<- S.len]; exact (List.getElem?_eq_some_iff.mp hi).1
    obtain ⟨u, e, _⟩ := S.obj i h[i] a (by simp [hl]) hi
    rw [z] at e; cases e
  . exact S.plive a ha z
theorem Sim.refl (S : Sim T ι h H) : Grow ι H ι H := .refl S.live
theorem Sim.fresh (S : Sim T ι h H) {p : Addr} (n : H p = none) : p ∉ ι.all := fun z => S.live p z n
theorem Sim.still (S : Sim T ι h H) {H' : Hp} (g : Grow ι H ι H') (k : ∀ a ∈ ι.refs, H' a = H a) : Sim T ι h H' :=
  ⟨S.len, S.nd, fun a ha => g.live a (List.mem_append_right _ ha), fun i o a e1 e2 => by
    obtain ⟨u, e, r⟩ := S.obj i o a e1 e2
    exact ⟨u, by rw [k a (List.mem_of_getElem? e2)]; exact e, r.mono g⟩⟩
theorem Sim.growNew (S : Sim T ι h H) {p : Addr} {o : HO} (n : H p = none) : Grow ι H ι (upd H p o) :=
  ⟨⟨[], by simp, by simp⟩, rfl, fun a u _ e => by rw [upd_ne (zan e n)]; exact e, fun a ha => by
    rw [upd_ne (show a ≠ p from fun z => S.fresh n (z ▸ ha))]; exact S.live a ha⟩
theorem Sim.new (S : Sim T ι h H) {p : Addr} {o : HO} (n : H p = none) : Sim T ι h (upd H p o) :=
  S.still (S.growNew n) fun a ha => upd_ne fun z => S.fresh n (z ▸ List.mem_append_left _ ha)
def Ix.add (ι : Ix) (p : Addr) : Ix := ⟨ι.refs ++ [p], ι.priv⟩
theorem Sim.growAdd (S : Sim T ι h H) {p : Addr} {u : HO} (n : H p = none) : Grow ι H (ι.add p) (upd H p u) :=
  ⟨⟨[p], rfl, fun a ha => by have e : a = p := by simpa using ha
                             rw [e]; exact n⟩, rfl, (S.growNew n).keep, (S.growNew n).live⟩
theorem Sim.add (S : Sim T ι h H) {p : Addr} {u : HO} {o : AO} (n : H p = none) (r : OR T (ι.add p) (upd H p u) o u) : Sim T (ι.add p) (h ++ [o]) (upd H p u) := by
  refine ⟨by simp [Ix.add, S.len], ?_, fun a ha => (S.growNew n).live a (List.mem_append_right _ ha), fun i o' a e1 e2 => ?_⟩
  . show (ι.refs ++ [p]).Nodup
    rw [List.nodup_append]
    exact ⟨S.nd, by simp, fun a ha b hb z => by have e : b = p := by simpa using hb
                                                subst e; subst z; exact S.fresh n (List.mem_append_left _ ha)⟩
  . replace e2 : (ι.refs ++ [p])[i]? = some a := e2
    by_cases hi : i < h.length
    . rw [List.getElem?_append_left hi] at e1
      rw [List.getElem?_append_left (by rw [S.len]; exact hi)] at e2
      obtain ⟨v, e, q⟩ := S.obj i o' a e1 e2
      exact ⟨v, by rw [upd_ne (zan e n)]; exact e, q.mono (S.growAdd n)⟩
    . have e3 : i = h.length := by
        have := (List.getElem?_eq_some_iff.mp e1).1
        simp at this; omega
      subst e3
      rw [List.getElem?_append_right (Nat.le_refl _)] at e1
      rw [List.getElem?_append_right (by rw [S.len]; exact Nat.le_refl _), S.len] at e2
      simp at e1 e2
      subst e1 e2
      exact ⟨u, zam, r⟩
theorem Sim.addAt (S : Sim T ι h H) {p : Addr} : (ι.add p).refs[h.length]? = some p := by
  show (ι.refs ++ [p])[h.length]? = some p
  rw [<- S.len]; simp
theorem Sim.growSet (S : Sim T ι h H) {i : Nat} {a : Addr} {u : HO} (e : ι.refs[i]? = some a) : Grow ι H ι (upd H a u) :=
  ⟨⟨[], by simp, by simp⟩, rfl, fun b o nb q => by rw [upd_ne (show b ≠ a from fun z => nb (by rw [z]; exact List.mem_of_getElem? e))]; exact q, fun b hb => by
    by_cases z : b = a
    . subst z; rw [zam]; simp
    . rw [upd_ne z]; exact S.live b hb⟩
theorem Sim.set (S : Sim T ι h H) {i : Nat} {a : Addr} {u : HO} {o : AO} (e : ι.refs[i]? = some a) (r : OR T ι (upd H a u) o u) : Sim T ι (h.set i o) (upd H a u) := by
  refine ⟨by simp [S.len], S.nd, fun b hb => (S.growSet e).live b (List.mem_append_right _ hb), fun j o' b e1 e2 => ?_⟩
  by_cases hj : j = i
  . subst hj
    rw [e] at e2; cases e2
    have hl : j < h.length := by rw [<- S.len]; exact (List.getElem?_eq_some_iff.mp e).1
    rw [List.getElem?_set_self hl] at e1; cases e1
    exact ⟨u, zam, r⟩
  . rw [List.getElem?_set_ne (Ne.symm hj)] at e1
    obtain ⟨v, q, r'⟩ := S.obj j o' b e1 e2
    have ne : b ≠ a := fun z => hj (by
      subst z
      exact zdT S.nd e2 e)
    exact ⟨v, by rw [upd_ne ne]; exact q, r'.mono (S.growSet e)⟩
end
def Ix.hide (ι : Ix) (D : Addr) : Ix := ⟨ι.refs, D :: ι.priv⟩
theorem Ix.hide_all {ι : Ix} {D a : Addr} : a ∉ (ι.hide D).all ↔ a ∉ ι.all /\ a ≠ D := by
  unfold Ix.all Ix.hide
  simp only [List.mem_append, List.mem_cons]
  constructor
  . intro h; exact ⟨fun z => h (z.elim .inl fun z => .inr (.inr z)), fun z => h (.inr (.inl z))⟩
  . rintro ⟨h1, h2⟩ (z | z | z)
    . exact h1 (.inl z)
    . exact h2 z
    . exact h1 (.inr z)
section
variable {T : Tb} {ι : Ix} {H : Hp} {D : Addr}
theorem Ext.hide {o : HO} (hn : H D = none) : Ext ι H (ι.hide D) (upd H D o) := ⟨fun e => e, fun a u n e => by rw [upd_ne (zan e hn)]; exact e, fun a u n e => Ix.hide_all.mpr ⟨n, zan e hn⟩⟩
theorem Ext.poke {o : HO} : Ext (ι.hide D) H (ι.hide D) (upd H D o) := ⟨fun e => e, fun a u n e => by rw [upd_ne (Ix.hide_all.mp n).2]; exact e, fun a u n e => n⟩
theorem Ext.show : Ext (ι.hide D) H ι H := ⟨fun e => e, fun a u n e => e, fun a u n e => (Ix.hide_all.mp n).1⟩
theorem Ext.adopt : Ext (ι.hide D) H (ι.add D) H := ⟨fun {k a} e => by
  show (ι.refs ++ [D])[k]? = some a
  replace e : ι.refs[k]? = some a := e
  rw [List.getElem?_append_left (List.getElem?_eq_some_iff.mp e).1]; exact e, fun a u n e => e, fun a u n e z => by
  rcases List.mem_append.mp z with z | z
  . replace z : a ∈ ι.refs ++ [D] := z
    rcases List.mem_append.mp z with z | z
    . exact (Ix.hide_all.mp n).1 (List.mem_append_left _ z)
    . exact (Ix.hide_all.mp n).2 (by simpa using z)
  . exact (Ix.hide_all.mp n).1 (List.mem_append_right _ z)⟩
theorem OR.ext {ι ι' : Ix} {H H' : Hp} (g : Ext ι H ι' H') {o : AO} {u : HO} (h : OR T ι H o u) : OR T ι' H' o u := by
  cases o with
  | lst xs => obtain ⟨us, e, r⟩ := h; exact ⟨us, e, r.ext g⟩
  | dct t kvs =>
    cases t with
    | false => obtain ⟨us, e, r⟩ := h; exact ⟨us, e, Paired.mapP r fun _ _ ⟨a, b⟩ => ⟨a, b.ext g⟩⟩
    | true => obtain ⟨us, e, r⟩ := h; exact ⟨us, e, Paired.mapP r fun _ _ ⟨a, b⟩ => ⟨a, b.ext g⟩⟩
  | ins c fs =>
    obtain ⟨C, dx, fus, a, b, n, w, l, r⟩ := h
    refine ⟨C, dx, fus, a, b, n, w, l, fun i v e => ?_⟩
    obtain ⟨f, u, e1, e2, q⟩ := r i v e
    exact ⟨f, u, e1, e2, q.ext g⟩
theorem Sim.hide {h : AH} {o : HO} (S : Sim T ι h H) (hn : H D = none) : Sim T (ι.hide D) h (upd H D o) :=
  ⟨S.len, S.nd, fun a ha => by
    rcases List.mem_cons.mp ha with rfl | ha
    . rw [zam]; simp
    . rw [upd_ne (show a ≠ D from fun z => S.plive a ha (z ▸ hn))]; exact S.plive a ha, fun i o' a e1 e2 => by
    obtain ⟨u, e, r⟩ := S.obj i o' a e1 e2
    exact ⟨u, by rw [upd_ne (zan e hn)]; exact e, r.ext (Ext.hide hn)⟩⟩
theorem Sim.poke {h : AH} {o : HO} (S : Sim T (ι.hide D) h H) (hr : D ∉ ι.refs) : Sim T (ι.hide D) h (upd H D o) :=
  ⟨S.len, S.nd, fun a ha => by
    by_cases z : a = D
    . subst z; rw [zam]; simp
    . rw [upd_ne z]; exact S.plive a ha, fun i o' a e1 e2 => by
    obtain ⟨u, e, r⟩ := S.obj i o' a e1 e2
    have ne : a ≠ D := fun z => hr (z ▸ List.mem_of_getElem? e2)
    exact ⟨u, by rw [upd_ne ne]; exact e, r.ext Ext.poke⟩⟩
theorem Sim.show {h : AH} (S : Sim T (ι.hide D) h H) : Sim T ι h H :=
  ⟨S.len, S.nd, fun a ha => S.plive a (List.mem_cons_of_mem _ ha), fun i o' a e1 e2 => by
    obtain ⟨u, e, r⟩ := S.obj i o' a e1 e2
    exact ⟨u, e, r.ext Ext.show⟩⟩
theorem Sim.adopt {h : AH} {u : HO} {o : AO} (S : Sim T (ι.hide D) h H) (hr : D ∉ ι.refs) (e : H D = some u) (r : OR T (ι.add D) H o u) : Sim T (ι.add D) (h ++ [o]) H := by
  have hlen : ι.refs.length = h.length := S.len
  refine ⟨by simp [Ix.add, hlen], ?_, fun a ha => S.plive a (List.mem_cons_of_mem _ ha), fun i o' a e1 e2 => ?_⟩
  . show (ι.refs ++ [D]).Nodup
    rw [List.nodup_append]
    exact ⟨S.nd, by simp, fun a ha b hb z => by have e : b = D := by simpa using hb
                                                subst e; subst z; exact hr ha⟩
  . replace e2 : (ι.refs ++ [D])[i]? = some a := e2
    by_cases hi : i < h.length
    . rw [List.getElem?_append_left hi] at e1
      rw [List.getElem?_append_left (by rw [hlen]; exact hi)] at e2
      obtain ⟨v, e, q⟩ := S.obj i o' a e1 e2
      exact ⟨v, e, q.ext Ext.adopt⟩
    . have e3 : i = h.length := by
        have := (List.getElem?_eq_some_iff.mp e1).1
        simp at this; omega
      subst e3
      rw [List.getElem?_append_right (Nat.le_refl _)] at e1
      rw [List.getElem?_append_right (by rw [hlen]; exact Nat.le_refl _), hlen] at e2
      simp at e1 e2
      subst e1 e2
      exact ⟨u, e, r⟩
end
def ER (T : Tb) (ι : Ix) (H : Hp) (e : En) (σ : St) : Prop := e.length = σ.length /\ ∀ (i : Nat) (v : AV), e[i]? = some (some v) -> ∃ u, σ[i]? = some (some u) /\ RV T ι H v u
theorem ER.mono {T : Tb} {ι ι' : Ix} {H H' : Hp} {e : En} {σ : St} (r : ER T ι H e σ) (g : Grow ι H ι' H') : ER T ι' H' e σ :=
  ⟨r.1, fun i v q => let ⟨u, a, b⟩ := r.2 i v q; ⟨u, a, b.mono g⟩⟩
theorem ER.ext {T : Tb} {ι ι' : Ix} {H H' : Hp} {e : En} {σ : St} (r : ER T ι H e σ) (g : Ext ι H ι' H') : ER T ι' H' e σ :=
  ⟨r.1, fun i v q => let ⟨u, a, b⟩ := r.2 i v q; ⟨u, a, b.ext g⟩⟩
theorem ER.set {T : Tb} {ι : Ix} {H : Hp} {e : En} {σ : St} (r : ER T ι H e σ) {v : AV} {u : V} (q : RV T ι H v u) (i : Nat) : ER T ι H (e.set i (some v)) (σ.set i (some u)) := by
  refine ⟨by simp [r.1], fun j w z => ?_⟩
  by_cases hj : j = i
  . subst hj
    by_cases hl : j < e.length
    . rw [List.getElem?_set_self hl] at z; cases z
      exact ⟨u, by rw [List.getElem?_set_self (by rw [<- r.1]; exact hl)], q⟩
    . rw [List.getElem?_eq_none (by simpa using hl)] at z; cases z
  . rw [List.getElem?_set_ne (Ne.symm hj)] at z ⊢
    exact r.2 j w z
def Post {α β : Type} (T : Tb) (ι : Ix) (H : Hp) (E : XK) (R : Ix -> Hp -> α -> β -> Prop) (o : Out α) (Q : β -> Hp -> Prop) : Prop :=
  match o with
  | .ok v h' => ∀ ι' H' u, Grow ι H ι' H' -> Sim T ι' h' H' -> R ι' H' v u -> Q u H'
  | .ex c h' => ∀ ι' H' C, Grow ι H ι' H' -> Sim T ι' h' H' -> T.exc c = some C -> E (.ref C) none H'
  | .bad => False
def PostS (T : Tb) (ι : Ix) (H : Hp) (E : St -> XK) (o : OutS) (D : Ends) : Prop :=
  match o with
  | .nx e h' => ∀ ι' H' σ', Grow ι H ι' H' -> Sim T ι' h' H' -> ER T ι' H' e σ' -> D.nx σ' H'
  | .bk e h' => ∀ ι' H' σ', Grow ι H ι' H' -> Sim T ι' h' H' -> ER T ι' H' e σ' -> D.bk σ' H'
  | .ct e h' => ∀ ι' H' σ', Grow ι H ι' H' -> Sim T ι' h' H' -> ER T ι' H' e σ' -> D.ct σ' H'
  | .rt v h' => ∀ ι' H' u, Grow ι H ι' H' -> Sim T ι' h' H' -> RV T ι' H' v u -> D.rt u H'
  | .ex c e h' => ∀ ι' H' σ' C, Grow ι H ι' H' -> Sim T ι' h' H' -> ER T ι' H' e σ' -> T.exc c = some C -> E σ' (.ref C) none H'
  | .bad => False
abbrev REq {α : Type} : Ix -> Hp -> α -> α -> Prop := fun _ _ a b => a = b
section
variable {T : Tb} {ι ι' : Ix} {h : AH} {H H' : Hp} {α β γ δ : Type} {E : XK} {R : Ix -> Hp -> α -> β -> Prop} {R' : Ix -> Hp -> γ -> δ -> Prop}
theorem Post.shift {o : Out α} {Q : β -> Hp -> Prop} (p : Post T ι H E R o Q) (g : Grow ι H ι' H') : Post T ι' H' E R o Q := by
  cases o with
  | ok v h' => exact fun i2 H2 u g2 => p i2 H2 u (g.trans g2)
  | ex c h' => exact fun i2 H2 C g2 => p i2 H2 C (g.trans g2)
  | bad => exact p
theorem Post.bind {o : Out α} {f : α -> AH -> Out γ} {Q : δ -> Hp -> Prop} {Q1 : β -> Hp -> Prop} (p : Post T ι H E R' (o.bind f) Q)
    (k : ∀ v h' ι' H' u, Grow ι H ι' H' -> Sim T ι' h' H' -> R ι' H' v u -> Post T ι' H' E R' (f v h') Q -> Q1 u H') : Post T ι H E R o Q1 := by
  cases o with
  | ok v h' => exact fun i2 H2 u g S r => k v h' i2 H2 u g S r (Post.shift p g)
  | ex c h' => exact p
  | bad => exact p
theorem Post.now {v : α} {u : β} {Q : β -> Hp -> Prop} (p : Post T ι H E R (.ok v h) Q) (S : Sim T ι h H) (r : R ι H v u) : Q u H := p ι H u S.refl S r
theorem PostS.shift {E : St -> XK} {o : OutS} {D : Ends} (p : PostS T ι H E o D) (g : Grow ι H ι' H') : PostS T ι' H' E o D := by
  cases o with
  | nx e h' => exact fun i2 H2 u g2 => p i2 H2 u (g.trans g2)
  | bk e h' => exact fun i2 H2 u g2 => p i2 H2 u (g.trans g2)
  | ct e h' => exact fun i2 H2 u g2 => p i2 H2 u (g.trans g2)
  | rt v h' => exact fun i2 H2 u g2 => p i2 H2 u (g.trans g2)
  | ex c e h' => exact fun i2 H2 u C g2 => p i2 H2 u C (g.trans g2)
  | bad => exact p
theorem PostS.go {E : St -> XK} {o : Out α} {en : En} {σ : St} {f : α -> AH -> OutS} {D : Ends} {Q1 : β -> Hp -> Prop} (p : PostS T ι H E (o.go en f) D) (er : ER T ι H en σ)
    (k : ∀ v h' ι' H' u, Grow ι H ι' H' -> Sim T ι' h' H' -> R ι' H' v u -> PostS T ι' H' E (f v h') D -> Q1 u H') : Post T ι H (E σ) R o Q1 := by
  cases o with
  | ok v h' => exact fun i2 H2 u g S r => k v h' i2 H2 u g S r (PostS.shift p g)
  | ex c h' => exact fun i2 H2 C g S e => p i2 H2 σ C g S (er.mono g) e
  | bad => exact p
end
def tE (T : Tb) (E : St -> XK) (a : SE) : TE := fun σ H Q => ∃ ι h en, Sim T ι h H /\ ER T ι H en σ /\ Post T ι H (E σ) (RV T) (a en h) Q
def tT (T : Tb) (E : St -> XK) (a : SB) : TT := fun σ H Q => ∃ ι h en, Sim T ι h H /\ ER T ι H en σ /\ Post T ι H (E σ) REq (a en h) Q
def tA (T : Tb) (E : St -> XK) (a : SL) : TA := fun σ H Q => ∃ ι h en, Sim T ι h H /\ ER T ι H en σ /\ Post T ι H (E σ) (RVs T) (a en h) Q
def tS (T : Tb) (E : St -> XK) (b : SS) : TS := fun D σ H => ∃ ι h en, Sim T ι h H /\ ER T ι H en σ /\ PostS T ι H E (b en h) D
abbrev PEA (T : Tb) (E : St -> XK) (X : Cx) (e : Expr) (a : SE) : Prop := PE X e (tE T E a)
abbrev PTA (T : Tb) (E : St -> XK) (X : Cx) (e : Expr) (a : SB) : Prop := PT X e (tT T E a)
abbrev PWA (T : Tb) (E : St -> XK) (X : Cx) (e : Expr) (a : SB) : Prop := PW X e (tT T E a)
abbrev PAA (T : Tb) (E : St -> XK) (X : Cx) (es : List Expr) (a : SL) : Prop := PA X es (tA T E a)
abbrev PSA (T : Tb) (E : St -> XK) (X : Cx) (st : Stmt) (b : SS) : Prop := PS X st (tS T E b)
abbrev PSsA (T : Tb) (E : St -> XK) (X : Cx) (sts : List Stmt) (b : SS) : Prop := PSs X sts (tS T E b)
theorem PE_imp {X : Cx} {e : Expr} {t t' : TE} (h : PE X e t) (k : ∀ σ H Q, t' σ H Q -> t σ H Q) : PE X e t' := fun pins s σ H Q I q => h pins s σ H Q I (k σ H Q q)
theorem PT_imp {X : Cx} {e : Expr} {t t' : TT} (h : PT X e t) (k : ∀ σ H Q, t' σ H Q -> t σ H Q) : PT X e t' := fun pins s σ H Q I q => h pins s σ H Q I (k σ H Q q)
theorem PW_imp {X : Cx} {e : Expr} {t t' : TT} (h : PW X e t) (k : ∀ σ H Q, t' σ H Q -> t σ H Q) : PW X e t' := fun w pins s σ H Q I q => h w pins s σ H Q I (k σ H Q q)
theorem PA_imp {X : Cx} {e : List Expr} {t t' : TA} (h : PA X e t) (k : ∀ σ H Q, t' σ H Q -> t σ H Q) : PA X e t' := fun p pins s σ H Q I q => h p pins s σ H Q I (k σ H Q q)
theorem PS_imp {X : Cx} {e : Stmt} {t t' : TS} (h : PS X e t) (k : ∀ D σ H, t' D σ H -> t D σ H) : PS X e t' := fun pins s σ H D I q => h pins s σ H D I (k D σ H q)
theorem zeO {X : Cx} {e : List Stmt} {t t' : TS} (h : PSs X e t) (k : ∀ D σ H, t' D σ H -> t D σ H) : PSs X e t' := fun pins s σ H D I q => h pins s σ H D I (k D σ H q)
theorem PS_nox {X : Cx} {st : Stmt} {t : TS} (h : PS X.nox st t) : PS X st t := fun pins s σ H D I hw => by
  refine wpAny_mono (h pins s σ H D (I.wish _) hw) (fun f s' q => SP.unwish q) fun _ _ z => z.elim
end Sm

namespace Sm
open PySem L2
instance : DecidableEq AV := fun _ _ => Classical.propDecidable _
@[simp] def sVar (i : Nat) : SE := fun en h => match en[i]? with
  | some (some v) => .ok v h
  | _ => .bad
@[simp] def sLit (v : AV) : SE := fun _ h => .ok v h
abbrev F1 := AV -> AH -> Out AV
abbrev F2 := AV -> AV -> AH -> Out AV
@[simp] def sOp1 (f : F1) (a : SE) : SE := fun en h => (a en h).bind f
@[simp] def sOp2 (f : F2) (a b : SE) : SE := fun en h => (a en h).bind fun x h1 => (b en h1).bind fun y h2 => f x y h2
@[simp] def sNil : SL := fun _ h => .ok [] h
@[simp] def sCons (a : SE) (r : SL) : SL := fun en h => (a en h).bind fun x h1 => (r en h1).bind fun xs h2 => .ok (x :: xs) h2
@[simp] def sAppl (F : Fn) (as : SL) : SE := fun en h => (as en h).bind F
@[simp] def sTup (as : SL) : SE := fun en h => (as en h).bind fun xs h1 => if xs.length <= 1000 then .ok (.tup xs) h1 else .bad
@[simp] def sLst (as : SL) : SE := fun en h => (as en h).bind fun xs h1 => if xs.length <= 1000 then .ok (.fl xs) h1 else .bad
@[simp] def sLstM (as : SL) : SE := fun en h => (as en h).bind fun xs h1 => if xs.length <= 1000 then .ok (.ref h1.length) (h1 ++ [.lst xs]) else .bad
@[simp] def sDict (t : Bool) : SE := fun _ h => .ok (.ref h.length) (h ++ [.dct t []])
@[simp] def seqOf (v : AV) (h : AH) : Option (List AV) := match v with
  | .tup xs => some xs
  | .fl xs => some xs
  | .ref n => match h[n]? with
    | some (.lst xs) => some xs
    | _ => none
  | _ => none
@[simp] def lstOf (v : AV) (h : AH) : Option (List AV) := match v with
  | .fl xs => some xs
  | .ref n => match h[n]? with
    | some (.lst xs) => some xs
    | _ => none
  | _ => none
@[simp] def fAdd : F2 := fun x y h => match x, y with
  | .int i, .int j => .ok (.int (i + j)) h
  | .str i, .str j => if i.length + j.length <= sizeLine then .ok (.str (i ++ j)) h else .bad
  | .tup xs, .tup ys => if xs ≠ [] /\ xs.length + ys.length <= sizeLine then .ok (.tup (xs ++ ys)) h else .bad
  | x, y => match lstOf x h, lstOf y h with
    | some xs, some ys => if xs.length + ys.length <= sizeLine then .ok (.fl (xs ++ ys)) h else .bad
    | _, _ => .bad
@[simp] def fSub : F2 := fun x y h => match x, y with
  | .int i, .int j => .ok (.int (i - j)) h
  | _, _ => .bad
@[simp] def fMul : F2 := fun x y h => match x, y with
  | .int i, .int j => if (i.natAbs < 2 ^ 64 \/ j.natAbs < 2 ^ 64) \/ (i.natAbs < 2 ^ 4000 /\ j.natAbs < 2 ^ 4000) then .ok (.int (i * j)) h else .bad
  | _, _ => .bad
@[simp] def fDiv : F2 := fun x y h => match x, y with
  | .int i, .int j => if 0 < j /\ j.natAbs < 2 ^ 200 then .ok (.int (i / j)) h else .bad
  | _, _ => .bad
@[simp] def fMod : F2 := fun x y h => match x, y with
  | .int i, .int j => if 0 < j then .ok (.int (i % j)) h else .bad
  | _, _ => .bad
@[simp] def fPow : F2 := fun x y h => match x, y with
  | .int i, .int j => if 0 <= j /\ j <= 1000000 /\ i.natAbs < 2 ^ 64 then .ok (.int (i ^ j.toNat)) h else .bad
  | _, _ => .bad
@[simp] def fNeg : F1 := fun x h => match x with
  | .int i => .ok (.int (-i)) h
  | _ => .bad
def toDs (f : AV -> Option PyData) : List AV -> Option (List PyData)
  | [] => some []
  | x :: xs => match f x, toDs f xs with
    | some d, some ds => some (d :: ds)
    | _, _ => none
def toD : Nat -> AH -> AV -> Option PyData
  | 0, _, v => match v with
    | .non => some .none
    | .bl b => some (.bool b)
    | .int i => some (.int i)
    | .str x => some (.str x)
    | _ => none
  | n + 1, h, v => match v with
    | .non => some .none
    | .bl b => some (.bool b)
    | .int i => some (.int i)
    | .str x => some (.str x)
    | .tup xs => (toDs (toD n h) xs).map .tuple
    | .fl xs => (toDs (toD n h) xs).map .list
    | .ref k => match h[k]? with
      | some (.lst xs) => (toDs (toD n h) xs).map .list
      | _ => none
    | .exc _ => none
@[simp] def eqA (x y : AV) (h : AH) : Option Bool := match x, y with
  | .int i, .int j => some (decide (i = j))
  | .str i, .str j => some (decide (i = j))
  | .bl i, .bl j => some (decide (i = j))
  | .non, .non => some true
  | x, y => match toD 8 h x, toD 8 h y with
    | some d, some e => some (PyData.eqv d e)
    | _, _ => none
@[simp] def fEq : F2 := fun x y h => match eqA x y h with
  | some b => .ok (.bl b) h
  | none => .bad
@[simp] def fNe : F2 := fun x y h => match eqA x y h with
  | some b => .ok (.bl (!b)) h
  | none => .bad
@[simp] def fLt : F2 := fun x y h => match x, y with
  | .int i, .int j => .ok (.bl (decide (i < j))) h
  | .str i, .str j => .ok (.bl (decide (i.cps.toList < j.cps.toList))) h
  | _, _ => .bad
@[simp] def fLe : F2 := fun x y h => match x, y with
  | .int i, .int j => .ok (.bl (decide (i <= j))) h
  | .str i, .str j => .ok (.bl (!decide (j.cps.toList < i.cps.toList))) h
  | _, _ => .bad
@[simp] def fGt : F2 := fun x y h => match x, y with
  | .int i, .int j => .ok (.bl (decide (j < i))) h
  | _, _ => .bad
@[simp] def fGe : F2 := fun x y h => match x, y with
  | .int i, .int j => .ok (.bl (decide (j <= i))) h
  | _, _ => .bad
@[simp] def truA (v : AV) (h : AH) : Option Bool := match v with
  | .non => some false
  | .bl b => some b
  | .int i => some (i != 0)
  | .str y => some ((y.length : Int) != 0)
  | .tup xs => some (!xs.isEmpty)
  | .fl xs => some (!xs.isEmpty)
  | .ref n => match h[n]? with
    | some (.lst xs) => some (!xs.isEmpty)
    | some (.dct false kvs) => some (!kvs.isEmpty)
    | _ => none
  | _ => none
@[simp] def sTest (a : SE) : SB := fun en h => (a en h).bind fun v h1 => match truA v h1 with
  | some b => .ok b h1
  | none => .bad
@[simp] def sBool (a : SE) : SB := fun en h => (a en h).bind fun v h1 => match v with
  | .bl b => .ok b h1
  | _ => .bad
@[simp] def sAnd (a b : SB) : SB := fun en h => (a en h).bind fun x h1 => if x = true then b en h1 else .ok false h1
@[simp] def sOr (a b : SB) : SB := fun en h => (a en h).bind fun x h1 => if x = true then .ok true h1 else b en h1
@[simp] def sNot (a : SB) : SB := fun en h => (a en h).bind fun x h1 => .ok (!x) h1
@[simp] def sAndV (a b : SE) : SE := fun en h => (a en h).bind fun v h1 => match v with
  | .bl k => if k = true then b en h1 else .ok (.bl false) h1
  | _ => .bad
@[simp] def sOrV (a b : SE) : SE := fun en h => (a en h).bind fun v h1 => match v with
  | .bl k => if k = true then .ok (.bl true) h1 else b en h1
  | _ => .bad
@[simp] def sNotV (a : SE) : SE := fun en h => (a en h).bind fun v h1 => match v with
  | .bl b => .ok (.bl (!b)) h1
  | _ => .bad
@[simp] def sChain (f f' : F2) (a b c : SE) : SE := fun en h => (a en h).bind fun x h1 => (b en h1).bind fun y h2 => (f x y h2).bind fun z h3 => match z with
  | .bl k => if k = true then (c en h3).bind fun w h4 => f' y w h4 else .ok (.bl false) h3
  | _ => .bad
@[simp] def sNext : SS := fun en h => .nx en h
@[simp] def sSeq (a b : SS) : SS := fun en h => match a en h with
  | .nx e h' => b e h'
  | o => o
@[simp] def sExpr (a : SE) : SS := fun en h => (a en h).go en fun _ h' => .nx en h'
@[simp] def sRet (a : SE) : SS := fun en h => (a en h).go en fun v h' => .rt v h'
@[simp] def sIf (c : SB) (a b : SS) : SS := fun en h => (c en h).go en fun x h' => if x = true then a en h' else b en h'
@[simp] def sSet (i : Nat) (a : SE) : SS := fun en h => (a en h).go en fun v h' => .nx (en.set i (some v)) h'
def sWhile (c : SB) (b : SS) : Nat -> SS
  | 0 => fun _ _ => .bad
  | n + 1 => fun en h => match c en h with
    | .ok true h1 => (match b en h1 with
      | .nx e2 h2 => sWhile c b n e2 h2
      | .ct e2 h2 => sWhile c b n e2 h2
      | .bk e2 h2 => .nx e2 h2
      | .rt v h2 => .rt v h2
      | _ => .bad)
    | .ok false h1 => .nx en h1
    | _ => .bad
abbrev SI := En -> AH -> Out (List AV × Option Nat)
@[simp] def liveB (w : Option Nat) (xs : List AV) (h : AH) : Bool := match w with
  | none => true
  | some n => match h[n]? with
    | some (.lst ys) => decide (ys = xs)
    | _ => false
inductive Tg where
  | nm (i : Nat)
  | tup (is : List Nat)
  | nst (i : Nat) (is : List Nat)
@[simp] def setAll : List Nat -> List AV -> En -> Option En
  | [], [], en => some en
  | i :: is, x :: xs, en => setAll is xs (en.set i (some x))
  | _, _, _ => none
@[simp] def setT (t : Tg) (v : AV) (en : En) : Option En := match t, v with
  | .nm i, v => some (en.set i (some v))
  | .tup is, .tup xs => setAll is xs en
  | .nst i is, .tup [y, .tup xs] => setAll is xs (en.set i (some y))
  | _, _ => none
def sForGo (w : Option Nat) (all : List AV) (t : Tg) (b : SS) : List AV -> SS
  | [] => fun en h => if liveB w all h = true then .nx en h else .bad
  | x :: xs => fun en h => if liveB w all h = true then
      (match setT t x en with
      | some e1 => (match b e1 h with
        | .nx e2 h2 => sForGo w all t b xs e2 h2
        | .ct e2 h2 => sForGo w all t b xs e2 h2
        | .bk e2 h2 => .nx e2 h2
        | .rt v h2 => .rt v h2
        | _ => .bad)
      | none => .bad) else .bad
@[simp] def sFor (it : SI) (t : Tg) (b : SS) : SS := fun en h => match it en h with
  | .ok (xs, w) h1 => sForGo w xs t b xs en h1
  | _ => .bad
@[simp] def sSetT (t : Tg) (a : SE) : SS := fun en h => (a en h).go en fun v h' => match setT t v en with
  | some e => .nx e h'
  | none => .bad
@[simp] def iVal (a : SE) : SI := fun en h => (a en h).bind fun v h1 => match v with
  | .fl xs => .ok (xs, none) h1
  | .tup xs => .ok (xs, none) h1
  | .str z => .ok (z.cps.toList.map (fun c => .str ⟨#[c]⟩), none) h1
  | .ref n => match h1[n]? with
    | some (.lst xs) => .ok (xs, some n) h1
    | _ => .bad
  | _ => .bad
@[simp] def iValT (a : SE) : SI := fun en h => (a en h).bind fun v h1 => match v with
  | .fl xs => .ok (xs, none) h1
  | .tup xs => .ok (xs, none) h1
  | .ref n => match h1[n]? with
    | some (.lst xs) => .ok (xs, some n) h1
    | _ => .bad
  | _ => .bad
def rangeA (lo : Int) : Nat -> List AV
  | 0 => []
  | n + 1 => .int lo :: rangeA (lo + 1) n
@[simp] def iRange1 (a : SE) : SI := fun en h => (a en h).bind fun v h1 => match v with
  | .int j => if j.natAbs < 2 ^ 62 then .ok (rangeA 0 j.toNat, none) h1 else .bad
  | _ => .bad
def numbered (k : Nat) : List AV -> List AV
  | [] => []
  | x :: xs => .tup [.int k, x] :: numbered (k + 1) xs
@[simp] def iEnum (a : SE) : SI := fun en h => (a en h).bind fun v h1 => match v with
  | .fl xs => .ok (numbered 0 xs, none) h1
  | _ => .bad
def sCompGo (js : List Nat) (en : En) (w : Option Nat) (all : List AV) (c : SB) (e : SE) : List AV -> List AV -> AH -> Out (List AV)
  | [], ys, h => if liveB w all h = true then .ok ys h else .bad
  | x :: xs, ys, h => if liveB w all h = true /\ ys.length < sizeLine then
      (match c (some x :: js.map fun j => (en[j]?).join) h with
      | .ok true h1 => (match e (some x :: js.map fun j => (en[j]?).join) h1 with
        | .ok v h2 => sCompGo js en w all c e xs (ys ++ [v]) h2
        | _ => .bad)
      | .ok false h1 => sCompGo js en w all c e xs ys h1
      | _ => .bad) else .bad
@[simp] def sYes : SB := fun _ h => .ok true h
@[simp] def sComp (js : List Nat) (it : SI) (c : SB) (e : SE) : SE := fun en h => match it en h with
  | .ok (xs, w) h1 => (match sCompGo js en w xs c e xs [] h1 with
    | .ok ys h2 => .ok (.fl ys) h2
    | _ => .bad)
  | _ => .bad
@[simp] def sCompM (js : List Nat) (it : SI) (c : SB) (e : SE) : SE := fun en h => match it en h with
  | .ok (xs, w) h1 => (match sCompGo js en w xs c e xs [] h1 with
    | .ok ys h2 => .ok (.ref h2.length) (h2 ++ [.lst ys])
    | _ => .bad)
  | _ => .bad
@[simp] def mkFn (n m : Nat) (b : SS) : Fn := fun args h =>
  if args.length = n then
    match b (args.map some ++ List.replicate (m - n) none) h with
    | .nx _ h' => .ok .non h'
    | .rt v h' => .ok v h'
    | .ex c _ h' => .ex c h'
    | _ => .bad
  else .bad
@[simp] def sMeth (c : Nat) (F : Fn) (o : SE) (as : SL) : SE := fun en h => (o en h).bind fun x h1 => match x with
  | .ref n => match h1[n]? with
    | some (.ins c' _) => if c' = c then (as en h1).bind fun xs h2 => F (x :: xs) h2 else .bad
    | _ => .bad
  | _ => .bad
@[simp] def sMake (c k : Nat) (F : Fn) (as : SL) : SE := fun en h => (as en h).bind fun xs h1 => match F (.ref h1.length :: xs) (h1 ++ [.ins c (List.replicate k none)]) with
  | .ok .non h2 => .ok (.ref h1.length) h2
  | .ex c h2 => .ex c h2
  | _ => .bad
@[simp] def sFld (c i : Nat) (o : SE) : SE := fun en h => (o en h).bind fun x h1 => match x with
  | .ref n => match h1[n]? with
    | some (.ins c' fs) => if c' = c then (match fs[i]? with | some (some v) => .ok v h1 | _ => .bad) else .bad
    | _ => .bad
  | _ => .bad
@[simp] def sSetFld (c i : Nat) (o v : SE) : SS := fun en h => (v en h).go en fun y h1 => (o en h1).go en fun x h2 => match x with
  | .ref n => match h2[n]? with
    | some (.ins c' fs) => if c' = c then .nx en (h2.set n (.ins c (fs.set i (some y)))) else .bad
    | _ => .bad
  | _ => .bad
@[simp] def sRaise (c : Nat) (as : SL) : SS := fun en h => (as en h).go en fun xs h1 => if xs.length <= 1000 then .ex c en h1 else .bad
@[simp] def keyOf? (v : AV) : Option Key := match v with
  | .int i => some (.inl i)
  | .str x => some (.inr x)
  | _ => none
@[simp] def keysOf? : List AV -> Option (List Key)
  | [] => some []
  | v :: r => match keyOf? v, keysOf? r with
    | some k, some ks => some (k :: ks)
    | _, _ => none
@[simp] def isKey (t : Bool) (v : AV) : Bool := match t, v with
  | false, v => (keyOf? v).isSome
  | true, .tup xs => (keysOf? xs).isSome
  | true, _ => false
def valA (kvs : List (AV × AV)) (k : AV) : Option AV := (kvs.find? fun p => decide (p.1 = k)).map (·.2)
def putA (kvs : List (AV × AV)) (k v : AV) : List (AV × AV) :=
  if kvs.any (fun p => decide (p.1 = k)) then kvs.map fun p => if p.1 = k then (p.1, v) else p else kvs ++ [(k, v)]
@[simp] def fIx : F2 := fun x y h => match x, y with
  | .str z, .int i => match atI z.cps.toList i with
    | some c => .ok (.str ⟨#[c]⟩) h
    | none => .bad
  | .tup xs, .int i => match atI xs i with
    | some v => .ok v h
    | none => .bad
  | .fl xs, .int i => match atI xs i with
    | some v => .ok v h
    | none => .bad
  | .ref n, y => match h[n]? with
    | some (.lst xs) => match y with
      | .int i => match atI xs i with
        | some v => .ok v h
        | none => .bad
      | _ => .bad
    | some (.dct t kvs) => if isKey t y then (match valA kvs y with | some v => .ok v h | none => .bad) else .bad
    | _ => .bad
  | _, _ => .bad
@[simp] def sSetIx (o i v : SE) : SS := fun en h => (v en h).go en fun z h1 => (o en h1).go en fun x h2 => (i en h2).go en fun y h3 => match x with
  | .ref n => match h3[n]? with
    | some (.lst xs) => match y with
      | .int k => match ixN xs.length k with
        | some j => .nx en (h3.set n (.lst (xs.set j z)))
        | none => .bad
      | _ => .bad
    | some (.dct t kvs) => if isKey t y = true /\ kvs.length < sizeLine then .nx en (h3.set n (.dct t (putA kvs y z))) else .bad
    | _ => .bad
  | _ => .bad
@[simp] def inA (x y : AV) (h : AH) : Option Bool := match x, y with
  | .str i, .str j => some (!(Builtin.Str.occurrences j i 0 j.length 1).isEmpty)
  | x, .ref n => match h[n]? with
    | some (.dct t kvs) => if isKey t x then some (valA kvs x).isSome else none
    | some (.lst xs) => match toD 8 h x, toDs (toD 8 h) xs with
      | some d, some ds => some (ds.any fun e => PyData.eqv e d)
      | _, _ => none
    | _ => none
  | x, .fl xs => match toD 8 h x, toDs (toD 8 h) xs with
    | some d, some ds => some (ds.any fun e => PyData.eqv e d)
    | _, _ => none
  | x, .tup xs => match toD 8 h x, toDs (toD 8 h) xs with
    | some d, some ds => some (ds.any fun e => PyData.eqv e d)
    | _, _ => none
  | _, _ => none
@[simp] def fIn : F2 := fun x y h => match inA x y h with
  | some b => .ok (.bl b) h
  | none => .bad
@[simp] def fNotIn : F2 := fun x y h => match inA x y h with
  | some b => .ok (.bl (!b)) h
  | none => .bad
@[simp] def fLen : Fn := fun args h => match args with
  | [.str x] => .ok (.int x.length) h
  | [.tup xs] => .ok (.int xs.length) h
  | [.fl xs] => .ok (.int xs.length) h
  | [.ref n] => match h[n]? with
    | some (.lst xs) => .ok (.int xs.length) h
    | some (.dct false kvs) => .ok (.int kvs.length) h
    | _ => .bad
  | _ => .bad
@[simp] def fAbs : Fn := fun args h => match args with
  | [.int i] => .ok (.int (if i < 0 then -i else i)) h
  | _ => .bad
@[simp] def fMax2 : Fn := fun args h => match args with
  | [.int i, .int j] => .ok (.int (if j > i then j else i)) h
  | _ => .bad
@[simp] def boolsOf : List AV -> Option (List Bool)
  | [] => some []
  | .bl b :: r => (boolsOf r).map (b :: ·)
  | _ :: _ => none
@[simp] def fAll : Fn := fun args h => match args with
  | [.fl xs] => match boolsOf xs with
    | some bs => .ok (.bl (bs.all id)) h
    | none => .bad
  | _ => .bad
@[simp] def tyN (v : AV) (h : AH) : Option String := match v with
  | .non => some "NoneType"
  | .bl _ => some "bool"
  | .int _ => some "int"
  | .str _ => some "str"
  | .tup _ => some "tuple"
  | .fl _ => some "list"
  | .ref n => match h[n]? with
    | some (.lst _) => some "list"
    | some (.dct _ _) => some "dict"
    | _ => none
  | .exc _ => none
@[simp] def sIsB (t : String) (a : SE) : SE := fun en h => (a en h).bind fun v h1 => match tyN v h1 with
  | some n => .ok (.bl (n == t || (t == "int" && n == "bool"))) h1
  | none => .bad
abbrev FM := AV -> List AV -> AH -> Out AV
@[simp] def isLst (v : AV) (h : AH) : Bool := (lstOf v h).isSome
@[simp] def isStr (v : AV) (_ : AH) : Bool := match v with
  | .str _ => true
  | _ => false
@[simp] def sBM (chk : AV -> AH -> Bool) (f : FM) (o : SE) (as : SL) : SE := fun en h => (o en h).bind fun x h1 => if chk x h1 = true then (as en h1).bind fun xs h2 => f x xs h2 else .bad
@[simp] def mAppend : FM := fun x vs h => match x, vs with
  | .ref n, [y] => match h[n]? with
    | some (.lst xs) => if xs.length < sizeLine then .ok .non (h.set n (.lst (xs ++ [y]))) else .bad
    | _ => .bad
  | _, _ => .bad
@[simp] def mCountS : FM := fun x vs h => match x, vs with
  | .str z, [.str y] => .ok (.int ((Builtin.Str.occurrences z y 0 z.length (z.length + 1)).length : Nat)) h
  | _, _ => .bad
def cutA {α : Type} (xs : List α) (lo hi : Option Int) : List α := (xs.drop (HT.sIx xs.length 0 lo)).take (HT.sIx xs.length xs.length hi - HT.sIx xs.length 0 lo)
end Sm

namespace Sm
open PySem L2
structure CA (T : Tb) (E : St -> XK) (X : Cx) : Prop where
  hK : X.K = T.K
  pass : PassesS (CXE X.prog X.w) X E
abbrev EN : St -> XK := fun _ => E0
theorem CA.nox {T : Tb} {E : St -> XK} {X : Cx} (c : CA T E X) : CA T EN X.nox := ⟨c.hK, fun _ _ _ _ _ _ _ h => by
  obtain ⟨_, _, _, _, _, _, _, _, _, _, _, _, _, _, q⟩ := h
  exact q.elim⟩
theorem CA.never {T : Tb} {X : Cx} (hK : X.K = T.K) : CA T EN X := ⟨hK, fun _ _ _ _ _ _ _ h => by
  obtain ⟨_, _, _, _, _, _, _, _, _, _, _, _, _, _, q⟩ := h
  exact q.elim⟩
section
variable {T : Tb} {ι : Ix} {h : AH} {H : Hp}
theorem lst_rd {x : AV} {u : V} {xs : List AV} (S : Sim T ι h H) (r : RV T ι H x u) (e : lstOf x h = some xs) : ∃ a us, u = .ref a /\ SqL T.K H a us /\ RVs T ι H xs us := by
  unfold lstOf at e
  cases r with
  | fl n q r => cases e; exact ⟨_, _, rfl, .inl q, r⟩
  | kfl q r => cases e; exact ⟨_, _, rfl, .inr q, r⟩
  | @ref k a q =>
    dsimp only at e
    split at e
    . rename_i ys hk
      cases e
      obtain ⟨u, e1, us, rfl, r⟩ := S.obj k _ a hk q
      exact ⟨a, us, rfl, .inl (.inl e1), r⟩
    . cases e
  | _ => cases e
theorem tup_rd {u : V} {xs : List AV} (r : RV T ι H (.tup xs) u) : ∃ a us, u = .ref a /\ SqT T.K H a us /\ RVs T ι H xs us := by
  cases r with
  | tup n q r => exact ⟨_, _, rfl, .of q, r⟩
theorem str_rd {u : V} {x : Str} (r : RV T ι H (.str x) u) : u = .str x /\ x.length <= sizeLine /\ x.cps.all (· < 0x110000) = true := by
  cases r with
  | str n o => exact ⟨rfl, n, o⟩
theorem int_rd {u : V} {i : Int} (r : RV T ι H (.int i) u) : u = .int i := by cases r; rfl
theorem bl_rd {u : V} {i : Bool} (r : RV T ι H (.bl i) u) : u = .bl i := by cases r; rfl
theorem non_rd {u : V} (r : RV T ι H .non u) : u = .non := by cases r; rfl
theorem new_fl {us : List V} {xs : List AV} {p : Addr} {E : XK} {Q : VK} (S : Sim T ι h H) (r : RVs T ι H xs us) (n : H p = none) (q : Post T ι H E (RV T) (.ok (.fl xs) h) Q) : Q (.ref p) (upd H p (.lst us)) :=
  q ι _ _ (S.growNew n) (S.new n) (.fl (S.fresh n) (.inl zam) (r.mono (S.growNew n)))
theorem zc0 {us : List V} {xs : List AV} {p : Addr} {E : XK} {Q : VK} (S : Sim T ι h H) (r : RVs T ι H xs us) (n : H p = none) (q : Post T ι H E (RV T) (.ok (.tup xs) h) Q) : Q (.ref p) (upd H p (.tup us)) :=
  q ι _ _ (S.growNew n) (S.new n) (.tup (S.fresh n) zam (r.mono (S.growNew n)))
theorem zeP {us : List V} {xs : List AV} {p : Addr} {E : XK} {Q : VK} (S : Sim T ι h H) (r : RVs T ι H xs us) (n : H p = none) (q : Post T ι H E (RV T) (.ok (.ref h.length) (h ++ [.lst xs])) Q) : Q (.ref p) (upd H p (.lst us)) :=
  q _ _ _ (S.growAdd n) (S.add n ⟨us, rfl, r.mono (S.growAdd n)⟩) (.ref S.addAt)
end
section
variable {T : Tb} {E : St -> XK} {X : Cx} {pos : Pos}
theorem r_var (i : Nat) {x : Str} {p : Pos} (hN : X.N[i]? = some x := by rfl) (hv : Vis X.env.scope x := by first | exact Or.inl rfl | exact Or.inr (Or.inl rfl) | exact Or.inr (Or.inr rfl)) (hd : (x == ("__debug__" : Str)) = false := by decide)
    (hcd : (x == ("__classdict__" : Str)) = false := by decide) : PEA T E X (.Name x p) (sVar i) :=
  PE_imp (pv i hN hv hd hcd) fun σ H Q ⟨ι, h, en, S, er, q⟩ => by
    unfold sVar at q
    split at q
    . rename_i v hv
      obtain ⟨u, e, r⟩ := er.2 i v hv
      exact ⟨u, e, q.now S r⟩
    . exact q.elim
theorem r_int {i j p} : PEA T E X (.Constant (.int i) j p) (sLit (.int i)) := PE_imp pe_int fun σ H Q ⟨ι, h, en, S, er, q⟩ => q.now S (.int i)
theorem r_bl {i j p} : PEA T E X (.Constant (.bool i) j p) (sLit (.bl i)) := PE_imp pe_bl fun σ H Q ⟨ι, h, en, S, er, q⟩ => q.now S (.bl i)
theorem r_str {x j p} (n : x.length <= sizeLine := by decide +kernel) (o : x.cps.all (· < 0x110000) = true := by decide +kernel) : PEA T E X (.Constant (.str x) j p) (sLit (.str x)) := PE_imp pe_str fun σ H Q ⟨ι, h, en, S, er, q⟩ => q.now S (.str n o)
theorem zhY {x : Str} {i : Int} {t : Tok} {p : Pos} (hg : Gl X x) (hm : X.mg x = some (.int i t)) (hd : (x == ("__debug__" : Str)) = false := by decide) : PEA T E X (.Name x p) (sLit (.int i)) :=
  PE_imp (zhy (v := .int i) hg hm ⟨t, rfl⟩ hd) fun σ H Q ⟨ι, h, en, S, er, q⟩ => q.now S (.int i)
def OpS (T : Tb) (f : F2) (r : R2) : Prop := ∀ (ι : Ix) (h : AH) (H : Hp) (x y : AV) (u w : V) (E : XK) (Q : VK), Sim T ι h H -> RV T ι H x u -> RV T ι H y w -> Post T ι H E (RV T) (f x y h) Q -> r u w H Q
def Op (T : Tb) (X : Cx) (g : Value -> Value -> Sem Value) (f : F2) : Prop := ∃ r, OpR X g r /\ OpS T f r
variable {a b c : Expr} {sa sb sc : SE}
theorem two {f : F2} {r : R2} (hs : OpS T f r) {σ : St} {H : Hp} {Q : VK} (q : tE T E (sOp2 f sa sb) σ H Q) : tOp r (tE T E sa) (tE T E sb) σ H Q := by
  obtain ⟨ι, h, en, S, er, q⟩ := q
  refine ⟨ι, h, en, S, er, q.bind fun x h1 ι1 H1 u g1 S1 r1 q1 => ⟨ι1, h1, en, S1, er.mono g1, q1.bind fun y h2 ι2 H2 w g2 S2 r2 q2 => ?_⟩⟩
  exact hs ι2 h2 H2 x y u w _ Q S2 (r1.mono g2) r2 q2
theorem r_bin {op : Operator} {f : F2} (ho : Op T X (binaryOp op) f) (ha : PEA T E X a sa) (hb : PEA T E X b sb) : PEA T E X (.BinOp a op b pos) (sOp2 f sa sb) := by
  obtain ⟨r, h1, h2⟩ := ho
  exact PE_imp (pe_op h1 ha hb) fun σ H Q q => two h2 q
theorem zhZ {i j : Str} (hi : i.cps.all (· < 0x110000) = true) (hj : j.cps.all (· < 0x110000) = true) : (i ++ j).cps.all (· < 0x110000) = true := by
  show (i.cps ++ j.cps).all _ = true
  rw [Array.all_append, hi, hj]; rfl
theorem zel (i j : Str) : (i ++ j).length = i.length + j.length := by
  show (i.cps ++ j.cps).size = _
  rw [Array.size_append]; rfl
theorem o_add (hK : X.K = T.K) : Op T X (binaryOp .Add) fAdd := by
  refine ⟨_, op_add.or (zfs.or (zhL.or zeM)), fun ι h H x y u w E Q S rx ry p => ?_⟩
  unfold fAdd at p
  split at p
  . rw [int_rd rx, int_rd ry]
    exact .inl ⟨_, _, rfl, rfl, p.now S (.int _)⟩
  . split at p
    . rename_i hz
      obtain ⟨rfl, _, o1⟩ := str_rd rx
      obtain ⟨rfl, _, o2⟩ := str_rd ry
      exact .inr (.inl ⟨_, _, rfl, rfl, hz, p.now S (.str (by rw [zel]; exact hz) (zhZ o1 o2))⟩)
    . exact p.elim
  . split at p
    . rename_i hz
      obtain ⟨a, us, rfl, q1, r1⟩ := tup_rd rx
      obtain ⟨b, ws, rfl, q2, r2⟩ := tup_rd ry
      refine .inr (.inr (.inl ⟨a, b, us, ws, rfl, rfl, hK ▸ q1, hK ▸ q2, fun z => hz.1 ?_, by rw [<- r1.length, <- r2.length]; exact hz.2, fun z => ?_, fun _ l n => zc0 S (r1.append r2) n p⟩))
      . subst z; cases r1; rfl
      . subst z; cases r2
        rw [List.append_nil] at p
        exact p.now S rx
    . exact p.elim
  . split at p
    . split at p
      . rename_i e1 e2 hz
        obtain ⟨a, us, rfl, q1, r1⟩ := lst_rd S rx e1
        obtain ⟨b, ws, rfl, q2, r2⟩ := lst_rd S ry e2
        exact .inr (.inr (.inr ⟨a, b, us, ws, rfl, rfl, hK ▸ q1, hK ▸ q2, by rw [<- r1.length, <- r2.length]; exact hz, fun l n => new_fl S (r1.append r2) n p⟩))
      . exact p.elim
    . exact p.elim
theorem o_sub : Op T X (binaryOp .Sub) fSub := by
  refine ⟨_, op_sub, fun ι h H x y u w E Q S rx ry p => ?_⟩
  unfold fSub at p
  split at p
  . rw [int_rd rx, int_rd ry]
    exact ⟨_, _, rfl, rfl, p.now S (.int _)⟩
  . exact p.elim
theorem zeQ {i : Int} (h : i.natAbs < 2 ^ 4000) : Builtin.Int.intBits i <= 2 ^ 20 := by
  unfold Builtin.Int.intBits
  split
  . exact Nat.zero_le _
  . rename_i hz
    have h0 : i.natAbs ≠ 0 := fun z => hz (by simpa using z)
    have : i.natAbs.log2 < 4000 := (Nat.log2_lt h0).mpr h
    exact Nat.le_trans (by omega : i.natAbs.log2 + 1 <= 4001) (by decide)
theorem o_mul : Op T X (binaryOp .Mult) fMul := by
  refine ⟨_, zgZ, fun ι h H x y u w E Q S rx ry p => ?_⟩
  unfold fMul at p
  split at p
  . split at p
    . rename_i hz
      rw [int_rd rx, int_rd ry]
      exact ⟨_, _, rfl, rfl, hz.elim (fun z => CMul.ok (z.elim (fun z => .inl ⟨by omega, by omega⟩) (fun z => .inr ⟨by omega, by omega⟩))) (fun z => .of_bits (zeQ z.1) (zeQ z.2)), p.now S (.int _)⟩
    . exact p.elim
  . exact p.elim
theorem o_div : Op T X (binaryOp .FloorDiv) fDiv := by
  refine ⟨_, zgY, fun ι h H x y u w E Q S rx ry p => ?_⟩
  unfold fDiv at p
  split at p
  . split at p
    . rename_i hz
      rw [int_rd rx, int_rd ry]
      exact ⟨_, _, rfl, rfl, ⟨hz.1, by omega⟩, p.now S (.int _)⟩
    . exact p.elim
  . exact p.elim
theorem o_mod : Op T X (binaryOp .Mod) fMod := by
  refine ⟨_, op_mod, fun ι h H x y u w E Q S rx ry p => ?_⟩
  unfold fMod at p
  split at p
  . split at p
    . rename_i hz
      rw [int_rd rx, int_rd ry]
      exact ⟨_, _, rfl, rfl, hz, p.now S (.int _)⟩
    . exact p.elim
  . exact p.elim
theorem o_pow : Op T X (binaryOp .Pow) fPow := by
  refine ⟨_, op_pow, fun ι h H x y u w E Q S rx ry p => ?_⟩
  unfold fPow at p
  split at p
  . split at p
    . rename_i hz
      rw [int_rd rx, int_rd ry]
      exact ⟨_, _, rfl, rfl, hz, p.now S (.int _)⟩
    . exact p.elim
  . exact p.elim
theorem r_neg (ha : PEA T E X a sa) : PEA T E X (.UnaryOp .USub a pos) (sOp1 fNeg sa) :=
  PE_imp (pe_un un_neg ha) fun σ H Q ⟨ι, h, en, S, er, q⟩ => ⟨ι, h, en, S, er, q.bind fun x h1 ι1 H1 u g1 S1 r1 q1 => by
    unfold fNeg at q1
    split at q1
    . rw [int_rd r1]
      exact ⟨_, rfl, q1.now S1 (.int _)⟩
    . exact q1.elim⟩
theorem zgj {ds : List PyData} (h : ∀ d ∈ ds, d.canLay0 = true) : PyData.canLayAll0 ds = true := by
  induction ds with
  | nil => rfl
  | cons d r ih => show (d.canLay0 && PyData.canLayAll0 r) = true; rw [h d (by simp), ih fun e he => h e (by simp [he])]; rfl
theorem zem {n : Nat} {ds : List PyData} (h : ∀ d ∈ ds, d.depth <= n) : PyData.depthAll ds <= n := by
  induction ds with
  | nil => exact Nat.zero_le _
  | cons d r ih => show max d.depth (PyData.depthAll r) <= n; have := h d (by simp); have := ih fun e he => h e (by simp [he]); omega
section
variable {ι : Ix} {h : AH} {H : Hp}
theorem zbh {f : AV -> Option PyData} {n : Nat} (hf : ∀ {x : AV} {u : V} {d : PyData}, RV T ι H x u -> f x = some d -> DaV T.K H u d /\ d.canLay0 = true /\ d.depth <= n) :
    ∀ {xs : List AV} {us : List V} {ds : List PyData}, RVs T ι H xs us -> toDs f xs = some ds -> DaVs T.K H us ds /\ ∀ d ∈ ds, d.canLay0 = true /\ d.depth <= n
  | _, _, ds, .nil, e => by cases e; exact ⟨.nil, by simp⟩
  | _, _, ds, .cons (x := x) (xs := xs) r rs, e => by
    unfold toDs at e
    split at e
    . rename_i d ds' e1 e2
      cases e
      obtain ⟨q1, q2⟩ := hf r e1
      obtain ⟨q3, q4⟩ := zbh hf rs e2
      refine ⟨.cons q1 q3, fun d hd => ?_⟩
      rcases List.mem_cons.mp hd with rfl | hd
      . exact q2
      . exact q4 d hd
    . cases e
theorem daV_of (S : Sim T ι h H) : ∀ (n : Nat) {x : AV} {u : V} {d : PyData}, RV T ι H x u -> toD n h x = some d -> DaV T.K H u d /\ d.canLay0 = true /\ d.depth <= n
  | 0, x, u, d, r, e => by
    unfold toD at e
    cases r with
    | non => cases e; exact ⟨.non, rfl, Nat.le_refl _⟩
    | bl b => cases e; exact ⟨.bl b, rfl, Nat.le_refl _⟩
    | int b => cases e; exact ⟨.int b, rfl, Nat.le_refl _⟩
    | str a b => cases e; exact ⟨.str _, b, Nat.le_refl _⟩
    | _ => cases e
  | n + 1, x, u, d, r, e => by
    unfold toD at e
    have many : ∀ {xs : List AV} {us : List V} {ds : List PyData}, RVs T ι H xs us -> toDs (toD n h) xs = some ds -> DaVs T.K H us ds /\ ∀ d ∈ ds, d.canLay0 = true /\ d.depth <= n := fun r e => zbh (fun r e => daV_of S n r e) r e
    have fin : ∀ {ds : List PyData}, (∀ d ∈ ds, d.canLay0 = true /\ d.depth <= n) -> PyData.canLayAll0 ds = true /\ PyData.depthAll ds + 1 <= n + 1 := fun q => ⟨zgj fun d hd => (q d hd).1, Nat.succ_le_succ (zem fun d hd => (q d hd).2)⟩
    cases r with
    | non => cases e; exact ⟨.non, rfl, Nat.zero_le _⟩
    | bl b => cases e; exact ⟨.bl b, rfl, Nat.zero_le _⟩
    | int b => cases e; exact ⟨.int b, rfl, Nat.zero_le _⟩
    | str a b => cases e; exact ⟨.str _, b, Nat.zero_le _⟩
    | tup k q r =>
      obtain ⟨ds, e1, rfl⟩ := Option.map_eq_some_iff.mp e
      obtain ⟨q1, q2⟩ := many r e1
      exact ⟨.tup (.of q) q1, fin q2⟩
    | fl k q r =>
      obtain ⟨ds, e1, rfl⟩ := Option.map_eq_some_iff.mp e
      obtain ⟨q1, q2⟩ := many r e1
      exact ⟨.lst (.inl q) q1, fin q2⟩
    | kfl q r =>
      obtain ⟨ds, e1, rfl⟩ := Option.map_eq_some_iff.mp e
      obtain ⟨q1, q2⟩ := many r e1
      exact ⟨.lst (.inr q) q1, fin q2⟩
    | @ref k a q =>
      dsimp only at e
      split at e
      . rename_i ys hk
        obtain ⟨ds, e1, rfl⟩ := Option.map_eq_some_iff.mp e
        obtain ⟨u, e2, us, rfl, r⟩ := S.obj k _ a hk q
        obtain ⟨q1, q2⟩ := many r e1
        exact ⟨.lst (.inl (.inl e2)) q1, fin q2⟩
      . cases e
    | exc _ _ _ => cases e
end
theorem dq_int {i j : Int} : decide (V.int i = V.int j) = decide (i = j) := by rw [Bool.eq_iff_iff]; simp
theorem dq_str {i j : Str} : decide (V.str i = V.str j) = decide (i = j) := by rw [Bool.eq_iff_iff]; simp
theorem dq_bl {i j : Bool} : decide (V.bl i = V.bl j) = decide (i = j) := by rw [Bool.eq_iff_iff]; simp
theorem zeR {r : R2} {neg : Bool} (ho : OpR X g r) (h1 : ∀ x y H Q, (scal x y = true /\ Q (.bl (if neg then !decide (x = y) else decide (x = y))) H) -> r x y H Q)
    (h2 : ∀ x y H Q, (∃ d e, DaV T.K H x d /\ DaV T.K H y e /\ d.canLay0 = true /\ e.canLay0 = true /\ d.depth <= 60 /\ Q (.bl (if neg then !PyData.eqv d e else PyData.eqv d e)) H) -> r x y H Q) :
    OpS T (fun x y h => match eqA x y h with | some b => .ok (.bl (if neg then !b else b)) h | none => .bad) r := by
  intro ι h H x y u w E Q S rx ry p
  dsimp only at p
  cases hb : eqA x y h with
  | none => rw [hb] at p; exact p.elim
  | some b =>
    rw [hb] at p
    dsimp only at p
    unfold eqA at hb
    split at hb
    . cases hb
      rw [int_rd rx, int_rd ry]
      exact h1 _ _ _ _ ⟨rfl, by rw [dq_int]; exact p.now S (.bl _)⟩
    . cases hb
      obtain ⟨rfl, _⟩ := str_rd rx
      obtain ⟨rfl, _⟩ := str_rd ry
      exact h1 _ _ _ _ ⟨rfl, by rw [dq_str]; exact p.now S (.bl _)⟩
    . cases hb
      rw [bl_rd rx, bl_rd ry]
      exact h1 _ _ _ _ ⟨rfl, by rw [dq_bl]; exact p.now S (.bl _)⟩
    . cases hb
      rw [non_rd rx, non_rd ry]
      exact h1 _ _ _ _ ⟨rfl, by rw [show decide (V.non = V.non) = true from rfl]; exact p.now S (.bl _)⟩
    . split at hb
      . rename_i d e e1 e2
        cases hb
        obtain ⟨q1, q2, q3⟩ := daV_of S 8 rx e1
        obtain ⟨q4, q5, q6⟩ := daV_of S 8 ry e2
        exact h2 _ _ _ _ ⟨d, e, q1, q4, q2, q5, by omega, p.now S (.bl _)⟩
      . cases hb
theorem o_eq (hK : X.K = T.K) (hu : X.A.units + 64 < cLine) : Op T X (compareOp .Eq) fEq :=
  ⟨_, op_eq.or (op_eqD hu), zeR (neg := false) (op_eq.or (op_eqD hu)) (fun _ _ _ _ q => .inl q) fun _ _ _ _ q => .inr (hK ▸ q)⟩
theorem o_ne (hK : X.K = T.K) (hu : X.A.units + 64 < cLine) : Op T X (compareOp .NotEq) fNe :=
  ⟨_, op_ne.or (op_neD hu), zeR (neg := true) (op_ne.or (op_neD hu)) (fun _ _ _ _ q => .inl q) fun _ _ _ _ q => .inr (hK ▸ q)⟩
theorem o_lt : Op T X (compareOp .Lt) fLt := by
  refine ⟨_, op_lt.or zfY, fun ι h H x y u w E Q S rx ry p => ?_⟩
  unfold fLt at p
  split at p
  . rw [int_rd rx, int_rd ry]
    exact .inl ⟨_, _, rfl, rfl, p.now S (.bl _)⟩
  . obtain ⟨rfl, _⟩ := str_rd rx
    obtain ⟨rfl, _⟩ := str_rd ry
    exact .inr ⟨_, _, rfl, rfl, p.now S (.bl _)⟩
  . exact p.elim
theorem o_le : Op T X (compareOp .LtE) fLe := by
  refine ⟨_, op_le.or zgd, fun ι h H x y u w E Q S rx ry p => ?_⟩
  unfold fLe at p
  split at p
  . rw [int_rd rx, int_rd ry]
    exact .inl ⟨_, _, rfl, rfl, p.now S (.bl _)⟩
  . obtain ⟨rfl, _⟩ := str_rd rx
    obtain ⟨rfl, _⟩ := str_rd ry
    exact .inr ⟨_, _, rfl, rfl, p.now S (.bl _)⟩
  . exact p.elim
theorem o_gt : Op T X (compareOp .Gt) fGt := by
  refine ⟨_, op_gt, fun ι h H x y u w E Q S rx ry p => ?_⟩
  unfold fGt at p
  split at p
  . rw [int_rd rx, int_rd ry]
    exact ⟨_, _, rfl, rfl, p.now S (.bl _)⟩
  . exact p.elim
theorem o_ge : Op T X (compareOp .GtE) fGe := by
  refine ⟨_, op_ge, fun ι h H x y u w E Q S rx ry p => ?_⟩
  unfold fGe at p
  split at p
  . rw [int_rd rx, int_rd ry]
    exact ⟨_, _, rfl, rfl, p.now S (.bl _)⟩
  . exact p.elim
theorem r_cmp {op : CmpOp} {f : F2} (ho : Op T X (compareOp op) f) (ha : PEA T E X a sa) (hb : PEA T E X b sb) (hm : behindInMarks op b = false) : PEA T E X (.Compare a [op] [b] pos) (sOp2 f sa sb) := by
  obtain ⟨r, h1, h2⟩ := ho
  exact PE_imp (zhE h1 ha hb hm) fun σ H Q q => two h2 q
theorem rt_cmp {op : CmpOp} {f : F2} (ho : Op T X (compareOp op) f) (ha : PEA T E X a sa) (hb : PEA T E X b sb) (hm : behindInMarks op b = false) : PTA T E X (.Compare a [op] [b] pos) (sBool (sOp2 f sa sb)) := by
  obtain ⟨r, h1, h2⟩ := ho
  refine PT_imp (zhF h1 ha hb hm) fun σ H Q q => two (E := E) (Q := fun x H' => ∃ k, x = V.bl k /\ Q k H') h2 ?_
  obtain ⟨ι, h, en, S, er, q⟩ := q
  refine ⟨ι, h, en, S, er, q.bind fun x h1 ι1 H1 u g1 S1 r1 q1 => ?_⟩
  split at q1
  . rw [bl_rd r1]
    exact ⟨_, rfl, q1.now S1 rfl⟩
  . exact q1.elim
theorem three {f f' : F2} {r r' : R2} (hs : OpS T f r) (hs' : OpS T f' r') {σ : St} {H : Hp} {Q : VK} (q : tE T E (sChain f f' sa sb sc) σ H Q) : tChain r r' (tE T E sa) (tE T E sb) (tE T E sc) σ H Q := by
  obtain ⟨ι, h, en, S, er, q⟩ := q
  refine ⟨ι, h, en, S, er, q.bind fun x h1 ι1 H1 u g1 S1 r1 q1 => ⟨ι1, h1, en, S1, er.mono g1, q1.bind fun y h2 ι2 H2 w g2 S2 r2 q2 => ?_⟩⟩
  refine hs ι2 h2 H2 x y u w (E σ) _ S2 (r1.mono g2) r2 (q2.bind fun z h3 ι3 H3 k g3 S3 r3 q3 => ?_)
  split at q3
  . rename_i kk
    rw [bl_rd r3]
    refine ⟨kk, rfl, ?_⟩
    by_cases hkk : kk = true
    . rw [if_pos hkk] at q3 ⊢
      refine ⟨ι3, h3, en, S3, er.mono (g1.trans (g2.trans g3)), q3.bind fun v h4 ι4 H4 j g4 S4 r4 q4 => ?_⟩
      exact hs' ι4 h4 H4 y v w j _ Q S4 (r2.mono (g3.trans g4)) r4 q4
    . rw [if_neg hkk] at q3 ⊢
      exact q3.now S3 (.bl _)
  . exact q3.elim
theorem zc1 {op op' : CmpOp} {f f' : F2} (ho : Op T X (compareOp op) f) (ho' : Op T X (compareOp op') f') (ha : PEA T E X a sa) (hb : PEA T E X b sb) (hc : PEA T E X c sc) (hm : lastMarks [op, op'] [b, c] = false := by with_unfolding_all rfl) :
    PEA T E X (.Compare a [op, op'] [b, c] pos) (sChain f f' sa sb sc) := by
  obtain ⟨r, h1, h2⟩ := ho
  obtain ⟨r', h1', h2'⟩ := ho'
  exact PE_imp (zgF h1 h1' ha hb hc hm) fun σ H Q q => three h2 h2' q
theorem zbt {op op' : CmpOp} {f f' : F2} (ho : Op T X (compareOp op) f) (ho' : Op T X (compareOp op') f') (ha : PEA T E X a sa) (hb : PEA T E X b sb) (hc : PEA T E X c sc) (hm : lastMarks [op, op'] [b, c] = false := by with_unfolding_all rfl) :
    PTA T E X (.Compare a [op, op'] [b, c] pos) (sBool (sChain f f' sa sb sc)) := by
  obtain ⟨r, h1, h2⟩ := ho
  obtain ⟨r', h1', h2'⟩ := ho'
  refine PT_imp (zgG h1 h1' ha hb hc hm) fun σ H Q q => three (E := E) (Q := fun x H' => ∃ k, x = V.bl k /\ Q k H') h2 h2' ?_
  obtain ⟨ι, h, en, S, er, q⟩ := q
  refine ⟨ι, h, en, S, er, q.bind fun x h1 ι1 H1 u g1 S1 r1 q1 => ?_⟩
  split at q1
  . rw [bl_rd r1]
    exact ⟨_, rfl, q1.now S1 rfl⟩
  . exact q1.elim
theorem tru_of {ι : Ix} {h : AH} {H : Hp} {v : AV} {u : V} {k : Bool} (S : Sim T ι h H) (r : RV T ι H v u) (e : truA v h = some k) : TruV T.K u H k := by
  unfold truA at e
  cases r with
  | non => cases e; rfl
  | bl b => cases e; rfl
  | int b => cases e; rfl
  | str n o => cases e; exact ⟨n, rfl⟩
  | tup n q r => cases e; exact .inr (.inl ⟨_, .of q, by cases r <;> rfl⟩)
  | fl n q r => cases e; exact .inl ⟨_, .inl q, by cases r <;> rfl⟩
  | kfl q r => cases e; exact .inl ⟨_, .inr q, by cases r <;> rfl⟩
  | @ref n a q =>
    dsimp only at e
    split at e
    . rename_i xs hk
      cases e
      obtain ⟨u, e1, us, rfl, r⟩ := S.obj n _ a hk q
      exact .inl ⟨us, .inl (.inl e1), by cases r <;> rfl⟩
    . rename_i xs hk
      cases e
      obtain ⟨u, e1, us, rfl, r⟩ := S.obj n _ a hk q
      exact .inr (.inr ⟨us, e1, by cases r <;> rfl⟩)
    . cases e
  | exc _ _ _ => cases e
theorem zaJ (hK : X.K = T.K) (ha : PEA T E X a sa) (he : ∀ whole, isTrue a X.env whole = (do let v <- whole; standAt a.pos; holding [v] (truthy v)) := by intro _; rfl) : PTA T E X a (sTest sa) :=
  PT_imp (zgH ha he) fun σ H Q ⟨ι, h, en, S, er, q⟩ => ⟨ι, h, en, S, er, q.bind fun x h1 ι1 H1 u g1 S1 r1 q1 => by
    split at q1
    . rename_i b hb
      exact ⟨b, hK ▸ tru_of S1 r1 hb, q1.now S1 rfl⟩
    . exact q1.elim⟩
variable {ca cb : SB} {rest : List Expr}
theorem rt_not (ha : PTA T E X a ca) : PTA T E X (.UnaryOp .Not a pos) (sNot ca) :=
  PT_imp (pt_not ha) fun σ H Q ⟨ι, h, en, S, er, q⟩ => ⟨ι, h, en, S, er, q.bind fun x h1 ι1 H1 u g1 S1 r1 q1 => by subst r1; exact q1.now S1 rfl⟩
theorem rt_w (h : PWA T E X a ca) : PTA T E X a ca := PW.pt h
theorem zbi (ha : PTA T E X a ca) : PWA T E X (.BoolOp .And [a] pos) ca := zhA ha
theorem rt_or1 (ha : PTA T E X a ca) : PWA T E X (.BoolOp .Or [a] pos) ca := pw_or1 ha
theorem rt_and (ha : PTA T E X a ca) (hb : PWA T E X (.BoolOp .And (b :: rest) pos) cb) : PWA T E X (.BoolOp .And (a :: b :: rest) pos) (sAnd ca cb) :=
  PW_imp (pw_and ha hb) fun σ H Q ⟨ι, h, en, S, er, q⟩ => ⟨ι, h, en, S, er, q.bind fun x h1 ι1 H1 u g1 S1 r1 q1 => by
    subst r1
    by_cases hx : x = true
    . rw [if_pos hx] at q1 ⊢
      exact ⟨ι1, h1, en, S1, er.mono g1, q1⟩
    . rw [if_neg hx] at q1 ⊢
      exact q1.now S1 rfl⟩
theorem rt_or (ha : PTA T E X a ca) (hb : PWA T E X (.BoolOp .Or (b :: rest) pos) cb) : PWA T E X (.BoolOp .Or (a :: b :: rest) pos) (sOr ca cb) :=
  PW_imp (pw_or ha hb) fun σ H Q ⟨ι, h, en, S, er, q⟩ => ⟨ι, h, en, S, er, q.bind fun x h1 ι1 H1 u g1 S1 r1 q1 => by
    subst r1
    by_cases hx : x = true
    . rw [if_pos hx] at q1 ⊢
      exact q1.now S1 rfl
    . rw [if_neg hx] at q1 ⊢
      exact ⟨ι1, h1, en, S1, er.mono g1, q1⟩⟩
theorem r_one {op} (h : PEA T E X a sa) : PEA T E X (.BoolOp op [a] pos) sa := pe_one h
theorem r_and (ha : PEA T E X a sa) (hb : PEA T E X (.BoolOp .And (b :: rest) pos) sb) : PEA T E X (.BoolOp .And (a :: b :: rest) pos) (sAndV sa sb) :=
  PE_imp (pe_and ha hb) fun σ H Q ⟨ι, h, en, S, er, q⟩ => ⟨ι, h, en, S, er, q.bind fun x h1 ι1 H1 u g1 S1 r1 q1 => by
    split at q1
    . rename_i kk
      rw [bl_rd r1]
      refine ⟨kk, rfl, ?_⟩
      by_cases hkk : kk = true
      . rw [if_pos hkk] at q1 ⊢
        exact ⟨ι1, h1, en, S1, er.mono g1, q1⟩
      . rw [if_neg hkk] at q1 ⊢
        exact q1.now S1 (.bl _)
    . exact q1.elim⟩
theorem r_or (ha : PEA T E X a sa) (hb : PEA T E X (.BoolOp .Or (b :: rest) pos) sb) : PEA T E X (.BoolOp .Or (a :: b :: rest) pos) (sOrV sa sb) :=
  PE_imp (pe_or ha hb) fun σ H Q ⟨ι, h, en, S, er, q⟩ => ⟨ι, h, en, S, er, q.bind fun x h1 ι1 H1 u g1 S1 r1 q1 => by
    split at q1
    . rename_i kk
      rw [bl_rd r1]
      refine ⟨kk, rfl, ?_⟩
      by_cases hkk : kk = true
      . rw [if_pos hkk] at q1 ⊢
        exact q1.now S1 (.bl _)
      . rw [if_neg hkk] at q1 ⊢
        exact ⟨ι1, h1, en, S1, er.mono g1, q1⟩
    . exact q1.elim⟩
theorem r_not (ha : PEA T E X a sa) : PEA T E X (.UnaryOp .Not a pos) (sNotV sa) :=
  PE_imp (pe_not ha) fun σ H Q ⟨ι, h, en, S, er, q⟩ => ⟨ι, h, en, S, er, q.bind fun x h1 ι1 H1 u g1 S1 r1 q1 => by
    split at q1
    . rw [bl_rd r1]
      exact ⟨_, rfl, q1.now S1 (.bl _)⟩
    . exact q1.elim⟩
variable {es : List Expr} {as : SL}
theorem ra_nil : PAA T E X [] sNil := PA_imp pa_nil fun σ H Q ⟨ι, h, en, S, er, q⟩ => q.now S .nil
theorem zaa (ha : PEA T E X a sa) (hr : PAA T E X es as) (hs : starEach (a :: es) X.env = (false, eval a X.env) :: starEach es X.env := by rfl) : PAA T E X (a :: es) (sCons sa as) :=
  PA_imp (zcX ha hr hs) fun σ H Q ⟨ι, h, en, S, er, q⟩ => ⟨ι, h, en, S, er, q.bind fun x h1 ι1 H1 u g1 S1 r1 q1 => ⟨ι1, h1, en, S1, er.mono g1, q1.bind fun xs h2 ι2 H2 us g2 S2 r2 q2 => q2.now S2 (.cons (r1.mono g2) r2)⟩⟩
theorem r_tup {k} (h : PAA T E X es as) : PEA T E X (.Tuple es k pos) (sTup as) :=
  PE_imp (pe_tup h) fun σ H Q ⟨ι, h, en, S, er, q⟩ => ⟨ι, h, en, S, er, q.bind fun xs h1 ι1 H1 us g1 S1 r1 q1 => by
    split at q1
    . rename_i hl
      exact ⟨by rw [<- r1.length]; exact Nat.le_trans hl (by decide), fun p n => zc0 S1 r1 n q1⟩
    . exact q1.elim⟩
theorem r_lst (h : PAA T E X es as) : PEA T E X (.List es pos) (sLst as) :=
  PE_imp (pe_lst h) fun σ H Q ⟨ι, h, en, S, er, q⟩ => ⟨ι, h, en, S, er, q.bind fun xs h1 ι1 H1 us g1 S1 r1 q1 => by
    split at q1
    . rename_i hl
      exact ⟨by rw [<- r1.length]; exact Nat.le_trans hl (by decide), fun p n => new_fl S1 r1 n q1⟩
    . exact q1.elim⟩
theorem r_lstM (h : PAA T E X es as) : PEA T E X (.List es pos) (sLstM as) :=
  PE_imp (pe_lst h) fun σ H Q ⟨ι, h, en, S, er, q⟩ => ⟨ι, h, en, S, er, q.bind fun xs h1 ι1 H1 us g1 S1 r1 q1 => by
    split at q1
    . rename_i hl
      exact ⟨by rw [<- r1.length]; exact Nat.le_trans hl (by decide), fun p n => zeP S1 r1 n q1⟩
    . exact q1.elim⟩
theorem zh0 : PEA T E X (.Dict [] [] pos) (sDict false) :=
  PE_imp zgS fun σ H Q ⟨ι, h, en, S, er, q⟩ p n => q _ _ _ (S.growAdd n) (S.add n ⟨[], rfl, .nil⟩) (.ref S.addAt)
theorem zh1 : PEA T E X (.Dict [] [] pos) (sDict true) :=
  PE_imp zgT fun σ H Q ⟨ι, h, en, S, er, q⟩ p n => q _ _ _ (S.growAdd n) (S.add n ⟨[], rfl, .nil⟩) (.ref S.addAt)
end
end Sm

namespace Sm
open PySem L2
section
variable {T : Tb} {E : St -> XK} {X : Cx} {pos : Pos} {a b : Expr} {sa sb : SE} {ca : SB} {st : Stmt} {sts ss1 ss2 : List Stmt} {s1 s2 : SS}
theorem rs_nil : PSsA T E X [] sNext := zeO zhB fun D σ H ⟨ι, h, en, S, er, q⟩ => q ι H σ S.refl S er
theorem zab (h1 : PSA T E X st s1) (h2 : PSsA T E X sts s2) : PSsA T E X (st :: sts) (sSeq s1 s2) :=
  zeO (zgC h1 h2) fun D σ H ⟨ι, h, en, S, er, q⟩ => by
    refine ⟨ι, h, en, S, er, ?_⟩
    unfold sSeq at q
    cases e : s1 en h with
    | nx e1 h1 =>
      rw [e] at q
      exact fun ι' H' σ' g S' er' => ⟨ι', h1, e1, S', er', q.shift g⟩
    | rt v h1 => rw [e] at q; exact q
    | bk e1 h1 => rw [e] at q; exact q
    | ct e1 h1 => rw [e] at q; exact q
    | ex c e1 h1 => rw [e] at q; exact q
    | bad => rw [e] at q; exact q
theorem rs_one (h1 : PSA T E X st s1) : PSsA T E X [st] s1 := zhC h1
theorem r_expr (ha : PEA T E X a sa) (hs : swapsWith a none pos.line X.env = pure false := by rfl) : PSA T E X (.Expr a pos) (sExpr sa) :=
  PS_imp (zhD ha hs) fun D σ H ⟨ι, h, en, S, er, q⟩ => ⟨ι, h, en, S, er, q.go er fun v h1 ι1 H1 u g1 S1 r1 q1 => q1 ι1 H1 σ S1.refl S1 (er.mono g1)⟩
theorem r_ret (ha : PEA T E X a sa) : PSA T E X (.Return (some a) pos) (sRet sa) :=
  PS_imp (ps_ret ha) fun D σ H ⟨ι, h, en, S, er, q⟩ => ⟨ι, h, en, S, er, q.go er fun v h1 ι1 H1 u g1 S1 r1 q1 => q1 ι1 H1 u S1.refl S1 r1⟩
theorem r_if (hc : PTA T E X a ca) (h1 : PSsA T E X ss1 s1) (h2 : PSsA T E X ss2 s2) : PSA T E X (.If a ss1 ss2 pos) (sIf ca s1 s2) :=
  PS_imp (ps_if hc h1 h2) fun D σ H ⟨ι, h, en, S, er, q⟩ => ⟨ι, h, en, S, er, q.go er fun x h1 ι1 H1 u g1 S1 r1 q1 => by
    subst r1
    by_cases hx : x = true
    . rw [if_pos hx] at q1 ⊢
      exact ⟨ι1, h1, en, S1, er.mono g1, q1⟩
    . rw [if_neg hx] at q1 ⊢
      exact ⟨ι1, h1, en, S1, er.mono g1, q1⟩⟩
theorem set_go {σ : St} {H : Hp} {D : Ends} {i : Nat} (q : tS T E (sSet i sa) D σ H) : tAsg (tE T E sa) (gName i) D σ H := by
  obtain ⟨ι, h, en, S, er, q⟩ := q
  exact ⟨ι, h, en, S, er, q.go er fun v h1 ι1 H1 u g1 S1 r1 q1 => q1 ι1 H1 _ S1.refl S1 ((er.mono g1).set r1 i)⟩
theorem r_set {i : Nat} {x : Str} {p' : Pos} (hN : X.N.Nodup) (ha : PEA T E X a sa) (hi : X.N[i]? = some x := by rfl) (hx : Loc X.env.scope x := by first | exact Or.inl rfl | exact Or.inr rfl) (hs : swapsWith a (some (.Name x p')) pos.line X.env = pure false := by rfl)
    (hf : X.fn x = true \/ X.env.scope.names.lookup x = some .local := by first | exact .inl rfl | exact .inr rfl | assumption) : PSA T E X (.Assign [.Name x p'] a pos) (sSet i sa) :=
  PS_imp (ps_set hN hi hx ha hs hf) fun D σ H q => set_go q
theorem zeS (n : Nat) (hc : PTA T EN X.nox a ca) (hb : PSsA T EN X.nox sts s1) : PSA T E X (.While a sts [] pos) (sWhile ca s1 n) :=
  PS_imp (PS_nox (zgD PassesOwn.never hc hb)) fun D σ H ⟨ι, h, en, S, er, q⟩ => by
    refine ⟨fun m σ H => ∃ ι h en, Sim T ι h H /\ ER T ι H en σ /\ PostS T ι H E (sWhile ca s1 m en h) D, ⟨n, ι, h, en, S, er, q⟩, ?_⟩
    rintro m σ H ⟨ι, h, en, S, er, q⟩
    cases m with
    | zero => exact (show False from q).elim
    | succ m =>
      unfold sWhile at q
      refine ⟨ι, h, en, S, er, ?_⟩
      cases e : ca en h with
      | bad => rw [e] at q; exact q
      | ex c h1 => rw [e] at q; exact (show False from q).elim
      | ok x h1 =>
        rw [e] at q
        intro ι1 H1 u g1 S1 r1
        subst r1
        have q1 := PostS.shift q g1
        cases x with
        | true =>
          rw [if_pos rfl]
          refine ⟨fun σ H => ∃ ι h en, Sim T ι h H /\ ER T ι H en σ /\ PostS T ι H E (sWhile ca s1 m en h) D, fun σ' H' w => ⟨m, Nat.lt_succ_self m, w⟩, ι1, h1, en, S1, er.mono g1, ?_⟩
          dsimp only at q1
          cases e2 : s1 en h1 with
          | nx e3 h3 => rw [e2] at q1; exact fun ι2 H2 σ2 g2 S2 er2 => ⟨ι2, h3, e3, S2, er2, q1.shift g2⟩
          | ct e3 h3 => rw [e2] at q1; exact fun ι2 H2 σ2 g2 S2 er2 => ⟨ι2, h3, e3, S2, er2, q1.shift g2⟩
          | bk e3 h3 => rw [e2] at q1; exact q1
          | rt v h3 => rw [e2] at q1; exact q1
          | ex c e3 h3 => rw [e2] at q1; exact (show False from q1).elim
          | bad => rw [e2] at q1; exact q1
        | false =>
          rw [if_neg Bool.false_ne_true]
          exact q1 ι1 H1 σ S1.refl S1 (er.mono g1)
theorem zdq {ι : Ix} {H : Hp} : ∀ {is : List Nat} {xs : List AV} {us : List V} {en e : En} {σ : St}, RVs T ι H xs us -> ER T ι H en σ -> setAll is xs en = some e -> ER T ι H e ((is.zip us).foldl (fun σ p => σ.set p.1 (some p.2)) σ) /\ us.length = is.length
  | [], _, _, en, e, σ, .nil, er, q => by cases q; exact ⟨er, rfl⟩
  | i :: is, _, _, en, e, σ, .cons r rs, er, q => by
    obtain ⟨h1, h2⟩ := zdq (is := is) rs (er.set r i) q
    exact ⟨h1, by simp [h2]⟩
  | [], _, _, en, e, σ, .cons r rs, er, q => by cases q
  | i :: is, _, _, en, e, σ, .nil, er, q => by cases q
def PGA (T : Tb) (X : Cx) (tg : Expr) (t : Tg) : Prop := ∃ g, PG X tg g /\ ∀ {ι : Ix} {h : AH} {H : Hp} {en e : En} {σ : St} {v : AV} {u : V} {Q : St -> Hp -> Prop}, Sim T ι h H -> ER T ι H en σ -> RV T ι H v u -> setT t v en = some e ->
  (∀ σ', ER T ι H e σ' -> Q σ' H) -> g u σ H Q
theorem zb3 {i : Nat} {x : Str} (hN : X.N.Nodup) (hi : X.N[i]? = some x := by rfl) (hx : Loc X.env.scope x := by first | exact Or.inl rfl | exact Or.inr rfl) (hf : X.fn x = true \/ X.env.scope.names.lookup x = some .local := by first | exact .inl rfl | exact .inr rfl | assumption) :
    PGA T X (.Name x pos) (.nm i) := ⟨_, zb0 hN hi hx hf, fun S er r e k => by cases e; exact k _ (er.set r i)⟩
def PGsA (X : Cx) (es : List Expr) (is : List Nat) : Prop := PGs X es (fun vs σ H Q => vs.length = is.length /\ Q ((is.zip vs).foldl (fun σ p => σ.set p.1 (some p.2)) σ) H)
theorem zeT {X : Cx} {es : List Expr} {t t' : TGs} (h : PGs X es t) (k : ∀ vs σ H Q, t' vs σ H Q -> t vs σ H Q) : PGs X es t' := fun pins s σ H vs us Q I r q => h pins s σ H vs us Q I r (k vs σ H Q q)
theorem zaW : PGsA X [] [] := zeT zeC fun vs σ H Q ⟨l, q⟩ => by
  cases vs with
  | nil => exact ⟨rfl, q⟩
  | cons => cases l
theorem zay {i : Nat} {is : List Nat} {x : Str} {p : Pos} {es : List Expr} (hN : X.N.Nodup) (hr : PGsA X es is) (hi : X.N[i]? = some x := by rfl) (hx : Loc X.env.scope x := by first | exact Or.inl rfl | exact Or.inr rfl)
    (hf : X.fn x = true \/ X.env.scope.names.lookup x = some .local := by first | exact .inl rfl | exact .inr rfl | assumption) (hs : (assignEach (.Name x p :: es) X.env).map (·.2) = assign (.Name x p) X.env :: (assignEach es X.env).map (·.2) := by rfl) : PGsA X (.Name x p :: es) (i :: is) :=
  zeT (zcs (zb0 hN hi hx hf) hr hs) fun vs σ H Q ⟨l, q⟩ => by
    cases vs with
    | nil => cases l
    | cons v r => exact ⟨v, r, rfl, Nat.succ.inj l, q⟩
theorem rg_tup {es : List Expr} {is : List Nat} {k : Nat} (hK : X.K = T.K) (hc : X.calm = true) (h : PGsA X es is) (hn : (assignEach es X.env).length = is.length := by rfl) (hst : (assignEach es X.env).findIdx? (·.1) = none := by rfl) : PGA T X (.Tuple es k pos) (.tup is) :=
  ⟨_, pg_tup hc h hn hst, fun {ι h H en e σ v u Q} S er r q k => by
    unfold setT at q
    split at q
    . rename_i hh; cases hh
    . rename_i hh
      cases hh
      obtain ⟨a, us, rfl, q1, r1⟩ := tup_rd r
      obtain ⟨h1, h2⟩ := zdq r1 er q
      exact ⟨a, us, rfl, hK ▸ q1, h2, h2, k _ h1⟩
    . rename_i hh; cases hh
    . cases q⟩
theorem r_setT {tg : Expr} {t : Tg} (ha : PEA T E X a sa) (hg : PGA T X tg t) (hs : swapsWithSole [tg] a pos.line X.env = pure false := by rfl) (hw : swappedStores [tg] a X.env = pure none := by rfl)
    (h1 : (assignEach [tg] X.env).map (·.2) = [assign tg X.env] := by rfl) : PSA T E X (.Assign [tg] a pos) (sSetT t sa) := by
  obtain ⟨g, hg1, hg2⟩ := hg
  refine PS_imp (ps_asg ha hg1 hs hw h1) fun D σ H ⟨ι, h, en, S, er, q⟩ => ⟨ι, h, en, S, er, q.go er fun v h1 ι1 H1 u g1 S1 r1 q1 => ?_⟩
  split at q1
  . rename_i e he
    exact hg2 S1 (er.mono g1) r1 he fun σ' er' => q1 ι1 H1 σ' S1.refl S1 er'
  . exact q1.elim
structure ItR (T : Tb) (J : It) (ι : Ix) (H : Hp) (xs : List AV) (w : Option Nat) : Prop where
  go : ∀ (i : Nat) (ι' : Ix) (h' : AH) (H' : Hp) (x : AV), Ext ι H ι' H' -> Sim T ι' h' H' -> liveB w xs h' = true -> xs[i]? = some x -> J.go i H' /\ ∀ u H2, J.yld i H' u H2 -> Grow ι' H' ι' H2 /\ Sim T ι' h' H2 /\ RV T ι' H2 x u
  stop : ∀ (i : Nat) (ι' : Ix) (h' : AH) (H' : Hp), Ext ι H ι' H' -> Sim T ι' h' H' -> liveB w xs h' = true -> xs.length <= i -> J.stop i H'
def tI (T : Tb) (it : SI) : TI := fun σ H R => ∃ ι h en, Sim T ι h H /\ ER T ι H en σ /\ match it en h with
  | .ok (xs, w) h' => ∀ ι' H' J, Grow ι H ι' H' -> Sim T ι' h' H' -> ItR T J ι' H' xs w -> R J H'
  | _ => False
abbrev PIA (T : Tb) (X : Cx) (tg iter : Expr) (it : SI) : Prop := PI X tg iter (tI T it)
theorem PI_imp {X : Cx} {tg iter : Expr} {t t' : TI} (h : PI X tg iter t) (k : ∀ σ H R, t' σ H R -> t σ H R) : PI X tg iter t' := fun pins s σ H R I q => h pins s σ H R I (k σ H R q)
theorem PI.or {X : Cx} {tg iter : Expr} {t t' : TI} (h : PI X tg iter t) (h' : PI X tg iter t') : PI X tg iter (fun σ H R => t σ H R \/ t' σ H R) := fun pins s σ H R I q => q.elim (h pins s σ H R I) (h' pins s σ H R I)
theorem itR_rd {ι : Ix} {H : Hp} {a : Addr} {us : List V} {xs : List AV} {K : PySem.W.Frag} (keep : ∀ (ι' : Ix) (H' : Hp), Ext ι H ι' H' -> SqL K H' a us) (r : RVs T ι H xs us) : ItR T (Itl K a) ι H xs none := by
  constructor
  . intro i ι' h' H' x g S _ e
    obtain ⟨u, e1, r1⟩ := (r.ext g).get e
    refine ⟨⟨us, u, keep ι' H' g, e1⟩, ?_⟩
    rintro u2 H2 ⟨rfl, y⟩
    have z := y us (keep ι' _ g)
    rw [e1] at z; cases z
    exact ⟨S.refl, S, r1⟩
  . intro i ι' h' H' g S _ hl
    exact ⟨us, keep ι' H' g, by rw [<- r.length]; exact hl⟩
theorem itT_rd {ι : Ix} {H : Hp} {a : Addr} {us : List V} {xs : List AV} {K : PySem.W.Frag} (keep : ∀ (ι' : Ix) (H' : Hp), Ext ι H ι' H' -> SqT K H' a us) (r : RVs T ι H xs us) : ItR T (Itt K a) ι H xs none := by
  constructor
  . intro i ι' h' H' x g S _ e
    obtain ⟨u, e1, r1⟩ := (r.ext g).get e
    refine ⟨⟨us, u, keep ι' H' g, e1⟩, ?_⟩
    rintro u2 H2 ⟨rfl, y⟩
    have z := y us (keep ι' _ g)
    rw [e1] at z; cases z
    exact ⟨S.refl, S, r1⟩
  . intro i ι' h' H' g S _ hl
    exact ⟨us, keep ι' H' g, by rw [<- r.length]; exact hl⟩
theorem zh2 {ι : Ix} {H : Hp} {a : Addr} {n : Nat} {xs : List AV} {K : PySem.W.Frag} (e : ι.refs[n]? = some a) : ItR T (Itl K a) ι H xs (some n) := by
  have at_ : ∀ {ι' : Ix} {h' : AH} {H' : Hp}, Ext ι H ι' H' -> Sim T ι' h' H' -> liveB (some n) xs h' = true -> ∃ us, H' a = some (.lst us) /\ RVs T ι' H' xs us := fun {ι' h' H'} g S l => by
    unfold liveB at l
    dsimp only at l
    split at l
    . rename_i ys hy
      have z := of_decide_eq_true l
      subst z
      obtain ⟨u, e1, us, rfl, r⟩ := S.obj n _ a hy (g.at_ e)
      exact ⟨us, e1, r⟩
    . cases l
  constructor
  . intro i ι' h' H' x g S l e
    obtain ⟨us, e0, r⟩ := at_ g S l
    obtain ⟨u, e1, r1⟩ := r.get e
    refine ⟨⟨us, u, .of e0, e1⟩, ?_⟩
    rintro u2 H2 ⟨rfl, y⟩
    have z := y us (.of e0)
    rw [e1] at z; cases z
    exact ⟨S.refl, S, r1⟩
  . intro i ι' h' H' g S l hl
    obtain ⟨us, e0, r⟩ := at_ g S l
    exact ⟨us, .of e0, by rw [<- r.length]; exact hl⟩
theorem zh3 {ι : Ix} {H : Hp} {x : Str} (o : x.cps.all (· < 0x110000) = true) : ItR T (Its x) ι H (x.cps.toList.map fun c => .str ⟨#[c]⟩) none := by
  constructor
  . intro i ι' h' H' y g S _ e
    rw [List.getElem?_map] at e
    obtain ⟨c, e1, rfl⟩ := Option.map_eq_some_iff.mp e
    have hi : i < x.cps.size := by
      have := (List.getElem?_eq_some_iff.mp e1).1
      simpa using this
    refine ⟨hi, ?_⟩
    rintro u H2 ⟨rfl, c', e2, rfl⟩
    have z : x.cps[i]? = some c := by simpa using e1
    rw [e2] at z; cases z
    refine ⟨S.refl, S, .str (show 1 <= sizeLine by decide) ?_⟩
    have m := Array.mem_of_getElem? e2
    have := Array.all_eq_true_iff_forall_mem.mp o _ m
    simpa using this
  . intro i ι' h' H' g S _ hl
    show x.cps.size <= i
    simpa using hl
theorem zfD (n : Nat) : ∀ (lo : Int) (i : Nat), (rangeA lo n)[i]? = if i < n then some (.int (lo + i)) else none := by
  induction n with
  | zero => intro lo i; simp [rangeA]
  | succ n ih =>
    intro lo i
    cases i with
    | zero => simp [rangeA]
    | succ i =>
      show (rangeA (lo + 1) n)[i]? = _
      rw [ih]
      by_cases h : i < n
      . rw [if_pos h, if_pos (by omega)]
        congr 2
        show lo + 1 + (i : Int) = lo + ((i + 1 : Nat) : Int)
        omega
      . rw [if_neg h, if_neg (by omega)]
theorem zdE (n : Nat) : ∀ lo : Int, (rangeA lo n).length = n := by
  induction n with
  | zero => intro lo; rfl
  | succ n ih => intro lo; show (rangeA (lo + 1) n).length + 1 = n + 1; rw [ih]
theorem zgk {ι : Ix} {H : Hp} {lo : Int} {n : Nat} : ItR T (Itr lo n) ι H (rangeA lo n) none := by
  constructor
  . intro i ι' h' H' y g S _ e
    rw [zfD] at e
    split at e
    . rename_i hi
      cases e
      refine ⟨hi, ?_⟩
      rintro u H2 ⟨rfl, rfl⟩
      exact ⟨S.refl, S, .int _⟩
    . cases e
  . intro i ι' h' H' g S _ hl
    rw [zdE] at hl
    exact hl
theorem numbered_get : ∀ (xs : List AV) (k i : Nat), (numbered k xs)[i]? = (xs[i]?).map fun x => .tup [.int ((k + i : Nat) : Int), x]
  | [], k, i => by simp [numbered]
  | x :: xs, k, 0 => by simp [numbered]
  | x :: xs, k, i + 1 => by
    show (numbered (k + 1) xs)[i]? = _
    rw [numbered_get xs (k + 1) i]
    show _ = (xs[i]?).map _
    congr 1
    funext y
    rw [show k + 1 + i = k + (i + 1) by omega]
theorem za8 : ∀ (xs : List AV) (k : Nat), (numbered k xs).length = xs.length
  | [], _ => rfl
  | x :: xs, k => by show (numbered (k + 1) xs).length + 1 = _; rw [za8 xs]; rfl
theorem zdU {ι : Ix} {H : Hp} {a : Addr} {us : List V} {xs : List AV} {K : PySem.W.Frag} (keep : ∀ (ι' : Ix) (H' : Hp), Ext ι H ι' H' -> SqL K H' a us) (r : RVs T ι H xs us) : ItR T (Ite K a) ι H (numbered 0 xs) none := by
  constructor
  . intro i ι' h' H' x g S _ e
    rw [numbered_get] at e
    obtain ⟨y, e0, rfl⟩ := Option.map_eq_some_iff.mp e
    obtain ⟨u, e1, r1⟩ := (r.ext g).get e0
    refine ⟨⟨us, u, keep ι' H' g, e1⟩, ?_⟩
    rintro u2 H2 ⟨t, y2, rfl, hn, rfl, hy⟩
    have z := hy us (keep ι' _ g)
    rw [e1] at z; cases z
    have g2 := S.growNew (o := .tup [.int i, u]) hn
    refine ⟨g2, S.new hn, .tup (S.fresh hn) zam (.cons ?_ (.cons (r1.mono g2) .nil))⟩
    rw [Nat.zero_add]
    exact .int _
  . intro i ι' h' H' g S _ hl
    rw [za8] at hl
    exact ⟨us, keep ι' H' g, by rw [<- r.length]; exact hl⟩
theorem keepL {ι : Ix} {H : Hp} {a : Addr} {us : List V} (n : a ∉ ι.all) (h : Rd H a (.lst us)) : ∀ (ι' : Ix) (H' : Hp), Ext ι H ι' H' -> SqL T.K H' a us := fun _ _ g => .inl (zeN g n h)
theorem keepT {ι : Ix} {H : Hp} {a : Addr} {us : List V} (n : a ∉ ι.all) (h : H a = some (.tup us)) : ∀ (ι' : Ix) (H' : Hp), Ext ι H ι' H' -> SqT T.K H' a us := fun _ _ g => .of (g.keep _ _ n h)
theorem sqL_of {K K' : PySem.W.Frag} {H : Hp} {a : Addr} {us : List V} (e : K = K') (h : SqL K' H a us) : SqL K H a us := e ▸ h
theorem iL_go {σ : St} {H : Hp} {R : It -> Hp -> Prop} {ι : Ix} {h h1 : AH} {en : En} {v : AV} {xs : List AV} {w : Option Nat} (hK : X.K = T.K) (S : Sim T ι h H) (er : ER T ι H en σ) (e : sa en h = .ok v h1) (hv : (v = .fl xs /\ w = none) \/ ∃ n, v = .ref n /\ h1[n]? = some (.lst xs) /\ w = some n)
    (q : ∀ ι' H' J, Grow ι H ι' H' -> Sim T ι' h1 H' -> ItR T J ι' H' xs w -> R J H') : iList X.K (tE T E sa) σ H R := by
  refine ⟨ι, h, en, S, er, ?_⟩
  rw [e]
  intro ι1 H1 u g1 S1 r1
  rcases hv with ⟨rfl, rfl⟩ | ⟨n, rfl, hn, rfl⟩
  . cases r1 with
    | fl n hr rs => exact ⟨_, rfl, ⟨_, sqL_of hK (.inl hr)⟩, q ι1 H1 _ g1 S1 (hK ▸ itR_rd (keepL n hr) rs)⟩
    | kfl hr rs => exact ⟨_, rfl, ⟨_, sqL_of hK (.inr hr)⟩, q ι1 H1 _ g1 S1 (hK ▸ itR_rd (fun _ _ _ => .inr hr) rs)⟩
  . cases r1 with
    | ref hr =>
      obtain ⟨u, e1, us, rfl, rs⟩ := S1.obj n _ _ hn hr
      exact ⟨_, rfl, ⟨_, .of e1⟩, q ι1 H1 _ g1 S1 (zh2 hr)⟩
theorem iT_go {σ : St} {H : Hp} {R : It -> Hp -> Prop} {ι : Ix} {h h1 : AH} {en : En} {xs : List AV} (hK : X.K = T.K) (S : Sim T ι h H) (er : ER T ι H en σ) (e : sa en h = .ok (.tup xs) h1)
    (q : ∀ ι' H' J, Grow ι H ι' H' -> Sim T ι' h1 H' -> ItR T J ι' H' xs none -> R J H') : iTup X.K (tE T E sa) σ H R := by
  refine ⟨ι, h, en, S, er, ?_⟩
  rw [e]
  intro ι1 H1 u g1 S1 r1
  cases r1 with
  | tup n hr rs => exact ⟨_, rfl, ⟨_, .of hr⟩, q ι1 H1 _ g1 S1 (hK ▸ itT_rd (keepT n hr) rs)⟩
theorem zbj {tg : Expr} (hK : X.K = T.K) (ha : PEA T E X a sa) : PIA T X tg a (iValT sa) :=
  PI_imp (PI.or (zeD ha) (pi_tup ha)) fun σ H R ⟨ι, h, en, S, er, q⟩ => by
    unfold iValT at q
    cases e : sa en h with
    | bad => rw [e] at q; exact q.elim
    | ex c h1 => rw [e] at q; exact q.elim
    | ok v h1 =>
      rw [e] at q
      cases v with
      | fl xs => exact .inl (iL_go hK S er e (.inl ⟨rfl, rfl⟩) q)
      | tup xs => exact .inr (iT_go hK S er e q)
      | ref n =>
        dsimp only [Out.bind] at q
        cases e2 : h1[n]? with
        | none => rw [e2] at q; exact q.elim
        | some o =>
          rw [e2] at q
          cases o with
          | lst xs => exact .inl (iL_go hK S er e (.inr ⟨n, rfl, e2, rfl⟩) q)
          | _ => exact q.elim
      | _ => exact q.elim
theorem ri_val {y : Str} {py : Pos} (hK : X.K = T.K) (ha : PEA T E X a sa) : PIA T X (.Name y py) a (iVal sa) :=
  PI_imp (PI.or (zeD ha) (PI.or (pi_tup ha) (pi_str ha))) fun σ H R ⟨ι, h, en, S, er, q⟩ => by
    unfold iVal at q
    cases e : sa en h with
    | bad => rw [e] at q; exact q.elim
    | ex c h1 => rw [e] at q; exact q.elim
    | ok v h1 =>
      rw [e] at q
      cases v with
      | fl xs => exact .inl (iL_go hK S er e (.inl ⟨rfl, rfl⟩) q)
      | tup xs => exact .inr (.inl (iT_go hK S er e q))
      | str z =>
        refine .inr (.inr ⟨ι, h, en, S, er, ?_⟩)
        rw [e]
        intro ι1 H1 u g1 S1 r1
        obtain ⟨rfl, _, o⟩ := str_rd r1
        exact ⟨_, rfl, q ι1 H1 _ g1 S1 (zh3 o)⟩
      | ref n =>
        dsimp only [Out.bind] at q
        cases e2 : h1[n]? with
        | none => rw [e2] at q; exact q.elim
        | some o =>
          rw [e2] at q
          cases o with
          | lst xs => exact .inl (iL_go hK S er e (.inr ⟨n, rfl, e2, rfl⟩) q)
          | _ => exact q.elim
      | _ => exact q.elim
theorem za9 {tg : Expr} {p : Pos} (hg : Gl X "range") (hm : X.mg "range" = none) (ha : PEA T E X a sa) (hs : starEach [a] X.env = [(false, eval a X.env)] := by rfl) : PIA T X tg (.Call (.Name "range" p) [a] [] pos) (iRange1 sa) :=
  PI_imp (zfW hg hm (zaa ha ra_nil hs) hs) fun σ H R ⟨ι, h, en, S, er, q⟩ => by
    unfold iRange1 at q
    refine ⟨ι, h, en, S, er, ?_⟩
    unfold sCons
    cases e : sa en h with
    | bad => rw [e] at q; exact q
    | ex c h1 => rw [e] at q; exact q.elim
    | ok v h1 =>
      rw [e] at q
      intro ι1 H1 u g1 S1 r1
      dsimp only [Out.bind] at q
      cases v with
      | int j =>
        dsimp only at q
        split at q
        . rename_i hx
          split at hx
          . rename_i hb
            cases hx
            cases r1 with
            | cons r r' =>
              cases r'
              rw [int_rd r]
              exact ⟨j, rfl, by omega, by omega, q ι1 H1 _ g1 S1 zgk⟩
          . cases hx
        . exact q.elim
      | _ => exact q.elim
theorem zh4 {p tp : Pos} {es : List Expr} {k : Nat} (hK : X.K = T.K) (hg : Gl X "enumerate") (hm : X.mg "enumerate" = none) (ha : PEA T E X a sa) (hs : starEach [a] X.env = [(false, eval a X.env)] := by rfl) : PIA T X (.Tuple es k tp) (.Call (.Name "enumerate" p) [a] [] pos) (Sm.iEnum sa) :=
  PI_imp (zhS hg hm (zaa ha ra_nil hs) hs) fun σ H R ⟨ι, h, en, S, er, q⟩ => by
    unfold Sm.iEnum at q
    refine ⟨ι, h, en, S, er, ?_⟩
    unfold sCons
    cases e : sa en h with
    | bad => rw [e] at q; exact q
    | ex c h1 => rw [e] at q; exact q.elim
    | ok v h1 =>
      rw [e] at q
      intro ι1 H1 u g1 S1 r1
      dsimp only [Out.bind] at q
      cases v with
      | fl xs =>
        cases r1 with
        | cons r r' =>
          cases r'
          cases r with
          | fl n hr rs => exact ⟨_, rfl, ⟨_, sqL_of hK (.inl hr)⟩, q ι1 H1 _ g1 S1 (hK ▸ zdU (keepL n hr) rs)⟩
          | kfl hr rs => exact ⟨_, rfl, ⟨_, sqL_of hK (.inr hr)⟩, q ι1 H1 _ g1 S1 (hK ▸ zdU (fun _ _ _ => .inr hr) rs)⟩
      | _ => exact q.elim
theorem zbO {α : Type} {xs : List α} {i : Nat} (h : i < xs.length) : xs.drop i = xs[i] :: xs.drop (i + 1) := by simp
theorem r_for {tg iter : Expr} {it : SI} {t : Tg} (hc : X.calm = true) (hi : PIA T X.nox tg iter it) (hg : PGA T X.nox tg t) (hb : PSsA T EN X.nox sts s1) (hs : ∀ x, foldedSetIterable iter X.nox.env x = pure x := by intro _; rfl) :
    PSA T E X (.For tg iter sts [] pos) (sFor it t s1) := by
  obtain ⟨g, hg1, hg2⟩ := hg
  refine PS_imp (PS_nox (ps_for PassesOwn.never hc hi hg1 hb hs)) fun D σ H ⟨ι, h, en, S, er, q⟩ => ⟨ι, h, en, S, er, ?_⟩
  unfold sFor at q
  cases e : it en h with
  | bad => rw [e] at q; exact q
  | ex c h1 => rw [e] at q; exact q
  | ok p h1 =>
    obtain ⟨xs, w⟩ := p
    rw [e] at q
    intro ι1 H1 J g1 S1 IR
    refine ⟨fun i m σ H => m = xs.length - i /\ i <= xs.length /\ ∃ ι' h' en', Grow ι1 H1 ι' H /\ Sim T ι' h' H /\ ER T ι' H en' σ /\ PostS T ι' H E (sForGo w xs t s1 (xs.drop i) en' h') D,
      ⟨xs.length, by simp, Nat.zero_le _, ι1, h1, en, S1.refl, S1, er.mono g1, PostS.shift q g1⟩, ?_⟩
    rintro i m σ H ⟨rfl, hi, ι', h', en', g', S', er', q'⟩
    by_cases hl : i < xs.length
    . rw [zbO hl] at q'
      unfold sForGo at q'
      split at q'
      . rename_i hlive
        obtain ⟨go, yld⟩ := IR.go i ι' h' H xs[i] g'.ext S' hlive (by simp [hl])
        refine .inr ⟨go, fun σ H => ∃ ι' h' en', Grow ι1 H1 ι' H /\ Sim T ι' h' H /\ ER T ι' H en' σ /\ PostS T ι' H E (sForGo w xs t s1 (xs.drop (i + 1)) en' h') D,
          fun σ' H' w' => ⟨xs.length - (i + 1), by omega, rfl, hl, w'⟩, fun x H' y => ?_⟩
        obtain ⟨g2, S2, r2⟩ := yld x H' y
        split at q'
        . rename_i e1 he1
          refine hg2 S2 (er'.mono g2) r2 he1 fun σ' er2 => ⟨ι', h', e1, S2, er2, ?_⟩
          have q2 := PostS.shift q' g2
          cases e2 : s1 e1 h' with
          | nx e3 h3 => rw [e2] at q2; exact fun ι3 H3 σ3 g3 S3 er3 => ⟨ι3, h3, e3, g'.trans (g2.trans g3), S3, er3, q2.shift g3⟩
          | ct e3 h3 => rw [e2] at q2; exact fun ι3 H3 σ3 g3 S3 er3 => ⟨ι3, h3, e3, g'.trans (g2.trans g3), S3, er3, q2.shift g3⟩
          | bk e3 h3 => rw [e2] at q2; exact q2
          | rt v h3 => rw [e2] at q2; exact q2
          | ex c e3 h3 => rw [e2] at q2; exact (show False from q2).elim
          | bad => rw [e2] at q2; exact q2
        . exact (show False from q').elim
      . exact (show False from q').elim
    . have ei : i = xs.length := by omega
      subst ei
      rw [List.drop_length] at q'
      unfold sForGo at q'
      split at q'
      . rename_i hlive
        exact .inl ⟨IR.stop _ ι' h' H g'.ext S' hlive (Nat.le_refl _), q' ι' H σ S'.refl S' er'⟩
      . exact (show False from q').elim
theorem ER.comp {ι : Ix} {H : Hp} {en : En} {σ : St} {x : AV} {u : V} {jf : List (Nat × Str)} (er : ER T ι H en σ) (r : RV T ι H x u) : ER T ι H (some x :: (jf.map (·.1)).map fun j => (en[j]?).join) (compSt (some u) jf σ) := by
  refine ⟨by simp [compSt], fun i v e => ?_⟩
  cases i with
  | zero => simp at e; subst e; exact ⟨u, rfl, r⟩
  | succ i =>
    simp only [List.getElem?_cons_succ, List.getElem?_map] at e
    unfold compSt
    simp only [List.getElem?_cons_succ, List.getElem?_map]
    cases e1 : jf[i]? with
    | none => rw [e1] at e; cases e
    | some j =>
      rw [e1] at e
      simp only [Option.map_some, Option.some.injEq] at e
      have e2 : en[j.1]? = some (some v) := by
        cases e3 : en[j.1]? with
        | none => rw [e3] at e; cases e
        | some o => rw [e3] at e; exact congrArg some e
      obtain ⟨u', e4, r'⟩ := er.2 j.1 v e2
      exact ⟨u', by simp [e4], r'⟩
theorem zeU {jf : List (Nat × Str)} {it : SI} {cc : SB} {ce : SE} {σ : St} {H : Hp} {Q : VK} {ι : Ix} {h : AH} {en : En} (S : Sim T ι h H) (er : ER T ι H en σ)
    (q : match it en h with | .ok (xs, w) h1 => (match sCompGo (jf.map (·.1)) en w xs cc ce xs [] h1 with | .ok ys h2 => ∀ ι' H' D vs, Grow ι H ι' H' -> Sim T (ι'.hide D) h2 H' -> RVs T (ι'.hide D) H' ys vs -> H' D = some (.lst vs) -> D ∉ ι'.all -> (∀ n, ι'.refs = ι.refs ++ n -> ∀ a ∈ n ++ [D], H a = none) -> Q (.ref D) H' | _ => False) | _ => False) :
    tComp jf (tI T it) (tT T EN cc) (tE T EN ce) σ H Q := by
  refine ⟨ι, h, en, S, er, ?_⟩
  cases e : it en h with
  | bad => rw [e] at q; exact q
  | ex c h1 => rw [e] at q; exact q
  | ok p h1 =>
    obtain ⟨xs, w⟩ := p
    rw [e] at q
    dsimp only at q
    intro ι1 H1 J g1 S1 IR D hD
    refine ⟨fun i m ys H2 => m = xs.length - i /\ i <= xs.length /\ H2 D = some (.lst ys) /\ ∃ ι' h' vs, Grow ι1 H1 ι' H2 /\ Ext ι1 H1 (ι'.hide D) H2 /\ Sim T (ι'.hide D) h' H2 /\ ER T (ι'.hide D) H2 en σ /\ RVs T (ι'.hide D) H2 vs ys /\ D ∉ ι'.refs /\
      (match sCompGo (jf.map (·.1)) en w xs cc ce (xs.drop i) vs h' with | .ok ys h2 => ∀ ι' H' D vs, Grow ι H ι' H' -> Sim T (ι'.hide D) h2 H' -> RVs T (ι'.hide D) H' ys vs -> H' D = some (.lst vs) -> D ∉ ι'.all -> (∀ n, ι'.refs = ι.refs ++ n -> ∀ a ∈ n ++ [D], H a = none) -> Q (.ref D) H' | _ => False), ?_, ?_⟩
    . exact ⟨xs.length, by simp, Nat.zero_le _, zam, ι1, h1, [], S1.growNew hD, Ext.hide hD, S1.hide hD, (er.mono g1).ext (Ext.hide hD), .nil, fun z => S1.fresh hD (List.mem_append_left _ z), q⟩
    . rintro i m ys H2 ⟨rfl, hi, hH2, ι', h', vs, g', x', S', er', rv', nD', q'⟩
      refine ⟨hH2, ?_⟩
      by_cases hl : i < xs.length
      . rw [zbO hl] at q'
        unfold sCompGo at q'
        by_cases hs : liveB w xs h' = true /\ vs.length < sizeLine
        . rw [if_pos hs] at q'
          obtain ⟨hs1, hs2⟩ := hs
          obtain ⟨go, yld⟩ := IR.go i _ h' H2 xs[i] x' S' hs1 (by simp [hl])
          refine .inr ⟨go, by rw [<- rv'.length]; exact hs2, fun x H3 y => ?_⟩
          obtain ⟨g3, S3, r3⟩ := yld x H3 y
          have er3 := er'.mono g3
          refine ⟨ι'.hide D, h', _, S3, ER.comp er3 r3, ?_⟩
          cases ec : cc (some xs[i] :: (jf.map (·.1)).map fun j => (en[j]?).join) h' with
          | bad => rw [ec] at q'; exact q'
          | ex c h5 => rw [ec] at q'; exact q'.elim
          | ok bb h5 =>
            rw [ec] at q'
            intro ι5 H5 b5 g5 S5 r5
            subst r5
            have g35 := g3.trans g5
            have hD5 : H5 D = some (.lst ys) := g35.keep D _ nD' hH2
            have eι : ι5 = Ix.hide ⟨ι5.refs, ι'.priv⟩ D := by
              have := g5.priv
              cases ι5
              simp only at this
              subst this
              rfl
            have nD5 : D ∉ ι5.refs := g35.outR nD' hH2
            have gG5 : Grow ι1 H1 ⟨ι5.refs, ι'.priv⟩ H5 := by
              obtain ⟨n, en1, hn⟩ := g'.pre
              obtain ⟨k, ek, hk⟩ := g35.pre
              refine ⟨⟨n ++ k, ?_, fun a ha => ?_⟩, g'.priv, fun a o na ea => ?_, fun a ha => ?_⟩
              . show ι5.refs = _; rw [ek]; show ι'.refs ++ k = _; rw [en1]; simp
              . rcases List.mem_append.mp ha with z | z
                . exact hn a z
                . have z2 := hk a z
                  by_cases hr : a ∈ ι1.refs
                  . exact absurd z2 (g'.live a (List.mem_append_left _ hr))
                  . cases e9 : H1 a with
                    | none => rfl
                    | some o => rw [g'.keep a o hr e9] at z2; cases z2
              . exact g35.keep a o (g'.outR na ea) (g'.keep a o na ea)
              . have : a ∈ (ι'.hide D).all := by
                  rcases List.mem_append.mp ha with z | z
                  . exact List.mem_append_left _ (by show a ∈ ι'.refs; rw [en1]; exact List.mem_append_left _ z)
                  . exact List.mem_append_right _ (List.mem_cons_of_mem _ (by rw [g'.priv]; exact z))
                exact g35.live a this
            have x5 : Ext ι1 H1 (Ix.hide ⟨ι5.refs, ι'.priv⟩ D) H5 := eι ▸ x'.trans g35.ext
            have er5 := er3.mono g5
            have rv5 := (rv'.mono g35)
            cases bb with
            | false =>
              rw [if_neg Bool.false_ne_true]
              refine ⟨xs.length - (i + 1), by omega, rfl, hl, hD5, ⟨ι5.refs, ι'.priv⟩, h5, vs, gG5, x5, eι ▸ S5, eι ▸ er5, eι ▸ rv5, nD5, q'⟩
            | true =>
              rw [if_pos rfl]
              refine ⟨ι5, h5, _, S5, (ER.comp er3 r3).mono g5, ?_⟩
              dsimp only at q'
              cases ee : ce (some xs[i] :: (jf.map (·.1)).map fun j => (en[j]?).join) h5 with
              | bad => rw [ee] at q'; exact q'
              | ex c h6 => rw [ee] at q'; exact q'.elim
              | ok v h6 =>
                rw [ee] at q'
                intro ι6 H6 u6 g6 S6 r6
                have g56 := g6
                have hD6 : H6 D = some (.lst ys) := g56.keep D _ nD5 hD5
                have eι6 : ι6 = Ix.hide ⟨ι6.refs, ι'.priv⟩ D := by
                  have h1 := g6.priv
                  have h2 := g5.priv
                  rw [h2] at h1
                  cases ι6
                  simp only at h1
                  subst h1
                  rfl
                have nD6 : D ∉ ι6.refs := g56.outR nD5 hD5
                have gG6 : Grow ι1 H1 ⟨ι6.refs, ι'.priv⟩ (upd H6 D (.lst (ys ++ [u6]))) := by
                  obtain ⟨n, en1, hn⟩ := gG5.pre
                  obtain ⟨k, ek, hk⟩ := g56.pre
                  have hD1 : ∀ a o, H1 a = some o -> a ≠ D := fun a o ea => zan ea hD
                  refine ⟨⟨n ++ k, ?_, fun a ha => ?_⟩, g'.priv, fun a o na ea => ?_, fun a ha => ?_⟩
                  . show ι6.refs = _; rw [ek]; have z : ι5.refs = ι1.refs ++ n := en1; rw [z]; simp
                  . rcases List.mem_append.mp ha with z | z
                    . exact hn a z
                    . have z2 := hk a z
                      by_cases hr : a ∈ ι1.refs
                      . exact absurd z2 (gG5.live a (List.mem_append_left _ hr))
                      . cases e9 : H1 a with
                        | none => rfl
                        | some o => rw [gG5.keep a o hr e9] at z2; cases z2
                  . rw [upd_ne (hD1 a o ea)]
                    exact g56.keep a o (gG5.outR na ea) (gG5.keep a o na ea)
                  . by_cases zD : a = D
                    . subst zD; rw [zam]; simp
                    . rw [upd_ne zD]
                      have : a ∈ ι5.all := by
                        rcases List.mem_append.mp ha with z | z
                        . exact List.mem_append_left _ (by have z' : ι5.refs = ι1.refs ++ n := en1; rw [z']; exact List.mem_append_left _ z)
                        . rw [eι]; exact List.mem_append_right _ (List.mem_cons_of_mem _ (by show a ∈ ι'.priv; rw [g'.priv]; exact z))
                      exact g56.live a this
                refine ⟨hD6, xs.length - (i + 1), by omega, rfl, hl, zam, ⟨ι6.refs, ι'.priv⟩, h6, vs ++ [v], gG6, ?_, ?_, ?_, ?_, nD6, q'⟩
                . exact (eι6 ▸ (x'.trans (g35.ext.trans g6.ext))).trans Ext.poke
                . exact Sim.poke (eι6 ▸ S6) nD6
                . exact ER.ext (eι6 ▸ er5.mono g6) Ext.poke
                . have : RVs T ι6 H6 (vs ++ [v]) (ys ++ [u6]) := (rv5.mono g6).append (.cons r6 .nil)
                  exact RVs.ext Ext.poke (eι6 ▸ this)
        . rw [if_neg hs] at q'; exact q'.elim
      . have ei : i = xs.length := by omega
        subst ei
        rw [List.drop_length] at q'
        unfold sCompGo at q'
        by_cases hs : liveB w xs h' = true
        . rw [if_pos hs] at q'
          have hp : D ∉ ι'.priv := fun z => by rw [g'.priv] at z; exact S1.plive D z hD
          refine .inl ⟨IR.stop _ _ h' H2 x' S' hs (Nat.le_refl _), q' ι' H2 D ys (g1.trans g') S' rv' hH2 (fun z => (List.mem_append.mp z).elim nD' hp) fun n en1 a ha => ?_⟩
          obtain ⟨k, ek, hk⟩ := (g1.trans g').pre
          have : n = k := List.append_cancel_left (en1.symm.trans ek)
          subst this
          rcases List.mem_append.mp ha with z | z
          . exact hk a z
          . have z' : a = D := by simpa using z
            subst z'
            cases e9 : H a with
            | none => rfl
            | some o =>
              by_cases hr : a ∈ ι.refs
              . have z1 : a ∈ ι1.refs := by
                  obtain ⟨k1, ek1, _⟩ := g1.pre
                  rw [ek1]; exact List.mem_append_left _ hr
                exact absurd hD (S1.live a (List.mem_append_left _ z1))
              . rw [g1.keep a o hr e9] at hD; cases hD
        . rw [if_neg hs] at q'; exact q'.elim
end
end Sm

namespace Sm
open PySem PySem.Spec L2
section
variable {T : Tb} {E : St -> XK} {X : Cx} {pos px : Pos} {iter elt : Expr} {ifs : List Expr} {scope : Scope} {x₁ : Str} {jf : List (Nat × Str)} {it : SI} {cc : SB} {ce : SE}
theorem zeV {σ : St} {H : Hp} {Q : VK} (q : tE T E (sComp (jf.map (·.1)) it cc ce) σ H Q) : tComp jf (tI T it) (tT T EN cc) (tE T EN ce) σ H Q := by
  obtain ⟨ι, h, en, S, er, q⟩ := q
  refine zeU S er ?_
  unfold sComp at q
  cases e : it en h with
  | bad => rw [e] at q; exact q
  | ex c h1 => rw [e] at q; exact q.elim
  | ok p h1 =>
    obtain ⟨xs, w⟩ := p
    rw [e] at q
    dsimp only at q ⊢
    cases e2 : sCompGo (jf.map (·.1)) en w xs cc ce xs [] h1 with
    | bad => rw [e2] at q; exact q
    | ex c h1 => rw [e2] at q; exact q.elim
    | ok ys h2 =>
      rw [e2] at q
      exact fun ι' H' D vs g S' r hD nD _ => q ι' H' _ g S'.show (.fl nD (.inl hD) (r.ext Ext.show))
theorem zha {σ : St} {H : Hp} {Q : VK} (q : tE T E (sCompM (jf.map (·.1)) it cc ce) σ H Q) : tComp jf (tI T it) (tT T EN cc) (tE T EN ce) σ H Q := by
  obtain ⟨ι, h, en, S, er, q⟩ := q
  refine zeU S er ?_
  unfold sCompM at q
  cases e : it en h with
  | bad => rw [e] at q; exact q
  | ex c h1 => rw [e] at q; exact q.elim
  | ok p h1 =>
    obtain ⟨xs, w⟩ := p
    rw [e] at q
    dsimp only at q ⊢
    cases e2 : sCompGo (jf.map (·.1)) en w xs cc ce xs [] h1 with
    | bad => rw [e2] at q; exact q
    | ex c h1 => rw [e2] at q; exact q.elim
    | ok ys h2 =>
      rw [e2] at q
      intro ι' H' D vs g S' r hD nD hn
      obtain ⟨n, en1, _⟩ := g.pre
      have S2 : Sim T (ι'.add D) (h2 ++ [.lst ys]) H' := S'.adopt (Ix.nr nD) hD ⟨vs, rfl, r.ext Ext.adopt⟩
      refine q (ι'.add D) H' _ ⟨⟨n ++ [D], ?_, hn n en1⟩, g.priv, g.keep, g.live⟩ S2 (.ref ?_)
      . show ι'.refs ++ [D] = _; rw [en1]; simp
      . show (ι'.refs ++ [D])[h2.length]? = some D
        have : ι'.refs.length = h2.length := S'.len
        rw [<- this]; simp
theorem zaK : PTs X [] (tT T E sYes) := fun pins s σ H Q I ⟨ι, h, en, S, er, q⟩ => zhT pins s σ H Q I (q.now S rfl)
theorem zh5 {c : Expr} (hc : PTA T E X c cc) : PTs X [c] (tT T E cc) := zhU hc
structure CompOk (X : Cx) (x₁ : Str) (jf : List (Nat × Str)) (scope : Scope) : Prop where
  hN : (x₁ :: jf.map (·.2)).Nodup
  hx : scope.names.lookup x₁ = some .local
  hjf : ∀ p ∈ jf, X.N[p.1]? = some p.2
  hjl : ∀ p ∈ jf, scope.names.lookup p.2 = some .free
  hkind : scope.kind = .function
  hcell : ∀ y ∈ scope.names, y.2 ≠ .cell
  hfr : ∀ y ∈ scope.names, y.2 = .free -> X.env.kindOf y.1 = some .cell \/ X.env.kindOf y.1 = some .free
  hnames : ∀ y ∈ scope.names, y.2 = .local -> scope.names.lookup y.1 = some .local
theorem r_comp (C : CompOk X x₁ jf scope) (hcalm : X.calm = true) (hi : PIA T X (.Name x₁ px) iter it) (hc : ∀ pins cl s H fp, PTs (cxComp X pins x₁ jf scope cl s H fp) ifs (tT T EN cc)) (he : ∀ pins cl s H fp, PEA T EN (cxComp X pins x₁ jf scope cl s H fp) elt ce)
    (hs : ∀ x, foldedSetIterable iter X.env x = pure x := by intro _; rfl) : PEA T E X (.ListComp elt [⟨.Name x₁ px, iter, ifs, 0⟩] scope pos) (sComp (jf.map (·.1)) it cc ce) :=
  PE_imp (zeK hcalm hi hc he C.hN C.hx C.hjf C.hjl C.hkind C.hcell C.hfr C.hnames hs) fun _ _ _ q => zeV q
theorem zh6 (C : CompOk X x₁ jf scope) (hcalm : X.calm = true) (hi : PIA T X (.Name x₁ px) iter it) (hc : ∀ pins cl s H fp, PTs (cxComp X pins x₁ jf scope cl s H fp) ifs (tT T EN cc)) (he : ∀ pins cl s H fp, PEA T EN (cxComp X pins x₁ jf scope cl s H fp) elt ce)
    (hs : ∀ x, foldedSetIterable iter X.env x = pure x := by intro _; rfl) : PEA T E X (.ListComp elt [⟨.Name x₁ px, iter, ifs, 0⟩] scope pos) (sCompM (jf.map (·.1)) it cc ce) :=
  PE_imp (zeK hcalm hi hc he C.hN C.hx C.hjf C.hjl C.hkind C.hcell C.hfr C.hnames hs) fun _ _ _ q => zha q
theorem zh7 {y : Str} {py spos : Pos} {i : Nat} (C : CompOk X x₁ jf scope) (hcalm : X.calm = true) (hi : PIA T X (.Name x₁ px) iter it) (hc : ∀ pins cl s H fp, PTs (cxComp X pins x₁ jf scope cl s H fp) ifs (tT T EN cc)) (he : ∀ pins cl s H fp, PEA T EN (cxComp X pins x₁ jf scope cl s H fp) elt ce)
    (hNX : X.N.Nodup) (hi' : X.N[i]? = some y := by rfl) (hy : X.env.scope.names.lookup y = some .local := by rfl) (hsw : swapsWith (.ListComp elt [⟨.Name x₁ px, iter, ifs, 0⟩] scope pos) (some (.Name y py)) spos.line X.env = pure true := by rfl) (hs : ∀ x, foldedSetIterable iter X.env x = pure x := by intro _; rfl) :
    PSA T E X (.Assign [.Name y py] (.ListComp elt [⟨.Name x₁ px, iter, ifs, 0⟩] scope pos) spos) (sSet i (sComp (jf.map (·.1)) it cc ce)) :=
  PS_imp (zhV hcalm hi hc he C.hN C.hx C.hjf C.hjl C.hkind C.hcell C.hfr C.hnames hNX hi' hy hsw hs) fun D σ H q => zeV (set_go q)
end
def spA (T : Tb) (F : Fn) : Sp := fun vs H Q E => ∃ ι h args, Sim T ι h H /\ RVs T ι H args vs /\ Post T ι H E (RV T) (F args h) Q
def Arity (F : Fn) (n : Nat) : Prop := ∀ args h, args.length ≠ n -> F args h = .bad
theorem zcN (n m : Nat) (b : SS) : Arity (mkFn n m b) n := fun args h hl => by
  unfold mkFn
  rw [if_neg hl]
theorem okA {P : Program} {w : World} {K : PySem.W.Frag} {mg : Str -> Option Value} {base : Heap} {T : Tb} {x qual : Str} {st : Stmt} {f : Addr} {fd : FuncData} {N ps : List Str} {k : Nat} {b : SS} (F : Fun K x qual st f fd) (hK : K = T.K) (S : FnScope N ps (defScope st))
    (hbody : ∀ (cdv : Value) (A : Around) (outer : List Env) (s : Shared) (H : Hp) (E : XK), Room k (A.deeper (PyProof.Rows.envOfC qual (defScope st) s.heap.objs.size f cdv)) -> CA T (fun _ => E) (cxOf (CXE P w) P w K mg base N qual (defScope st) f cdv A outer s H E) ->
      PSsA T (fun _ => E) (cxOf (CXE P w) P w K mg base N qual (defScope st) f cdv A outer s H E) (defBody st) b) : FnOk P w K mg base (CXE P w) (k + 1) f fd ps (spA T (mkFn ps.length N.length b)) := by
  refine F.okE S (fun vs H Q E h => ?_) (fun cdv A outer s H vs Q E hr h => ?_)
  . obtain ⟨ι, h, args, _, r, q⟩ := h
    by_cases hl : args.length = ps.length
    . rw [<- hl, r.length]
    . rw [zcN _ _ _ args h hl] at q; exact q.elim
  . obtain ⟨ι, h, args, Si, r, q⟩ := h
    refine ⟨_, hbody cdv A outer s H E hr ⟨hK, zhX⟩, ι, h, args.map some ++ List.replicate (N.length - ps.length) none, Si, ?_, ?_⟩
    . by_cases hl : args.length = ps.length
      . refine ⟨by simp [L2.start, r.length, <- hl], fun i v e => ?_⟩
        unfold L2.start
        by_cases hi : i < args.length
        . rw [List.getElem?_append_left (by simpa using hi), List.getElem?_map] at e
          rw [List.getElem?_append_left (by simpa [<- r.length] using hi), List.getElem?_map]
          obtain ⟨x, e1, e2⟩ := Option.map_eq_some_iff.mp e
          cases e2
          obtain ⟨u, e3, r3⟩ := r.get e1
          exact ⟨u, by rw [e3]; rfl, r3⟩
        . rw [List.getElem?_append_right (by simpa using hi), List.getElem?_replicate] at e
          split at e
          . cases e
          . cases e
      . rw [zcN _ _ _ args h hl] at q; exact q.elim
    . unfold mkFn at q
      split at q
      . split at q
        . rename_i e1 h1 he
          rw [he]
          exact fun ι' H' σ' g S' er => q ι' H' _ g S' .non
        . rename_i v h1 he
          rw [he]
          exact q
        . rename_i c e1 h1 he
          rw [he]
          exact fun ι' H' σ' C g S' er ec => q ι' H' C g S' ec
        . exact q.elim
      . exact q.elim
structure GF (P : Program) (w : World) (T : Tb) (mg : Str -> Option Value) (base : Heap) (k : Nat) (x : Str) (F : Fn) : Prop where
  ex : ∃ f fd ps, mg x = some (.ref f) /\ PySem.W.keepIn T.K (.ref f) = true /\ Binds T.K fd ps [] /\ FnOk P w T.K mg base (CXE P w) k f fd ps (spA T F)
structure GM (P : Program) (w : World) (T : Tb) (mg : Str -> Option Value) (base : Heap) (k : Nat) (c : Nat) (m : Str) (F : Fn) : Prop where
  ex : ∃ C f fd ps, T.cls c = some C /\ Cls T.K C /\ Meth T.K C m f /\ Binds T.K fd ps [] /\ FnOk P w T.K mg base (CXE P w) k f fd ps (spA T F)
  no : m ∉ T.fields c
section
variable {T : Tb} {E : St -> XK} {X : Cx} {pos p apos : Pos} {e o a : Expr} {es : List Expr} {x m : Str} {F : Fn} {k c : Nat} {as : SL} {so sa : SE}
theorem r_call (hK : X.K = T.K) (C : CA T E X) (G : GF X.prog X.w T X.mg X.base k x F) (hr : Room k X.A) (hg : Gl X x) (ha : PAA T E X (e :: es) as) (hdb : (x == ("__debug__" : Str)) = false := by decide)
    (he : starEach (e :: es) X.env = (false, eval e X.env) :: starEach es X.env := by rfl) (hpl : (backTo pos (starEach es X.env)).any (·.1) = false := by rfl) : PEA T E X (.Call (.Name x p) (e :: es) [] pos) (sAppl F as) := by
  obtain ⟨f, fd, ps, h1, h2, h3, h4⟩ := G.ex
  refine PE_imp (zg3 (Ex := E) (dvs := []) (hK ▸ h4) hr hg h1 (hK ▸ h2) (hK ▸ h3) .nil C.pass ha hdb he hpl) fun σ H Q ⟨ι, h, en, S, er, q⟩ => ⟨ι, h, en, S, er, q.bind fun xs h1 ι1 H1 us g1 S1 r1 q1 => ?_⟩
  rw [List.append_nil]
  exact ⟨ι1, h1, xs, S1, r1, q1⟩
theorem zh8 {C : Addr} {σ : St} {H : Hp} {Q : VK} (hc : T.cls c = some C) (no : m ∉ T.fields c) (q : tE T E (sMeth c F so as) σ H Q) : tMethS C m (spA T F) [] E (tE T E so) (tA T E as) σ H Q := by
  obtain ⟨ι, h, en, S, er, q⟩ := q
  refine ⟨ι, h, en, S, er, q.bind fun x h1 ι1 H1 u g1 S1 r1 q1 => ?_⟩
  split at q1
  . rename_i n
    split at q1
    . rename_i c' fs hn
      split at q1
      . rename_i ec
        subst ec
        cases r1 with
        | @ref _ a hr =>
          obtain ⟨o, e1, C', dx, fus, hC, rfl, nd, hw, hl, _⟩ := S1.obj n _ a hn hr
          rw [hc] at hC; cases hC
          refine ⟨a, dx, fus, rfl, e1, ?_, ι1, h1, en, S1, er.mono g1, q1.bind fun xs h2 ι2 H2 us g2 S2 r2 q2 => ?_⟩
          . cases e : fus.lookup m with
            | none => rfl
            | some v =>
              have := PySem.mem_of_lookup e
              exact absurd (hw _ this) no
          . rw [List.append_nil]
            exact ⟨ι2, h2, .ref n :: xs, S2, .cons (.ref (g2.at hr)) r2, q2⟩
      . exact q1.elim
    . exact q1.elim
  . exact q1.elim
theorem r_meth {pl : Sem Bool} (hK : X.K = T.K) (CC : CA T E X) (G : GM X.prog X.w T X.mg X.base k c m F) (hr : Room k X.A) (ho : PEA T E X o so) (ha : PAA T E X (e :: es) as)
    (hst : starEach (e :: es) X.env = (false, eval e X.env) :: starEach es X.env := by rfl) (hpl : (backTo pos (starEach es X.env)).any (·.1) = false := by rfl)
    (ht : eval (.Call (.Attribute o m apos) (e :: es) [] pos) X.env = (do
      let ov <- eval o X.env
      standAt apos.atName
      let (f, first) <- holding [ov] (getMethod ov m pl)
      callWith pos f first (backTo pos (starEach (e :: es) X.env)) (backToKw pos (keywordEach [] X.env))) := by rfl) : PEA T E X (.Call (.Attribute o m apos) (e :: es) [] pos) (sMeth c F so as) := by
  obtain ⟨C, f, fd, ps, h1, h2, h3, h4, h5⟩ := G.ex
  exact PE_imp (zg4 (Ex := E) (dvs := []) (pl := pl) ho (hK ▸ h2) (hK ▸ h3) (hK ▸ h5) hr (hK ▸ h4) .nil CC.pass ha hst hpl ht) fun σ H Q q => zh8 h1 G.no q
structure CF (T : Tb) (c : Nat) : Prop where
  ex : ∃ C, T.cls c = some C /\ Cls T.K C /\ ∀ f ∈ T.fields c, NoAttr T.K C f
structure GK (P : Program) (w : World) (T : Tb) (mg : Str -> Option Value) (base : Heap) (k : Nat) (c : Nat) (x : Str) (F : Fn) : Prop where
  ex : ∃ C f fd ps, T.cls c = some C /\ mg x = some (.ref C) /\ Mk T.K C f /\ Binds T.K fd ps [] /\ FnOk P w T.K mg base (CXE P w) k f fd ps (spA T F)
theorem zgl {CX : CXT} {C f : Addr} {fd : FuncData} {ps : List Str} {sp : Sp} {dvs : List V} {ds : List Value} {pins : List (Addr × Obj)} {σ : St} {H : Hp} {s : Shared} {Q : VK} {us : List Value} {vs : List V} (M : Mk X.K C f) (F : FnOk X.prog X.w X.K X.mg X.base CX k f fd ps sp) (hr : Room (k + 1) X.A) (hb : Binds X.K fd ps ds) (hd : Vals dvs ds)
    (hx : PassesS CX X E) (I : L2.Inv X pins σ H s) (r : Vals vs us)
    (h : ∀ x dx, H x = none -> H dx = none -> dx ≠ x -> sp (.ref x :: (vs ++ dvs)) (upd (upd H dx (.own x)) x (.ins C dx [])) (fun v H2 => v = .non /\ Q (.ref x) H2) (E σ)) :
    wpAny (model X.prog X.w) X.A (call (.ref C) us) (EP X pins σ Q) X.xe s := by
  have hq := h (s.heap.objs.size + 1) s.heap.objs.size (I.hok.fresh (Nat.le_succ _)) (I.hok.fresh (Nat.le_refl _)) (Nat.ne_of_lt (Nat.lt_succ_self _))
  have I2 := Inv.made (C := C) I
  have r2 : Vals (V.ref (s.heap.objs.size + 1) :: (vs ++ dvs)) (Value.ref (s.heap.objs.size + 1) :: (us ++ ds)) := .cons rfl (r.append hd)
  have hl : (Value.ref (s.heap.objs.size + 1) :: us ++ ds).length = ps.length := by
    have e := r2.length
    rw [F.len _ _ _ _ hq] at e
    exact e.symm
  refine wpAny_call (zgK (f := f) I.kIn M.makes M.init (beq_iff_eq.mp M.fn) (codeAny_mono (F.run _ X.stack _ _ ⟨Value.ref (s.heap.objs.size + 1) :: us, []⟩ (Value.ref (s.heap.objs.size + 1) :: (us ++ ds)) _ _ (E σ) (hr.make C us [])
    (I2.env0.make C us []) (hb _ (Value.ref (s.heap.objs.size + 1) :: us) I2.kIn hl) r2 hq) fun r s' hq' => ?_))
  cases r with
  | error e => exact hx pins σ _ _ e s' I2 hq'
  | ok fl =>
    cases fl with
    | ret u =>
      obtain ⟨v, H', I3, rv, ev, q3⟩ := I2.after hq'
      subst ev
      exact ⟨rv, ⟨V.ref (s.heap.objs.size + 1), H', I3, rfl, q3⟩⟩
    | next => exact False.elim hq'
    | brk => exact False.elim hq'
    | cont => exact False.elim hq'
theorem zh9 {C : Addr} {xs : List AV} {us : List V} {H : Hp} {Q : VK} {ι : Ix} {h : AH} {E : XK} {n : Nat} (hc : T.cls c = some C) (hn : (T.fields c).length = n) (S : Sim T ι h H) (r : RVs T ι H xs us)
    (q : Post T ι H E (RV T) (match F (.ref h.length :: xs) (h ++ [.ins c (List.replicate n none)]) with | .ok .non h2 => Out.ok (AV.ref h.length) h2 | .ex c h2 => .ex c h2 | _ => .bad) Q) :
    ∀ x dx, H x = none -> H dx = none -> dx ≠ x -> spA T F (.ref x :: us) (upd (upd H dx (.own x)) x (.ins C dx [])) (fun v H2 => v = .non /\ Q (.ref x) H2) E := by
  intro x dx nx ndx ne
  have nx' : (upd H dx (.own x)) x = none := by rw [upd_ne (Ne.symm ne)]; exact nx
  have S1 := S.new (o := .own x) ndx
  have g1 := S.growNew (o := .own x) ndx
  have g2 := S1.growAdd (u := .ins C dx []) nx'
  have S2 : Sim T (ι.add x) (h ++ [.ins c (List.replicate n none)]) (upd (upd H dx (.own x)) x (.ins C dx [])) := S1.add nx' ⟨C, dx, [], hc, rfl, by simp, by simp, by simp [hn], fun i v e => by
    rw [List.getElem?_replicate] at e
    split at e
    . cases e
    . cases e⟩
  refine ⟨ι.add x, _, .ref h.length :: xs, S2, .cons (.ref S.addAt) (r.mono (g1.trans g2)), ?_⟩
  have q2 := q.shift (g1.trans g2)
  cases e : F (.ref h.length :: xs) (h ++ [.ins c (List.replicate n none)]) with
  | bad => rw [e] at q2; exact q2
  | ex c' h2 => rw [e] at q2; exact q2
  | ok v h2 =>
    rw [e] at q2
    cases v with
    | non => exact fun ι' H' u g S' r' => ⟨non_rd r', q2 ι' H' _ g S' (.ref (g.at S.addAt))⟩
    | _ => exact (show False from q2).elim
theorem zia {n : Nat} (hK : X.K = T.K) (CC : CA T E X) (G : GK X.prog X.w T X.mg X.base k c x F) (hr : Room (k + 1) X.A) (hg : Gl X x) (hn : (T.fields c).length = n := by rfl) (hdb : (x == ("__debug__" : Str)) = false := by decide) : PEA T E X (.Call (.Name x p) [] [] pos) (sMake c n F sNil) := by
  obtain ⟨C, f, fd, ps, h1, h2, h3, h4, h5⟩ := G.ex
  intro pins s σ H Q I ⟨ι, h, en, S, er, q⟩
  refine wpAny_Call_Name_kw (zbZ I hg h2 ?_ hdb)
  have M : Mk X.K C f := hK ▸ h3
  exact PySem.W.callWith_K0 I.kIn M.kp (zgl (us := []) (vs := []) (dvs := []) M (hK ▸ h5) hr (hK ▸ h4) .nil CC.pass I .nil (zh9 h1 hn S .nil q))
theorem r_fld {i : Nat} {f : Str} (hK : X.K = T.K) (CFc : CF T c) (ho : PEA T E X o so) (hf : (T.fields c)[i]? = some f := by rfl) (hb : attributeBase o f X.env (eval o X.env) = eval o X.env := by rfl) : PEA T E X (.Attribute o f pos) (Sm.sFld c i so) := by
  obtain ⟨C, hC, hcl, hna⟩ := CFc.ex
  refine PE_imp (pe_fld ho hb) fun σ H Q ⟨ι, h, en, S, er, q⟩ => ⟨ι, h, en, S, er, q.bind fun x h1 ι1 H1 u g1 S1 r1 q1 => ?_⟩
  split at q1
  . rename_i n
    split at q1
    . rename_i c' fs hn
      split at q1
      . rename_i ec
        subst ec
        split at q1
        . rename_i v hv
          cases r1 with
          | @ref _ a hr =>
            obtain ⟨o, e1, C', dx, fus, hC', rfl, nd, hw, hl, hr2⟩ := S1.obj n _ a hn hr
            rw [hC] at hC'; cases hC'
            obtain ⟨f', u, e2, e3, r3⟩ := hr2 i v hv
            rw [hf] at e2; cases e2
            exact ⟨a, _, dx, fus, u, rfl, e1, hK ▸ hcl, hK ▸ hna f (List.mem_of_getElem? hf), e3, q1.now S1 r3⟩
        . exact q1.elim
      . exact q1.elim
    . exact q1.elim
  . exact q1.elim
theorem zdr (f : Str) (v : V) : ∀ {fs : List (Str × V)}, (fs.map (·.1)).Nodup -> ((putF f v fs).map (·.1)).Nodup /\ ∀ g, g ∈ (putF f v fs).map (·.1) -> g = f \/ g ∈ fs.map (·.1)
  | [], _ => by simp [putF]
  | (g, x) :: r, n => by
    obtain ⟨n1, n2⟩ := List.nodup_cons.mp (show (g :: r.map (·.1)).Nodup from n)
    unfold putF
    split
    . rename_i e
      subst e
      exact ⟨n, fun k hk => .inr hk⟩
    . rename_i e
      obtain ⟨h1, h2⟩ := zdr f v (fs := r) n2
      refine ⟨List.nodup_cons.mpr ⟨fun z => ?_, h1⟩, fun k hk => ?_⟩
      . rcases h2 g z with z | z
        . exact e z
        . exact n1 z
      . rcases List.mem_cons.mp hk with z | z
        . exact .inr (by rw [z]; simp)
        . rcases h2 k z with z | z
          . exact .inl z
          . exact .inr (List.mem_cons_of_mem _ z)
theorem zdV : ∀ {l m : List Str}, l.Nodup -> (∀ x ∈ l, x ∈ m) -> l.length <= m.length
  | [], m, _, _ => Nat.zero_le _
  | x :: l, m, n, h => by
    obtain ⟨n1, n2⟩ := List.nodup_cons.mp n
    have hx := h x (by simp)
    have := zdV (l := l) (m := m.erase x) n2 fun y hy => by
      have ne : y ≠ x := fun z => n1 (z ▸ hy)
      exact (List.mem_erase_of_ne ne).mpr (h y (by simp [hy]))
    rw [List.length_erase_of_mem hx] at this
    have : 0 < m.length := List.length_pos_of_mem hx
    simp only [List.length_cons]
    omega
theorem zaD {i : Nat} {f : Str} {p' : Pos} (hK : X.K = T.K) (CFc : CF T c) (ho : PEA T E X o so) (ha : PEA T E X a sa) (hf : (T.fields c)[i]? = some f := by rfl) (hs : swapsWith a (some (.Attribute o f p')) pos.line X.env = pure false := by rfl) :
    PSA T E X (.Assign [.Attribute o f p'] a pos) (sSetFld c i so sa) := by
  obtain ⟨C, hC, hcl, hna⟩ := CFc.ex
  refine PS_imp (ps_fld ho ha hs) fun D σ H ⟨ι, h, en, S, er, q⟩ => ⟨ι, h, en, S, er, q.go er fun y h1 ι1 H1 v g1 S1 r1 q1 => ⟨ι1, h1, en, S1, er.mono g1, q1.go (er.mono g1) fun x h2 ι2 H2 u g2 S2 r2 q2 => ?_⟩⟩
  split at q2
  . rename_i n
    split at q2
    . rename_i c' fs hn
      split at q2
      . rename_i ec
        subst ec
        cases r2 with
        | @ref _ a hr =>
          obtain ⟨o, e1, C', dx, fus, hC', rfl, nd, hw, hl, hr2⟩ := S2.obj n _ a hn hr
          rw [hC] at hC'; cases hC'
          have hmem : f ∈ T.fields c' := List.mem_of_getElem? hf
          have hlen : fus.length < 1000 := by
            have := zdV nd (m := T.fields c') (fun x hx => by
              obtain ⟨p, hp, rfl⟩ := List.mem_map.mp hx
              exact hw p hp)
            have := T.few c'
            rw [List.length_map] at *
            omega
          obtain ⟨k1, k2⟩ := zdr f v nd
          have g3 := S2.growSet (u := .ins C dx (putF f v fus)) hr
          refine ⟨a, C, dx, fus, rfl, e1, hK ▸ hcl, hK ▸ hna f hmem, hlen, q2 ι2 _ σ g3 (S2.set hr ⟨C, dx, putF f v fus, hC, rfl, k1, fun p hp => ?_, by simp [hl], fun j w hj => ?_⟩) (er.mono (g1.trans (g2.trans g3)))⟩
          . rcases k2 p.1 (List.mem_map.mpr ⟨p, hp, rfl⟩) with z | z
            . rw [z]; exact hmem
            . obtain ⟨p', hp', e⟩ := List.mem_map.mp z
              rw [<- e]; exact hw p' hp'
          . by_cases hji : j = i
            . subst hji
              have hjl : j < fs.length := by
                have := (List.getElem?_eq_some_iff.mp hj).1
                simpa using this
              rw [List.getElem?_set_self hjl] at hj
              cases hj
              exact ⟨f, v, hf, by rw [zaP, if_pos rfl], r1.mono (g2.trans g3)⟩
            . rw [List.getElem?_set_ne (Ne.symm hji)] at hj
              obtain ⟨f', u, e2, e3, r3⟩ := hr2 j w hj
              have ne : f' ≠ f := fun z => hji (zcr (T.nd c') e2 (z ▸ hf))
              exact ⟨f', u, e2, by rw [zaP, if_neg ne]; exact e3, r3.mono g3⟩
      . exact (show False from q2).elim
    . exact (show False from q2).elim
  . exact (show False from q2).elim
end
end Sm

namespace Sm
open PySem PySem.Spec L2
theorem kA_kV {T : Tb} {ι : Ix} {H : Hp} {k : Key} {u : V} (r : RV T ι H (kA k) u) : u = kV k := by
  cases k with
  | inl i => exact int_rd r
  | inr x => exact (str_rd r).1
theorem kA_inj {k j : Key} (e : kA k = kA j) : k = j := by
  cases k <;> cases j <;> simp [kA] at e <;> simp [e]
theorem zc2 : ∀ {ks js : List Key}, ks.map kA = js.map kA -> ks = js
  | [], [], _ => rfl
  | [], _ :: _, e => by simp at e
  | _ :: _, [], e => by simp at e
  | k :: ks, j :: js, e => by
    simp only [List.map_cons, List.cons.injEq] at e
    rw [kA_inj e.1, zc2 e.2]
theorem kAs_kV {T : Tb} {ι : Ix} {H : Hp} : ∀ {ks : List Key} {us : List V}, RVs T ι H (ks.map kA) us -> us = ks.map kV
  | [], _, .nil => rfl
  | k :: ks, _, .cons r rs => by rw [kA_kV r, kAs_kV rs]; rfl
theorem zbu {v : AV} {k : Key} (e : keyOf? v = some k) : v = kA k := by
  unfold keyOf? at e
  split at e <;> cases e <;> rfl
theorem zaQ : ∀ {vs : List AV} {ks : List Key}, keysOf? vs = some ks -> vs = ks.map kA
  | [], _, e => by cases e; rfl
  | v :: vs, ks, e => by
    unfold keysOf? at e
    split at e
    . rename_i k ks' e1 e2
      cases e
      rw [zbu e1, zaQ e2]; rfl
    . cases e
theorem val_of {κ : Type} [DecidableEq κ] {T : Tb} {ι : Ix} {H : Hp} {f : κ -> AV} (hf : ∀ {a b}, f a = f b -> a = b) {k : κ} : ∀ {kvs : List (AV × AV)} {kus : List (κ × V)}, Paired (fun (p : AV × AV) (q : κ × V) => p.1 = f q.1 /\ RV T ι H p.2 q.2) kvs kus ->
    (valA kvs (f k) = none /\ valV kus k = none) \/ ∃ v u, valA kvs (f k) = some v /\ valV kus k = some u /\ RV T ι H v u
  | _, _, .nil => .inl ⟨rfl, rfl⟩
  | (a, v) :: kvs, (j, u) :: kus, .cons ⟨e, r⟩ rs => by
    by_cases h : j = k
    . subst h
      replace e : a = f j := e
      subst e
      exact .inr ⟨v, u, by simp [valA], zbr rfl, r⟩
    . have h' : ¬ a = f k := fun z => h (hf (e.symm.trans z))
      rcases val_of hf rs (k := k) with ⟨h1, h2⟩ | ⟨v', u', h1, h2, h3⟩
      . refine .inl ⟨?_, by rw [zaZ h]; exact h2⟩
        unfold valA at h1 ⊢
        rw [List.find?_cons, decide_eq_false h']
        exact h1
      . refine .inr ⟨v', u', ?_, by rw [zaZ h]; exact h2, h3⟩
        unfold valA at h1 ⊢
        rw [List.find?_cons, decide_eq_false h']
        exact h1
theorem zc3 {kvs : List (AV × AV)} {k : AV} : (kvs.any fun p => decide (p.1 = k)) = (valA kvs k).isSome := by
  induction kvs with
  | nil => rfl
  | cons p r ih =>
    unfold valA at ih ⊢
    rw [List.any_cons, List.find?_cons, ih]
    cases h : decide (p.1 = k) <;> simp
theorem put_of {κ : Type} [DecidableEq κ] {T : Tb} {ι : Ix} {H : Hp} {f : κ -> AV} (hf : ∀ {a b}, f a = f b -> a = b) {k : κ} {v : AV} {u : V} (rv : RV T ι H v u) {kvs : List (AV × AV)} {kus : List (κ × V)} (r : Paired (fun (p : AV × AV) (q : κ × V) => p.1 = f q.1 /\ RV T ι H p.2 q.2) kvs kus) :
    Paired (fun (p : AV × AV) (q : κ × V) => p.1 = f q.1 /\ RV T ι H p.2 q.2) (putA kvs (f k) v) (putK kus k u) := by
  have e : (kvs.any fun p => decide (p.1 = f k)) = kus.any fun kv => decide (kv.1 = k) := by
    rw [zc3, zcu]
    rcases val_of hf r (k := k) with ⟨h1, h2⟩ | ⟨v', u', h1, h2, h3⟩
    . rw [h1, h2]; rfl
    . rw [h1, h2]; rfl
  unfold putA putK
  rw [e]
  by_cases h : (kus.any fun kv => decide (kv.1 = k)) = true
  . rw [if_pos h, if_pos h]
    clear e h
    induction r with
    | nil => exact .nil
    | cons p rs ih =>
      rename_i a b l1 l2
      refine .cons ?_ ih
      obtain ⟨e1, r1⟩ := p
      dsimp only
      by_cases hk : b.1 = k
      . rw [if_pos hk, if_pos (by rw [e1, hk])]
        exact ⟨e1, rv⟩
      . rw [if_neg hk, if_neg (fun z => hk (hf (e1.symm.trans z)))]
        exact ⟨e1, r1⟩
  . rw [if_neg h, if_neg h]
    have app : ∀ {l1 : List (AV × AV)} {l2 : List (κ × V)}, Paired (fun (p : AV × AV) (q : κ × V) => p.1 = f q.1 /\ RV T ι H p.2 q.2) l1 l2 -> Paired (fun (p : AV × AV) (q : κ × V) => p.1 = f q.1 /\ RV T ι H p.2 q.2) (l1 ++ [(f k, v)]) (l2 ++ [(k, u)]) := fun z => by
      induction z with
      | nil => exact .cons ⟨rfl, rv⟩ .nil
      | cons p _ ih => exact .cons p ih
    exact app r
section
variable {T : Tb} {ι : Ix} {h : AH} {H : Hp}
theorem keyT {xs : List AV} {u : V} {ks : List Key} (r : RV T ι H (.tup xs) u) (e : keysOf? xs = some ks) : ∃ b, u = .ref b /\ KTup H b ks := by
  have := zaQ e
  subst this
  cases r with
  | tup n q r => exact ⟨_, rfl, .of (by rw [<- kAs_kV r]; exact q)⟩
theorem zeW {n : Nat} {t : Bool} {kvs : List (AV × AV)} {y : AV} {a : Addr} {w : V} (S : Sim T ι h H) (hn : h[n]? = some (.dct t kvs)) (hr : ι.refs[n]? = some a) (ry : RV T ι H y w) (hk : isKey t y = true) :
    ∃ o, DGet H a w o /\ ((valA kvs y = none /\ o = none) \/ ∃ v u, valA kvs y = some v /\ o = some u /\ RV T ι H v u) := by
  obtain ⟨ob, e1, r⟩ := S.obj n _ a hn hr
  cases t with
  | false =>
    obtain ⟨kus, rfl, r⟩ := r
    have hk' : (keyOf? y).isSome = true := hk
    obtain ⟨k, ek⟩ := Option.isSome_iff_exists.mp hk'
    have := zbu ek
    subst this
    rw [kA_kV ry]
    refine ⟨valV kus k, .k e1, ?_⟩
    rcases val_of kA_inj r (k := k) with ⟨h1, h2⟩ | ⟨v', u', h1, h2, h3⟩
    . exact .inl ⟨h1, h2⟩
    . exact .inr ⟨v', u', h1, h2, h3⟩
  | true =>
    obtain ⟨kus, rfl, r⟩ := r
    unfold isKey at hk
    split at hk
    . rename_i hh; cases hh
    . rename_i xs hh
      obtain ⟨ks, ek⟩ := Option.isSome_iff_exists.mp hk
      obtain ⟨b, rfl, hb⟩ := keyT ry ek
      have := zaQ ek
      subst this
      refine ⟨valV kus ks, .t e1 hb, ?_⟩
      rcases val_of (f := fun ks : List Key => AV.tup (ks.map kA)) (fun e => zc2 (by injection e)) r (k := ks) with ⟨h1, h2⟩ | ⟨v', u', h1, h2, h3⟩
      . exact .inl ⟨h1, h2⟩
      . exact .inr ⟨v', u', h1, h2, h3⟩
    . cases hk
theorem zib {n : Nat} {t : Bool} {kvs : List (AV × AV)} {y z : AV} {a : Addr} {w u : V} (S : Sim T ι h H) (hn : h[n]? = some (.dct t kvs)) (hr : ι.refs[n]? = some a) (ry : RV T ι H y w) (rz : RV T ι H z u) (hk : isKey t y = true) (hl : kvs.length < sizeLine) :
    ∃ H', DPut H a w u H' /\ Grow ι H ι H' /\ Sim T ι (h.set n (.dct t (putA kvs y z))) H' := by
  obtain ⟨ob, e1, r⟩ := S.obj n _ a hn hr
  cases t with
  | false =>
    obtain ⟨kus, rfl, r⟩ := r
    have hk' : (keyOf? y).isSome = true := hk
    obtain ⟨k, ek⟩ := Option.isSome_iff_exists.mp hk'
    have := zbu ek
    subst this
    rw [kA_kV ry]
    have g := S.growSet (u := .dK (putK kus k u)) hr
    exact ⟨_, .k e1 (by rw [<- Paired.length r]; exact hl), g, S.set hr ⟨_, rfl, put_of kA_inj (rz.mono g) (Paired.mapP r fun _ _ ⟨p, q⟩ => ⟨p, q.mono g⟩)⟩⟩
  | true =>
    obtain ⟨kus, rfl, r⟩ := r
    unfold isKey at hk
    split at hk
    . rename_i hh; cases hh
    . rename_i xs hh
      obtain ⟨ks, ek⟩ := Option.isSome_iff_exists.mp hk
      obtain ⟨b, rfl, hb⟩ := keyT ry ek
      have := zaQ ek
      subst this
      have g := S.growSet (u := .dT (putK kus ks u)) hr
      exact ⟨_, .t e1 hb (by rw [<- Paired.length r]; exact hl), g, S.set hr ⟨_, rfl, put_of (f := fun ks : List Key => AV.tup (ks.map kA)) (fun e => zc2 (by injection e)) (rz.mono g) (Paired.mapP r fun _ _ ⟨p, q⟩ => ⟨p, q.mono g⟩)⟩⟩
    . cases hk
theorem RVs.atI {xs : List AV} {us : List V} {i : Int} {v : AV} (r : RVs T ι H xs us) (e : atI xs i = some v) : ∃ u, L2.atI us i = some u /\ RV T ι H v u := by
  unfold L2.atI at e ⊢
  rw [<- r.length]
  obtain ⟨j, e1, e2⟩ := Option.bind_eq_some_iff.mp e
  obtain ⟨u, e3, r3⟩ := r.get e2
  exact ⟨u, by rw [e1]; exact e3, r3⟩
end
section
variable {T : Tb} {E : St -> XK} {X : Cx} {pos : Pos} {a b c : Expr} {sa sb sc : SE}
theorem PE_or {e : Expr} {t t' : TE} (h : PE X e t) (h' : PE X e t') : PE X e (fun σ H Q => t σ H Q \/ t' σ H Q) := fun pins s σ H Q I q => q.elim (h pins s σ H Q I) (h' pins s σ H Q I)
theorem PS_or {e : Stmt} {t t' : TS} (h : PS X e t) (h' : PS X e t') : PS X e (fun D σ H => t D σ H \/ t' D σ H) := fun pins s σ H Q I q => q.elim (h pins s σ H Q I) (h' pins s σ H Q I)
theorem r_ix (hK : X.K = T.K) (hu : X.A.units + 64 < cLine) (ha : PEA T E X a sa) (hb : PEA T E X b sb) (hs : PlainIx b := by exact fun _ _ => rfl) : PEA T E X (.Subscript a b pos) (sOp2 fIx sa sb) := by
  refine PE_imp (PE_or (pe_ix ix_seq ha hb hs) (zhQ (Nat.lt_of_le_of_lt (Nat.add_le_add_left (by decide : 1 <= 64) _) hu) ha hb hs)) fun σ H Q q => ?_
  obtain ⟨ι, h, en, S, er, q⟩ := q
  have left : (∀ x h1 y h2, sa en h = .ok x h1 -> sb en h1 = .ok y h2 -> ∀ n t kvs, x = .ref n -> h2[n]? = some (.dct t kvs) -> False) -> tOp (rIx X.K) (tE T E sa) (tE T E sb) σ H Q := fun no => by
    refine ⟨ι, h, en, S, er, ?_⟩
    unfold sOp2 at q
    cases e1 : sa en h with
    | bad => rw [e1] at q; exact q
    | ex c h1 => rw [e1] at q; exact q
    | ok x h1 =>
      rw [e1] at q
      intro ι1 H1 u g1 S1 r1
      refine ⟨ι1, h1, en, S1, er.mono g1, ?_⟩
      dsimp only [Out.bind] at q
      cases e2 : sb en h1 with
      | bad => rw [e2] at q; exact q
      | ex c h2 => rw [e2] at q; exact Post.shift (R := RV T) (o := .ex c h2) q g1
      | ok y h2 =>
        rw [e2] at q
        intro ι2 H2 w g2 S2 r2
        have q2 := Post.shift q (g1.trans g2)
        have r1' := r1.mono g2
        dsimp only at q2
        unfold fIx at q2
        split at q2
        . rename_i z i
          split at q2
          . rename_i cc hc
            obtain ⟨rfl, zl, zo⟩ := str_rd r1'
            rw [int_rd r2]
            refine .inr (.inr ⟨z, i, cc, rfl, rfl, zl, hc, q2.now S2 (.str (show 1 <= sizeLine by decide) ?_)⟩)
            obtain ⟨j, _, e3, _⟩ := zb2 hc
            have m : cc ∈ z.cps := by
              have := List.mem_of_getElem? e3
              simpa using this
            have := Array.all_eq_true_iff_forall_mem.mp zo _ m
            simpa using this
          . exact q2.elim
        . rename_i xs i
          split at q2
          . rename_i v hv
            obtain ⟨b, us, rfl, sq, rs⟩ := tup_rd r1'
            obtain ⟨u2, e3, r3⟩ := rs.atI hv
            rw [int_rd r2]
            exact .inr (.inl ⟨b, us, i, u2, rfl, rfl, hK ▸ sq, e3, q2.now S2 r3⟩)
          . exact q2.elim
        . rename_i xs i
          split at q2
          . rename_i v hv
            obtain ⟨b, us, rfl, sq, rs⟩ := lst_rd S2 r1' rfl
            obtain ⟨u2, e3, r3⟩ := rs.atI hv
            rw [int_rd r2]
            exact .inl ⟨b, us, i, u2, rfl, rfl, hK ▸ sq, e3, q2.now S2 r3⟩
          . exact q2.elim
        . rename_i n
          split at q2
          . rename_i xs hn
            split at q2
            . rename_i i
              split at q2
              . rename_i v hv
                obtain ⟨b, us, rfl, sq, rs⟩ := lst_rd (xs := xs) S2 r1' (by simp [lstOf, hn])
                obtain ⟨u2, e3, r3⟩ := rs.atI hv
                rw [int_rd r2]
                exact .inl ⟨b, us, i, u2, rfl, rfl, hK ▸ sq, e3, q2.now S2 r3⟩
              . exact q2.elim
            . exact q2.elim
          . rename_i t kvs hn
            exact (no _ h1 _ h2 e1 e2 n t kvs rfl hn).elim
          . exact q2.elim
        . exact q2.elim
  by_cases dd : ∃ x h1 y h2, sa en h = .ok x h1 /\ sb en h1 = .ok y h2 /\ ∃ n t kvs, x = .ref n /\ h2[n]? = some (.dct t kvs)
  . obtain ⟨x, h1, y, h2, e1, e2, n, t, kvs, rfl, hn⟩ := dd
    refine .inr ⟨ι, h, en, S, er, ?_⟩
    unfold sOp2 at q
    rw [e1] at q ⊢
    intro ι1 H1 u g1 S1 r1
    refine ⟨ι1, h1, en, S1, er.mono g1, ?_⟩
    dsimp only [Out.bind] at q
    rw [e2] at q ⊢
    intro ι2 H2 w g2 S2 r2
    have q2 := Post.shift q (g1.trans g2)
    have r1' := r1.mono g2
    dsimp only at q2
    unfold fIx at q2
    simp only [hn] at q2
    split at q2
    . rename_i hk
      cases r1' with
      | @ref _ ad hr =>
        obtain ⟨o, dg, alt⟩ := zeW S2 hn hr r2 hk
        rcases alt with ⟨v1, rfl⟩ | ⟨v, u, v1, rfl, r3⟩
        . rw [v1] at q2; exact q2.elim
        . rw [v1] at q2
          exact ⟨ad, u, rfl, dg, q2.now S2 r3⟩
    . exact q2.elim
  . exact .inl (left fun x h1 y h2 e1 e2 n t kvs e3 e4 => dd ⟨x, h1, y, h2, e1, e2, n, t, kvs, e3, e4⟩)
theorem zc4 {p' : Pos} (hu : X.A.units + 64 < cLine) (ho : PEA T E X a sa) (hi : PEA T E X b sb) (hv : PEA T E X c sc) (hs : swapsWith c (some (.Subscript a b p')) pos.line X.env = pure false := by rfl) (hs' : swapsWithSole [.Subscript a b p'] c pos.line X.env = pure false := by rfl) (hw : swappedStores [.Subscript a b p'] c X.env = pure none := by rfl)
    (h1 : (assignEach [.Subscript a b p'] X.env).map (·.2) = [assign (.Subscript a b p') X.env] := by rfl)
    (has : ∀ v, assign (.Subscript a b p') X.env v = (do
      let ov <- holding [v] (eval a X.env)
      let iv <- holding [v, ov] (eval b X.env)
      standAt p'
      holding [v, ov, iv] (setItem ov iv v)
      release [v, ov, iv] []) := by intro _; rfl) : PSA T E X (.Assign [.Subscript a b p'] c pos) (sSetIx sa sb sc) := by
  refine PS_imp (PS_or (ps_asg hv (pg_sub ho hi zgN has) hs' hw h1) (zhR (Nat.lt_of_le_of_lt (Nat.add_le_add_left (by decide : 1 <= 64) _) hu) ho hi hv hs)) fun D σ H q => ?_
  obtain ⟨ι, h, en, S, er, q⟩ := q
  unfold sSetIx at q
  by_cases dd : ∃ z h1 x h2 y h3, sc en h = .ok z h1 /\ sa en h1 = .ok x h2 /\ sb en h2 = .ok y h3 /\ ∃ n t kvs, x = .ref n /\ h3[n]? = some (.dct t kvs)
  . obtain ⟨z, h1, x, h2, y, h3, e1, e2, e3, n, t, kvs, rfl, hn⟩ := dd
    refine .inr ⟨ι, h, en, S, er, ?_⟩
    rw [e1] at q ⊢
    intro ι1 H1 u g1 S1 r1
    refine ⟨ι1, h1, en, S1, er.mono g1, ?_⟩
    dsimp only [Out.go] at q
    rw [e2] at q ⊢
    intro ι2 H2 w g2 S2 r2
    refine ⟨ι2, h2, en, S2, er.mono (g1.trans g2), ?_⟩
    dsimp only at q
    rw [e3] at q ⊢
    intro ι3 H3 j g3 S3 r3
    have q2 := PostS.shift q (g1.trans (g2.trans g3))
    simp only [hn] at q2
    split at q2
    . rename_i hk
      cases (r2.mono g3) with
      | @ref _ ad hr =>
        obtain ⟨H4, dp, g4, S4⟩ := zib S3 hn hr r3 (r1.mono (g2.trans g3)) hk.1 hk.2
        exact ⟨ad, H4, rfl, dp, q2 ι3 H4 σ g4 S4 (er.mono (g1.trans (g2.trans (g3.trans g4))))⟩
    . exact q2.elim
  . refine .inl ⟨ι, h, en, S, er, ?_⟩
    cases e1 : sc en h with
    | bad => rw [e1] at q; exact q
    | ex cc h1 => rw [e1] at q; exact fun i2 H2 C g S e => q i2 H2 σ C g S (er.mono g) e
    | ok z h1 =>
      rw [e1] at q
      intro ι1 H1 u g1 S1 r1
      refine ⟨ι1, h1, en, S1, er.mono g1, ?_⟩
      dsimp only [Out.go] at q
      cases e2 : sa en h1 with
      | bad => rw [e2] at q; exact q
      | ex cc h2 => rw [e2] at q; exact fun i2 H2 C g S e => q i2 H2 σ C (g1.trans g) S (er.mono (g1.trans g)) e
      | ok x h2 =>
        rw [e2] at q
        intro ι2 H2 w g2 S2 r2
        refine ⟨ι2, h2, en, S2, er.mono (g1.trans g2), ?_⟩
        dsimp only at q
        cases e3 : sb en h2 with
        | bad => rw [e3] at q; exact q
        | ex cc h3 => rw [e3] at q; exact fun i2 H2 C g S e => q i2 H2 σ C (g1.trans (g2.trans g)) S (er.mono (g1.trans (g2.trans g))) e
        | ok y h3 =>
          rw [e3] at q
          intro ι3 H3 j g3 S3 r3
          have q2 := PostS.shift q (g1.trans (g2.trans g3))
          dsimp only at q2
          split at q2
          . rename_i n
            split at q2
            . rename_i xs hn
              split at q2
              . rename_i k
                split at q2
                . rename_i jj hj
                  cases (r2.mono g3) with
                  | @ref _ ad hr =>
                    obtain ⟨o, e4, us, rfl, rs⟩ := S3.obj n _ ad hn hr
                    have g4 := S3.growSet (u := .lst (us.set jj u)) hr
                    rw [int_rd r3]
                    exact ⟨ad, us, k, jj, rfl, rfl, e4, by rw [<- rs.length]; exact hj, q2 ι3 _ σ g4 (S3.set hr ⟨_, rfl, RVs.set (r1.mono (g2.trans (g3.trans g4))) jj (rs.mono g4)⟩) (er.mono (g1.trans (g2.trans (g3.trans g4))))⟩
                . exact q2.elim
              . exact q2.elim
            . rename_i t kvs hn
              exact (dd ⟨_, h1, _, h2, _, h3, e1, e2, e3, n, t, kvs, rfl, hn⟩).elim
            . exact q2.elim
          . exact q2.elim
theorem zeX {g : Value -> Value -> Sem Value} {r : R2} {neg : Bool} (hK : X.K = T.K)
    (h1 : ∀ (i j : Str) H Q, Q (V.bl (if neg then !(!(Builtin.Str.occurrences j i 0 j.length 1).isEmpty) else !(Builtin.Str.occurrences j i 0 j.length 1).isEmpty)) H -> r (.str i) (.str j) H Q)
    (h2 : ∀ x y H Q p xs d ds, y = V.ref p -> SqL T.K H p xs -> DaV T.K H x d -> DaVs T.K H xs ds -> d.canLay0 = true -> (∀ e ∈ ds, e.canLay0 = true /\ e.depth <= 30) -> Q (V.bl (if neg then !(ds.any fun e => PyData.eqv e d) else ds.any fun e => PyData.eqv e d)) H -> r x y H Q)
    (h2t : ∀ x y H Q p xs d ds, y = V.ref p -> SqT T.K H p xs -> DaV T.K H x d -> DaVs T.K H xs ds -> d.canLay0 = true -> (∀ e ∈ ds, e.canLay0 = true /\ e.depth <= 30) -> Q (V.bl (if neg then !(ds.any fun e => PyData.eqv e d) else ds.any fun e => PyData.eqv e d)) H -> r x y H Q)
    (h3 : ∀ (y : V) (a : Addr) o H Q, DGet H a y o -> Q (V.bl (if neg then !o.isSome else o.isSome)) H -> r y (.ref a) H Q) :
    OpS T (fun x y h => match inA x y h with | some b => .ok (.bl (if neg then !b else b)) h | none => .bad) r := by
  intro ι h H x y u w E Q S rx ry p
  dsimp only at p
  cases hb : inA x y h with
  | none => rw [hb] at p; exact p.elim
  | some b =>
    rw [hb] at p
    dsimp only at p
    unfold inA at hb
    split at hb
    . cases hb
      obtain ⟨rfl, _⟩ := str_rd rx
      obtain ⟨rfl, _⟩ := str_rd ry
      exact h1 _ _ _ _ (p.now S (.bl _))
    . rename_i n
      split at hb
      . rename_i t kvs hn
        split at hb
        . rename_i hk
          cases hb
          cases ry with
          | @ref _ ad hr =>
            obtain ⟨o, dg, alt⟩ := zeW S hn hr rx hk
            refine h3 u ad o H Q dg ?_
            rcases alt with ⟨v1, rfl⟩ | ⟨v, u', v1, rfl, r3⟩
            . rw [v1] at p; exact p.now S (.bl _)
            . rw [v1] at p; exact p.now S (.bl _)
        . cases hb
      . rename_i xs hn
        split at hb
        . rename_i d ds e1 e2
          cases hb
          obtain ⟨a, us, rfl, sq, rs⟩ := lst_rd (xs := xs) S ry (by simp [lstOf, hn])
          obtain ⟨q1, q2, q3⟩ := daV_of S 8 rx e1
          obtain ⟨q4, q5⟩ := zbh (n := 8) (fun r e => daV_of S 8 r e) rs e2
          exact h2 _ _ _ _ a us d ds rfl sq q1 q4 q2 (fun e he => ⟨(q5 e he).1, by have := (q5 e he).2; omega⟩) (p.now S (.bl _))
        . cases hb
      . cases hb
    . rename_i xs
      split at hb
      . rename_i d ds e1 e2
        cases hb
        obtain ⟨a, us, rfl, sq, rs⟩ := lst_rd S ry rfl
        obtain ⟨q1, q2, q3⟩ := daV_of S 8 rx e1
        obtain ⟨q4, q5⟩ := zbh (n := 8) (fun r e => daV_of S 8 r e) rs e2
        exact h2 _ _ _ _ a us d ds rfl sq q1 q4 q2 (fun e he => ⟨(q5 e he).1, by have := (q5 e he).2; omega⟩) (p.now S (.bl _))
      . cases hb
    . rename_i xs
      split at hb
      . rename_i d ds e1 e2
        cases hb
        obtain ⟨a, us, rfl, sq, rs⟩ := tup_rd ry
        obtain ⟨q1, q2, q3⟩ := daV_of S 8 rx e1
        obtain ⟨q4, q5⟩ := zbh (n := 8) (fun r e => daV_of S 8 r e) rs e2
        exact h2t _ _ _ _ a us d ds rfl sq q1 q4 q2 (fun e he => ⟨(q5 e he).1, by have := (q5 e he).2; omega⟩) (p.now S (.bl _))
      . cases hb
    . cases hb
end
end Sm

namespace L2
open PySem PySem.Spec PyProof.Rows
section
variable {X : Cx} {pins : List (Addr × Obj)} {σ : St} {H : Hp} {s : Shared}
theorem zbP (I : Inv X pins σ H s) (hu : X.A.units + 64 < cLine) {xs : List V} {ds : List PyData} {its : List Value} {d : PyData} {v : Value} {as : List Addr} (ra : Reads s.heap v d as) (hds : DaVs X.K H xs ds) (r : Vals xs its) (cd : d.canLay0 = true) (cds : ∀ e ∈ ds, e.canLay0 = true /\ e.depth <= 30) :
    (∀ y, y ∈ its.toArray -> SeqAt.EqAt X.A.in1 s y v (isD s.heap d y)) /\ its.toArray.any (isD s.heap d) = ds.any fun e => PyData.eqv e d := by
  obtain ⟨hl, hat⟩ := zcY I hds r
  constructor
  . intro y hy
    have hy' : y ∈ its := by simpa using hy
    obtain ⟨j, hj⟩ := List.getElem?_of_mem hy'
    have hlt := (List.getElem?_eq_some_iff.mp hj).1
    have hdj : ds[j]? = some (ds[j]'(by omega)) := List.getElem?_eq_getElem (by omega)
    obtain ⟨bs, rb⟩ := hat j _ _ hj hdj
    have cj := cds _ (List.mem_of_getElem? hdj)
    rw [isD_of cj.1 rb]
    exact SeqAt.eqAt_reads _ _ _ _ _ _ _ _ rb ra cj.1 cd (by
      have := Nat.min_le_left (ds[j]'(by omega)).depth d.depth
      show X.A.units + 1 + _ < cLine
      omega)
  . rw [<- Array.any_toList]
    refine zcZ hl fun j u e h1 h2 => ?_
    obtain ⟨bs, rb⟩ := hat j _ _ h1 h2
    exact isD_of (cds _ (List.mem_of_getElem? h2)).1 rb
def rNotInD (K : PySem.W.Frag) : R2 := fun x y H Q => ∃ p xs d ds, y = .ref p /\ SqL K H p xs /\ DaV K H x d /\ DaVs K H xs ds /\ d.canLay0 = true /\ (∀ e ∈ ds, e.canLay0 = true /\ e.depth <= 30) /\ Q (.bl (!(ds.any fun e => PyData.eqv e d))) H
def rInDT (K : PySem.W.Frag) : R2 := fun x y H Q => ∃ p xs d ds, y = .ref p /\ SqT K H p xs /\ DaV K H x d /\ DaVs K H xs ds /\ d.canLay0 = true /\ (∀ e ∈ ds, e.canLay0 = true /\ e.depth <= 30) /\ Q (.bl (ds.any fun e => PyData.eqv e d)) H
def rNotInDT (K : PySem.W.Frag) : R2 := fun x y H Q => ∃ p xs d ds, y = .ref p /\ SqT K H p xs /\ DaV K H x d /\ DaVs K H xs ds /\ d.canLay0 = true /\ (∀ e ∈ ds, e.canLay0 = true /\ e.depth <= 30) /\ Q (.bl (!(ds.any fun e => PyData.eqv e d))) H
theorem zgm (hu : X.A.units + 64 < cLine) : OpR X (compareOp .NotIn) (rNotInD X.K) := by
  intro pins s σ H x y v u Q I rx ry h
  obtain ⟨p, xs, d, ds, rfl, hq, hd, hds, cd, cds, q⟩ := h
  cases ry
  obtain ⟨its, r, pl, hz⟩ := I.list hq
  obtain ⟨as, ra⟩ := hd.reads I rx
  obtain ⟨h1, h2⟩ := zbP I hu ra hds r cd cds
  exact SeqAt.notIn_listAt (isD s.heap d) pl.isList h1 ⟨.bl _, H, I, rfl, by rw [h2]; exact q⟩
theorem zic (hu : X.A.units + 64 < cLine) : OpR X (compareOp .In) (rInDT X.K) := by
  intro pins s σ H x y v u Q I rx ry h
  obtain ⟨p, xs, d, ds, rfl, hq, hd, hds, cd, cds, q⟩ := h
  cases ry
  obtain ⟨its, r, pl, hz⟩ := I.tuple hq
  obtain ⟨as, ra⟩ := hd.reads I rx
  obtain ⟨h1, h2⟩ := zbP I hu ra hds r cd cds
  exact SeqAt.in_tupleAt (isD s.heap d) pl h1 ⟨.bl _, H, I, rfl, by rw [h2]; exact q⟩
theorem zfE (hu : X.A.units + 64 < cLine) : OpR X (compareOp .NotIn) (rNotInDT X.K) := by
  intro pins s σ H x y v u Q I rx ry h
  obtain ⟨p, xs, d, ds, rfl, hq, hd, hds, cd, cds, q⟩ := h
  cases ry
  obtain ⟨its, r, pl, hz⟩ := I.tuple hq
  obtain ⟨as, ra⟩ := hd.reads I rx
  obtain ⟨h1, h2⟩ := zbP I hu ra hds r cd cds
  exact SeqAt.notIn_tupleAt (isD s.heap d) pl h1 ⟨.bl _, H, I, rfl, by rw [h2]; exact q⟩
theorem zgn (hu : X.A.units + 64 < cLine) : OpR X (compareOp .In) (fun x y H Q => ∃ a o, y = .ref a /\ DGet H a x o /\ Q (.bl o.isSome) H) := by
  intro pins s σ H x y v u Q I rx ry h
  obtain ⟨a, o, rfl, g, q⟩ := h
  cases ry
  exact d_in (Nat.lt_of_le_of_lt (Nat.add_le_add_left (by decide : 1 <= 64) _) hu) I g rx fun s' I' => ⟨.bl _, H, I', rfl, q⟩
theorem zdW (hu : X.A.units + 64 < cLine) : OpR X (compareOp .NotIn) (fun x y H Q => ∃ a o, y = .ref a /\ DGet H a x o /\ Q (.bl (!o.isSome)) H) := by
  intro pins s σ H x y v u Q I rx ry h
  obtain ⟨a, o, rfl, g, q⟩ := h
  cases ry
  exact zhO (Nat.lt_of_le_of_lt (Nat.add_le_add_left (by decide : 1 <= 64) _) hu) I g rx fun s' I' => ⟨.bl _, H, I', rfl, q⟩
end
end L2
namespace Sm
open PySem PySem.Spec L2
section
variable {T : Tb} {E : St -> XK} {X : Cx}
theorem o_in (hK : X.K = T.K) (hu : X.A.units + 64 < cLine) : Op T X (compareOp .In) fIn := by
  refine ⟨_, zfZ.or ((op_inD hu).or ((zic hu).or (zgn hu))), zeX (neg := false) (g := compareOp .In) hK ?_ ?_ ?_ ?_⟩
  . exact fun i j H Q q => .inl ⟨i, j, rfl, rfl, q⟩
  . exact fun x y H Q p xs d ds e1 e2 e3 e4 e5 e6 q => .inr (.inl ⟨p, xs, d, ds, e1, hK ▸ e2, hK ▸ e3, hK ▸ e4, e5, e6, q⟩)
  . exact fun x y H Q p xs d ds e1 e2 e3 e4 e5 e6 q => .inr (.inr (.inl ⟨p, xs, d, ds, e1, hK ▸ e2, hK ▸ e3, hK ▸ e4, e5, e6, q⟩))
  . exact fun y a o H Q g q => .inr (.inr (.inr ⟨a, o, rfl, g, q⟩))
theorem zeY (hK : X.K = T.K) (hu : X.A.units + 64 < cLine) : Op T X (compareOp .NotIn) fNotIn := by
  refine ⟨_, zdO.or ((zgm hu).or ((zfE hu).or (zdW hu))), zeX (neg := true) (g := compareOp .NotIn) hK ?_ ?_ ?_ ?_⟩
  . exact fun i j H Q q => .inl ⟨i, j, rfl, rfl, q⟩
  . exact fun x y H Q p xs d ds e1 e2 e3 e4 e5 e6 q => .inr (.inl ⟨p, xs, d, ds, e1, hK ▸ e2, hK ▸ e3, hK ▸ e4, e5, e6, q⟩)
  . exact fun x y H Q p xs d ds e1 e2 e3 e4 e5 e6 q => .inr (.inr (.inl ⟨p, xs, d, ds, e1, hK ▸ e2, hK ▸ e3, hK ▸ e4, e5, e6, q⟩))
  . exact fun y a o H Q g q => .inr (.inr (.inr ⟨a, o, rfl, g, q⟩))
end
end Sm

namespace Sm
open PySem PySem.Spec L2
abbrev ErrC (x : Str) (C : Addr) (mg : Str -> Option Value) (base : Heap) : Prop := PyProof.Rows.OwnCls x C [.type "ValueError", .type "Exception", .type "BaseException", .type "object"] "ValueError.__new__" mg base
structure GX (T : Tb) (mg : Str -> Option Value) (base : Heap) (c : Nat) (x : Str) : Prop where
  ex : ∃ C, T.exc c = some C /\ ErrC x C mg base
section
variable {T : Tb} {E : St -> XK} {X : Cx} {pos np cpos : Pos} {e : Expr} {es : List Expr} {x : Str} {c : Nat} {as : SL}
theorem zaI (G : GX T X.mg X.base c x) (hr : RaisesS X E) (hg : Gl X x) (ha : PAA T E X (e :: es) as) (hc : X.calm = true := by rfl) (hex : X.ex = [] := by rfl)
    (hdb : (x == ("__debug__" : Str)) = false := by decide) (he : starEach (e :: es) X.env = (false, eval e X.env) :: starEach es X.env := by rfl) (hpl : (backTo cpos (starEach es X.env)).any (·.1) = false := by rfl) :
    PSA T E X (.Raise (some (.Call (.Name x np) (e :: es) [] cpos)) none pos) (sRaise c as) := by
  obtain ⟨C, h1, O⟩ := G.ex
  refine PS_imp (zg2 O PySem.F.excBase_ValueError hc hex hr hg ha hdb he hpl) fun D σ H ⟨ι, h, en, S, er, q⟩ => ⟨ι, h, en, S, er, q.go er fun xs h1' ι1 H1 us g1 S1 r1 q1 => ?_⟩
  split at q1
  . rename_i hl
    exact ⟨by rw [<- r1.length]; exact hl, q1 ι1 H1 σ C S1.refl S1 (er.mono g1) h1⟩
  . exact q1.elim
end
def CallS (T : Tb) (f : Fn) (r : List V -> Hp -> VK -> Prop) : Prop := ∀ (ι : Ix) (h : AH) (H : Hp) (xs : List AV) (us : List V) (E : XK) (Q : VK), Sim T ι h H -> RVs T ι H xs us -> Post T ι H E (RV T) (f xs h) Q -> r us H Q
section
variable {T : Tb} {E : St -> XK} {X : Cx} {pos p : Pos} {e a : Expr} {es : List Expr} {x : Str} {as : SL} {sa : SE}
theorem cb_go {f : Fn} {r : List V -> Hp -> VK -> Prop} (hs : CallS T f r) {σ : St} {H : Hp} {Q : VK} (q : tE T E (sAppl f as) σ H Q) : tCB r (tA T E as) σ H Q := by
  obtain ⟨ι, h, en, S, er, q⟩ := q
  exact ⟨ι, h, en, S, er, q.bind fun xs h1 ι1 H1 us g1 S1 r1 q1 => hs ι1 h1 H1 xs us _ Q S1 r1 q1⟩
theorem r_bi {id : String} {f : Fn} (hc : ∃ r, CallR X (.builtin id) r /\ CallS T f r) (hg : Gl X x) (hm : X.mg x = none) (hv : bootBuiltins x = some (.builtin id)) (ha : PAA T E X (e :: es) as) (hn : x ≠ "__name__" := by decide) (hdb : (x == ("__debug__" : Str)) = false := by decide)
    (he : starEach (e :: es) X.env = (false, eval e X.env) :: starEach es X.env := by rfl) (hpl : (backTo pos (starEach es X.env)).any (·.1) = false := by rfl) : PEA T E X (.Call (.Name x p) (e :: es) [] pos) (sAppl f as) := by
  obtain ⟨r, h1, h2⟩ := hc
  exact PE_imp (zdM h1 hg hm hv ha hn hdb he hpl) fun σ H Q q => cb_go h2 q
theorem b_len (hK : X.K = T.K) : ∃ r, CallR X (.builtin "len") r /\ CallS T fLen r := by
  refine ⟨_, zdQ.or (zdP.or zga), fun ι h H xs us E Q S r q => ?_⟩
  unfold fLen at q
  split at q
  . cases r with
    | cons r r' =>
      cases r'
      obtain ⟨rfl, n, _⟩ := str_rd r
      exact .inl ⟨_, rfl, n, q.now S (.int _)⟩
  . cases r with
    | cons r r' =>
      cases r'
      obtain ⟨a, us, rfl, sq, rs⟩ := tup_rd r
      exact .inr (.inl ⟨a, us, rfl, .inr (hK ▸ sq), by rw [<- rs.length]; exact q.now S (.int _)⟩)
  . cases r with
    | cons r r' =>
      cases r'
      obtain ⟨a, us, rfl, sq, rs⟩ := lst_rd S r rfl
      exact .inr (.inl ⟨a, us, rfl, .inl (hK ▸ sq), by rw [<- rs.length]; exact q.now S (.int _)⟩)
  . rename_i n
    cases r with
    | cons r r' =>
      cases r'
      split at q
      . rename_i xs hn
        obtain ⟨a, us, rfl, sq, rs⟩ := lst_rd (xs := xs) S r (by simp [lstOf, hn])
        exact .inr (.inl ⟨a, us, rfl, .inl (hK ▸ sq), by rw [<- rs.length]; exact q.now S (.int _)⟩)
      . rename_i kvs hn
        cases r with
        | @ref _ ad hr =>
          obtain ⟨o, e1, kus, rfl, rs⟩ := S.obj n _ ad hn hr
          exact .inr (.inr ⟨ad, kus, rfl, e1, by rw [<- Paired.length rs]; exact q.now S (.int _)⟩)
      . exact q.elim
  . exact q.elim
theorem b_abs : ∃ r, CallR X (.builtin "abs") r /\ CallS T fAbs r := by
  refine ⟨_, zgI, fun ι h H xs us E Q S r q => ?_⟩
  unfold fAbs at q
  split at q
  . cases r with
    | cons r r' => cases r'; rw [int_rd r]; exact ⟨_, rfl, q.now S (.int _)⟩
  . exact q.elim
theorem b_max2 (hc : X.calm = true := by rfl) : ∃ r, CallR X (.builtin "max") r /\ CallS T fMax2 r := by
  refine ⟨_, zf0 hc, fun ι h H xs us E Q S r q => ?_⟩
  unfold fMax2 at q
  split at q
  . cases r with
    | cons r r' => cases r' with
      | cons r1 r2 => cases r2; rw [int_rd r, int_rd r1]; exact ⟨_, _, rfl, q.now S (.int _)⟩
  . exact q.elim
theorem zdX {ι : Ix} {H : Hp} : ∀ {xs : List AV} {us : List V} {bs : List Bool}, RVs T ι H xs us -> boolsOf xs = some bs -> us = bs.map V.bl
  | _, _, _, .nil, e => by cases e; rfl
  | _, _, bs, .cons (x := x) r rs, e => by
    unfold boolsOf at e
    split at e
    . rename_i hh; cases hh
    . rename_i b r' hh
      cases hh
      obtain ⟨bs', e1, rfl⟩ := Option.map_eq_some_iff.mp e
      rw [bl_rd r, zdX rs e1]; rfl
    . cases e
theorem b_all (hK : X.K = T.K) (hc : X.calm = true := by rfl) : ∃ r, CallR X (.builtin "all") r /\ CallS T fAll r := by
  refine ⟨_, zgX hc, fun ι h H xs us E Q S r q => ?_⟩
  unfold fAll at q
  split at q
  . split at q
    . rename_i bs hb
      cases r with
      | cons r r' =>
        cases r'
        obtain ⟨a, us, rfl, sq, rs⟩ := lst_rd S r rfl
        rw [zdX rs hb] at sq
        exact ⟨a, bs, rfl, hK ▸ sq, q.now S (.bl _)⟩
    . exact q.elim
  . exact q.elim
abbrev tys : List String := ["NoneType", "bool", "int", "str", "list", "tuple", "dict"]
theorem kit_ty (K : PySem.W.Frag) : ∀ n ∈ tys, ∀ t ∈ tys, PySem.W.kitOne K (.type n) (.type t) = some (n == t || (t == "int" && n == "bool")) := by
  intro n hn t ht
  simp only [tys, List.mem_cons, List.not_mem_nil, or_false] at hn ht
  rcases hn with rfl | rfl | rfl | rfl | rfl | rfl | rfl <;> rcases ht with rfl | rfl | rfl | rfl | rfl | rfl | rfl <;> rfl
theorem zgo {c : V} {cv : Value} (rc : ∀ u, RelV c u -> u = cv) :
    CallR X (.builtin "isinstance") (fun xs H Q => ∃ a us r, xs = [.ref a, c] /\ SqL X.K H a us /\ PySem.W.kitOne X.K (.type "list") cv = some r /\ Q (.bl r) H) := by
  intro pins s σ H xs us Q I r h
  obtain ⟨a, ws, k, rfl, sq, hk, q⟩ := h
  obtain ⟨u, w', rfl, rx, ry⟩ := vals2 r
  obtain rfl := rc _ ry
  obtain rfl : u = Value.ref a := rx
  obtain ⟨its, _, ⟨o, n, e1, e2, _⟩, _⟩ := I.list sq
  exact PySem.W.kia_one PySem.W.kitx_list I.kIn ⟨_, e1, e2⟩ hk (fun z => nomatch z) fun tk => ⟨.bl k, H, I.tok _, rfl, q⟩
theorem ty_of {ι : Ix} {h : AH} {H : Hp} {v : AV} {u : V} {n : String} (S : Sim T ι h H) (r : RV T ι H v u) (e : tyN v h = some n) : (TyOf T.K H u (.type n) \/ (n = "list" /\ ∃ a us, u = .ref a /\ SqL T.K H a us)) /\ n ∈ tys := by
  unfold tyN at e
  cases r with
  | non => cases e; exact ⟨.inl .non, by decide⟩
  | bl b => cases e; exact ⟨.inl (.bl b), by decide⟩
  | int b => cases e; exact ⟨.inl (.int b), by decide⟩
  | str n o => cases e; exact ⟨.inl (.str _), by decide⟩
  | tup n q r => cases e; exact ⟨.inl (.tup q), by decide⟩
  | fl n q r => cases e; exact ⟨.inr ⟨rfl, _, _, rfl, .inl q⟩, by decide⟩
  | kfl q r => cases e; exact ⟨.inr ⟨rfl, _, _, rfl, .inr q⟩, by decide⟩
  | @ref k a q =>
    dsimp only at e
    split at e
    . rename_i xs hn
      cases e
      obtain ⟨o, e1, us, rfl, rs⟩ := S.obj k _ a hn q
      exact ⟨.inl (.lst e1), by decide⟩
    . rename_i t kvs hn
      cases e
      obtain ⟨o, e1, r⟩ := S.obj k _ a hn q
      cases t with
      | false => obtain ⟨kus, rfl, rs⟩ := r; exact ⟨.inl (.dK e1), by decide⟩
      | true => obtain ⟨kus, rfl, rs⟩ := r; exact ⟨.inl (.dT e1), by decide⟩
    . cases e
  | exc _ _ _ => cases e
theorem r_isB {t : Str} {id : String} {p2 : Pos} (hK : X.K = T.K) (hg : Gl X "isinstance") (hm : X.mg "isinstance" = none) (ha : PEA T E X a sa) (hgt : Gl X t) (hmt : X.mg t = none) (hvt : bootBuiltins t = some (.type id)) (hid : id ∈ tys) (hnt : t ≠ "__name__" := by decide) (hdt : (t == ("__debug__" : Str)) = false := by decide)
    (he : starEach [a, .Name t p2] X.env = (false, eval a X.env) :: starEach [.Name t p2] X.env := by rfl) : PEA T E X (.Call (.Name "isinstance" p) [a, .Name t p2] [] pos) (sIsB id sa) := by
  refine PE_imp (zdM ((zgW (X := X) (rc_ty id)).or (zgo (X := X) (rc_ty id))) hg hm PyProof.Rows.boot_isinstance (zcX ha (zcX (zhz (v := .ty id) hgt hmt hvt rfl hnt hdt) pa_nil) he) (he := he)) fun σ H Q ⟨ι, h, en, S, er, q⟩ => ⟨ι, h, en, S, er, q.bind fun v h1 ι1 H1 u g1 S1 r1 q1 => ?_⟩
  split at q1
  . rename_i n hn
    obtain ⟨ty, hmem⟩ := ty_of S1 r1 hn
    rcases ty with ty | ⟨rfl, ad, us, rfl, sq⟩
    . exact .inl ⟨u, .type n, _, rfl, hK ▸ ty, kit_ty _ n hmem id hid, q1.now S1 (.bl _)⟩
    . exact .inr ⟨ad, us, _, rfl, hK ▸ sq, kit_ty _ _ hmem id hid, q1.now S1 (.bl _)⟩
  . exact q1.elim
def MtS (T : Tb) (f : FM) (r : V -> List V -> Hp -> VK -> Prop) : Prop := ∀ (ι : Ix) (h : AH) (H : Hp) (x : AV) (xs : List AV) (u : V) (us : List V) (E : XK) (Q : VK), Sim T ι h H -> RV T ι H x u -> RVs T ι H xs us -> Post T ι H E (RV T) (f x xs h) Q -> r u us H Q
def ChkS (T : Tb) (chk : AV -> AH -> Bool) (n : String) : Prop := ∀ (ι : Ix) (h : AH) (H : Hp) (x : AV) (u : V), Sim T ι h H -> RV T ι H x u -> chk x h = true -> tyV T.K n u H
theorem zat : ChkS T isLst "list" := fun ι h H x u S r e => by
  obtain ⟨xs, e1⟩ := Option.isSome_iff_exists.mp e
  obtain ⟨a, us, rfl, sq, rs⟩ := lst_rd S r e1
  exact .inl ⟨rfl, us, sq⟩
theorem zeZ : ChkS T isStr "str" := fun ι h H x u S r e => by
  unfold isStr at e
  split at e
  . obtain ⟨rfl, _⟩ := str_rd r; rfl
  . cases e
variable {o : Expr} {so : SE} {name : Str} {apos : Pos} {chk : AV -> AH -> Bool} {f : FM} {tn id : String}
theorem r_bm (hK : X.K = T.K) (pa : PlainAttrs tn) (slot : Slot tn name id) (hty : typeOf (.builtin id) = pure (.type "method_descriptor")) (hm : ∃ r, MtR X id r /\ MtS T f r) (hc : ChkS T chk tn) (ho : PEA T E X o so) (ha : PAA T E X (e :: es) as)
    (hbase : attributeBase o name X.env (eval o X.env) = eval o X.env := by rfl)
    (hfew : ((backTo pos (starEach (e :: es) X.env)).all (fun x => !x.1) && (backToKw pos (keywordEach [] X.env)).all (fun x => x.1.isSome)
      && decide ((e :: es).length + ([] : List Keyword).length + (if ([] : List Keyword).isEmpty then 0 else 1) < 30)) = true := by rfl)
    (hline : (apos.endLine == pos.line) = true := by rfl) (hs : starEach (e :: es) X.env = (false, eval e X.env) :: starEach es X.env := by rfl) (hplain : (backTo pos (starEach es X.env)).any (·.1) = false := by rfl) :
    PEA T E X (.Call (.Attribute o name apos) (e :: es) [] pos) (sBM chk f so as) := by
  obtain ⟨r, h1, h2⟩ := hm
  refine PE_imp (pe_bm pa slot hty h1 ho ha hbase hfew hline hs hplain) fun σ H Q ⟨ι, h, en, S, er, q⟩ => ⟨ι, h, en, S, er, q.bind fun x h1 ι1 H1 u g1 S1 r1 q1 => ?_⟩
  by_cases hx : chk x h1 = true
  . rw [if_pos hx] at q1
    exact ⟨hK ▸ hc ι1 h1 H1 x u S1 r1 hx, ι1, h1, en, S1, er.mono g1, q1.bind fun xs h2' ι2 H2 us g2 S2 r2 q2 => h2 ι2 h2' H2 x xs u us _ Q S2 (r1.mono g2) r2 q2⟩
  . rw [if_neg hx] at q1; exact q1.elim
theorem zau : ∃ r, MtR X "list.append" r /\ MtS T mAppend r := by
  refine ⟨_, zbM, fun ι h H x xs u us E Q S rx rs q => ?_⟩
  unfold mAppend at q
  split at q
  . rename_i n y
    split at q
    . rename_i ys hn
      split at q
      . rename_i hl
        cases rx with
        | @ref _ ad hr =>
          cases rs with
          | @cons _ uu _ _ r r' =>
            cases r'
            obtain ⟨o, e1, ws, rfl, rw_⟩ := S.obj n _ ad hn hr
            have g := S.growSet (u := .lst (ws ++ [uu])) hr
            exact ⟨ad, ws, _, rfl, rfl, e1, by rw [<- rw_.length]; exact hl, q ι _ _ g (S.set hr ⟨_, rfl, (rw_.mono g).append (.cons (r.mono g) .nil)⟩) .non⟩
      . exact q.elim
    . exact q.elim
  . exact q.elim
theorem zdY : ∃ r, MtR X "str.count" r /\ MtS T mCountS r := by
  refine ⟨_, zdS, fun ι h H x xs u us E Q S rx rs q => ?_⟩
  unfold mCountS at q
  split at q
  . cases rs with
    | cons r r' =>
      cases r'
      obtain ⟨rfl, _⟩ := str_rd rx
      obtain ⟨rfl, _⟩ := str_rd r
      exact ⟨_, _, rfl, rfl, q.now S (.int _)⟩
  . exact q.elim
end
end Sm

namespace Sm
open PySem PySem.Spec L2
theorem Out.bind_assoc {α β γ : Type} (o : Out α) (f : α -> AH -> Out β) (g : β -> AH -> Out γ) : (o.bind f).bind g = o.bind fun a h => (f a h).bind g := by cases o <;> rfl
section
variable {T : Tb} {E : St -> XK} {X : Cx} {pos p2 : Pos} {a b : Expr} {sa sb : SE}
def tO (T : Tb) (E : St -> XK) : Option SE -> TO
  | none => tNoPart
  | some s => tPart (tE T E s)
abbrev POA (T : Tb) (E : St -> XK) (X : Cx) (e : Option Expr) (s : Option SE) : Prop := PO X e (tO T E s)
theorem zb4 : POA T E X none none := zhJ
theorem zaX (h : PEA T E X a sa) : POA T E X (some a) (some sa) := zhK h
@[simp] def sPart (s : Option SE) : En -> AH -> Out (Option Int) := fun en h => match s with
  | none => .ok none h
  | some l => (l en h).bind fun v h2 => match v with | .int i => .ok (some i) h2 | _ => .bad
theorem ze0 {s : Option SE} {σ : St} {H : Hp} {ι : Ix} {h : AH} {en : En} {γ δ : Type} {R' : Ix -> Hp -> γ -> δ -> Prop} {Q0 : δ -> Hp -> Prop} {f : Option Int -> AH -> Out γ} {Q : Option Int -> Hp -> Prop} (S : Sim T ι h H) (er : ER T ι H en σ) (q : Post T ι H (E σ) R' ((sPart s en h).bind f) Q0)
    (k : ∀ l h' ι' H', Grow ι H ι' H' -> Sim T ι' h' H' -> Post T ι' H' (E σ) R' (f l h') Q0 -> Q l H') : tO T E s σ H Q := by
  cases s with
  | none => exact k none h ι H S.refl S q
  | some l =>
    refine ⟨ι, h, en, S, er, ?_⟩
    unfold sPart at q
    dsimp only at q
    rw [Out.bind_assoc] at q
    refine q.bind fun v h1 ι1 H1 u g1 S1 r1 q1 => ?_
    split at q1
    . rw [int_rd r1]
      exact ⟨_, rfl, k _ _ ι1 H1 g1 S1 q1⟩
    . exact q1.elim
@[simp] def cutOf (x : AV) (l u : Option Int) (h : AH) : Out AV := match x with
  | .fl xs => .ok (.fl (cutA xs l u)) h
  | .str z => .ok (.str (cutS z l u)) h
  | .tup xs => if ¬ (HT.sIx xs.length 0 l = 0 /\ HT.sIx xs.length xs.length u = xs.length) then .ok (.tup (cutA xs l u)) h else .bad
  | .ref n => match h[n]? with
    | some (.lst xs) => .ok (.fl (cutA xs l u)) h
    | _ => .bad
  | _ => .bad
@[simp] def sCut (a : SE) (lo hi : Option SE) : SE := fun en h => (a en h).bind fun x h1 => (sPart lo en h1).bind fun l h2 => (sPart hi en h2).bind fun u h3 => cutOf x l u h3
theorem RVs.cut {ι : Ix} {H : Hp} {xs : List AV} {us : List V} {lo hi : Option Int} (r : RVs T ι H xs us) : RVs T ι H (cutA xs lo hi) (cutV us lo hi) := by
  unfold cutA cutV
  rw [<- r.length]
  exact (r.drop _).take _
theorem cut_rv {ι : Ix} {H : Hp} {z : Str} {l u : Option Int} (hz : z.length <= sizeLine) (hc : z.cps.all (· < 0x110000) = true) : RV T ι H (.str (cutS z l u)) (.str (cutS z l u)) := by
  refine .str ?_ ?_
  . refine Nat.le_trans ?_ hz
    simp [cutS, Str.length]; omega
  . simp only [cutS, List.all_toArray, List.all_eq_true]
    intro c h
    have hm : c ∈ z.cps.toList := List.mem_of_mem_drop (List.mem_of_mem_take h)
    exact (Array.all_eq_true_iff_forall_mem.mp hc) c (by simpa using hm)
theorem zbk {lo hi : Option Expr} {sl sh : Option SE} (hK : X.K = T.K) (ha : PEA T E X a sa) (hl : POA T E X lo sl) (hh : POA T E X hi sh) : PEA T E X (.Subscript a (.Slice lo hi none p2) pos) (sCut sa sl sh) := by
  refine PE_imp (zgM (zhN.or (sl_tup.or sl_str)) ha hl hh) fun σ H Q ⟨ι, h, en, S, er, q⟩ => ⟨ι, h, en, S, er, q.bind fun x h1 ι1 H1 u g1 S1 r1 q1 => ?_⟩
  refine ze0 (E := E) S1 (er.mono g1) q1 fun l h2 ι2 H2 g2 S2 q2 => ze0 (E := E) S2 (er.mono (g1.trans g2)) q2 fun w h3 ι3 H3 g3 S3 q3 => ?_
  have r3 := r1.mono (g2.trans g3)
  unfold cutOf at q3
  split at q3
  . obtain ⟨ad, us, rfl, sq, rs⟩ := lst_rd S3 r3 rfl
    exact .inl ⟨ad, us, rfl, hK ▸ sq, fun p n => new_fl S3 rs.cut n q3⟩
  . obtain ⟨rfl, hz, hc⟩ := str_rd r3
    exact .inr (.inr ⟨_, rfl, hz, q3.now S3 (cut_rv hz hc)⟩)
  . rename_i xs
    split at q3
    . rename_i hz
      obtain ⟨ad, us, rfl, sq, rs⟩ := tup_rd r3
      exact .inr (.inl ⟨ad, us, rfl, hK ▸ sq, by rw [<- rs.length]; exact hz, fun p n => zc0 S3 rs.cut n q3⟩)
    . exact q3.elim
  . split at q3
    . rename_i xs hn
      obtain ⟨ad, us, rfl, sq, rs⟩ := lst_rd (xs := xs) S3 r3 (by simp [lstOf, hn])
      exact .inl ⟨ad, us, rfl, hK ▸ sq, fun p n => new_fl S3 rs.cut n q3⟩
    . exact q3.elim
  . exact q3.elim
theorem r_gI {x : Str} {i : Int} {p : Pos} (hg : Gl X x) (hm : ∃ t, X.mg x = some (.int i t)) (hd : (x == ("__debug__" : Str)) = false := by decide) : PEA T E X (.Name x p) (sLit (.int i)) := by
  obtain ⟨t, hm⟩ := hm
  exact zhY hg hm hd
end
def DG (K : PySem.W.Frag) (mg : Str -> Option Value) (x : Str) (st : Stmt) (ps : List Str) : Prop := ∃ f fd, mg x = some (.ref f) /\ PySem.W.keepIn K (.ref f) = true /\ Binds K fd ps [] /\ Fun K x x st f fd
end Sm
namespace Sm
open PySem PySem.Spec L2
def compChk (N : List Str) (sc : Scope) (x₁ : Str) (jf : List (Nat × Str)) (scope : Scope) : Bool :=
  decide (x₁ :: jf.map (·.2)).Nodup && (scope.names.lookup x₁ == some .local) && jf.all (fun p => N[p.1]? == some p.2) && jf.all (fun p => scope.names.lookup p.2 == some .free) && (scope.kind == .function) &&
  scope.names.all (fun y => y.2 != .cell) && scope.names.all (fun y => y.2 != .free || sc.names.lookup y.1 == some .cell || sc.names.lookup y.1 == some .free) && scope.names.all (fun y => y.2 != .local || scope.names.lookup y.1 == some .local)
theorem zaE {X : Cx} {N : List Str} {sc scope : Scope} {x₁ : Str} {jf : List (Nat × Str)} (hN : X.N = N) (hk : ∀ x, X.env.kindOf x = sc.names.lookup x) (h : compChk N sc x₁ jf scope = true) : CompOk X x₁ jf scope := by
  unfold compChk at h
  simp only [Bool.and_eq_true, decide_eq_true_eq, List.all_eq_true, beq_iff_eq, bne_iff_ne, Bool.or_eq_true] at h
  obtain ⟨⟨⟨⟨⟨⟨⟨h1, h2⟩, h3⟩, h4⟩, h5⟩, h6⟩, h7⟩, h8⟩ := h
  refine ⟨h1, h2, fun p hp => by rw [hN]; exact h3 p hp, h4, h5, fun y hy => h6 y hy, fun y hy e => ?_, fun y hy e => ?_⟩
  . rw [hk]
    rcases h7 y hy with (z | z) | z
    . exact absurd e z
    . exact .inl z
    . exact .inr z
  . rcases h8 y hy with z | z
    . exact absurd e z
    . exact z
end Sm
namespace Sm
open PySem PySem.Spec L2
theorem zc5 {T : Tb} {ι : Ix} {H : Hp} : ∀ ns : List Int, RVs T ι H (ns.map AV.int) (ns.map V.int)
  | [] => .nil
  | n :: ns => .cons (.int n) (zc5 ns)
theorem sim0 {T : Tb} {H : Hp} : Sim T ⟨[], []⟩ [] H := ⟨rfl, List.nodup_nil, (fun _ z => nomatch z), (fun i o a e => by simp at e)⟩
def spL (K : PySem.W.Frag) : Sp := fun vs H Q _ => ∃ (a : Addr) (ns : List Int), vs = [.ref a] /\ SqL K H a (ns.map V.int) /\ ns.length <= 63 /\ ∀ H', Q (.bl true) H'
theorem zid {T : Tb} {F : Fn} (ht : ∀ ns : List Int, ns.length <= 63 -> ∃ h', F [.fl (ns.map AV.int)] [] = .ok (.bl true) h') : ∀ vs H Q E, spL T.K vs H Q E -> spA T F vs H Q E := by
  rintro vs H Q E ⟨a, ns, rfl, hs, hl, q⟩
  obtain ⟨h', e⟩ := ht ns hl
  refine ⟨⟨[], []⟩, [], [.fl (ns.map AV.int)], sim0, .cons ?_ .nil, ?_⟩
  . rcases hs with hs | hs
    . exact .fl (by simp [Ix.all]) hs (zc5 ns)
    . exact .kfl hs (zc5 ns)
  . rw [e]
    intro ι' H' u g S r
    rw [bl_rd r]
    exact q H'
theorem zgp {P : Program} {w : World} {outer : List Env} {H : Hp} {s s' : Shared} {e : Value} (h : CXE P w outer H s (fun _ _ _ => False) e s') : False := by
  obtain ⟨_, _, _, _, _, _, _, _, _, _, _, _, _, _, q⟩ := h
  exact q
end Sm


namespace Sm
open PySem PySem.Spec L2
@[simp] def intsOf : List AV -> Option (List Int)
  | [] => some []
  | .int i :: r => (intsOf r).map (i :: ·)
  | _ => none
@[simp] def fSum : Fn := fun args h => match args with
  | [.fl xs] => match intsOf xs with
    | some ns => .ok (.int ns.sum) h
    | none => .bad
  | _ => .bad
@[simp] def iRange3 (a b c : SE) : SI := fun en h => (a en h).bind fun v h1 => (b en h1).bind fun w h2 => (c en h2).bind fun z h3 => match v, w, z with
  | .int i, .int j, .int k => if i.natAbs < 2 ^ 40 /\ j.natAbs < 2 ^ 40 /\ 0 < k /\ k < 2 ^ 20 then .ok ((List.range (if i < j then (j - i - 1) / k + 1 else 0 : Int).toNat).map (fun m : Nat => .int (i + m * k)), none) h3 else .bad
  | _, _, _ => .bad
section
variable {T : Tb} {E : St -> XK} {X : Cx} {pos p : Pos} {e a b c : Expr} {sa sb sc : SE}
theorem ze1 {ι : Ix} {H : Hp} : ∀ {xs : List AV} {us : List V} {bs : List Int}, RVs T ι H xs us -> intsOf xs = some bs -> us = bs.map V.int
  | _, _, _, .nil, e => by cases e; rfl
  | _, _, bs, .cons (x := x) r rs, e => by
    unfold intsOf at e
    split at e
    . rename_i hh; cases hh
    . rename_i b r' hh
      cases hh
      obtain ⟨bs', e1, rfl⟩ := Option.map_eq_some_iff.mp e
      rw [int_rd r, ze1 rs e1]; rfl
    . cases e
theorem b_sum (hK : X.K = T.K) (hc : X.calm = true := by rfl) : ∃ r, CallR X (.builtin "sum") r /\ CallS T fSum r := by
  refine ⟨_, zg6 hc, fun ι h H xs us E Q S r q => ?_⟩
  unfold fSum at q
  split at q
  . split at q
    . rename_i bs hb
      cases r with
      | cons r r' =>
        cases r'
        obtain ⟨a, us, rfl, sq, rs⟩ := lst_rd S r rfl
        rw [ze1 rs hb] at sq
        exact ⟨a, bs, rfl, hK ▸ sq, q.now S (.int _)⟩
    . exact q.elim
  . exact q.elim
theorem zfF {ι : Ix} {H : Hp} {lo c : Int} {n : Nat} : ItR T (Itr3 lo c n) ι H ((List.range n).map (fun m : Nat => AV.int (lo + m * c))) none := by
  constructor
  . intro i ι' h' H' y g S _ e
    rw [List.getElem?_map] at e
    obtain ⟨m, e1, rfl⟩ := Option.map_eq_some_iff.mp e
    have hi : i < n := by
      have := (List.getElem?_eq_some_iff.mp e1).1
      simpa using this
    rw [List.getElem?_range hi] at e1
    cases e1
    refine ⟨hi, ?_⟩
    rintro u H2 ⟨rfl, rfl⟩
    exact ⟨S.refl, S, .int _⟩
  . intro i ι' h' H' g S _ hl
    have hl' : n <= i := by simpa using hl
    exact hl'
theorem zds {tg : Expr} {p : Pos} (hg : Gl X "range") (hm : X.mg "range" = none) (ha : PEA T E X a sa) (hb : PEA T E X b sb) (hc : PEA T E X c sc) (hs : starEach [a, b, c] X.env = [(false, eval a X.env), (false, eval b X.env), (false, eval c X.env)] := by rfl) (hs2 : starEach [b, c] X.env = [(false, eval b X.env), (false, eval c X.env)] := by rfl) (hs3 : starEach [c] X.env = [(false, eval c X.env)] := by rfl) :
    PIA T X tg (.Call (.Name "range" p) [a, b, c] [] pos) (iRange3 sa sb sc) :=
  PI_imp (zgh hg hm (zaa ha (zaa hb (zaa hc ra_nil hs3) (by rw [hs2, hs3])) (by rw [hs, hs2])) hs hs2) fun σ H R ⟨ι, h, en, S, er, q⟩ => by
    unfold iRange3 at q
    refine ⟨ι, h, en, S, er, ?_⟩
    unfold sCons
    cases e : sa en h with
    | bad => rw [e] at q; exact q
    | ex c h1 => rw [e] at q; exact q.elim
    | ok v h1 =>
      rw [e] at q
      dsimp only [Out.bind] at q ⊢
      cases e' : sb en h1 with
      | bad => rw [e'] at q; exact q
      | ex c h1 => rw [e'] at q; exact q.elim
      | ok v' h2 =>
        rw [e'] at q
        dsimp only at q ⊢
        cases e'' : sc en h2 with
        | bad => rw [e''] at q; exact q
        | ex c h1 => rw [e''] at q; exact q.elim
        | ok v'' h3 =>
          rw [e''] at q
          dsimp only at q
          intro ι1 H1 u g1 S1 r1
          split at q
          . rename_i hx
            split at hx
            . split at hx
              . rename_i hb
                cases hx
                cases r1 with
                | cons r r' =>
                  cases r' with
                  | cons r2 r3 =>
                    cases r3 with
                    | cons r4 r5 =>
                      cases r5
                      rw [int_rd r, int_rd r2, int_rd r4]
                      exact ⟨_, _, _, rfl, hb, q ι1 H1 _ g1 S1 zfF⟩
              . cases hx
            . cases hx
          . exact q.elim
theorem rs_bad {sts : List Stmt} {E : St -> XK} : PSsA T E X sts (fun _ _ => .bad) := fun pins s σ H D I ⟨ι, h, en, S, er, q⟩ => q.elim
end
theorem el1 : ∀ {us : List Value}, us.length = 1 -> ∃ a : Value, us = [a]
  | [a], _ => ⟨a, rfl⟩
theorem el2 : ∀ {us : List Value}, us.length = 2 -> ∃ a b : Value, us = [a, b]
  | [a, b], _ => ⟨a, b, rfl⟩
theorem el3 : ∀ {us : List Value}, us.length = 3 -> ∃ a b c : Value, us = [a, b, c]
  | [a, b, c], _ => ⟨a, b, c, rfl⟩
theorem el4 : ∀ {us : List Value}, us.length = 4 -> ∃ a b c d : Value, us = [a, b, c, d]
  | [a, b, c, d], _ => ⟨a, b, c, d, rfl⟩
@[simp] def mExtR : FM := fun x vs h => match x, vs with
  | .ref n, [.ref k] => match h[n]?, h[k]? with
    | some (.lst xs), some (.lst ys) => if xs.length + ys.length <= sizeLine then .ok .non (h.set n (.lst (xs ++ ys))) else .bad
    | _, _ => .bad
  | _, _ => .bad
theorem m_extR {T : Tb} {X : Cx} : ∃ r, MtR X "list.extend" r /\ MtS T mExtR r := by
  refine ⟨_, zf5, fun ι h H x xs u us E Q S rx rs q => ?_⟩
  unfold mExtR at q
  split at q
  . rename_i n k
    split at q
    . rename_i ys zs hn hk
      split at q
      . rename_i hl
        cases rx with
        | @ref _ ad hr =>
          cases rs with
          | @cons _ uu _ _ r r' =>
            cases r'
            cases r with
            | @ref _ bd hb =>
              obtain ⟨o, e1, ws, rfl, rw_⟩ := S.obj n _ ad hn hr
              obtain ⟨o2, e2, ws2, rfl, rw2⟩ := S.obj k _ bd hk hb
              have g := S.growSet (u := .lst (ws ++ ws2)) hr
              exact ⟨ad, bd, ws, ws2, rfl, rfl, e1, e2, by rw [<- rw_.length, <- rw2.length]; exact hl, q ι _ _ g (S.set hr ⟨_, rfl, (rw_.mono g).append (rw2.mono g)⟩) .non⟩
      . exact q.elim
    . exact q.elim
  . exact q.elim
def wFuel : Nat := 100000000
end Sm

namespace Sm
open PySem PySem.Spec L2
@[simp] def fAddM : F2 := fun x y h => match lstOf x h, lstOf y h with
  | some xs, some ys => if xs.length + ys.length <= sizeLine then .ok (.ref h.length) (h ++ [.lst (xs ++ ys)]) else .bad
  | _, _ => .bad
section
variable {T : Tb} {E : St -> XK} {X : Cx} {pos : Pos}
theorem o_addM (hK : X.K = T.K) : Op T X (binaryOp .Add) fAddM := by
  refine ⟨_, zeM, fun ι h H x y u w E Q S rx ry p => ?_⟩
  unfold fAddM at p
  split at p
  . split at p
    . rename_i e1 e2 hz
      obtain ⟨a, us, rfl, q1, r1⟩ := lst_rd S rx e1
      obtain ⟨b, ws, rfl, q2, r2⟩ := lst_rd S ry e2
      exact ⟨a, b, us, ws, rfl, rfl, hK ▸ q1, hK ▸ q2, by rw [<- r1.length, <- r2.length]; exact hz, fun l n => zeP S (r1.append r2) n p⟩
    . exact p.elim
  . exact p.elim
end
end Sm



namespace Sm
open PySem PySem.Spec L2
def un2 {α : Type} (c : En -> AH -> Out α) : En -> AH -> Out α := fun en h => match en with
  | some (.tup [y, z]) :: r => c (some y :: some z :: r) h
  | _ => .bad
theorem un2_or {α : Type} (c : En -> AH -> Out α) (x : AV) : (∃ y z, x = .tup [y, z]) \/ ∀ r h, un2 c (some x :: r) h = .bad := by
  match x with
  | .tup [y, z] => exact .inl ⟨y, z, rfl⟩
  | .tup [] => exact .inr fun _ _ => rfl
  | .tup [_] => exact .inr fun _ _ => rfl
  | .tup (_ :: _ :: _ :: _) => exact .inr fun _ _ => rfl
  | .non => exact .inr fun _ _ => rfl
  | .exc _ => exact .inr fun _ _ => rfl
  | .bl _ => exact .inr fun _ _ => rfl
  | .int _ => exact .inr fun _ _ => rfl
  | .str _ => exact .inr fun _ _ => rfl
  | .fl _ => exact .inr fun _ _ => rfl
  | .ref _ => exact .inr fun _ _ => rfl
@[simp] theorem un2_at {α : Type} (c : En -> AH -> Out α) (y z : AV) (r : En) (h : AH) : un2 c (some (.tup [y, z]) :: r) h = c (some y :: some z :: r) h := rfl
@[simp] def sComp2 (js : List Nat) (it : SI) (c : SB) (e : SE) : SE := sComp js it (un2 c) (un2 e)
section
variable {T : Tb} {E : St -> XK} {X : Cx} {pos px p1 p2 : Pos} {kk : Nat} {iter elt : Expr} {ifs : List Expr} {scope : Scope} {x₁ x₂ : Str} {jf : List (Nat × Str)} {it : SI} {cc : SB} {ce : SE}
theorem ER.comp2 {ι : Ix} {H : Hp} {en : En} {σ : St} {x y : AV} {u v : V} {jf : List (Nat × Str)} (er : ER T ι H en σ) (r : RV T ι H x u) (r2 : RV T ι H y v) : ER T ι H (some x :: some y :: (jf.map (·.1)).map fun j => (en[j]?).join) (compSt2 (some u) (some v) jf σ) := by
  obtain ⟨h1, h2⟩ := ER.comp (jf := jf) er r2
  refine ⟨by simp [compSt2], fun i v e => ?_⟩
  cases i with
  | zero => simp at e; subst e; exact ⟨u, rfl, r⟩
  | succ i => exact h2 i v (by simpa using e)
theorem zhb {jf : List (Nat × Str)} {it : SI} {cc : SB} {ce : SE} {σ : St} {H : Hp} {Q : VK} {ι : Ix} {h : AH} {en : En} (S : Sim T ι h H) (er : ER T ι H en σ)
    (q : match it en h with | .ok (xs, w) h1 => (match sCompGo (jf.map (·.1)) en w xs (un2 cc) (un2 ce) xs [] h1 with | .ok ys h2 => ∀ ι' H' D vs, Grow ι H ι' H' -> Sim T (ι'.hide D) h2 H' -> RVs T (ι'.hide D) H' ys vs -> H' D = some (.lst vs) -> D ∉ ι'.all -> (∀ n, ι'.refs = ι.refs ++ n -> ∀ a ∈ n ++ [D], H a = none) -> Q (.ref D) H' | _ => False) | _ => False) :
    tComp2 T.K jf (tI T it) (tT T EN cc) (tE T EN ce) σ H Q := by
  refine ⟨ι, h, en, S, er, ?_⟩
  cases e : it en h with
  | bad => rw [e] at q; exact q
  | ex c h1 => rw [e] at q; exact q
  | ok p h1 =>
    obtain ⟨xs, w⟩ := p
    rw [e] at q
    dsimp only at q
    intro ι1 H1 J g1 S1 IR D hD
    refine ⟨fun i m ys H2 => m = xs.length - i /\ i <= xs.length /\ H2 D = some (.lst ys) /\ ∃ ι' h' vs, Grow ι1 H1 ι' H2 /\ Ext ι1 H1 (ι'.hide D) H2 /\ Sim T (ι'.hide D) h' H2 /\ ER T (ι'.hide D) H2 en σ /\ RVs T (ι'.hide D) H2 vs ys /\ D ∉ ι'.refs /\
      (match sCompGo (jf.map (·.1)) en w xs (un2 cc) (un2 ce) (xs.drop i) vs h' with | .ok ys h2 => ∀ ι' H' D vs, Grow ι H ι' H' -> Sim T (ι'.hide D) h2 H' -> RVs T (ι'.hide D) H' ys vs -> H' D = some (.lst vs) -> D ∉ ι'.all -> (∀ n, ι'.refs = ι.refs ++ n -> ∀ a ∈ n ++ [D], H a = none) -> Q (.ref D) H' | _ => False), ?_, ?_⟩
    . exact ⟨xs.length, by simp, Nat.zero_le _, zam, ι1, h1, [], S1.growNew hD, Ext.hide hD, S1.hide hD, (er.mono g1).ext (Ext.hide hD), .nil, fun z => S1.fresh hD (List.mem_append_left _ z), q⟩
    . rintro i m ys H2 ⟨rfl, hi, hH2, ι', h', vs, g', x', S', er', rv', nD', q'⟩
      refine ⟨hH2, ?_⟩
      by_cases hl : i < xs.length
      . rw [zbO hl] at q'
        unfold sCompGo at q'
        by_cases hs : liveB w xs h' = true /\ vs.length < sizeLine
        . rw [if_pos hs] at q'
          obtain ⟨hs1, hs2⟩ := hs
          obtain ⟨go, yld⟩ := IR.go i _ h' H2 xs[i] x' S' hs1 (by simp [hl])
          refine .inr ⟨go, by rw [<- rv'.length]; exact hs2, fun x H3 y => ?_⟩
          obtain ⟨g3, S3, r3⟩ := yld x H3 y
          have er3 := er'.mono g3
          obtain ⟨y1, y2, exi⟩ : ∃ y1 y2, xs[i] = .tup [y1, y2] := by
            rcases un2_or cc xs[i] with z | z
            . exact z
            . rw [z] at q'; exact q'.elim
          rw [exi] at r3
          simp only [exi, un2] at q'
          obtain ⟨aa, us, rfl, sq, rss⟩ := tup_rd r3
          cases rss with
          | cons rA rB' => cases rB' with
           | cons rB rN =>
          cases rN
          refine ⟨aa, _, _, rfl, sq, ι'.hide D, h', _, S3, ER.comp2 er3 rA rB, ?_⟩
          cases ec : cc (some y1 :: some y2 :: (jf.map (·.1)).map fun j => (en[j]?).join) h' with
          | bad => rw [ec] at q'; exact q'
          | ex c h5 => rw [ec] at q'; exact q'.elim
          | ok bb h5 =>
            rw [ec] at q'
            intro ι5 H5 b5 g5 S5 r5
            subst r5
            have g35 := g3.trans g5
            have hD5 : H5 D = some (.lst ys) := g35.keep D _ nD' hH2
            have eι : ι5 = Ix.hide ⟨ι5.refs, ι'.priv⟩ D := by
              have := g5.priv
              cases ι5
              simp only at this
              subst this
              rfl
            have nD5 : D ∉ ι5.refs := g35.outR nD' hH2
            have gG5 : Grow ι1 H1 ⟨ι5.refs, ι'.priv⟩ H5 := by
              obtain ⟨n, en1, hn⟩ := g'.pre
              obtain ⟨k, ek, hk⟩ := g35.pre
              refine ⟨⟨n ++ k, ?_, fun a ha => ?_⟩, g'.priv, fun a o na ea => ?_, fun a ha => ?_⟩
              . show ι5.refs = _; rw [ek]; show ι'.refs ++ k = _; rw [en1]; simp
              . rcases List.mem_append.mp ha with z | z
                . exact hn a z
                . have z2 := hk a z
                  by_cases hr : a ∈ ι1.refs
                  . exact absurd z2 (g'.live a (List.mem_append_left _ hr))
                  . cases e9 : H1 a with
                    | none => rfl
                    | some o => rw [g'.keep a o hr e9] at z2; cases z2
              . exact g35.keep a o (g'.outR na ea) (g'.keep a o na ea)
              . have : a ∈ (ι'.hide D).all := by
                  rcases List.mem_append.mp ha with z | z
                  . exact List.mem_append_left _ (by show a ∈ ι'.refs; rw [en1]; exact List.mem_append_left _ z)
                  . exact List.mem_append_right _ (List.mem_cons_of_mem _ (by rw [g'.priv]; exact z))
                exact g35.live a this
            have x5 : Ext ι1 H1 (Ix.hide ⟨ι5.refs, ι'.priv⟩ D) H5 := eι ▸ x'.trans g35.ext
            have er5 := er3.mono g5
            have rv5 := (rv'.mono g35)
            cases bb with
            | false =>
              rw [if_neg Bool.false_ne_true]
              refine ⟨xs.length - (i + 1), by omega, rfl, hl, hD5, ⟨ι5.refs, ι'.priv⟩, h5, vs, gG5, x5, eι ▸ S5, eι ▸ er5, eι ▸ rv5, nD5, q'⟩
            | true =>
              rw [if_pos rfl]
              refine ⟨ι5, h5, _, S5, (ER.comp2 er3 rA rB).mono g5, ?_⟩
              dsimp only at q'
              cases ee : ce (some y1 :: some y2 :: (jf.map (·.1)).map fun j => (en[j]?).join) h5 with
              | bad => rw [ee] at q'; exact q'
              | ex c h6 => rw [ee] at q'; exact q'.elim
              | ok v h6 =>
                rw [ee] at q'
                intro ι6 H6 u6 g6 S6 r6
                have g56 := g6
                have hD6 : H6 D = some (.lst ys) := g56.keep D _ nD5 hD5
                have eι6 : ι6 = Ix.hide ⟨ι6.refs, ι'.priv⟩ D := by
                  have h1 := g6.priv
                  have h2 := g5.priv
                  rw [h2] at h1
                  cases ι6
                  simp only at h1
                  subst h1
                  rfl
                have nD6 : D ∉ ι6.refs := g56.outR nD5 hD5
                have gG6 : Grow ι1 H1 ⟨ι6.refs, ι'.priv⟩ (upd H6 D (.lst (ys ++ [u6]))) := by
                  obtain ⟨n, en1, hn⟩ := gG5.pre
                  obtain ⟨k, ek, hk⟩ := g56.pre
                  have hD1 : ∀ a o, H1 a = some o -> a ≠ D := fun a o ea => zan ea hD
                  refine ⟨⟨n ++ k, ?_, fun a ha => ?_⟩, g'.priv, fun a o na ea => ?_, fun a ha => ?_⟩
                  . show ι6.refs = _; rw [ek]; have z : ι5.refs = ι1.refs ++ n := en1; rw [z]; simp
                  . rcases List.mem_append.mp ha with z | z
                    . exact hn a z
                    . have z2 := hk a z
                      by_cases hr : a ∈ ι1.refs
                      . exact absurd z2 (gG5.live a (List.mem_append_left _ hr))
                      . cases e9 : H1 a with
                        | none => rfl
                        | some o => rw [gG5.keep a o hr e9] at z2; cases z2
                  . rw [upd_ne (hD1 a o ea)]
                    exact g56.keep a o (gG5.outR na ea) (gG5.keep a o na ea)
                  . by_cases zD : a = D
                    . subst zD; rw [zam]; simp
                    . rw [upd_ne zD]
                      have : a ∈ ι5.all := by
                        rcases List.mem_append.mp ha with z | z
                        . exact List.mem_append_left _ (by have z' : ι5.refs = ι1.refs ++ n := en1; rw [z']; exact List.mem_append_left _ z)
                        . rw [eι]; exact List.mem_append_right _ (List.mem_cons_of_mem _ (by show a ∈ ι'.priv; rw [g'.priv]; exact z))
                      exact g56.live a this
                refine ⟨hD6, xs.length - (i + 1), by omega, rfl, hl, zam, ⟨ι6.refs, ι'.priv⟩, h6, vs ++ [v], gG6, ?_, ?_, ?_, ?_, nD6, q'⟩
                . exact (eι6 ▸ (x'.trans (g35.ext.trans g6.ext))).trans Ext.poke
                . exact Sim.poke (eι6 ▸ S6) nD6
                . exact ER.ext (eι6 ▸ er5.mono g6) Ext.poke
                . have : RVs T ι6 H6 (vs ++ [v]) (ys ++ [u6]) := (rv5.mono g6).append (.cons r6 .nil)
                  exact RVs.ext Ext.poke (eι6 ▸ this)
        . rw [if_neg hs] at q'; exact q'.elim
      . have ei : i = xs.length := by omega
        subst ei
        rw [List.drop_length] at q'
        unfold sCompGo at q'
        by_cases hs : liveB w xs h' = true
        . rw [if_pos hs] at q'
          have hp : D ∉ ι'.priv := fun z => by rw [g'.priv] at z; exact S1.plive D z hD
          refine .inl ⟨IR.stop _ _ h' H2 x' S' hs (Nat.le_refl _), q' ι' H2 D ys (g1.trans g') S' rv' hH2 (fun z => (List.mem_append.mp z).elim nD' hp) fun n en1 a ha => ?_⟩
          obtain ⟨k, ek, hk⟩ := (g1.trans g').pre
          have : n = k := List.append_cancel_left (en1.symm.trans ek)
          subst this
          rcases List.mem_append.mp ha with z | z
          . exact hk a z
          . have z' : a = D := by simpa using z
            subst z'
            cases e9 : H a with
            | none => rfl
            | some o =>
              by_cases hr : a ∈ ι.refs
              . have z1 : a ∈ ι1.refs := by
                  obtain ⟨k1, ek1, _⟩ := g1.pre
                  rw [ek1]; exact List.mem_append_left _ hr
                exact absurd hD (S1.live a (List.mem_append_left _ z1))
              . rw [g1.keep a o hr e9] at hD; cases hD
        . rw [if_neg hs] at q'; exact q'.elim
theorem zhc {σ : St} {H : Hp} {Q : VK} (q : tE T E (sComp (jf.map (·.1)) it (un2 cc) (un2 ce)) σ H Q) : tComp2 T.K jf (tI T it) (tT T EN cc) (tE T EN ce) σ H Q := by
  obtain ⟨ι, h, en, S, er, q⟩ := q
  refine zhb S er ?_
  unfold sComp at q
  cases e : it en h with
  | bad => rw [e] at q; exact q
  | ex c h1 => rw [e] at q; exact q.elim
  | ok p h1 =>
    obtain ⟨xs, w⟩ := p
    rw [e] at q
    dsimp only at q ⊢
    cases e2 : sCompGo (jf.map (·.1)) en w xs (un2 cc) (un2 ce) xs [] h1 with
    | bad => rw [e2] at q; exact q
    | ex c h1 => rw [e2] at q; exact q.elim
    | ok ys h2 =>
      rw [e2] at q
      exact fun ι' H' D vs g S' r hD nD _ => q ι' H' _ g S'.show (.fl nD (.inl hD) (r.ext Ext.show))
structure CompOk2 (X : Cx) (x₁ x₂ : Str) (jf : List (Nat × Str)) (scope : Scope) : Prop where
  hN : (x₁ :: x₂ :: jf.map (·.2)).Nodup
  hx : scope.names.lookup x₁ = some .local
  hx2 : scope.names.lookup x₂ = some .local
  hjf : ∀ p ∈ jf, X.N[p.1]? = some p.2
  hjl : ∀ p ∈ jf, scope.names.lookup p.2 = some .free
  hkind : scope.kind = .function
  hcell : ∀ y ∈ scope.names, y.2 ≠ .cell
  hfr : ∀ y ∈ scope.names, y.2 = .free -> X.env.kindOf y.1 = some .cell \/ X.env.kindOf y.1 = some .free
  hnames : ∀ y ∈ scope.names, y.2 = .local -> scope.names.lookup y.1 = some .local
theorem zc6 (hK : X.K = T.K) (C : CompOk2 X x₁ x₂ jf scope) (hcalm : X.calm = true) (hi : PIA T X (.Tuple [.Name x₁ p1, .Name x₂ p2] kk px) iter it) (hc : ∀ pins cl s H fp, PTs (cxComp2 X pins x₁ x₂ jf scope cl s H fp) ifs (tT T EN cc)) (he : ∀ pins cl s H fp, PEA T EN (cxComp2 X pins x₁ x₂ jf scope cl s H fp) elt ce)
    (hs : ∀ x, foldedSetIterable iter X.env x = pure x := by intro _; rfl) : PEA T E X (.ListComp elt [⟨.Tuple [.Name x₁ p1, .Name x₂ p2] kk px, iter, ifs, 0⟩] scope pos) (sComp2 (jf.map (·.1)) it cc ce) :=
  PE_imp (zg9 hcalm hi hc he C.hN C.hx C.hx2 C.hjf C.hjl C.hkind C.hcell C.hfr C.hnames hs) fun _ _ _ q => hK ▸ zhc q
end
def comp2Chk (N : List Str) (sc : Scope) (x₁ x₂ : Str) (jf : List (Nat × Str)) (scope : Scope) : Bool :=
  compChk N sc x₁ jf scope && decide (x₁ :: x₂ :: jf.map (·.2)).Nodup && (scope.names.lookup x₂ == some .local)
theorem zbv {X : Cx} {N : List Str} {sc scope : Scope} {x₁ x₂ : Str} {jf : List (Nat × Str)} (hN : X.N = N) (hk : ∀ x, X.env.kindOf x = sc.names.lookup x) (h : comp2Chk N sc x₁ x₂ jf scope = true) : CompOk2 X x₁ x₂ jf scope := by
  unfold comp2Chk at h
  simp only [Bool.and_eq_true, decide_eq_true_eq, beq_iff_eq] at h
  obtain ⟨⟨h1, h2⟩, h3⟩ := h
  have C := zaE hN hk h1
  exact ⟨h2, C.hx, h3, C.hjf, C.hjl, C.hkind, C.hcell, C.hfr, C.hnames⟩
section
variable {T : Tb} {E : St -> XK} {X : Cx} {pos p pos' p' : Pos} {a : Expr} {sa : SE}
end
@[simp] def sPar (i j : Nat) (as : SL) : SS := fun en h => (as en h).go en fun vs h1 => match vs with
  | [v, w] => .nx ((en.set i (some v)).set j (some w)) h1
  | _ => .bad
theorem r_par {T : Tb} {E : St -> XK} {X : Cx} {pos : Pos} {i j : Nat} {x y : Str} {a b : Expr} {as : SL} {px py pt pt2 : Pos} {kt k2 : Nat} (hN : X.N.Nodup) (ha : PAA T E X [a, b] as) (hc : X.calm = true := by rfl) (hij : i ≠ j := by decide) (hi : X.N[i]? = some x := by rfl) (hj : X.N[j]? = some y := by rfl) (hx : X.env.scope.names.lookup x = some .local := by rfl) (hy : X.env.scope.names.lookup y = some .local := by rfl)
    (hw : swappedStores [.Tuple [.Name x px, .Name y py] kt pt] (.Tuple [a, b] k2 pt2) X.env = pure (some [x, y]) := by rfl) (hs : swapsWithSole [.Tuple [.Name x px, .Name y py] kt pt] (.Tuple [a, b] k2 pt2) pos.line X.env = pure false := by rfl) :
    PSA T E X (.Assign [.Tuple [.Name x px, .Name y py] kt pt] (.Tuple [a, b] k2 pt2) pos) (sPar i j as) := by
  refine PS_imp (ps_par hc hN hi hj hij hx hy ha hw hs) fun D σ H ⟨ι, h, en, S, er, q⟩ => ⟨ι, h, en, S, er, q.go er fun vs h1 ι1 H1 us g1 S1 r1 q1 => ?_⟩
  split at q1
  . cases r1 with
    | cons r r' =>
      cases r' with
      | cons r2 r3 =>
        cases r3
        exact ⟨_, _, rfl, q1 ι1 H1 _ S1.refl S1 (((er.mono g1).set r i).set r2 j)⟩
  . exact q1.elim
end Sm


namespace Sm
open PySem PySem.Spec L2
@[simp] def mPopAt : FM := fun x vs h => match x, vs with
  | .ref n, [.int i] => match h[n]? with
    | some (.lst xs) => if 0 <= i /\ i < 2 ^ 40 then (match xs[i.toNat]? with
      | some y => .ok y (h.set n (.lst (xs.eraseIdx i.toNat)))
      | none => .bad) else .bad
    | _ => .bad
  | _, _ => .bad
theorem RVs.erase {T : Tb} {ι : Ix} {H : Hp} {xs : List AV} {us : List V} (r : RVs T ι H xs us) (k : Nat) : RVs T ι H (xs.eraseIdx k) (us.eraseIdx k) := by
  rw [List.eraseIdx_eq_take_drop_succ, List.eraseIdx_eq_take_drop_succ]
  exact (r.take k).append (r.drop (k + 1))
theorem zie {T : Tb} {X : Cx} : ∃ r, MtR X "list.pop" r /\ MtS T mPopAt r := by
  refine ⟨_, zgP, fun ι h H x xs u us E Q S rx rs q => ?_⟩
  unfold mPopAt at q
  split at q
  . rename_i n i
    split at q
    . rename_i ys hn
      split at q
      . rename_i hi
        split at q
        . rename_i y hy
          cases rx with
          | @ref _ ad hr =>
            cases rs with
            | cons r1 r2 =>
            cases r2
            rw [int_rd r1]
            obtain ⟨o, e1, ws, rfl, rw_⟩ := S.obj n _ ad hn hr
            have g := S.growSet (u := .lst (ws.eraseIdx i.toNat)) hr
            obtain ⟨v, e2, r2⟩ := rw_.get hy
            have hl := (List.getElem?_eq_some_iff.mp hy).1
            have hl2 := rw_.length
            have h40 : i < 1099511627776 := hi.2
            refine ⟨ad, ws, i, i.toNat, v, rfl, rfl, e1, by omega, by omega, ?_, e2, q ι _ _ g (S.set hr ⟨_, rfl, (rw_.mono g).erase i.toNat⟩) (r2.mono g)⟩
            unfold seqIndex?
            simp only [show ¬ i < 0 by omega, if_false]
            simp; omega
        . exact q.elim
      . exact q.elim
    . exact q.elim
  . exact q.elim
end Sm







namespace L2
open PySem PySem.Spec PyProof.Rows
theorem zif {X : Cx} : OpR X (binaryOp .Mult) (fun x y H Q => ∃ l n xs, x = .ref l /\ y = .int n /\ SqL X.K H l xs /\ n.natAbs < 2 ^ 40 /\ xs.length * n.toNat <= 1000000 /\ ∀ p, H p = none -> Q (.ref p) (upd H p (.lst (List.replicate n.toNat xs).flatten))) := by
  intro pins s σ H x y v u Q I rx ry h
  obtain ⟨l, n, xs, rfl, rfl, hH, hb, hz, q⟩ := h
  cases rx
  obtain ⟨t, rfl⟩ := ry
  obtain ⟨its, r, ⟨o, m, e1, e2, e3, e4⟩, z⟩ := I.list hH
  obtain ⟨oc, od, oda, osl⟩ := o
  dsimp only at e2 e3 e4
  subst e2 e3 e4
  have l1 := r.length
  have hb2 : n.natAbs < 1099511627776 := hb
  have sz : its.toArray.size * n.toNat <= 1000000 := by rw [List.size_toArray, <- l1]; exact hz
  refine wpAny_binaryOp_repeat_ref (by decide) ⟨_, e1, rfl⟩ (fun s' => typeIs_int s' n t) noFill_list_mul PySem.F.fills_int_mul PySem.F.slot_int_rmul repeat_list PySem.F.slot_int_index.lookup
    (call_meets PySem.F.slot_int_rmul (typeIs_int s n t) PySem.F.entry_int_rmul (PySem.F.args_int_rmul_2 _ _) (lm_int_rmul_list_any n t l its.toArray m none osl)
      ⟨e1, rfl, ⟨_, e1, rfl⟩, call_meets PySem.F.slot_list_mul ⟨_, e1, rfl⟩ PySem.F.entry_list_mul (PySem.F.args_list_mul_2 _ _) (lm_list_mul_any l its.toArray m none osl n t ?_ ?_ ?_) ⟨e1, ?_⟩⟩)
  . simp [Builtin.List.listFitsIndex]; omega
  . intro hc; have : (2 ^ 63 - 1) / 8 = 1152921504606846975 := by decide
    omega
  . show ¬ decide (its.toArray.size * n.toNat > sizeLine) = true
    rw [decide_eq_true_eq]
    exact Nat.not_lt.mpr (Nat.le_trans sz (by decide))
  . rw [listMul_foldl_if]
    exact ⟨.ref s.heap.objs.size, _, I.lnew (t' := s.toks) (Vals.rep r n.toNat) (by rw [List.length_flatten, List.map_replicate, List.sum_replicate_nat, Nat.mul_comm]; exact Nat.le_trans hz (by decide)), rfl, q _ I.fresh⟩
end L2
namespace Sm
open PySem PySem.Spec L2
theorem ze2 {T : Tb} {ι : Ix} {H : Hp} {xs : List AV} {us : List V} (r : RVs T ι H xs us) : ∀ n : Nat, RVs T ι H (List.replicate n xs).flatten (List.replicate n us).flatten
  | 0 => .nil
  | n + 1 => by
    rw [List.replicate_succ, List.replicate_succ, List.flatten_cons, List.flatten_cons]
    exact r.append (ze2 r n)
def fMulL : F2 := fun x y h => match y with
  | .int n => (match lstOf x h with
    | some xs => if n.natAbs < 2 ^ 40 /\ xs.length * n.toNat <= 1000000 then .ok (.fl (List.replicate n.toNat xs).flatten) h else .bad
    | none => .bad)
  | _ => .bad
theorem o_mulL {T : Tb} {X : Cx} (hK : X.K = T.K) : Op T X (binaryOp .Mult) fMulL := by
  refine ⟨_, zif, fun ι h H x y u w E Q S rx ry p => ?_⟩
  unfold fMulL at p
  split at p
  . split at p
    . rename_i e1
      split at p
      . rename_i hz
        obtain ⟨a, us, rfl, q1, r1⟩ := lst_rd S rx e1
        rw [int_rd ry]
        exact ⟨a, _, us, rfl, rfl, hK ▸ q1, hz.1, by rw [<- r1.length]; exact hz.2, fun l n => new_fl S (ze2 r1 _) n p⟩
      . exact p.elim
    . exact p.elim
  . exact p.elim
end Sm
















namespace L2
open PySem PySem.Spec
theorem Room.m {j k : Nat} {A : Around} (hr : Room k A) (h : Nat.ble j k = true := by rfl) : Room j A := hr.mono (Nat.le_of_ble_eq_true h)
end L2
namespace Sm
open PySem PySem.Spec L2
def DK (K : PySem.W.Frag) (x : Str) (st : Stmt) : Prop := ∃ f fd, PySem.W.nsIn K mainGlobals x = some (some (.ref f)) /\ Fun K x x st f fd
def DN (K : PySem.W.Frag) (C : Addr) (m q : Str) (st : Stmt) : Prop := ∃ f fd, Meth K C m f /\ Fun K m q st f fd
def DMm (K : PySem.W.Frag) (cls : Nat -> Option Addr) (c : Nat) (m q : Str) (st : Stmt) (ps : List Str) : Prop := ∃ C f fd, cls c = some C /\ Cls K C /\ Meth K C m f /\ Binds K fd ps [] /\ Fun K m q st f fd
def DI (K : PySem.W.Frag) (cls : Nat -> Option Addr) (mg : Str -> Option Value) (c : Nat) (x q : Str) (st : Stmt) (ps : List Str) : Prop := ∃ C f fd, cls c = some C /\ mg x = some (.ref C) /\ Mk K C f /\ Binds K fd ps [] /\ Fun K "__init__" q st f fd
section
variable {P : Program} {w : World} {K : PySem.W.Frag} {mg : Str -> Option Value} {base h : Heap} {T : Tb} {x m q : Str} {st : Stmt} {f C : Addr} {N ps : List Str} {k c : Nat} {b : SS} {cls : Nat -> Option Addr}
section
variable {oc : Value} {od an : Option Addr} {osl : Array (Option Value)} {kV doc pm cdv ct : Value}
theorem dk (a : PySem.W.nsIn K mainGlobals x = some (some (.ref f))) (l : K.lookup f = some ⟨oc, od, .func (PySem.W.fnOf x x (defArgs st) (defBody st) (defScope st) .none kV doc pm an cdv ct), osl⟩)
    (c : PySem.W.codeIn K cdv x = true) (k : PySem.W.keepIn K (.ref f) = true) : DK K x st := ⟨f, _, a, fun_mk l c k⟩
theorem dn (a : PySem.W.findIn K (.ref C) m = some (some (.ref f))) (i : PySem.W.isFn K (.ref f) = true) (l : K.lookup f = some ⟨oc, od, .func (PySem.W.fnOf m q (defArgs st) (defBody st) (defScope st) .none kV doc pm an cdv ct), osl⟩)
    (c : PySem.W.codeIn K cdv q = true) (k : PySem.W.keepIn K (.ref f) = true) : DN K C m q st := ⟨f, _, ⟨a, i, k⟩, fun_mk l c k⟩
end
abbrev BA (x q : Str) (st : Stmt) (us : List Value) (r : List (Str × Value)) : Prop := ∀ (kV doc pm : Value) (an : Option Addr) (cdv ct : Value), bindArgs (PySem.W.fnOf x q (defArgs st) (defBody st) (defScope st) .none kV doc pm an cdv ct) ⟨us, []⟩ = pure r
def BL (x q : Str) (st : Stmt) (ps : List Str) : Prop := ∀ (us : List Value), us.length = ps.length -> BA x q st us (ps.zip us)
theorem bl1 {p1 : Str} (h : ∀ a, BA x q st [a] [(p1, a)] := by exact fun _ _ _ _ _ _ _ => rfl) : BL x q st [p1] := fun us e => by obtain ⟨_, rfl⟩ := el1 e; exact h _
theorem bl2 {p1 p2 : Str} (h : ∀ a b, BA x q st [a, b] [(p1, a), (p2, b)] := by exact fun _ _ _ _ _ _ _ _ => rfl) : BL x q st [p1, p2] := fun us e => by obtain ⟨_, _, rfl⟩ := el2 e; exact h _ _
theorem bl3 {p1 p2 p3 : Str} (h : ∀ a b c, BA x q st [a, b, c] [(p1, a), (p2, b), (p3, c)] := by exact fun _ _ _ _ _ _ _ _ _ => rfl) : BL x q st [p1, p2, p3] := fun us e => by obtain ⟨_, _, _, rfl⟩ := el3 e; exact h _ _ _
theorem bl4 {p1 p2 p3 p4 : Str} (h : ∀ a b c d, BA x q st [a, b, c, d] [(p1, a), (p2, b), (p3, c), (p4, d)] := by exact fun _ _ _ _ _ _ _ _ _ _ => rfl) : BL x q st [p1, p2, p3, p4] := fun us e => by obtain ⟨_, _, _, _, rfl⟩ := el4 e; exact h _ _ _ _
theorem dg (X : K.In h) (G : h.Ns mainGlobals mg) (d : DK K x st) (hb : BL x x st ps) : DG K mg x st ps := by
  obtain ⟨f, fd, a, F⟩ := d
  exact ⟨f, fd, PySem.W.mg_of X G a, F.kp, F.binds fun _ _ _ _ _ _ us hl => hb us hl _ _ _ _ _ _, F⟩
theorem dm (hc : cls c = some C) (k : Cls K C) (d : DN K C m q st) (hb : BL m q st ps) : DMm K cls c m q st ps := by
  obtain ⟨f, fd, M, F⟩ := d
  exact ⟨C, f, fd, hc, k, M, F.binds fun _ _ _ _ _ _ us hl => hb us hl _ _ _ _ _ _, F⟩
theorem di (hc : cls c = some C) (hx : mg x = some (.ref C)) (mk : PySem.W.makesIn K C = true) (kc : PySem.W.keepIn K (.ref C) = true) (d : DN K C "__init__" q st) (hb : BL "__init__" q st ps) : DI K cls mg c x q st ps := by
  obtain ⟨f, fd, M, F⟩ := d
  exact ⟨C, f, fd, hc, hx, ⟨mk, M.at_, M.fn, kc⟩, F.binds fun _ _ _ _ _ _ us hl => hb us hl _ _ _ _ _ _, F⟩
theorem dlaw {fa : Addr} {p : Str} (X : K.In h) (G : h.Ns mainGlobals mg) (hfa : mg x = some (.ref fa)) (d : DK K x st) (hb : BL x x st [p]) : ∃ fd : FuncData, (∀ (s : Shared) (v : Value), BindsTo s fd ⟨[v], []⟩ [(p, v)]) /\ Fun K x x st fa fd := by
  obtain ⟨f, fd, a, F⟩ := d
  have e := hfa.symm.trans (PySem.W.mg_of X G a)
  cases e
  refine ⟨fd, fun s v => ?_, F⟩
  obtain ⟨oc, od, kV, doc, pm, an, cdv, ct, osl, rfl, lk, hcd⟩ := F.ex
  exact .of_eq (hb [v] rfl _ _ _ _ _ _)
theorem fsk {sc : Scope} (h1 : sc.kind = .function := by rfl) (h2 : sc.isCoroutine = false := by rfl) (h3 : sc.isGenerator = false := by rfl) (h4 : N.Nodup := by decide +kernel) (h5 : N.take ps.length = ps := by rfl)
    (h6 : ∀ x ∈ ps, sc.names.lookup x = some .local \/ sc.names.lookup x = some .cell := by decide +kernel) (h7 : ∀ y ∈ sc.names, y.2 ≠ .free := by decide +kernel) : FnScope N ps sc := ⟨h1, h2, h3, h4, h5, h6, h7⟩
abbrev BodyA (P : Program) (w : World) (mg : Str -> Option Value) (base : Heap) (T : Tb) (q : Str) (st : Stmt) (f : Addr) (N : List Str) (k : Nat) (b : SS) : Prop :=
  ∀ {cdv : Value} {A : Around} {outer : List Env} {s : Shared} {H : Hp} {E : XK}, Room k (A.deeper (PyProof.Rows.envOfC q (defScope st) s.heap.objs.size f cdv)) -> CA T (fun _ => E) (cxOf (CXE P w) P w T.K mg base N q (defScope st) f cdv A outer s H E) ->
    (A.deeper (PyProof.Rows.envOfC q (defScope st) s.heap.objs.size f cdv)).units + 64 < cLine -> N.Nodup -> PSsA T (fun _ => E) (cxOf (CXE P w) P w T.K mg base N q (defScope st) f cdv A outer s H E) (defBody st) b
theorem gf (d : DG T.K mg x st ps) (S : FnScope N ps (defScope st)) (hb : ∀ {f}, BodyA P w mg base T x st f N k b) : GF P w T mg base (k + 1) x (mkFn ps.length N.length b) := by
  obtain ⟨f, fd, h1, h2, h3, h4⟩ := d
  exact ⟨f, fd, _, h1, h2, h3, okA h4 rfl S fun cdv A outer s H E hr C => hb hr C (hu64 hr) S.nd⟩
theorem gm (d : DMm T.K T.cls c m q st ps) (S : FnScope N ps (defScope st)) (no : m ∉ T.fields c) (hb : ∀ {f}, BodyA P w mg base T q st f N k b) : GM P w T mg base (k + 1) c m (mkFn ps.length N.length b) := by
  obtain ⟨C, f, fd, h0, hc, h1, h3, h4⟩ := d
  exact ⟨⟨C, f, fd, _, h0, hc, h1, h3, okA h4 rfl S fun cdv A outer s H E hr C => hb hr C (hu64 hr) S.nd⟩, no⟩
theorem gk (d : DI T.K T.cls mg c x q st ps) (S : FnScope N ps (defScope st)) (hb : ∀ {f}, BodyA P w mg base T q st f N k b) : GK P w T mg base (k + 1) c x (mkFn ps.length N.length b) := by
  obtain ⟨C, f, fd, h0, h1, h2, h3, h4⟩ := d
  exact ⟨C, f, fd, _, h0, h1, h2, h3, okA h4 rfl S fun cdv A outer s H E hr C => hb hr C (hu64 hr) S.nd⟩
theorem gl {f : Addr} {fd : FuncData} (h4 : Fun T.K x x st f fd) (S : FnScope N ps (defScope st)) (hb : BodyA P w mg base T x st f N k b) : FnOk P w T.K mg base (CXE P w) (k + 1) f fd ps (spA T (mkFn ps.length N.length b)) :=
  okA h4 rfl S fun cdv A outer s H E hr C => hb hr C (hu64 hr) S.nd
def XI (K : PySem.W.Frag) (X : Addr) : Prop := PySem.W.excIn K X [.type "ValueError", .type "Exception", .type "BaseException", .type "object"] "ValueError.__new__" = true
theorem xi {X : Addr} (h : PySem.W.excIn K X [.type "ValueError", .type "Exception", .type "BaseException", .type "object"] "ValueError.__new__" = true) : XI K X := h
theorem gx {X : Addr} {n : Nat} {g : Heap} (KB : K.In g) (KX : K.In h) (G : h.Ns mainGlobals mg) (hc : T.exc n = some X) (e : PySem.W.nsIn K mainGlobals x = some (some (.ref X))) (hx : XI K X) : GX T mg g n x := ⟨X, hc, zg5 KB (PySem.W.mg_of KX G e) hx⟩
def NA (K : PySem.W.Frag) (x : Str) (v : Option Value) : Prop := PySem.W.nsIn K mainGlobals x = some v
theorem na {v : Option Value} (h : PySem.W.nsIn K mainGlobals x = some v) : NA K x v := h
def FA (K : PySem.W.Frag) (C : Addr) (x : Str) : Prop := PySem.W.findIn K (.ref C) x = some none
theorem fatt (h : PySem.W.findIn K (.ref C) x = some none) : FA K C x := h
end
end Sm












namespace Sk
open PySem PySem.Spec L2 Sm
abbrev xn_SkeinError : Nat := 0
abbrev xn_NoText : Nat := 1
abbrev xn_NoPiece : Nat := 2
abbrev xn_Loose : Nat := 3
abbrev xn_Unlevel : Nat := 4
abbrev xn_TooLong : Nat := 5
abbrev xn_NoPlace : Nat := 6
def F_Shelf_init : Fn := mkFn 1 1
    (sSeq (sSetFld 0 0 (sVar 0) (sLstM sNil))
    (sSeq (sSetFld 0 1 (sVar 0) (sDict true))
    (sSeq (sSetFld 0 2 (sVar 0) (sLstM (sCons (sLit (.int 0)) sNil)))
    (sSeq (sSetFld 0 3 (sVar 0) (sLstM (sCons (sLit (.int 0)) sNil)))
    (sSeq (sSetFld 0 4 (sVar 0) (sLstM (sCons (sLit (.int 0)) sNil)))
    (sSeq (sSetFld 0 5 (sVar 0) (sLstM (sCons (sOp1 fNeg (sLit (.int 1))) sNil)))
    (sSeq (sSetFld 0 6 (sVar 0) (sLstM (sCons (sLit (.int 0)) sNil)))
    (sSetFld 0 7 (sVar 0) (sLstM (sCons (sLit (.int 0)) sNil))))))))))
def F_law_mixed : Fn := mkFn 2 3
    (sSeq (sSet 2 (sOp2 fMod (sOp2 fMul (sOp2 fAdd (sOp2 fAdd (sOp2 fMod (sVar 0) (sLit (.int 1000000007))) (sOp2 fMul (sLit (.int 7919)) (sVar 1))) (sLit (.int 101))) (sLit (.int 48271))) (sLit (.int 2147483647))))
    (sRet (sOp2 fMod (sOp2 fMul (sOp2 fMod (sOp2 fMul (sVar 2) (sVar 2)) (sLit (.int 2147483629))) (sLit (.int 69621))) (sLit (.int 2147483647)))))
def B_law_stream_1 : SS :=
    (sSet 2 (sOp2 fAdd (sOp2 fMul (sVar 2) (sOp2 fMul (sOp2 fPow (sLit (.int 10)) (sLit (.int 60))) (sOp2 fPow (sLit (.int 10)) (sLit (.int 60))))) (sOp2 fMod (sOp2 fIx (sVar 0) (sVar 3)) (sOp2 fMul (sOp2 fPow (sLit (.int 10)) (sLit (.int 60))) (sOp2 fPow (sLit (.int 10)) (sLit (.int 60)))))))
def B_law_stream_2 : SS :=
    (sSet 4 (sOp2 fAdd (sOp2 fMul (sVar 4) (sLit (.int 2147483647))) (sAppl F_law_mixed (sCons (sOp2 fAdd (sOp2 fAdd (sVar 2) (sOp2 fMul (sLit (.int 1009)) (sVar 1))) (sAppl fLen (sCons (sVar 0) sNil))) (sCons (sVar 3) sNil)))))
def F_law_stream : Fn := mkFn 2 5
    (sSeq (sSet 2 (sLit (.int 0)))
    (sSeq (sFor (iRange3 (sVar 1) (sAppl fLen (sCons (sVar 0) sNil)) (sLit (.int 12))) (.nm 3) B_law_stream_1)
    (sSeq (sIf (sBool (sOp2 fGe (sVar 2) (sOp2 fPow (sLit (.int 10)) (sLit (.int 18))))) (sRet (sLstM (sCons (sVar 2) sNil))) sNext)
    (sSeq (sSet 2 (sOp2 fAdd (sVar 2) (sAppl fSum (sCons (sComp [] (iVal (sVar 0)) sYes (sOp2 fMod (sVar 0) (sOp2 fPow (sLit (.int 10)) (sLit (.int 18))))) sNil))))
    (sSeq (sSet 4 (sLit (.int 0)))
    (sSeq (sFor (iRange1 (sLit (.int 24))) (.nm 3) B_law_stream_2)
    (sRet (sLstM (sCons (sVar 4) sNil)))))))))
def B_law_own_1 : SS :=
    (sSet 2 (sOp2 fAdd (sOp2 fMul (sVar 2) (sLit (.int 2147483647))) (sAppl F_law_mixed (sCons (sOp2 fAdd (sVar 0) (sOp2 fMul (sLit (.int 1009)) (sVar 1))) (sCons (sVar 3) sNil)))))
def F_law_own : Fn := mkFn 2 4
    (sSeq (sSet 0 (sOp2 fMod (sVar 0) (sOp2 fMul (sOp2 fPow (sLit (.int 10)) (sLit (.int 60))) (sOp2 fPow (sLit (.int 10)) (sLit (.int 60))))))
    (sSeq (sIf (sBool (sOp2 fGe (sVar 0) (sOp2 fPow (sLit (.int 10)) (sLit (.int 18))))) (sRet (sLstM (sCons (sVar 0) sNil))) sNext)
    (sSeq (sSet 2 (sLit (.int 0)))
    (sSeq (sFor (iRange1 (sLit (.int 12))) (.nm 3) B_law_own_1)
    (sRet (sLstM (sCons (sVar 2) sNil)))))))
def F_law_take : Fn := mkFn 2 3
    (sSeq (sSet 2 (sOp2 fMod (sOp2 fIx (sVar 0) (sLit (.int 0))) (sVar 1)))
    (sSeq (sSetIx (sVar 0) (sLit (.int 0)) (sOp2 fDiv (sOp2 fIx (sVar 0) (sLit (.int 0))) (sVar 1)))
    (sRet (sVar 2))))
def F_law_signs : Fn := mkFn 1 2
    (sSeq (sSet 1 (sLit (.str "abcdefghijklmnopqrstuvwxyzABCDEFGHIJKLMNOPQRSTUVWXYZ0123456789 !#$&'()*+,-./:;<=>?\x40[]^_{|}~")))
    (sRet (sOp2 fIx (sLst (sCons (sLit (.str "ab")) (sCons (sOp2 fAdd (sLit (.str "ab")) (sLit (.str "\n"))) (sCons (sOp2 fAdd (sOp2 fAdd (sOp2 fAdd (sOp2 fAdd (sVar 1) (sLit (.str "\n"))) (sLit (.str "\\"))) (sLit (.str "\""))) (sLit (.str "`"))) (sCons (sLit (.str "a")) sNil))))) (sVar 0))))
def B_law_plain_1 : SS :=
    (sSet 3 (sOp2 fAdd (sVar 3) (sOp2 fIx (sVar 2) (sAppl F_law_take (sCons (sVar 0) (sCons (sAppl fLen (sCons (sVar 2) sNil)) sNil))))))
def F_law_plain : Fn := mkFn 2 5
    (sSeq (sSet 2 (sAppl F_law_signs (sCons (sAppl F_law_take (sCons (sVar 0) (sCons (sLit (.int 4)) sNil))) sNil)))
    (sSeq (sSet 3 (sLit (.str "")))
    (sSeq (sFor (iRange1 (sAppl F_law_take (sCons (sVar 0) (sCons (sOp2 fAdd (sVar 1) (sLit (.int 1))) sNil)))) (.nm 4) B_law_plain_1)
    (sRet (sVar 3)))))
def F_is_whole : Fn := mkFn 1 1
    (sRet (sAndV (sIsB "int" (sVar 0)) (sNotV (sIsB "bool" (sVar 0)))))
def F_Shelf_has_piece : Fn := mkFn 2 2
    (sRet (sAndV (sAppl F_is_whole (sCons (sVar 1) sNil)) (sChain fLe fLe (sLit (.int 1)) (sVar 1) (sAppl fLen (sCons (Sm.sFld 0 0 (sVar 0)) sNil)))))
def F_Shelf_check_piece : Fn := mkFn 2 2
    (sIf (sNot (sTest (sMeth 0 F_Shelf_has_piece (sVar 0) (sCons (sVar 1) sNil)))) (sRaise 2 (sCons (sLit (.str "no piece of the shelf has this number")) sNil)) sNext)
def F_Shelf_check_text : Fn := mkFn 2 2
    (sIf (sBool (sOp2 fNe (sVar 1) (sLit (.int 0)))) (sExpr (sMeth 0 F_Shelf_check_piece (sVar 0) (sCons (sVar 1) sNil))) sNext)
def F_Shelf_signs : Fn := mkFn 2 2
    (sSeq (sExpr (sMeth 0 F_Shelf_check_text (sVar 0) (sCons (sVar 1) sNil)))
    (sRet (sOp2 fIx (Sm.sFld 0 2 (sVar 0)) (sVar 1))))
def F_check_length : Fn := mkFn 1 1
    (sIf (sBool (sOp2 fGt (sVar 0) (sLit (.int 1000000000000000000)))) (sRaise 5 (sCons (sLit (.str "the text would have more than 10 ** 18 signs")) sNil)) sNext)
def F_Shelf_last_leaf : Fn := mkFn 2 2
    (sSeq (sExpr (sMeth 0 F_Shelf_check_text (sVar 0) (sCons (sVar 1) sNil)))
    (sRet (sOp2 fIx (Sm.sFld 0 7 (sVar 0)) (sVar 1))))
def F_Shelf_first_leaf : Fn := mkFn 2 2
    (sSeq (sExpr (sMeth 0 F_Shelf_check_text (sVar 0) (sCons (sVar 1) sNil)))
    (sRet (sOp2 fIx (Sm.sFld 0 6 (sVar 0)) (sVar 1))))
def F_are_close : Fn := mkFn 3 3
    (sRet (sOp2 fGt (sOp2 fAdd (sMeth 0 F_Shelf_signs (sVar 0) (sCons (sMeth 0 F_Shelf_last_leaf (sVar 0) (sCons (sVar 1) sNil)) sNil)) (sMeth 0 F_Shelf_signs (sVar 0) (sCons (sMeth 0 F_Shelf_first_leaf (sVar 0) (sCons (sVar 2) sNil)) sNil))) (sLit (.int 8))))
def F_Shelf_piece : Fn := mkFn 2 2
    (sSeq (sExpr (sMeth 0 F_Shelf_check_piece (sVar 0) (sCons (sVar 1) sNil)))
    (sRet (sOp2 fIx (Sm.sFld 0 0 (sVar 0)) (sOp2 fSub (sVar 1) (sLit (.int 1))))))
def F_Shelf_check_fork : Fn := mkFn 3 4
    (sSeq (sExpr (sMeth 0 F_Shelf_check_piece (sVar 0) (sCons (sVar 1) sNil)))
    (sSeq (sExpr (sMeth 0 F_Shelf_check_piece (sVar 0) (sCons (sVar 2) sNil)))
    (sSeq (sSet 3 (sOp2 fAdd (sOp2 fIx (Sm.sFld 0 2 (sVar 0)) (sOp2 fIx (Sm.sFld 0 7 (sVar 0)) (sVar 1))) (sOp2 fIx (Sm.sFld 0 2 (sVar 0)) (sOp2 fIx (Sm.sFld 0 6 (sVar 0)) (sVar 2)))))
    (sSeq (sIf (sBool (sOp2 fLe (sVar 3) (sLit (.int 8)))) (sRaise 3 (sCons (sLit (.str "the leaves where the parts meet have no more than eight signs together")) sNil)) sNext)
    (sSeq (sIf (sBool (sOp2 fGt (sAppl fAbs (sCons (sOp2 fSub (sOp2 fIx (Sm.sFld 0 5 (sVar 0)) (sVar 1)) (sOp2 fIx (Sm.sFld 0 5 (sVar 0)) (sVar 2))) sNil)) (sLit (.int 1)))) (sRaise 4 (sCons (sLit (.str "the heights of the parts differ by more than one")) sNil)) sNext)
    (sIf (sBool (sOp2 fGt (sOp2 fAdd (sOp2 fIx (Sm.sFld 0 2 (sVar 0)) (sVar 1)) (sOp2 fIx (Sm.sFld 0 2 (sVar 0)) (sVar 2))) (sLit (.int 1000000000000000000)))) (sRaise 5 (sCons (sLit (.str "the fork would have more than 10 ** 18 signs")) sNil)) sNext))))))
def F_Shelf_lay : Fn := mkFn 2 3
    (sSeq (sExpr (sBM isLst mAppend (Sm.sFld 0 0 (sVar 0)) (sCons (sVar 1) sNil)))
    (sSeq (sSet 2 (sAppl fLen (sCons (Sm.sFld 0 0 (sVar 0)) sNil)))
    (sSeq (sSetIx (Sm.sFld 0 1 (sVar 0)) (sVar 1) (sVar 2))
    (sRet (sVar 2)))))
def F_Shelf_lay_fork : Fn := mkFn 2 4
    (sSeq (sExpr (sMeth 0 F_Shelf_lay (sVar 0) (sCons (sVar 1) sNil)))
    (sSeq (sSet 2 (sOp2 fIx (sVar 1) (sLit (.int 1))))
    (sSeq (sSet 3 (sOp2 fIx (sVar 1) (sLit (.int 2))))
    (sSeq (sExpr (sBM isLst mAppend (Sm.sFld 0 2 (sVar 0)) (sCons (sOp2 fAdd (sOp2 fIx (Sm.sFld 0 2 (sVar 0)) (sVar 2)) (sOp2 fIx (Sm.sFld 0 2 (sVar 0)) (sVar 3))) sNil)))
    (sSeq (sExpr (sBM isLst mAppend (Sm.sFld 0 3 (sVar 0)) (sCons (sOp2 fAdd (sOp2 fIx (Sm.sFld 0 3 (sVar 0)) (sVar 2)) (sOp2 fIx (Sm.sFld 0 3 (sVar 0)) (sVar 3))) sNil)))
    (sSeq (sExpr (sBM isLst mAppend (Sm.sFld 0 4 (sVar 0)) (sCons (sOp2 fAdd (sOp2 fIx (Sm.sFld 0 4 (sVar 0)) (sVar 2)) (sOp2 fIx (Sm.sFld 0 4 (sVar 0)) (sVar 3))) sNil)))
    (sSeq (sExpr (sBM isLst mAppend (Sm.sFld 0 5 (sVar 0)) (sCons (sOp2 fAdd (sAppl fMax2 (sCons (sOp2 fIx (Sm.sFld 0 5 (sVar 0)) (sVar 2)) (sCons (sOp2 fIx (Sm.sFld 0 5 (sVar 0)) (sVar 3)) sNil))) (sLit (.int 1))) sNil)))
    (sSeq (sExpr (sBM isLst mAppend (Sm.sFld 0 6 (sVar 0)) (sCons (sOp2 fIx (Sm.sFld 0 6 (sVar 0)) (sVar 2)) sNil)))
    (sExpr (sBM isLst mAppend (Sm.sFld 0 7 (sVar 0)) (sCons (sOp2 fIx (Sm.sFld 0 7 (sVar 0)) (sVar 3)) sNil)))))))))))
def F_Shelf_fork : Fn := mkFn 3 4
    (sSeq (sExpr (sMeth 0 F_Shelf_check_fork (sVar 0) (sCons (sVar 1) (sCons (sVar 2) sNil))))
    (sSeq (sSet 3 (sTup (sCons (sLit (.str "fork")) (sCons (sVar 1) (sCons (sVar 2) sNil)))))
    (sSeq (sIf (sBool (sOp2 fNotIn (sVar 3) (Sm.sFld 0 1 (sVar 0)))) (sExpr (sMeth 0 F_Shelf_lay_fork (sVar 0) (sCons (sVar 3) sNil))) sNext)
    (sRet (sOp2 fIx (Sm.sFld 0 1 (sVar 0)) (sVar 3))))))
def S_with_last (G : Fn) : Fn := mkFn 3 4
    (sSeq (sSet 3 (sMeth 0 F_Shelf_piece (sVar 0) (sCons (sVar 1) sNil)))
    (sSeq (sIf (sBool (sOp2 fEq (sOp2 fIx (sVar 3) (sLit (.int 0))) (sLit (.str "leaf")))) (sRet (sVar 2)) sNext)
    (sRet (sMeth 0 F_Shelf_fork (sVar 0) (sCons (sOp2 fIx (sVar 3) (sLit (.int 1))) (sCons (sAppl G (sCons (sVar 0) (sCons (sOp2 fIx (sVar 3) (sLit (.int 2))) (sCons (sVar 2) sNil)))) sNil))))))
def F_with_last : Nat -> Fn
  | 0 => mkFn 3 4 (fun _ _ => .bad)
  | d + 1 => S_with_last (F_with_last d)
def F_Shelf_height : Fn := mkFn 2 2
    (sSeq (sExpr (sMeth 0 F_Shelf_check_text (sVar 0) (sCons (sVar 1) sNil)))
    (sRet (sOp2 fIx (Sm.sFld 0 5 (sVar 0)) (sVar 1))))
def F_turned_left : Fn := mkFn 3 7
    (sSeq (sIf (sBool (sOp2 fLt (sOp2 fSub (sMeth 0 F_Shelf_height (sVar 0) (sCons (sVar 2) sNil)) (sMeth 0 F_Shelf_height (sVar 0) (sCons (sVar 1) sNil))) (sLit (.int 2)))) (sRet (sMeth 0 F_Shelf_fork (sVar 0) (sCons (sVar 1) (sCons (sVar 2) sNil)))) sNext)
    (sSeq (sSet 3 (sMeth 0 F_Shelf_piece (sVar 0) (sCons (sVar 2) sNil)))
    (sSeq (sSet 4 (sOp2 fIx (sVar 3) (sLit (.int 1))))
    (sSeq (sSet 5 (sOp2 fIx (sVar 3) (sLit (.int 2))))
    (sSeq (sIf (sBool (sOp2 fLe (sMeth 0 F_Shelf_height (sVar 0) (sCons (sVar 4) sNil)) (sMeth 0 F_Shelf_height (sVar 0) (sCons (sVar 5) sNil)))) (sRet (sMeth 0 F_Shelf_fork (sVar 0) (sCons (sMeth 0 F_Shelf_fork (sVar 0) (sCons (sVar 1) (sCons (sVar 4) sNil))) (sCons (sVar 5) sNil)))) sNext)
    (sSeq (sSet 6 (sMeth 0 F_Shelf_piece (sVar 0) (sCons (sVar 4) sNil)))
    (sRet (sMeth 0 F_Shelf_fork (sVar 0) (sCons (sMeth 0 F_Shelf_fork (sVar 0) (sCons (sVar 1) (sCons (sOp2 fIx (sVar 6) (sLit (.int 1))) sNil))) (sCons (sMeth 0 F_Shelf_fork (sVar 0) (sCons (sOp2 fIx (sVar 6) (sLit (.int 2))) (sCons (sVar 5) sNil))) sNil))))))))))
def S_without_first (G : Fn) : Fn := mkFn 2 4
    (sSeq (sSet 2 (sMeth 0 F_Shelf_piece (sVar 0) (sCons (sVar 1) sNil)))
    (sSeq (sIf (sBool (sOp2 fEq (sOp2 fIx (sVar 2) (sLit (.int 0))) (sLit (.str "leaf")))) (sRet (sLit (.int 0))) sNext)
    (sSeq (sSet 3 (sAppl G (sCons (sVar 0) (sCons (sOp2 fIx (sVar 2) (sLit (.int 1))) sNil))))
    (sSeq (sIf (sBool (sOp2 fEq (sVar 3) (sLit (.int 0)))) (sRet (sOp2 fIx (sVar 2) (sLit (.int 2)))) sNext)
    (sRet (sAppl F_turned_left (sCons (sVar 0) (sCons (sVar 3) (sCons (sOp2 fIx (sVar 2) (sLit (.int 2))) sNil)))))))))
def F_without_first : Nat -> Fn
  | 0 => mkFn 2 4 (fun _ _ => .bad)
  | d + 1 => S_without_first (F_without_first d)
def F_turned_right : Fn := mkFn 3 7
    (sSeq (sIf (sBool (sOp2 fLt (sOp2 fSub (sMeth 0 F_Shelf_height (sVar 0) (sCons (sVar 1) sNil)) (sMeth 0 F_Shelf_height (sVar 0) (sCons (sVar 2) sNil))) (sLit (.int 2)))) (sRet (sMeth 0 F_Shelf_fork (sVar 0) (sCons (sVar 1) (sCons (sVar 2) sNil)))) sNext)
    (sSeq (sSet 3 (sMeth 0 F_Shelf_piece (sVar 0) (sCons (sVar 1) sNil)))
    (sSeq (sSet 4 (sOp2 fIx (sVar 3) (sLit (.int 1))))
    (sSeq (sSet 5 (sOp2 fIx (sVar 3) (sLit (.int 2))))
    (sSeq (sIf (sBool (sOp2 fLe (sMeth 0 F_Shelf_height (sVar 0) (sCons (sVar 5) sNil)) (sMeth 0 F_Shelf_height (sVar 0) (sCons (sVar 4) sNil)))) (sRet (sMeth 0 F_Shelf_fork (sVar 0) (sCons (sVar 4) (sCons (sMeth 0 F_Shelf_fork (sVar 0) (sCons (sVar 5) (sCons (sVar 2) sNil))) sNil)))) sNext)
    (sSeq (sSet 6 (sMeth 0 F_Shelf_piece (sVar 0) (sCons (sVar 5) sNil)))
    (sRet (sMeth 0 F_Shelf_fork (sVar 0) (sCons (sMeth 0 F_Shelf_fork (sVar 0) (sCons (sVar 4) (sCons (sOp2 fIx (sVar 6) (sLit (.int 1))) sNil))) (sCons (sMeth 0 F_Shelf_fork (sVar 0) (sCons (sOp2 fIx (sVar 6) (sLit (.int 2))) (sCons (sVar 2) sNil))) sNil))))))))))
def S_linked (G : Fn) : Fn := mkFn 3 5
    (sSeq (sSet 3 (sOp2 fSub (sMeth 0 F_Shelf_height (sVar 0) (sCons (sVar 1) sNil)) (sMeth 0 F_Shelf_height (sVar 0) (sCons (sVar 2) sNil))))
    (sSeq (sIf (sBool (sOp2 fGt (sVar 3) (sLit (.int 1)))) (sSeq (sSet 4 (sMeth 0 F_Shelf_piece (sVar 0) (sCons (sVar 1) sNil)))
    (sRet (sAppl F_turned_left (sCons (sVar 0) (sCons (sOp2 fIx (sVar 4) (sLit (.int 1))) (sCons (sAppl G (sCons (sVar 0) (sCons (sOp2 fIx (sVar 4) (sLit (.int 2))) (sCons (sVar 2) sNil)))) sNil)))))) sNext)
    (sSeq (sIf (sBool (sOp2 fLt (sVar 3) (sOp1 fNeg (sLit (.int 1))))) (sSeq (sSet 4 (sMeth 0 F_Shelf_piece (sVar 0) (sCons (sVar 2) sNil)))
    (sRet (sAppl F_turned_right (sCons (sVar 0) (sCons (sAppl G (sCons (sVar 0) (sCons (sVar 1) (sCons (sOp2 fIx (sVar 4) (sLit (.int 1))) sNil)))) (sCons (sOp2 fIx (sVar 4) (sLit (.int 2))) sNil)))))) sNext)
    (sRet (sMeth 0 F_Shelf_fork (sVar 0) (sCons (sVar 1) (sCons (sVar 2) sNil)))))))
def F_linked : Nat -> Fn
  | 0 => mkFn 3 5 (fun _ _ => .bad)
  | d + 1 => S_linked (F_linked d)
def F_is_plain_sign : Fn := mkFn 1 1
    (sRet (sOrV (sOp2 fEq (sVar 0) (sLit (.str "\n"))) (sChain fLe fLe (sLit (.str " ")) (sVar 0) (sLit (.str "~")))))
def F_is_plain : Fn := mkFn 1 1
    (sSeq (sIf (sNot (sTest (sIsB "str" (sVar 0)))) (sRet (sLit (.bl false))) sNext)
    (sRet (sAppl fAll (sCons (sComp [] (iVal (sVar 0)) sYes (sAppl F_is_plain_sign (sCons (sVar 0) sNil))) sNil))))
def F_is_short : Fn := mkFn 1 1
    (sRet (sAndV (sAppl F_is_plain (sCons (sVar 0) sNil)) (sChain fLe fLe (sLit (.int 1)) (sAppl fLen (sCons (sVar 0) sNil)) (sLit (.int 8)))))
def F_ends_in : Fn := mkFn 1 1
    (sRet (sBM isStr mCountS (sVar 0) (sCons (sLit (.str "\n")) sNil)))
def F_Shelf_lay_leaf : Fn := mkFn 2 4
    (sSeq (sSet 2 (sMeth 0 F_Shelf_lay (sVar 0) (sCons (sVar 1) sNil)))
    (sSeq (sSet 3 (sOp2 fIx (sVar 1) (sLit (.int 1))))
    (sSeq (sExpr (sBM isLst mAppend (Sm.sFld 0 2 (sVar 0)) (sCons (sAppl fLen (sCons (sVar 3) sNil)) sNil)))
    (sSeq (sExpr (sBM isLst mAppend (Sm.sFld 0 3 (sVar 0)) (sCons (sAppl F_ends_in (sCons (sVar 3) sNil)) sNil)))
    (sSeq (sExpr (sBM isLst mAppend (Sm.sFld 0 4 (sVar 0)) (sCons (sLit (.int 1)) sNil)))
    (sSeq (sExpr (sBM isLst mAppend (Sm.sFld 0 5 (sVar 0)) (sCons (sLit (.int 0)) sNil)))
    (sSeq (sExpr (sBM isLst mAppend (Sm.sFld 0 6 (sVar 0)) (sCons (sVar 2) sNil)))
    (sExpr (sBM isLst mAppend (Sm.sFld 0 7 (sVar 0)) (sCons (sVar 2) sNil))))))))))
def F_Shelf_leaf : Fn := mkFn 2 3
    (sSeq (sIf (sNot (sTest (sAppl F_is_short (sCons (sVar 1) sNil)))) (sRaise 1 (sCons (sLit (.str "a leaf is a plain text of one to eight signs")) sNil)) sNext)
    (sSeq (sSet 2 (sTup (sCons (sLit (.str "leaf")) (sCons (sVar 1) sNil))))
    (sSeq (sIf (sBool (sOp2 fNotIn (sVar 2) (Sm.sFld 0 1 (sVar 0)))) (sExpr (sMeth 0 F_Shelf_lay_leaf (sVar 0) (sCons (sVar 2) sNil))) sNext)
    (sRet (sOp2 fIx (Sm.sFld 0 1 (sVar 0)) (sVar 2))))))
def F_welded : Fn := mkFn 3 6
    (sSeq (sSet 3 (sOp2 fAdd (sOp2 fIx (sMeth 0 F_Shelf_piece (sVar 0) (sCons (sMeth 0 F_Shelf_last_leaf (sVar 0) (sCons (sVar 1) sNil)) sNil)) (sLit (.int 1))) (sOp2 fIx (sMeth 0 F_Shelf_piece (sVar 0) (sCons (sMeth 0 F_Shelf_first_leaf (sVar 0) (sCons (sVar 2) sNil)) sNil)) (sLit (.int 1)))))
    (sSeq (sSet 4 (sAppl (F_with_last 90) (sCons (sVar 0) (sCons (sVar 1) (sCons (sMeth 0 F_Shelf_leaf (sVar 0) (sCons (sVar 3) sNil)) sNil)))))
    (sSeq (sSet 5 (sAppl (F_without_first 90) (sCons (sVar 0) (sCons (sVar 2) sNil))))
    (sSeq (sIf (sBool (sOp2 fEq (sVar 5) (sLit (.int 0)))) (sRet (sVar 4)) sNext)
    (sRet (sAppl (F_linked 90) (sCons (sVar 0) (sCons (sVar 4) (sCons (sVar 5) sNil)))))))))
def F_joined : Fn := mkFn 3 3
    (sSeq (sExpr (sAppl F_check_length (sCons (sOp2 fAdd (sMeth 0 F_Shelf_signs (sVar 0) (sCons (sVar 1) sNil)) (sMeth 0 F_Shelf_signs (sVar 0) (sCons (sVar 2) sNil))) sNil)))
    (sSeq (sIf (sBool (sOp2 fEq (sVar 1) (sLit (.int 0)))) (sRet (sVar 2)) sNext)
    (sSeq (sIf (sBool (sOp2 fEq (sVar 2) (sLit (.int 0)))) (sRet (sVar 1)) sNext)
    (sSeq (sIf (sTest (sAppl F_are_close (sCons (sVar 0) (sCons (sVar 1) (sCons (sVar 2) sNil))))) (sRet (sAppl (F_linked 90) (sCons (sVar 0) (sCons (sVar 1) (sCons (sVar 2) sNil))))) sNext)
    (sRet (sAppl F_welded (sCons (sVar 0) (sCons (sVar 1) (sCons (sVar 2) sNil)))))))))
def S_doubled (G : Fn) : Fn := mkFn 3 5
    (sSeq (sIf (sBool (sOp2 fEq (sVar 2) (sLit (.int 0)))) (sRet (sLit (.int 0))) sNext)
    (sSeq (sSet 3 (sAppl G (sCons (sVar 0) (sCons (sVar 1) (sCons (sOp2 fDiv (sVar 2) (sLit (.int 2))) sNil)))))
    (sSeq (sSet 4 (sAppl F_joined (sCons (sVar 0) (sCons (sVar 3) (sCons (sVar 3) sNil)))))
    (sSeq (sIf (sBool (sOp2 fEq (sOp2 fMod (sVar 2) (sLit (.int 2))) (sLit (.int 0)))) (sRet (sVar 4)) sNext)
    (sRet (sAppl F_joined (sCons (sVar 0) (sCons (sVar 4) (sCons (sVar 1) sNil)))))))))
def F_doubled : Nat -> Fn
  | 0 => mkFn 3 5 (fun _ _ => .bad)
  | d + 1 => S_doubled (F_doubled d)
def F_repeated : Fn := mkFn 3 4
    (sSeq (sSet 3 (sMeth 0 F_Shelf_signs (sVar 0) (sCons (sVar 1) sNil)))
    (sSeq (sIf (sBool (sOp2 fLt (sVar 2) (sLit (.int 0)))) (sRaise 6 (sCons (sLit (.str "a text is repeated 0 times at least")) sNil)) sNext)
    (sSeq (sExpr (sAppl F_check_length (sCons (sOp2 fMul (sVar 3) (sVar 2)) sNil)))
    (sSeq (sIf (sBool (sOp2 fEq (sVar 1) (sLit (.int 0)))) (sRet (sLit (.int 0))) sNext)
    (sRet (sAppl (F_doubled 64) (sCons (sVar 0) (sCons (sVar 1) (sCons (sVar 2) sNil)))))))))
def S_halved (G : Fn) : Fn := mkFn 2 3
    (sSeq (sIf (sBool (sOp2 fEq (sAppl fLen (sCons (sVar 1) sNil)) (sLit (.int 1)))) (sRet (sOp2 fIx (sVar 1) (sLit (.int 0)))) sNext)
    (sSeq (sSet 2 (sOp2 fDiv (sAppl fLen (sCons (sVar 1) sNil)) (sLit (.int 2))))
    (sRet (sMeth 0 F_Shelf_fork (sVar 0) (sCons (sAppl G (sCons (sVar 0) (sCons (sCut (sVar 1) none (some (sVar 2))) sNil))) (sCons (sAppl G (sCons (sVar 0) (sCons (sCut (sVar 1) (some (sVar 2)) none) sNil))) sNil))))))
def F_halved : Nat -> Fn
  | 0 => mkFn 2 3 (fun _ _ => .bad)
  | d + 1 => S_halved (F_halved d)
def F_built : Fn := mkFn 2 3
    (sSeq (sIf (sNot (sTest (sAppl F_is_plain (sCons (sVar 1) sNil)))) (sRaise 1 (sCons (sLit (.str "a text is built of a plain text")) sNil)) sNext)
    (sSeq (sIf (sBool (sOp2 fGt (sAppl fLen (sCons (sVar 1) sNil)) (sLit (.int 10000)))) (sRaise 5 (sCons (sLit (.str "a text is built of ten thousand signs at most")) sNil)) sNext)
    (sSeq (sIf (sBool (sOp2 fEq (sVar 1) (sLit (.str "")))) (sRet (sLit (.int 0))) sNext)
    (sSeq (sSet 2 (sComp [0, 1] (iRange3 (sLit (.int 0)) (sAppl fLen (sCons (sVar 1) sNil)) (sLit (.int 8))) sYes (sMeth 0 F_Shelf_leaf (sVar 1) (sCons (sCut (sVar 2) (some (sVar 0)) (some (sOp2 fAdd (sVar 0) (sLit (.int 8))))) sNil))))
    (sRet (sAppl (F_halved 20) (sCons (sVar 0) (sCons (sVar 2) sNil))))))))
def F_law_fresh : Fn := mkFn 2 4
    (sSeq (sSet 2 (sOp2 fAdd (sCut (sLit (.str "ba\ncdefg")) (some (sAppl F_law_take (sCons (sVar 1) (sCons (sLit (.int 8)) sNil)))) none) (sAppl F_law_plain (sCons (sVar 1) (sCons (sLit (.int 12)) sNil)))))
    (sSeq (sSet 3 (sOp2 fAdd (sLit (.int 1)) (sAppl F_law_take (sCons (sVar 1) (sCons (sOp2 fIx (sLst (sCons (sLit (.int 9)) (sCons (sOp2 fPow (sLit (.int 10)) (sLit (.int 6))) (sCons (sOp2 fPow (sLit (.int 10)) (sLit (.int 15))) sNil)))) (sAppl F_law_take (sCons (sVar 1) (sCons (sLit (.int 3)) sNil)))) sNil)))))
    (sRet (sTup (sCons (sAppl F_repeated (sCons (sVar 0) (sCons (sAppl F_built (sCons (sVar 0) (sCons (sVar 2) sNil))) (sCons (sVar 3) sNil)))) (sCons (sLst (sCons (sTup (sCons (sVar 2) (sCons (sVar 3) sNil))) sNil)) sNil))))))
def F_law_length : Fn := mkFn 1 1
    (sRet (sAppl fSum (sCons (sComp2 [] (iValT (sVar 0)) sYes (sOp2 fMul (sAppl fLen (sCons (sVar 0) sNil)) (sVar 1))) sNil)))
def F_law_deed : Fn := mkFn 3 9
    (sSeq (sSet 3 (sAppl F_law_take (sCons (sVar 2) (sCons (sLit (.int 4)) sNil))))
    (sSeq (sIf (sOr (sBool (sOp2 fLt (sAppl fLen (sCons (sVar 1) sNil)) (sLit (.int 2)))) (sBool (sOp2 fEq (sVar 3) (sLit (.int 0))))) (sRet (sAppl F_law_fresh (sCons (sVar 0) (sCons (sVar 2) sNil)))) sNext)
    (sSeq (sSetT (.tup [4, 5]) (sOp2 fIx (sVar 1) (sAppl F_law_take (sCons (sVar 2) (sCons (sAppl fLen (sCons (sVar 1) sNil)) sNil)))))
    (sSeq (sSetT (.tup [6, 7]) (sOp2 fIx (sVar 1) (sAppl F_law_take (sCons (sVar 2) (sCons (sAppl fLen (sCons (sVar 1) sNil)) sNil)))))
    (sSeq (sSet 8 (sOp2 fAdd (sLit (.int 1)) (sAppl F_law_take (sCons (sVar 2) (sCons (sLit (.int 9)) sNil)))))
    (sSeq (sIf (sAnd (sBool (sOp2 fEq (sVar 3) (sLit (.int 1)))) (sAnd (sBool (sOp2 fLt (sOp2 fMul (sAppl fLen (sCons (sVar 5) sNil)) (sVar 8)) (sLit (.int 31)))) (sBool (sOp2 fLe (sOp2 fMul (sAppl F_law_length (sCons (sVar 5) sNil)) (sVar 8)) (sOp2 fPow (sLit (.int 10)) (sLit (.int 18))))))) (sRet (sTup (sCons (sAppl F_repeated (sCons (sVar 0) (sCons (sVar 4) (sCons (sVar 8) sNil)))) (sCons (sOp2 fMulL (sVar 5) (sVar 8)) sNil)))) sNext)
    (sSeq (sIf (sAnd (sBool (sOp2 fLt (sAppl fLen (sCons (sOp2 fAdd (sVar 5) (sVar 7)) sNil)) (sLit (.int 31)))) (sBool (sOp2 fLe (sAppl F_law_length (sCons (sOp2 fAdd (sVar 5) (sVar 7)) sNil)) (sOp2 fPow (sLit (.int 10)) (sLit (.int 18)))))) (sRet (sTup (sCons (sAppl F_joined (sCons (sVar 0) (sCons (sVar 4) (sCons (sVar 6) sNil)))) (sCons (sOp2 fAdd (sVar 5) (sVar 7)) sNil)))) sNext)
    (sRet (sAppl F_law_fresh (sCons (sVar 0) (sCons (sVar 2) sNil)))))))))))
def S_law_look (G : Fn) : Fn := mkFn 3 7
    (sSeq (sIf (sBool (sOp2 fIn (sVar 1) (sVar 2))) (sRet (sOp2 fIx (sVar 2) (sVar 1))) sNext)
    (sSeq (sSet 3 (sMeth 0 F_Shelf_piece (sVar 0) (sCons (sVar 1) sNil)))
    (sSeq (sSet 4 (sTup sNil))
    (sSeq (sIf (sAnd (sBool (sOp2 fEq (sOp2 fIx (sVar 3) (sLit (.int 0))) (sLit (.str "leaf")))) (sAnd (sTest (sIsB "str" (sOp2 fIx (sVar 3) (sLit (.int 1))))) (sBool (sChain fLt fLt (sLit (.int 0)) (sAppl fLen (sCons (sOp2 fIx (sVar 3) (sLit (.int 1))) sNil)) (sLit (.int 9)))))) (sSet 4 (sTup (sCons (sLit (.int 0)) (sCons (sAppl fLen (sCons (sOp2 fIx (sVar 3) (sLit (.int 1))) sNil)) (sCons (sAppl fLen (sCons (sOp2 fIx (sVar 3) (sLit (.int 1))) sNil)) (sCons (sAppl fLen (sCons (sOp2 fIx (sVar 3) (sLit (.int 1))) sNil)) (sCons (sLit (.int 1)) sNil))))))) sNext)
    (sSeq (sIf (sAnd (sBool (sOp2 fEq (sOp2 fIx (sVar 3) (sLit (.int 0))) (sLit (.str "fork")))) (sAnd (sBool (sChain fLt fLt (sLit (.int 0)) (sOp2 fIx (sVar 3) (sLit (.int 1))) (sVar 1))) (sBool (sChain fLt fLt (sLit (.int 0)) (sOp2 fIx (sVar 3) (sLit (.int 2))) (sVar 1))))) (sSeq (sSet 5 (sAppl G (sCons (sVar 0) (sCons (sOp2 fIx (sVar 3) (sLit (.int 1))) (sCons (sVar 2) sNil)))))
    (sSeq (sSet 6 (sAppl G (sCons (sVar 0) (sCons (sOp2 fIx (sVar 3) (sLit (.int 2))) (sCons (sVar 2) sNil)))))
    (sIf (sAnd (sBool (sOp2 fNe (sVar 5) (sTup sNil))) (sAnd (sBool (sOp2 fNe (sVar 6) (sTup sNil))) (sAnd (sBool (sOp2 fLt (sAppl fAbs (sCons (sOp2 fSub (sOp2 fIx (sVar 5) (sLit (.int 0))) (sOp2 fIx (sVar 6) (sLit (.int 0)))) sNil)) (sLit (.int 2)))) (sBool (sOp2 fGt (sOp2 fAdd (sOp2 fIx (sVar 5) (sLit (.int 3))) (sOp2 fIx (sVar 6) (sLit (.int 2)))) (sLit (.int 8))))))) (sSet 4 (sTup (sCons (sOp2 fAdd (sLit (.int 1)) (sAppl fMax2 (sCons (sOp2 fIx (sVar 5) (sLit (.int 0))) (sCons (sOp2 fIx (sVar 6) (sLit (.int 0))) sNil)))) (sCons (sOp2 fAdd (sOp2 fIx (sVar 5) (sLit (.int 1))) (sOp2 fIx (sVar 6) (sLit (.int 1)))) (sCons (sOp2 fIx (sVar 5) (sLit (.int 2))) (sCons (sOp2 fIx (sVar 6) (sLit (.int 3))) (sCons (sOp2 fAdd (sOp2 fIx (sVar 5) (sLit (.int 4))) (sOp2 fIx (sVar 6) (sLit (.int 4)))) sNil))))))) sNext))) sNext)
    (sSeq (sSetIx (sVar 2) (sVar 1) (sVar 4))
    (sRet (sVar 4))))))))
def F_law_look : Nat -> Fn
  | 0 => mkFn 3 7 (fun _ _ => .bad)
  | d + 1 => S_law_look (F_law_look d)
def B_law_spots_1 : SS :=
    (sSeq (sSet 4 (sOp2 fAdd (sVar 4) (sOp2 fMul (sAppl fLen (sCons (sVar 5) sNil)) (sVar 6))))
    (sExpr (sBM isLst mExtR (sVar 3) (sCons (sLstM (sCons (sOp2 fSub (sVar 4) (sLit (.int 1))) (sCons (sVar 4) (sCons (sOp2 fSub (sVar 4) (sAppl fLen (sCons (sVar 5) sNil))) sNil)))) sNil))))
def F_law_spots : Fn := mkFn 2 7
    (sSeq (sSet 2 (sAppl F_law_length (sCons (sVar 0) sNil)))
    (sSeq (sSet 3 (sLstM (sCons (sLit (.int 0)) (sCons (sOp2 fSub (sVar 2) (sLit (.int 1))) sNil))))
    (sSeq (sSet 4 (sLit (.int 0)))
    (sSeq (sFor (iValT (sCut (sVar 0) none (some (sLit (.int 12))))) (.tup [5, 6]) B_law_spots_1)
    (sSeq (sExpr (sBM isLst mExtR (sVar 3) (sCons (sCompM [1, 2] (iRange1 (sLit (.int 3))) sYes (sAppl F_law_take (sCons (sVar 1) (sCons (sVar 2) sNil)))) sNil)))
    (sRet (sComp [2] (iVal (sVar 3)) (sBool (sChain fLe fLt (sLit (.int 0)) (sVar 0) (sVar 1))) (sVar 0))))))))
def F_Shelf_ends : Fn := mkFn 2 2
    (sSeq (sExpr (sMeth 0 F_Shelf_check_text (sVar 0) (sCons (sVar 1) sNil)))
    (sRet (sOp2 fIx (Sm.sFld 0 3 (sVar 0)) (sVar 1))))
def B_law_sign_1 : SS :=
    (sSeq (sSet 5 (sOp2 fIx (sOp2 fIx (sVar 3) (sOp2 fIx (sVar 4) (sLit (.int 1)))) (sLit (.int 1))))
    (sSeq (sIf (sBool (sOp2 fLt (sVar 2) (sVar 5))) (sSet 1 (sOp2 fIx (sVar 4) (sLit (.int 1)))) (sSeq (sSet 1 (sOp2 fIx (sVar 4) (sLit (.int 2))))
    (sSet 2 (sOp2 fSub (sVar 2) (sVar 5)))))
    (sSet 4 (sMeth 0 F_Shelf_piece (sVar 0) (sCons (sVar 1) sNil)))))
def F_law_sign : Fn := mkFn 4 6
    (sSeq (sSet 4 (sMeth 0 F_Shelf_piece (sVar 0) (sCons (sVar 1) sNil)))
    (sSeq (sWhile (sBool (sOp2 fEq (sOp2 fIx (sVar 4) (sLit (.int 0))) (sLit (.str "fork")))) B_law_sign_1 wFuel)
    (sRet (sOp2 fIx (sOp2 fIx (sVar 4) (sLit (.int 1))) (sVar 2)))))
def B_law_block_sign_1 : SS :=
    (sSeq (sIf (sBool (sOp2 fLt (sVar 1) (sOp2 fMul (sAppl fLen (sCons (sVar 2) sNil)) (sVar 3)))) (sRet (sOp2 fIx (sVar 2) (sOp2 fMod (sVar 1) (sAppl fLen (sCons (sVar 2) sNil))))) sNext)
    (sSet 1 (sOp2 fSub (sVar 1) (sOp2 fMul (sAppl fLen (sCons (sVar 2) sNil)) (sVar 3)))))
def F_law_block_sign : Fn := mkFn 2 4
    (sSeq (sFor (iValT (sVar 0)) (.tup [2, 3]) B_law_block_sign_1)
    (sRet (sLit (.str ""))))
def F_law_reads : Fn := mkFn 4 8
    (sSeq (sSet 4 (sAppl F_law_length (sCons (sVar 2) sNil)))
    (sSeq (sIf (sOr (sBool (sOp2 fEq (sVar 1) (sLit (.int 0)))) (sBool (sOp2 fEq (sVar 4) (sLit (.int 0))))) (sRet (sAndV (sOp2 fEq (sVar 1) (sLit (.int 0))) (sOp2 fEq (sVar 4) (sLit (.int 0))))) sNext)
    (sSeq (sSet 5 (sDict false))
    (sSeq (sSet 6 (sAppl (F_law_look 90) (sCons (sVar 0) (sCons (sVar 1) (sCons (sVar 5) sNil)))))
    (sSeq (sIf (sOr (sBool (sOp2 fEq (sVar 6) (sTup sNil))) (sOr (sBool (sOp2 fNe (sOp2 fIx (sVar 6) (sLit (.int 1))) (sVar 4))) (sBool (sOp2 fNe (sMeth 0 F_Shelf_signs (sVar 0) (sCons (sVar 1) sNil)) (sVar 4))))) (sRet (sLit (.bl false))) sNext)
    (sSeq (sIf (sBool (sOp2 fNe (sMeth 0 F_Shelf_ends (sVar 0) (sCons (sVar 1) sNil)) (sAppl fSum (sCons (sComp2 [] (iValT (sVar 2)) sYes (sOp2 fMul (sBM isStr mCountS (sVar 0) (sCons (sLit (.str "\n")) sNil)) (sVar 1))) sNil)))) (sRet (sLit (.bl false))) sNext)
    (sSeq (sSet 7 (sAppl F_law_spots (sCons (sVar 2) (sCons (sVar 3) sNil))))
    (sRet (sAppl fAll (sCons (sComp [0, 1, 5, 2] (iVal (sVar 7)) sYes (sOp2 fEq (sAppl F_law_sign (sCons (sVar 1) (sCons (sVar 2) (sCons (sVar 0) (sCons (sVar 3) sNil))))) (sAppl F_law_block_sign (sCons (sVar 4) (sCons (sVar 0) sNil))))) sNil))))))))))
def B_law_high_1 : SS :=
    (sSeq (sPar 1 2 (sCons (sVar 2) (sCons (sOp2 fAdd (sVar 1) (sVar 2)) sNil)))
    (sSet 3 (sOp2 fAdd (sVar 3) (sLit (.int 1)))))
def F_law_high : Fn := mkFn 1 4
    (sSeq (sSet 1 (sLit (.int 1)))
    (sSeq (sSet 2 (sLit (.int 2)))
    (sSeq (sSet 3 (sLit (.int 0)))
    (sSeq (sWhile (sBool (sOp2 fLe (sOp2 fAdd (sOp2 fMul (sLit (.int 9)) (sOp2 fDiv (sVar 2) (sLit (.int 2)))) (sOp2 fMod (sVar 2) (sLit (.int 2)))) (sVar 0))) B_law_high_1 wFuel)
    (sRet (sVar 3))))))
def B_law_1 : SS :=
    (sSeq (sSet 6 (sAppl F_law_own (sCons (sVar 5) (sCons (sVar 4) sNil))))
    (sSeq (sSetT (.tup [7, 8]) (sAppl F_law_deed (sCons (sVar 1) (sCons (sVar 2) (sCons (sVar 6) sNil)))))
    (sSeq (sIf (sNot (sTest (sAppl F_law_reads (sCons (sVar 1) (sCons (sVar 7) (sCons (sVar 8) (sCons (sVar 6) sNil))))))) (sRet (sLit (.bl false))) sNext)
    (sSeq (sIf (sBool (sOp2 fGt (sMeth 0 F_Shelf_height (sVar 1) (sCons (sVar 7) sNil)) (sAppl F_law_high (sCons (sAppl F_law_length (sCons (sVar 8) sNil)) sNil)))) (sRet (sLit (.bl false))) sNext)
    (sSeq (sExpr (sBM isLst mAppend (sVar 3) (sCons (sTup (sCons (sVar 7) (sCons (sVar 8) sNil))) sNil)))
    (sSeq (sSet 2 (sOp2 fAddM (sVar 2) (sLst (sCons (sTup (sCons (sVar 7) (sCons (sVar 8) sNil))) sNil))))
    (sIf (sBool (sOp2 fGt (sAppl fLen (sCons (sVar 2) sNil)) (sLit (.int 6)))) (sExpr (sBM isLst mPopAt (sVar 2) (sCons (sAppl F_law_take (sCons (sVar 6) (sCons (sLit (.int 6)) sNil))) sNil))) sNext)))))))
def F_law : Fn := mkFn 1 9
    (sSeq (sSet 1 (sMake 0 8 F_Shelf_init sNil))
    (sSeq (sSet 2 (sLst sNil))
    (sSeq (sSet 3 (sLstM sNil))
    (sSeq (sFor (Sm.iEnum (sOp2 fAdd (sVar 0) (sLst (sCons (sLit (.int 0)) (sCons (sLit (.int 1)) (sCons (sLit (.int 2)) sNil)))))) (.tup [4, 5]) B_law_1)
    (sSeq (sSet 6 (sAppl F_law_stream (sCons (sVar 0) (sCons (sLit (.int 0)) sNil))))
    (sRet (sAppl fAll (sCons (sComp2 [1, 6] (iValT (sVar 3)) sYes (sAppl F_law_reads (sCons (sVar 2) (sCons (sVar 0) (sCons (sVar 1) (sCons (sVar 3) sNil)))))) sNil))))))))
end Sk

set_option exponentiation.threshold 2000
namespace Sk
open PySem PySem.Spec L2 Sm
theorem ze3 {w : Option Nat} {all : List AV} {t : Tg} {b : SS} (P : Nat -> En -> AH -> Prop) : ∀ (xs : List AV) (i : Nat) (en : En) (h : AH), P i en h ->
    (∀ i en h, P i en h -> liveB w all h = true) ->
    (∀ (j : Nat) (x : AV) (en : En) (h : AH), xs[j]? = some x -> P (i + j) en h -> ∃ e1 e2 h2, setT t x en = some e1 /\ (b e1 h = .nx e2 h2 \/ b e1 h = .ct e2 h2) /\ P (i + j + 1) e2 h2) ->
    ∃ e' h', sForGo w all t b xs en h = .nx e' h' /\ P (i + xs.length) e' h'
  | [], i, en, h, p, lv, _ => ⟨en, h, by unfold sForGo; rw [if_pos (lv _ _ _ p)], p⟩
  | x :: xs, i, en, h, p, lv, s => by
    obtain ⟨e1, e2, h2, q1, q2, q3⟩ := s 0 x en h rfl p
    obtain ⟨e', h', r1, r2⟩ := ze3 P xs (i + 1) e2 h2 q3 lv fun j y en h e q => by
      have := s (j + 1) y en h (by simpa using e) (by rw [show i + (j + 1) = i + 1 + j by omega]; exact q)
      rw [show i + (j + 1) + 1 = i + 1 + j + 1 by omega] at this
      exact this
    refine ⟨e', h', ?_, by rw [List.length_cons, show i + (xs.length + 1) = i + 1 + xs.length by omega]; exact r2⟩
    unfold sForGo
    rw [if_pos (lv _ _ _ p)]
    simp only [q1]
    rcases q2 with q2 | q2
    . rw [q2]; exact r1
    . rw [q2]; exact r1
theorem zaL {α : Type} {js : List Nat} {en : En} {w : Option Nat} {all : List AV} {c : SB} {e : SE} {g f : α -> AV} {p : α -> Bool} {h : AH} (lv : liveB w all h = true) : ∀ (cs : List α) (ys : List AV), (∀ x ∈ cs, c (some (g x) :: js.map fun j => (en[j]?).join) h = .ok (p x) h) -> (∀ x ∈ cs, p x = true -> e (some (g x) :: js.map fun j => (en[j]?).join) h = .ok (f x) h) -> ys.length + cs.length <= sizeLine ->
    sCompGo js en w all c e (cs.map g) ys h = .ok (ys ++ (cs.filter p).map f) h
  | [], ys, _, _, _ => by rw [List.map_nil]; unfold sCompGo; rw [if_pos lv]; simp
  | x :: xs, ys, hc, he, hl => by
    have hl' : ys.length < sizeLine := by simp at hl; omega
    rw [List.map_cons]
    unfold sCompGo
    rw [if_pos ⟨lv, hl'⟩, hc x (by simp)]
    cases hp : p x with
    | false =>
      dsimp only
      rw [zaL lv xs ys (fun y hy => hc y (by simp [hy])) (fun y hy => he y (by simp [hy])) (by simp at hl ⊢; omega)]
      simp [List.filter_cons, hp]
    | true =>
      dsimp only
      rw [he x (by simp) hp]
      dsimp only
      rw [zaL lv xs (ys ++ [f x]) (fun y hy => hc y (by simp [hy])) (fun y hy => he y (by simp [hy])) (by simp at hl ⊢; omega)]
      simp [List.filter_cons, hp]
theorem zdZ {α : Type} {js : List Nat} {en : En} {w : Option Nat} {all : List AV} {e : SE} {g f : α -> AV} {h : AH} (lv : liveB w all h = true) (cs : List α) (ys : List AV) (he : ∀ x ∈ cs, e (some (g x) :: js.map fun j => (en[j]?).join) h = .ok (f x) h) (hl : ys.length + cs.length <= sizeLine) :
    sCompGo js en w all sYes e (cs.map g) ys h = .ok (ys ++ cs.map f) h := by
  rw [zaL (p := fun _ => true) lv cs ys (fun _ _ => rfl) (fun x hx _ => he x hx) hl, List.filter_eq_self.mpr (fun _ _ => rfl)]
theorem zdt {c : SB} {b : SS} (P : Nat -> En -> AH -> Prop) (Q : En -> AH -> Prop) : ∀ (fuel n : Nat) (en : En) (h : AH), P n en h -> n < fuel ->
    (∀ n en h, P n en h -> (∃ h1, c en h = .ok false h1 /\ Q en h1) \/ (∃ n' h1 e2 h2, n' < n /\ c en h = .ok true h1 /\ (b en h1 = .nx e2 h2 \/ b en h1 = .ct e2 h2) /\ P n' e2 h2)) ->
    ∃ e' h', sWhile c b fuel en h = .nx e' h' /\ Q e' h'
  | 0, n, en, h, _, l, _ => absurd l (Nat.not_lt_zero _)
  | fuel + 1, n, en, h, p, l, s => by
    rcases s n en h p with ⟨h1, q1, q2⟩ | ⟨n', h1, e2, h2, q0, q1, q2, q3⟩
    . refine ⟨en, h1, ?_, q2⟩
      unfold sWhile; rw [q1]
    . obtain ⟨e', h', r1, r2⟩ := zdt P Q fuel n' e2 h2 q3 (by omega) s
      refine ⟨e', h', ?_, r2⟩
      unfold sWhile; rw [q1]
      rcases q2 with q2 | q2
      . simp only [q2]; exact r1
      . simp only [q2]; exact r1
@[simp] def thn (o : OutS) (Q : En -> AH -> Prop) : Prop := match o with
  | .nx e h => Q e h
  | .ct e h => Q e h
  | _ => False
theorem thn_of {o : OutS} {Q : En -> AH -> Prop} (t : thn o Q) : ∃ e h, (o = .nx e h \/ o = .ct e h) /\ Q e h := by
  cases o with
  | nx e h => exact ⟨e, h, .inl rfl, t⟩
  | ct e h => exact ⟨e, h, .inr rfl, t⟩
  | _ => exact t.elim
@[simp] def setThn (o : Option En) (Q : En -> Prop) : Prop := match o with
  | some e => Q e
  | none => False
theorem for_p {w : Option Nat} {all : List AV} {t : Tg} {b : SS} {xs : List AV} {en : En} {h : AH} (P : Nat -> En -> AH -> Prop) (p0 : P 0 en h) (lv : ∀ i en h, P i en h -> liveB w all h = true)
    (st : ∀ (j : Nat) (x : AV) (en : En) (h : AH), xs[j]? = some x -> P j en h -> setThn (setT t x en) fun e1 => thn (b e1 h) (P (j + 1))) :
    ∃ e' h', sForGo w all t b xs en h = .nx e' h' /\ P xs.length e' h' := by
  have := ze3 (w := w) (all := all) (t := t) (b := b) P xs 0 en h p0 lv fun j x en h hx hp => by
    have q := st j x en h hx (by simpa using hp)
    cases z : setT t x en with
    | none => rw [z] at q; exact q.elim
    | some e1 =>
      rw [z] at q
      obtain ⟨e, h2, a, c⟩ := thn_of q
      exact ⟨e1, e, h2, rfl, a, by simpa using c⟩
  simpa using this
theorem ze4 {c : SB} {b : SS} {fuel n : Nat} {en : En} {h : AH} (P : Nat -> En -> AH -> Prop) (Q : En -> AH -> Prop) (p0 : P n en h) (hn : n < fuel)
    (st : ∀ n en h, P n en h -> match c en h with
      | .ok true h1 => thn (b en h1) fun e2 h2 => ∃ n', n' < n /\ P n' e2 h2
      | .ok false h1 => Q en h1
      | _ => False) :
    ∃ e' h', sWhile c b fuel en h = .nx e' h' /\ Q e' h' := by
  refine zdt P Q fuel n en h p0 hn fun n en h p => ?_
  have q := st n en h p
  cases z : c en h with
  | ok x h1 =>
    rw [z] at q
    cases x with
    | true =>
      obtain ⟨e, h2, a, n', l, c⟩ := thn_of q
      exact .inr ⟨n', h1, e, h2, l, rfl, a, c⟩
    | false => exact .inl ⟨h1, rfl, q⟩
  | ex _ _ => rw [z] at q; exact q.elim
  | bad => rw [z] at q; exact q.elim
@[simp] def okThn (o : Out AV) (Q : AV -> AH -> Prop) : Prop := match o with
  | .ok v h => Q v h
  | _ => False
theorem ze5 {js : List Nat} {en : En} {all : List AV} {e : SE} (P : Nat -> List AV -> AH -> Prop) : ∀ (xs ys : List AV) (i : Nat) (h : AH), P i ys h ->
    (∀ j x ys h, xs[j]? = some x -> P (i + j) ys h -> ∃ v h2, e (some x :: js.map fun j => (en[j]?).join) h = .ok v h2 /\ P (i + j + 1) (ys ++ [v]) h2) -> ys.length + xs.length <= sizeLine ->
    ∃ zs h', sCompGo js en none all sYes e xs ys h = .ok zs h' /\ P (i + xs.length) zs h'
  | [], ys, i, h, p, _, _ => ⟨ys, h, by simp [sCompGo], p⟩
  | x :: xs, ys, i, h, p, s, hl => by
    obtain ⟨v, h2, q1, q2⟩ := s 0 x ys h rfl p
    obtain ⟨zs, h', r1, r2⟩ := ze5 P xs (ys ++ [v]) (i + 1) h2 q2 (fun j y ys h hy hp => by
      have := s (j + 1) y ys h (by simpa using hy) (by rw [show i + (j + 1) = i + 1 + j by omega]; exact hp)
      rw [show i + (j + 1) + 1 = i + 1 + j + 1 by omega] at this
      exact this) (by simp at hl ⊢; omega)
    refine ⟨zs, h', ?_, by rw [List.length_cons, show i + (xs.length + 1) = i + 1 + xs.length by omega]; exact r2⟩
    unfold sCompGo
    rw [if_pos ⟨rfl, by simp at hl; omega⟩]
    simp only [sYes]
    rw [q1]
    exact r1
theorem comp_i {js : List Nat} {en : En} {all : List AV} {e : SE} {xs : List AV} {h : AH} (P : Nat -> List AV -> AH -> Prop) (p0 : P 0 [] h)
    (st : ∀ j x ys h, xs[j]? = some x -> P j ys h -> okThn (e (some x :: js.map fun j => (en[j]?).join) h) fun v h2 => P (j + 1) (ys ++ [v]) h2) (hl : xs.length <= sizeLine) :
    ∃ zs h', sCompGo js en none all sYes e xs [] h = .ok zs h' /\ P xs.length zs h' := by
  have := ze5 (js := js) (en := en) (all := all) (e := e) P xs [] 0 h p0 (fun j x ys h hx p => by
    have q := st j x ys h hx (by simpa using p)
    cases z : e (some x :: js.map fun j => (en[j]?).join) h with
    | ok v h2 => rw [z] at q; exact ⟨v, h2, rfl, by simpa using q⟩
    | ex _ _ => rw [z] at q; exact q.elim
    | bad => rw [z] at q; exact q.elim) (by simpa using hl)
  simpa using this
theorem zbQ : ∀ (n : Nat) (lo : Int) (i : Nat), (rangeA lo n)[i]? = if i < n then some (.int (lo + i)) else none
  | 0, lo, i => by simp [rangeA]
  | n + 1, lo, 0 => by simp [rangeA]
  | n + 1, lo, i + 1 => by
    unfold rangeA
    rw [List.getElem?_cons_succ, zbQ n (lo + 1) i]
    by_cases q : i < n
    . rw [if_pos q, if_pos (by omega)]; congr 2; omega
    . rw [if_neg q, if_neg (by omega)]
theorem zaU : ∀ (n : Nat) (lo : Int), (rangeA lo n).length = n
  | 0, _ => rfl
  | n + 1, lo => by unfold rangeA; rw [List.length_cons, zaU n]
theorem zba {a : SE} {en : En} {h h1 : AH} {n : Nat} (e : a en h = .ok (.int n) h1) (hn : n <= 10000000) : iRange1 a en h = .ok (rangeA 0 n, none) h1 := by
  have h1' : (n : Int).natAbs < 2 ^ 62 := by omega
  simp only [iRange1, e, Out.bind]
  rw [if_pos h1']; rfl
theorem for_of {it : SI} {t : Tg} {b : SS} {en : En} {h h1 : AH} {xs : List AV} {w : Option Nat} (e : it en h = .ok (xs, w) h1) : sFor it t b en h = sForGo w xs t b xs en h1 := by simp only [sFor, e]
theorem fMul_l {i j : Int} {h : AH} (hi : i.natAbs < 2 ^ 64) : fMul (.int i) (.int j) h = .ok (.int (i * j)) h := if_pos (.inl (.inl hi))
theorem fMul_r {i j : Int} {h : AH} (hj : j.natAbs < 2 ^ 64) : fMul (.int i) (.int j) h = .ok (.int (i * j)) h := if_pos (.inl (.inr hj))
theorem zcv {α : Type} {f : α -> AV} {l : List α} {j : Nat} {q : α} (e : l[j]? = some q) : atI (l.map f) (j : Int) = some (f q) := zbf (by simp [e])
end Sk

set_option exponentiation.threshold 5000
namespace Sk
open PySem PySem.Spec L2 Sm
def plainC (c : Nat) : Bool := decide (c = 10) || (decide (32 <= c) && decide (c <= 126))
theorem lt1 (a b : Nat) : ([a] < [b]) ↔ a < b := by
  simp [List.cons_lt_cons_iff]
theorem cps_nl : (Str.ofString "\n") = ⟨#[10]⟩ := by decide +kernel
theorem cps_sp : (Str.ofString " ") = ⟨#[32]⟩ := by decide +kernel
theorem cps_ti : (Str.ofString "~") = ⟨#[126]⟩ := by decide +kernel
theorem f_sign (c : Nat) (h : AH) : F_is_plain_sign [.str ⟨#[c]⟩] h = .ok (.bl (plainC c)) h := by
  simp [F_is_plain_sign, cps_nl, cps_sp, cps_ti, lt1, plainC]
  by_cases h1 : c = 10
  . simp [h1]
  . by_cases h2 : c < 32
    . have : ¬ 32 <= c := by omega
      simp [h1, h2, this]
    . have h3 : 32 <= c := by omega
      by_cases h4 : c <= 126
      . have : ¬ 126 < c := by omega
        simp [h1, h2, h3, h4, this]
      . have : 126 < c := by omega
        simp [h1, h2, h3, h4, this]
theorem zd0 {α : Type} {js : List Nat} {en : En} {all : List AV} {e : SE} {g f : α -> AV} {h : AH} : ∀ (cs : List α) (ys : List AV), (∀ c ∈ cs, e (some (g c) :: js.map fun j => (en[j]?).join) h = .ok (f c) h) -> ys.length + cs.length <= sizeLine -> sCompGo js en none all sYes e (cs.map g) ys h = .ok (ys ++ cs.map f) h
  | [], ys, _, _ => by simp [sCompGo]
  | x :: xs, ys, he, hl => by
    have hl' : ys.length < sizeLine := by simp at hl; omega
    rw [List.map_cons]
    unfold sCompGo
    rw [if_pos ⟨rfl, hl'⟩]
    simp only [sYes]
    rw [he x (by simp)]
    dsimp only
    rw [zd0 xs (ys ++ [f x]) (fun y hy => he y (by simp [hy])) (by simp at hl ⊢; omega)]
    simp
theorem zdu (f : Nat -> Bool) : ∀ cs : List Nat, boolsOf (cs.map fun c => .bl (f c)) = some (cs.map f)
  | [] => rfl
  | c :: cs => by simp [zdu f cs]
def plainS (x : Str) : Bool := x.cps.toList.all plainC
theorem ze6 (x : Str) (h : AH) (hl : x.length <= sizeLine) : F_is_plain [.str x] h = .ok (.bl (plainS x)) h := by
  have e := zd0 (js := []) (en := [some (.str x)]) (all := x.cps.toList.map fun c => AV.str ⟨#[c]⟩) (e := sAppl F_is_plain_sign (sCons (sVar 0) sNil)) (g := fun c => AV.str ⟨#[c]⟩) (f := fun c => AV.bl (plainC c)) (h := h) x.cps.toList [] (by
    intro c hc
    simp [f_sign]) (by simp; exact hl)
  simp only [List.nil_append] at e
  simp [F_is_plain]
  rw [e]
  simp [zdu, plainS]
def shortS (x : Str) : Bool := plainS x && (decide (1 <= x.length) && decide (x.length <= 8))
theorem ze7 (x : Str) (h : AH) (hl : x.length <= sizeLine) : F_is_short [.str x] h = .ok (.bl (shortS x)) h := by
  simp [F_is_short, ze6 x h hl, shortS]
  by_cases h1 : plainS x = true
  . by_cases h2 : 1 <= x.length
    . have : (1 : Int) <= x.length := by omega
      by_cases h3 : x.length <= 8
      . have : (x.length : Int) <= 8 := by omega
        simp [*]
      . have : ¬ (x.length : Int) <= 8 := by omega
        simp [*]
    . have : ¬ (1 : Int) <= x.length := by omega
      simp [*]
  . simp [h1]
def endsS (x : Str) : Nat := (Builtin.Str.occurrences x ⟨#[10]⟩ 0 x.length (x.length + 1)).length
theorem f_ends (x : Str) (h : AH) : F_ends_in [.str x] h = .ok (.int (endsS x)) h := by
  simp [F_ends_in, cps_nl, endsS]
theorem zig (i : Int) (h : AH) : F_is_whole [.int i] h = .ok (.bl true) h := by
  simp [F_is_whole]
inductive Pc where
  | leaf (x : Str)
  | fork (a b : Nat)
  deriving DecidableEq
def Pc.av : Pc -> AV
  | .leaf x => .tup [.str "leaf", .str x]
  | .fork a b => .tup [.str "fork", .int a, .int b]
theorem Pc.av_inj : ∀ {p q : Pc}, p.av = q.av -> p = q
  | .leaf x, .leaf y, e => by simp [Pc.av] at e; rw [e]
  | .leaf x, .fork a b, e => by simp [Pc.av] at e
  | .fork a b, .leaf x, e => by simp [Pc.av] at e
  | .fork a b, .fork c d, e => by simp [Pc.av] at e; rw [Int.ofNat.inj e.1, Int.ofNat.inj e.2]
structure Ms where
  sg : Nat
  en : Nat
  lv : Nat
  ht : Int
  fl : Nat
  ll : Nat
def ms0 : Ms := ⟨0, 0, 0, -1, 0, 0⟩
def newMs (ms : List Ms) : Pc -> Ms
  | .leaf x => ⟨x.length, endsS x, 1, 0, ms.length, ms.length⟩
  | .fork a b => ⟨(ms.getD a ms0).sg + (ms.getD b ms0).sg, (ms.getD a ms0).en + (ms.getD b ms0).en, (ms.getD a ms0).lv + (ms.getD b ms0).lv, max (ms.getD a ms0).ht (ms.getD b ms0).ht + 1, (ms.getD a ms0).fl, (ms.getD b ms0).ll⟩
def meas (ps : List Pc) : List Ms := ps.foldl (fun ms q => ms ++ [newMs ms q]) [ms0]
theorem zbR (ps : List Pc) (q : Pc) : meas (ps ++ [q]) = meas ps ++ [newMs (meas ps) q] := by simp [meas]
theorem zal : ∀ ps : List Pc, (meas ps).length = ps.length + 1 := by
  have all : ∀ (ps : List Pc) (ms : List Ms), (ps.foldl (fun ms q => ms ++ [newMs ms q]) ms).length = ms.length + ps.length := by
    intro ps
    induction ps with
    | nil => intro ms; rfl
    | cons q r ih => intro ms; rw [List.foldl_cons, ih]; simp; omega
  intro ps
  rw [meas, all]; simp; omega
def tabFrom (k : Nat) : List Pc -> List (AV × AV)
  | [] => []
  | q :: r => (q.av, .int k) :: tabFrom (k + 1) r
def tab (ps : List Pc) : List (AV × AV) := tabFrom 1 ps
theorem zaN (q : Pc) : ∀ (ps : List Pc) (k : Nat), tabFrom k (ps ++ [q]) = tabFrom k ps ++ [(q.av, .int ((k + ps.length : Nat) : Int))]
  | [], k => by simp [tabFrom]
  | p :: r, k => by
    simp only [List.cons_append, tabFrom, zaN q r (k + 1)]
    rw [show k + 1 + r.length = k + (p :: r).length by simp; omega]
theorem ze8 : ∀ (ps : List Pc) (k : Nat), (tabFrom k ps).length = ps.length
  | [], _ => rfl
  | p :: r, k => by simp [tabFrom, ze8 r]
theorem zbw {q : Pc} : ∀ {ps : List Pc} {k : Nat}, q ∉ ps -> valA (tabFrom k ps) q.av = none
  | [], k, _ => rfl
  | p :: r, k, h => by
    have h1 : ¬ p.av = q.av := fun e => h (by rw [Pc.av_inj e]; simp)
    have h2 := zbw (q := q) (ps := r) (k := k + 1) fun z => h (by simp [z])
    unfold valA at h2 ⊢
    simp only [tabFrom, List.find?_cons, decide_eq_false h1]
    exact h2
theorem zcw {q : Pc} : ∀ {ps : List Pc} {k i : Nat}, ps.Nodup -> ps[i]? = some q -> valA (tabFrom k ps) q.av = some (.int ((k + i : Nat) : Int))
  | [], k, i, _, e => by simp at e
  | p :: r, k, 0, n, e => by simp at e; subst e; simp [valA, tabFrom]
  | p :: r, k, i + 1, n, e => by
    simp at e
    have h1 : ¬ p.av = q.av := fun z => (List.nodup_cons.mp n).1 (by rw [Pc.av_inj z]; exact List.mem_of_getElem? e)
    have h2 := zcw (q := q) (k := k + 1) (List.nodup_cons.mp n).2 e
    unfold valA at h2 ⊢
    simp only [tabFrom, List.find?_cons, decide_eq_false h1]
    rw [h2]
    congr 3
    omega
theorem zih {q : Pc} {ps : List Pc} (h : q ∉ ps) : putA (tab ps) q.av (.int ((ps.length + 1 : Nat) : Int)) = tab (ps ++ [q]) := by
  unfold putA
  rw [zc3, tab, zbw h, tab, zaN]
  simp [Nat.add_comm]
structure ShelfAt (h : AH) (p : Nat) (ps : List Pc) : Prop where
  ob : h[p]? = some (.ins 0 [some (.ref (p + 1)), some (.ref (p + 2)), some (.ref (p + 3)), some (.ref (p + 4)), some (.ref (p + 5)), some (.ref (p + 6)), some (.ref (p + 7)), some (.ref (p + 8))])
  h1 : h[p + 1]? = some (.lst (ps.map Pc.av))
  h2 : h[p + 2]? = some (.dct true (tab ps))
  h3 : h[p + 3]? = some (.lst ((meas ps).map fun m => .int m.sg))
  h4 : h[p + 4]? = some (.lst ((meas ps).map fun m => .int m.en))
  h5 : h[p + 5]? = some (.lst ((meas ps).map fun m => .int m.lv))
  h6 : h[p + 6]? = some (.lst ((meas ps).map fun m => .int m.ht))
  h7 : h[p + 7]? = some (.lst ((meas ps).map fun m => .int m.fl))
  h8 : h[p + 8]? = some (.lst ((meas ps).map fun m => .int m.ll))
def putSh (h : AH) (p : Nat) (ps : List Pc) : AH :=
  (((((((h.set (p + 1) (.lst (ps.map Pc.av))).set (p + 2) (.dct true (tab ps))).set (p + 3) (.lst ((meas ps).map fun m => .int m.sg))).set (p + 4) (.lst ((meas ps).map fun m => .int m.en))).set (p + 5) (.lst ((meas ps).map fun m => .int m.lv))).set
    (p + 6) (.lst ((meas ps).map fun m => .int m.ht))).set (p + 7) (.lst ((meas ps).map fun m => .int m.fl))).set (p + 8) (.lst ((meas ps).map fun m => .int m.ll))
theorem lt_of {h : AH} {i : Nat} {o : AO} (e : h[i]? = some o) : i < h.length := (List.getElem?_eq_some_iff.mp e).1
theorem zdv (h : AH) (p : Nat) (ps : List Pc) : (putSh h p ps).length = h.length := by simp [putSh]
theorem zd1 {h : AH} {p q : Nat} {ps : List Pc} (hq : q <= p \/ p + 8 < q) : (putSh h p ps)[q]? = h[q]? := by
  unfold putSh
  repeat rw [List.getElem?_set_ne (by omega)]
theorem zbx {h : AH} {p : Nat} {ps ps' : List Pc} (S : ShelfAt h p ps) : ShelfAt (putSh h p ps') p ps' := by
  have b := lt_of S.h8
  have l1 : p + 1 < h.length := Nat.lt_of_le_of_lt (Nat.add_le_add_left (by decide) p) b
  have l2 : p + 2 < h.length := Nat.lt_of_le_of_lt (Nat.add_le_add_left (by decide) p) b
  have l3 : p + 3 < h.length := Nat.lt_of_le_of_lt (Nat.add_le_add_left (by decide) p) b
  have l4 : p + 4 < h.length := Nat.lt_of_le_of_lt (Nat.add_le_add_left (by decide) p) b
  have l5 : p + 5 < h.length := Nat.lt_of_le_of_lt (Nat.add_le_add_left (by decide) p) b
  have l6 : p + 6 < h.length := Nat.lt_of_le_of_lt (Nat.add_le_add_left (by decide) p) b
  have l7 : p + 7 < h.length := Nat.lt_of_le_of_lt (Nat.add_le_add_left (by decide) p) b
  have ob := S.ob
  constructor <;> simp [putSh, List.getElem?_set, l1, l2, l3, l4, l5, l6, l7, b, ob, -List.getElem?_eq_getElem]
theorem lenA {α : Type} (l : List α) (f : α -> AV) : (l.map f).length = l.length := by simp
theorem f_has {h : AH} {p : Nat} {ps : List Pc} {i : Int} (S : ShelfAt h p ps) : F_Shelf_has_piece [.ref p, .int i] h = .ok (.bl (decide (1 <= i /\ i <= ps.length))) h := by
  simp [F_Shelf_has_piece, zig, S.ob, S.h1]
  by_cases h1 : 1 <= i <;> simp [h1]
theorem zby {h : AH} {p : Nat} {ps : List Pc} {i : Int} (S : ShelfAt h p ps) (hi : 1 <= i /\ i <= ps.length) : F_Shelf_check_piece [.ref p, .int i] h = .ok .non h := by
  simp [F_Shelf_check_piece, f_has S, S.ob, hi.1, hi.2]
theorem zag {α : Type} {f : α -> AV} {l : List α} {j : Nat} {q : α} (e : l[j]? = some q) : atI (l.map f) (j : Int) = some (f q) := zbf (by simp [e])
theorem zii {h : AH} {p : Nat} {ps : List Pc} {j : Nat} {q : Pc} (S : ShelfAt h p ps) (e : ps[j]? = some q) : F_Shelf_piece [.ref p, .int ((j : Int) + 1)] h = .ok q.av h := by
  have hj := (List.getElem?_eq_some_iff.mp e).1
  have h1 := zby S (i := (j : Int) + 1) ⟨by omega, by omega⟩
  simp [F_Shelf_piece, h1, S.ob, S.h1, zag e]
theorem f_lay {h : AH} {p : Nat} {ps : List Pc} {q : Pc} (S : ShelfAt h p ps) (hq : q ∉ ps) (hl : ps.length < 16000000) :
    F_Shelf_lay [.ref p, q.av] h = .ok (.int ((ps.length + 1 : Nat) : Int)) ((h.set (p + 1) (.lst ((ps ++ [q]).map Pc.av))).set (p + 2) (.dct true (tab (ps ++ [q])))) := by
  have b := lt_of S.h8
  have hs : ps.length < sizeLine := Nat.lt_trans hl (by decide)
  have ht : (tab ps).length < sizeLine := by rw [tab, ze8]; exact hs
  have hk : isKey true q.av = true := by cases q <;> simp [Pc.av]
  have e1 : (h.set (p + 1) (.lst (ps.map Pc.av ++ [q.av])))[p]? = h[p]? := List.getElem?_set_ne (by omega)
  have e2 : (h.set (p + 1) (.lst (ps.map Pc.av ++ [q.av])))[p + 1]? = some (.lst (ps.map Pc.av ++ [q.av])) := List.getElem?_set_self (by omega)
  have e3 : (h.set (p + 1) (.lst (ps.map Pc.av ++ [q.av])))[p + 2]? = h[p + 2]? := List.getElem?_set_ne (by omega)
  have tp := zih hq
  simp [F_Shelf_lay, S.ob, S.h1, hs, e1, e2, e3, S.h2, hk, ht, -isKey]
  rw [show ((ps.length : Int) + 1) = ((ps.length + 1 : Nat) : Int) by simp, tp]
theorem zgq {h : AH} {p : Nat} {ps : List Pc} {x : Str} (S : ShelfAt h p ps) (hq : Pc.leaf x ∉ ps) (hl : ps.length < 16000000) :
    F_Shelf_lay_leaf [.ref p, (Pc.leaf x).av] h = .ok .non (putSh h p (ps ++ [.leaf x])) := by
  have b := lt_of S.h8
  have hs : ps.length + 1 < sizeLine := Nat.lt_of_lt_of_le (Nat.succ_lt_succ hl) (by decide)
  have hm : (meas ps).length < sizeLine := by rw [zal]; exact hs
  have e := f_lay S hq hl
  have b2 : ((meas ps).length : Int) = (ps.length : Int) + 1 := by rw [zal]; simp
  have e2 : fIx (Pc.leaf x).av (.int 1) = fun h => Out.ok (.str x) h := by funext h; rfl
  have l1 : p + 1 < h.length := by omega
  have l2 : p + 2 < h.length := by omega
  have l3 : p + 3 < h.length := by omega
  have l4 : p + 4 < h.length := by omega
  have l5 : p + 5 < h.length := by omega
  have l6 : p + 6 < h.length := by omega
  have l7 : p + 7 < h.length := by omega
  simp [F_Shelf_lay_leaf, e, S.ob, S.h3, S.h4, S.h5, S.h6, S.h7, S.h8, hm, f_ends, List.getElem?_set, zbR, newMs, putSh, e2, zal, hs, -fIx, -List.getElem?_eq_getElem]
theorem ze9 {α : Type} {l : List α} {i : Nat} {d x : α} (e : l[i]? = some x) : l.getD i d = x := by simp [List.getD, e]
theorem zgr {h : AH} {p : Nat} {ps : List Pc} {a b : Nat} {ma mb : Ms} (S : ShelfAt h p ps) (hq : Pc.fork a b ∉ ps) (hl : ps.length < 16000000) (ha : (meas ps)[a]? = some ma) (hb : (meas ps)[b]? = some mb) :
    F_Shelf_lay_fork [.ref p, (Pc.fork a b).av] h = .ok .non (putSh h p (ps ++ [.fork a b])) := by
  have bb := lt_of S.h8
  have hs : ps.length + 1 < sizeLine := Nat.lt_of_lt_of_le (Nat.succ_lt_succ hl) (by decide)
  have hm : (meas ps).length < sizeLine := by rw [zal]; exact hs
  have e := f_lay S hq hl
  have e2 : fIx (Pc.fork a b).av (.int 1) = fun h => Out.ok (.int a) h := by funext h; rfl
  have e3 : fIx (Pc.fork a b).av (.int 2) = fun h => Out.ok (.int b) h := by funext h; rfl
  have l1 : p + 1 < h.length := by omega
  have l2 : p + 2 < h.length := by omega
  have l3 : p + 3 < h.length := by omega
  have l4 : p + 4 < h.length := by omega
  have l5 : p + 5 < h.length := by omega
  have l6 : p + 6 < h.length := by omega
  have l7 : p + 7 < h.length := by omega
  have fx : ∀ (n : Nat) (g : Ms -> AV) (h' : AH), h'[n]? = some (.lst ((meas ps).map g)) -> fIx (.ref n) (.int a) h' = .ok (g ma) h' /\ fIx (.ref n) (.int b) h' = .ok (g mb) h' := fun n g h' e => by
    simp [fIx, e, zag ha, zag hb]
  have f3 := fun (h' : AH) (e : h'[p + 3]? = some (.lst ((meas ps).map fun m => .int m.sg))) => fx _ _ h' e
  have f4 := fun (h' : AH) (e : h'[p + 4]? = some (.lst ((meas ps).map fun m => .int m.en))) => fx _ _ h' e
  have f5 := fun (h' : AH) (e : h'[p + 5]? = some (.lst ((meas ps).map fun m => .int m.lv))) => fx _ _ h' e
  have f6 := fun (h' : AH) (e : h'[p + 6]? = some (.lst ((meas ps).map fun m => .int m.ht))) => fx _ _ h' e
  have f7 := fun (h' : AH) (e : h'[p + 7]? = some (.lst ((meas ps).map fun m => .int m.fl))) => fx _ _ h' e
  have f8 := fun (h' : AH) (e : h'[p + 8]? = some (.lst ((meas ps).map fun m => .int m.ll))) => fx _ _ h' e
  have hmax : ∀ i j : Int, (if j > i then j else i) = max i j := fun i j => by split <;> omega
  simp [F_Shelf_lay_fork, e, S.ob, S.h3, S.h4, S.h5, S.h6, S.h7, S.h8, hm, List.getElem?_set, zbR, newMs, putSh, e2, e3, zal, hs, zag ha, zag hb, ze9 ha, ze9 hb, -fIx, -List.getElem?_eq_getElem, -List.getD_eq_getElem?_getD, f3, f4, f5, f6, f7, f8, hmax]
theorem zbz {h : AH} {p : Nat} {ps : List Pc} {x : Str} {i : Nat} (S : ShelfAt h p ps) (nd : ps.Nodup) (hx : shortS x = true) (hl : x.length <= sizeLine) (e : ps[i]? = some (.leaf x)) : F_Shelf_leaf [.ref p, .str x] h = .ok (.int ((i + 1 : Nat) : Int)) h := by
  have t := zcw (k := 1) nd e
  have t' : valA (tab ps) (.tup [.str "leaf", .str x]) = some (.int ((i + 1 : Nat) : Int)) := by rw [Nat.add_comm]; exact t
  simp [F_Shelf_leaf, ze7 x h hl, hx, S.ob, S.h2, t']
theorem zfG {h : AH} {p : Nat} {ps : List Pc} {x : Str} (S : ShelfAt h p ps) (hx : shortS x = true) (hl : x.length <= sizeLine) (hq : Pc.leaf x ∉ ps) (hz : ps.length < 16000000) : F_Shelf_leaf [.ref p, .str x] h = .ok (.int ((ps.length + 1 : Nat) : Int)) (putSh h p (ps ++ [.leaf x])) := by
  have t : valA (tab ps) (.tup [.str "leaf", .str x]) = none := zbw (q := .leaf x) (k := 1) hq
  have S2 := zbx (ps' := ps ++ [.leaf x]) S
  have e := zgq S hq hz
  have t2 : valA (tab (ps ++ [.leaf x])) (.tup [.str "leaf", .str x]) = some (.int ((ps.length + 1 : Nat) : Int)) := by
    unfold tab
    rw [zaN]
    unfold valA at t ⊢
    rw [List.find?_append]
    have t3 : (tabFrom 1 ps).find? (fun p => decide (p.1 = .tup [.str "leaf", .str x])) = none := by simpa [tab] using t
    rw [t3]
    simp [Pc.av, Nat.add_comm]
  have e' : F_Shelf_lay_leaf [.ref p, .tup [.str "leaf", .str x]] h = .ok .non (putSh h p (ps ++ [.leaf x])) := e
  simp [F_Shelf_leaf, ze7 x h hl, hx, S.ob, S.h2, t, e', S2.ob, S2.h2, t2]
theorem zhd {h : AH} {p : Nat} {ps : List Pc} {a b : Nat} {ma mb la fb : Ms} (S : ShelfAt h p ps) (ha : (meas ps)[a]? = some ma) (hb : (meas ps)[b]? = some mb) (pa : 1 <= a) (pb : 1 <= b) (hla : (meas ps)[ma.ll]? = some la) (hfb : (meas ps)[mb.fl]? = some fb) :
    F_Shelf_check_fork [.ref p, .int a, .int b] h = if la.sg + fb.sg <= 8 then .ex xn_Loose h else if 1 < (ma.ht - mb.ht).natAbs then .ex xn_Unlevel h else if 1000000000000000000 < ma.sg + mb.sg then .ex xn_TooLong h else .ok .non h := by
  have la_ := (List.getElem?_eq_some_iff.mp ha).1
  have lb_ := (List.getElem?_eq_some_iff.mp hb).1
  rw [zal] at la_ lb_
  have c1 := zby S (i := (a : Int)) ⟨by omega, by omega⟩
  have c2 := zby S (i := (b : Int)) ⟨by omega, by omega⟩
  by_cases d1 : la.sg + fb.sg <= 8
  . have d1' : ((la.sg : Int) + fb.sg) <= 8 := by omega
    simp [F_Shelf_check_fork, c1, c2, S.ob, S.h3, S.h5, S.h6, S.h7, S.h8, zag ha, zag hb, zag hla, zag hfb, d1, d1']
  . have d1' : ¬ ((la.sg : Int) + fb.sg) <= 8 := by omega
    by_cases d2 : 1 < (ma.ht - mb.ht).natAbs
    . have d2' : (1 : Int) < (if ma.ht - mb.ht < 0 then -(ma.ht - mb.ht) else ma.ht - mb.ht) := by split <;> omega
      simp [F_Shelf_check_fork, c1, c2, S.ob, S.h3, S.h5, S.h6, S.h7, S.h8, zag ha, zag hb, zag hla, zag hfb, d1, d1', d2, d2', -Int.neg_sub]
    . have d2' : ¬ (1 : Int) < (if ma.ht - mb.ht < 0 then -(ma.ht - mb.ht) else ma.ht - mb.ht) := by split <;> omega
      by_cases d3 : 1000000000000000000 < ma.sg + mb.sg
      . have d3' : (1000000000000000000 : Int) < (ma.sg : Int) + mb.sg := by omega
        simp [F_Shelf_check_fork, c1, c2, S.ob, S.h3, S.h5, S.h6, S.h7, S.h8, zag ha, zag hb, zag hla, zag hfb, d1, d1', d2, d2', d3, d3', -Int.neg_sub]
      . have d3' : ¬ (1000000000000000000 : Int) < (ma.sg : Int) + mb.sg := by omega
        simp [F_Shelf_check_fork, c1, c2, S.ob, S.h3, S.h5, S.h6, S.h7, S.h8, zag ha, zag hb, zag hla, zag hfb, d1, d1', d2, d2', d3, d3', -Int.neg_sub]
structure ForkOk (ps : List Pc) (a b : Nat) : Prop where
  pa : 1 <= a
  pb : 1 <= b
  ex : ∃ ma mb la fb, (meas ps)[a]? = some ma /\ (meas ps)[b]? = some mb /\ (meas ps)[ma.ll]? = some la /\ (meas ps)[mb.fl]? = some fb /\ 8 < la.sg + fb.sg /\ (ma.ht - mb.ht).natAbs <= 1 /\ ma.sg + mb.sg <= 1000000000000000000
theorem zck {h : AH} {p : Nat} {ps : List Pc} {a b : Nat} (S : ShelfAt h p ps) (F : ForkOk ps a b) : F_Shelf_check_fork [.ref p, .int a, .int b] h = .ok .non h := by
  obtain ⟨ma, mb, la, fb, h1, h2, h3, h4, h5, h6, h7⟩ := F.ex
  rw [zhd S h1 h2 F.pa F.pb h3 h4, if_neg (by omega), if_neg (by omega), if_neg (by omega)]
theorem zbA {h : AH} {p : Nat} {ps : List Pc} {a b i : Nat} (S : ShelfAt h p ps) (nd : ps.Nodup) (F : ForkOk ps a b) (e : ps[i]? = some (.fork a b)) : F_Shelf_fork [.ref p, .int a, .int b] h = .ok (.int ((i + 1 : Nat) : Int)) h := by
  have t := zcw (k := 1) nd e
  have t' : valA (tab ps) (.tup [.str "fork", .int a, .int b]) = some (.int ((i + 1 : Nat) : Int)) := by rw [Nat.add_comm]; exact t
  simp [F_Shelf_fork, zck S F, S.ob, S.h2, t']
theorem zfH {h : AH} {p : Nat} {ps : List Pc} {a b : Nat} (S : ShelfAt h p ps) (F : ForkOk ps a b) (hq : Pc.fork a b ∉ ps) (hz : ps.length < 16000000) : F_Shelf_fork [.ref p, .int a, .int b] h = .ok (.int ((ps.length + 1 : Nat) : Int)) (putSh h p (ps ++ [.fork a b])) := by
  have t : valA (tab ps) (.tup [.str "fork", .int a, .int b]) = none := zbw (q := .fork a b) (k := 1) hq
  have S2 := zbx (ps' := ps ++ [.fork a b]) S
  obtain ⟨ma, mb, la, fb, h1, h2, _⟩ := F.ex
  have e := zgr S hq hz h1 h2
  have t2 : valA (tab (ps ++ [.fork a b])) (.tup [.str "fork", .int a, .int b]) = some (.int ((ps.length + 1 : Nat) : Int)) := by
    unfold tab
    rw [zaN]
    unfold valA at t ⊢
    rw [List.find?_append]
    have t3 : (tabFrom 1 ps).find? (fun p => decide (p.1 = .tup [.str "fork", .int a, .int b])) = none := by simpa [tab] using t
    rw [t3]
    simp [Pc.av, Nat.add_comm]
  have e' : F_Shelf_lay_fork [.ref p, .tup [.str "fork", .int a, .int b]] h = .ok .non (putSh h p (ps ++ [.fork a b])) := e
  simp [F_Shelf_fork, zck S F, S.ob, S.h2, t, e', S2.ob, S2.h2, t2]
def shNew (n : Nat) : List AO := [.ins 0 [some (.ref (n + 1)), some (.ref (n + 2)), some (.ref (n + 3)), some (.ref (n + 4)), some (.ref (n + 5)), some (.ref (n + 6)), some (.ref (n + 7)), some (.ref (n + 8))], .lst [], .dct true [], .lst [.int 0], .lst [.int 0], .lst [.int 0], .lst [.int (-1)], .lst [.int 0], .lst [.int 0]]
theorem zij {h : AH} {o o' : AO} {r : AH} : (h ++ o :: r).set h.length o' = h ++ o' :: r := by
  induction h with
  | nil => rfl
  | cons x t ih => simp [ih]
theorem f_make (en : En) (h : AH) : sMake 0 8 F_Shelf_init sNil en h = .ok (.ref h.length) (h ++ shNew h.length) := by
  simp [F_Shelf_init, shNew, List.getElem?_append, zij]
theorem at_app {h r : AH} {k : Nat} : (h ++ r)[h.length + k]? = r[k]? := by
  rw [List.getElem?_append_right (by omega)]; simp
theorem new_at (h r : AH) : ShelfAt (h ++ (shNew h.length ++ r)) h.length [] := by
  refine ⟨?_, ?_, ?_, ?_, ?_, ?_, ?_, ?_, ?_⟩
  . rw [show h.length = h.length + 0 from rfl, at_app]; rfl
  all_goals (rw [at_app]; rfl)
theorem zfa (x : Str) (c i : Nat) (hi : i < x.length) : Builtin.Str.subAt x ⟨#[c]⟩ i = decide (x.cps.toList[i]? = some c) := by
  have hi' : i < x.cps.size := hi
  unfold Builtin.Str.subAt
  have e : x.cps.extract i (i + 1) = #[x.cps[i]] := by
    apply Array.ext
    . simp; omega
    . intro j h1 h2
      have : j = 0 := by simp at h2; omega
      subst this
      simp
  show (x.cps.extract i (i + 1) == #[c]) = _
  rw [e]
  have : x.cps.toList[i]? = some x.cps[i] := by simp [hi']
  rw [this]
  by_cases q : x.cps[i] = c
  . simp [q]
  . simp [q]
theorem occ_go (x : Str) (c : Nat) : ∀ (n i : Nat) (st : Array Nat × Nat), i + n = x.length + 1 -> st.2 <= i -> st.1.size <= i -> (forIn (List.range' i n) st (StrLaws.occBody x ⟨#[c]⟩ x.length (x.length + 1))).run.fst.size = st.1.size + (x.cps.toList.drop i).count c
  | 0, i, st, hn, _, _ => by
    rw [List.drop_of_length_le (by simp; simp only [Str.length] at hn; omega)]
    simp
  | n + 1, i, st, hn, h2, h3 => by
    rw [List.range'_succ, List.forIn_cons]
    unfold StrLaws.occBody
    by_cases hi : i < x.length
    . have hi' : i < x.cps.size := hi
      have hd : x.cps.toList.drop i = x.cps[i]'hi' :: x.cps.toList.drop (i + 1) := by
        rw [List.drop_eq_getElem_cons (show i < x.cps.toList.length by simpa using hi')]; simp
      have hg : x.cps.toList[i]? = some (x.cps[i]'hi') := by
        simp [hi']
      by_cases q : x.cps[i]'hi' = c
      . have hs : Builtin.Str.subAt x ⟨#[c]⟩ i = true := by rw [zfa x c i hi, hg, q]; simp
        rw [if_pos ⟨⟨⟨by omega, h2⟩, hi⟩, hs⟩]
        show (forIn (List.range' (i + 1) n) (st.1.push i, i + 1) (StrLaws.occBody x ⟨#[c]⟩ x.length (x.length + 1))).run.fst.size = _
        rw [occ_go x c n (i + 1) _ (by omega) (Nat.le_refl _) (by simp; omega), hd, q]
        simp; omega
      . have hs : Builtin.Str.subAt x ⟨#[c]⟩ i = false := by rw [zfa x c i hi, hg]; simp [q]
        rw [if_neg (by simp [hs])]
        show (forIn (List.range' (i + 1) n) (st.1, st.2) (StrLaws.occBody x ⟨#[c]⟩ x.length (x.length + 1))).run.fst.size = _
        rw [occ_go x c n (i + 1) _ (by omega) (by show st.2 <= i + 1; omega) (by show st.1.size <= i + 1; omega), hd]
        simp [q]
    . rw [if_neg (by rintro ⟨⟨_, z⟩, _⟩; exact hi z)]
      show (forIn (List.range' (i + 1) n) (st.1, st.2) (StrLaws.occBody x ⟨#[c]⟩ x.length (x.length + 1))).run.fst.size = _
      rw [occ_go x c n (i + 1) _ (by omega) (by show st.2 <= i + 1; omega) (by show st.1.size <= i + 1; omega)]
      rw [List.drop_of_length_le (by simp; simp only [Str.length] at hi; omega), List.drop_of_length_le (by simp; simp only [Str.length] at hi; omega)]
theorem zgs (x : Str) (c : Nat) : (Builtin.Str.occurrences x ⟨#[c]⟩ 0 x.length (x.length + 1)).length = x.cps.toList.count c := by
  rw [StrLaws.occ_eq, Array.length_toList]
  rw [show x.length + 1 - 0 = x.length + 1 from rfl, occ_go x c (x.length + 1) 0 _ (by omega) (Nat.le_refl _) (by simp)]
  simp
theorem zaO (x : Str) : endsS x = x.cps.toList.count 10 := zgs x 10
theorem zap (x y : Str) : (x ++ y).cps.toList = x.cps.toList ++ y.cps.toList := by
  show (x.cps ++ y.cps).toList = _
  simp
theorem zhe (x y : Str) : endsS (x ++ y) = endsS x + endsS y := by
  rw [zaO, zaO, zaO, zap, List.count_append]
theorem zae (x : Str) : x.length = x.cps.toList.length := by simp [Str.length]
theorem zaq (x y : Str) : (x ++ y).length = x.length + y.length := by
  rw [zae, zae, zae, zap, List.length_append]
def newRd (rs : List Str) : Pc -> Str
  | .leaf x => x
  | .fork a b => rs.getD a "" ++ rs.getD b ""
def reads (ps : List Pc) : List Str := ps.foldl (fun rs q => rs ++ [newRd rs q]) [""]
theorem zfI (ps : List Pc) (q : Pc) : reads (ps ++ [q]) = reads ps ++ [newRd (reads ps) q] := by simp [reads]
theorem za2 {α β : Type} (g : List β -> α -> β) : ∀ (qs : List α) (ms : List β), ∃ r, qs.foldl (fun ms q => ms ++ [g ms q]) ms = ms ++ r /\ r.length = qs.length
  | [], ms => ⟨[], by simp, rfl⟩
  | q :: qs, ms => by
    obtain ⟨r, e, l⟩ := za2 g qs (ms ++ [g ms q])
    exact ⟨g ms q :: r, by rw [List.foldl_cons, e]; simp, by simp [l]⟩
theorem zbb (ps : List Pc) : (reads ps).length = ps.length + 1 := by
  obtain ⟨r, e, l⟩ := za2 newRd ps [""]
  rw [reads, e]; simp [l, Nat.add_comm]
theorem zhf (ps qs : List Pc) : ∃ r, meas (ps ++ qs) = meas ps ++ r := by
  unfold meas
  rw [List.foldl_append]
  obtain ⟨r, e, _⟩ := za2 newMs qs (ps.foldl (fun ms q => ms ++ [newMs ms q]) [ms0])
  exact ⟨r, e⟩
theorem zgt (ps qs : List Pc) : ∃ r, reads (ps ++ qs) = reads ps ++ r := by
  unfold reads
  rw [List.foldl_append]
  obtain ⟨r, e, _⟩ := za2 newRd qs (ps.foldl (fun ms q => ms ++ [newRd ms q]) [""])
  exact ⟨r, e⟩
theorem zac {ps ps' : List Pc} (h : ps <+: ps') {n : Nat} {m : Ms} (e : (meas ps)[n]? = some m) : (meas ps')[n]? = some m := by
  obtain ⟨qs, rfl⟩ := h
  obtain ⟨r, q⟩ := zhf ps qs
  rw [q, List.getElem?_append_left (List.getElem?_eq_some_iff.mp e).1]; exact e
theorem zbc {ps ps' : List Pc} (h : ps <+: ps') {n : Nat} {m : Str} (e : (reads ps)[n]? = some m) : (reads ps')[n]? = some m := by
  obtain ⟨qs, rfl⟩ := h
  obtain ⟨r, q⟩ := zgt ps qs
  rw [q, List.getElem?_append_left (List.getElem?_eq_some_iff.mp e).1]; exact e
theorem zbB (ps : List Pc) (i : Nat) : ps.take i <+: ps := List.take_prefix i ps
theorem zcx {ps : List Pc} {i : Nat} {q : Pc} (e : ps[i]? = some q) : (ps.take i ++ [q]) <+: ps /\ (ps.take i).length = i := by
  have hi := (List.getElem?_eq_some_iff.mp e).1
  have : ps.take (i + 1) = ps.take i ++ [q] := by
    rw [List.take_succ, e]; rfl
  exact ⟨this ▸ List.take_prefix _ _, by simp; omega⟩
theorem zfb {ps : List Pc} {i : Nat} {q : Pc} (e : ps[i]? = some q) : (meas ps)[i + 1]? = some (newMs (meas (ps.take i)) q) := by
  obtain ⟨h, l⟩ := zcx e
  refine zac h ?_
  rw [zbR, List.getElem?_append_right (by rw [zal, l]; omega), zal, l]
  simp
theorem zd2 {ps : List Pc} {i : Nat} {q : Pc} (e : ps[i]? = some q) : (reads ps)[i + 1]? = some (newRd (reads (ps.take i)) q) := by
  obtain ⟨h, l⟩ := zcx e
  refine zbc h ?_
  rw [zfI, List.getElem?_append_right (by rw [zbb, l]; omega), zbb, l]
  simp
def PcOk (ps : List Pc) : Pc -> Prop
  | .leaf x => shortS x = true
  | .fork a b => ForkOk ps a b
inductive Good : List Pc -> Prop
  | nil : Good []
  | snoc {ps : List Pc} {q : Pc} : Good ps -> q ∉ ps -> PcOk ps q -> Good (ps ++ [q])
theorem Good.nodup {ps : List Pc} (g : Good ps) : ps.Nodup := by
  induction g with
  | nil => exact List.nodup_nil
  | snoc g n ok ih => exact List.nodup_append.mpr ⟨ih, by simp, fun a ha b hb => by simp at hb; subst hb; exact fun e => n (e ▸ ha)⟩
theorem Good.get {ps : List Pc} (g : Good ps) : ∀ {i : Nat} {q : Pc}, ps[i]? = some q -> PcOk (ps.take i) q := by
  induction g with
  | nil => intro i q e; simp at e
  | @snoc ps q' g n ok ih =>
    intro i q e
    by_cases hi : i < ps.length
    . rw [List.getElem?_append_left hi] at e
      rw [List.take_append_of_le_length (by omega)]
      exact ih e
    . have hi2 : i = ps.length := by
        have := (List.getElem?_eq_some_iff.mp e).1
        simp at this; omega
      subst hi2
      simp at e
      subst e
      simpa using ok
theorem ForkOk.pre {ps ps' : List Pc} {a b : Nat} (F : ForkOk ps a b) (h : ps <+: ps') : ForkOk ps' a b := by
  obtain ⟨ma, mb, la, fb, h1, h2, h3, h4, h5⟩ := F.ex
  exact ⟨F.pa, F.pb, ma, mb, la, fb, zac h h1, zac h h2, zac h h3, zac h h4, h5⟩
structure Ky (ps : List Pc) (m : Ms) (x : Str) (f l : Ms) : Prop where
  fl : (meas ps)[m.fl]? = some f
  ll : (meas ps)[m.ll]? = some l
  sg : m.sg = x.length
  en : m.en = endsS x
  f1 : 1 <= f.sg
  f8 : f.sg <= 8
  l1 : 1 <= l.sg
  l8 : l.sg <= 8
  lv : 1 <= m.lv
  ht : 0 <= m.ht
  most : m.sg <= 1000000000000000000
  cnt : ∃ k, (m.lv = 2 * k + 1 /\ 9 * k + f.sg <= m.sg /\ 9 * k + l.sg <= m.sg) \/ (m.lv = 2 * k + 2 /\ 9 * k + 9 <= m.sg /\ 9 * k + f.sg + l.sg <= m.sg)
  pl : plainS x = true
structure Tx (ps : List Pc) (n : Nat) (m : Ms) (x : Str) (f l : Ms) : Prop where
  n1 : 1 <= n
  ms : (meas ps)[n]? = some m
  rd : (reads ps)[n]? = some x
  ky : Ky ps m x f l
theorem Ky.pre {ps ps' : List Pc} {m : Ms} {x : Str} {f l : Ms} (k : Ky ps m x f l) (h : ps <+: ps') : Ky ps' m x f l :=
  { k with fl := zac h k.fl, ll := zac h k.ll }
theorem Tx.pre {ps ps' : List Pc} {n : Nat} {m : Ms} {x : Str} {f l : Ms} (k : Tx ps n m x f l) (h : ps <+: ps') : Tx ps' n m x f l :=
  ⟨k.n1, zac h k.ms, zbc h k.rd, k.ky.pre h⟩
theorem Tx.le {ps : List Pc} {n : Nat} {m : Ms} {x : Str} {f l : Ms} (k : Tx ps n m x f l) : n <= ps.length := by
  have := (List.getElem?_eq_some_iff.mp k.ms).1
  rw [zal] at this; omega
def forkMs (ma mb : Ms) : Ms := ⟨ma.sg + mb.sg, ma.en + mb.en, ma.lv + mb.lv, max ma.ht mb.ht + 1, ma.fl, mb.ll⟩
theorem zaM (x y : Str) : plainS (x ++ y) = (plainS x && plainS y) := by unfold plainS; rw [zap, List.all_append]
theorem kf1 {n n' s s' f l f' l' : Nat} (a : ∃ k, (n = 2 * k + 1 /\ 9 * k + f <= s /\ 9 * k + l <= s) \/ (n = 2 * k + 2 /\ 9 * k + 9 <= s /\ 9 * k + f + l <= s)) (b : ∃ k, (n' = 2 * k + 1 /\ 9 * k + f' <= s' /\ 9 * k + l' <= s') \/ (n' = 2 * k + 2 /\ 9 * k + 9 <= s' /\ 9 * k + f' + l' <= s')) (hs : 8 < l + f') :
    ∃ k, (n + n' = 2 * k + 1 /\ 9 * k + f <= s + s' /\ 9 * k + l' <= s + s') \/ (n + n' = 2 * k + 2 /\ 9 * k + 9 <= s + s' /\ 9 * k + f + l' <= s + s') := by
  obtain ⟨k, ⟨rfl, a1, a2⟩ | ⟨rfl, a1, a2⟩⟩ := a <;> obtain ⟨k', ⟨rfl, b1, b2⟩ | ⟨rfl, b1, b2⟩⟩ := b
  . exact ⟨k + k', .inr ⟨by omega, by omega, by omega⟩⟩
  . exact ⟨k + k' + 1, .inl ⟨by omega, by omega, by omega⟩⟩
  . exact ⟨k + k' + 1, .inl ⟨by omega, by omega, by omega⟩⟩
  . exact ⟨k + k' + 1, .inr ⟨by omega, by omega, by omega⟩⟩
theorem Ky.sg1 {ps : List Pc} {m : Ms} {x : Str} {f l : Ms} (k : Ky ps m x f l) : 1 <= m.sg := by
  have f1 := k.f1
  obtain ⟨k, ⟨_, a, _⟩ | ⟨_, a, _⟩⟩ := k.cnt
  . exact Nat.le_trans f1 (Nat.le_trans (Nat.le_add_left _ _) a)
  . exact Nat.le_trans (Nat.le_add_left 1 (9 * k + 8)) a
theorem Ky.fork {ps : List Pc} {ma mb fa la fb lb : Ms} {x y : Str} (A : Ky ps ma x fa la) (B : Ky ps mb y fb lb) (hs : 8 < la.sg + fb.sg) (hm : ma.sg + mb.sg <= 1000000000000000000) : Ky ps (forkMs ma mb) (x ++ y) fa lb := by
  have k := kf1 A.cnt B.cnt hs
  refine ⟨A.fl, B.ll, ?_, ?_, A.f1, A.f8, B.l1, B.l8, Nat.le_trans A.lv (Nat.le_add_right _ _), ?_, hm, k, ?_⟩
  . show ma.sg + mb.sg = _; rw [zaq, A.sg, B.sg]
  . show ma.en + mb.en = _; rw [zhe, A.en, B.en]
  . have a4 := A.ht
    show 0 <= max ma.ht mb.ht + 1
    clear k hs hm; omega
  . rw [zaM, A.pl, B.pl]; rfl
theorem zbS {x : Str} (h : shortS x = true) : 1 <= x.length /\ x.length <= 8 /\ plainS x = true := by
  simp [shortS] at h; exact ⟨h.2.1, h.2.2, h.1⟩
theorem zaR {α : Type} {l : List α} {i : Nat} {d x : α} (e : l[i]? = some x) : l.getD i d = x := by simp [List.getD, e]
def lfMs (x : Str) (n : Nat) : Ms := ⟨x.length, endsS x, 1, 0, n, n⟩
theorem zbl {ps : List Pc} (g : Good ps) {i : Nat} {x : Str} (e : ps[i]? = some (.leaf x)) : Tx ps (i + 1) (lfMs x (i + 1)) x (lfMs x (i + 1)) (lfMs x (i + 1)) := by
  have hi := (List.getElem?_eq_some_iff.mp e).1
  have ok : shortS x = true := g.get e
  obtain ⟨s1, s2, s3⟩ := zbS ok
  have li : (ps.take i).length = i := by simp; omega
  have ml : (meas (ps.take i)).length = i + 1 := by rw [zal, li]
  have e1' : (meas ps)[i + 1]? = some (lfMs x (i + 1)) := by rw [zfb e]; simp only [newMs, lfMs]; rw [ml]
  exact ⟨by omega, e1', zd2 e, ⟨e1', e1', rfl, rfl, s1, s2, s1, s2, Nat.le_refl 1, Int.le_refl 0, by show x.length <= _; omega, ⟨0, .inl ⟨rfl, Nat.le_of_eq (Nat.zero_add _), Nat.le_of_eq (Nat.zero_add _)⟩⟩, s3⟩⟩
theorem zbm {ps : List Pc} (g : Good ps) {i a b : Nat} {ma mb fa la fb lb : Ms} {x y : Str} (e : ps[i]? = some (.fork a b)) (A : Tx ps a ma x fa la) (B : Tx ps b mb y fb lb) : Tx ps (i + 1) (forkMs ma mb) (x ++ y) fa lb := by
  have hi := (List.getElem?_eq_some_iff.mp e).1
  have ok' : ForkOk (ps.take i) a b := g.get e
  have li : (ps.take i).length = i := by simp; omega
  have tp := zbB ps i
  obtain ⟨ma', mb', la', fb', q1, q2, q3, q4, q5, q6, q7⟩ := ok'.ex
  have ba := (List.getElem?_eq_some_iff.mp q1).1
  have bb := (List.getElem?_eq_some_iff.mp q2).1
  rw [zal, li] at ba bb
  have z1 := A.ms.symm.trans (zac tp q1); cases z1
  have z2 := B.ms.symm.trans (zac tp q2); cases z2
  have z3 := A.ky.ll.symm.trans (zac tp q3); cases z3
  have z4 := B.ky.fl.symm.trans (zac tp q4); cases z4
  have r1 : (reads (ps.take i))[a]? = some x := by
    obtain ⟨w, ew⟩ : ∃ w, (reads (ps.take i))[a]? = some w := ⟨(reads (ps.take i))[a]'(by rw [zbb, li]; omega), by simp⟩
    have := (zbc tp ew).symm.trans A.rd; cases this; exact ew
  have r2 : (reads (ps.take i))[b]? = some y := by
    obtain ⟨w, ew⟩ : ∃ w, (reads (ps.take i))[b]? = some w := ⟨(reads (ps.take i))[b]'(by rw [zbb, li]; omega), by simp⟩
    have := (zbc tp ew).symm.trans B.rd; cases this; exact ew
  refine ⟨by omega, ?_, ?_, A.ky.fork B.ky q5 q7⟩
  . rw [zfb e]; simp only [newMs, zaR q1, zaR q2]; rfl
  . rw [zd2 e]; simp only [newRd, zaR r1, zaR r2]
theorem Good.tx {ps : List Pc} (g : Good ps) : ∀ n, 1 <= n -> n <= ps.length -> ∃ m x f l, Tx ps n m x f l := by
  intro n
  induction n using Nat.strongRecOn with
  | ind n ih =>
    intro h1 h2
    obtain ⟨i, rfl⟩ : ∃ i, n = i + 1 := ⟨n - 1, (Nat.sub_add_cancel h1).symm⟩
    obtain ⟨q, eq⟩ : ∃ q, ps[i]? = some q := ⟨ps[i], by simp⟩
    have ok := g.get eq
    have li : (ps.take i).length = i := (zcx eq).2
    cases q with
    | leaf x => exact ⟨_, _, _, _, zbl g eq⟩
    | fork a b =>
      have ok' : ForkOk (ps.take i) a b := ok
      obtain ⟨ma, mb, la, fb, q1, q2, _⟩ := ok'.ex
      have ba := (List.getElem?_eq_some_iff.mp q1).1
      have bb := (List.getElem?_eq_some_iff.mp q2).1
      rw [zal, li] at ba bb
      obtain ⟨_, _, _, _, A⟩ := ih a ba ok'.pa (Nat.le_trans (Nat.le_of_lt ba) h2)
      obtain ⟨_, _, _, _, B⟩ := ih b bb ok'.pb (Nat.le_trans (Nat.le_of_lt bb) h2)
      exact ⟨_, _, _, _, zbm g eq A B⟩
structure Dd (p : Nat) (h h' : AH) (ps ps' : List Pc) (k : Nat) : Prop where
  sh : ShelfAt h' p ps'
  gd : Good ps'
  pre : ps <+: ps'
  len : ps'.length <= ps.length + k
  fr : ∀ i, i <= p \/ p + 8 < i -> h'[i]? = h[i]?
  hl : h'.length = h.length
theorem ShelfAt.keep {h h' : AH} {p : Nat} {ps : List Pc} (S : ShelfAt h p ps) (e : ∀ i, p <= i -> i <= p + 8 -> h'[i]? = h[i]?) : ShelfAt h' p ps := by
  have k : ∀ j, j <= 8 -> h'[p + j]? = h[p + j]? := fun j hj => e _ (Nat.le_add_right p j) (Nat.add_le_add_left hj p)
  exact ⟨(k 0 (by decide)).trans S.ob, (k 1 (by decide)).trans S.h1, (k 2 (by decide)).trans S.h2, (k 3 (by decide)).trans S.h3, (k 4 (by decide)).trans S.h4, (k 5 (by decide)).trans S.h5, (k 6 (by decide)).trans S.h6, (k 7 (by decide)).trans S.h7, (k 8 (by decide)).trans S.h8⟩
theorem ShelfAt.app {h : AH} {p : Nat} {ps : List Pc} (S : ShelfAt h p ps) (r : AH) : ShelfAt (h ++ r) p ps := by
  have := lt_of S.h8
  exact S.keep fun i _ b => List.getElem?_append_left (Nat.lt_of_le_of_lt b this)
structure Wk (p r : Nat) (h h' : AH) (ps ps' : List Pc) (k : Nat) : Prop where
  sh : ShelfAt h' p ps'
  gd : Good ps'
  pre : ps <+: ps'
  len : ps'.length <= ps.length + k
  row : ∃ N : Int, h'[r]? = some (.lst [.int N])
  fr : ∀ i, i <= p \/ p + 8 < i -> i ≠ r -> h'[i]? = h[i]?
  hl : h'.length = h.length
theorem Wk.refl {p r : Nat} {h : AH} {ps : List Pc} (S : ShelfAt h p ps) (g : Good ps) (e : ∃ N : Int, h[r]? = some (.lst [.int N])) : Wk p r h h ps ps 0 :=
  ⟨S, g, List.prefix_refl _, by omega, e, fun _ _ _ => rfl, rfl⟩
theorem za3 {h : AH} {p : Nat} {ps : List Pc} {i : Nat} (S : ShelfAt h p ps) (hi : i <= ps.length) : F_Shelf_check_text [.ref p, .int i] h = .ok .non h := by
  by_cases z : i = 0
  . subst z; simp [F_Shelf_check_text]
  . have c := zby S (i := (i : Int)) ⟨by omega, by omega⟩
    simp [F_Shelf_check_text, z, S.ob, c]
theorem zaC {h : AH} {p : Nat} {ps : List Pc} {i : Nat} {m : Ms} (S : ShelfAt h p ps) (e : (meas ps)[i]? = some m) : F_Shelf_signs [.ref p, .int i] h = .ok (.int m.sg) h := by
  have hi := (List.getElem?_eq_some_iff.mp e).1
  rw [zal] at hi
  simp [F_Shelf_signs, za3 S (show i <= ps.length by omega), S.ob, S.h3, zag e]
theorem zik {h : AH} {p : Nat} {ps : List Pc} {i : Nat} {m : Ms} (S : ShelfAt h p ps) (e : (meas ps)[i]? = some m) : F_Shelf_ends [.ref p, .int i] h = .ok (.int m.en) h := by
  have hi := (List.getElem?_eq_some_iff.mp e).1
  rw [zal] at hi
  simp [F_Shelf_ends, za3 S (show i <= ps.length by omega), S.ob, S.h4, zag e]
theorem zad {h : AH} {p : Nat} {ps : List Pc} {i : Nat} {m : Ms} (S : ShelfAt h p ps) (e : (meas ps)[i]? = some m) : F_Shelf_height [.ref p, .int i] h = .ok (.int m.ht) h := by
  have hi := (List.getElem?_eq_some_iff.mp e).1
  rw [zal] at hi
  simp [F_Shelf_height, za3 S (show i <= ps.length by omega), S.ob, S.h6, zag e]
theorem zfc {h : AH} {p : Nat} {ps : List Pc} {i : Nat} {m : Ms} (S : ShelfAt h p ps) (e : (meas ps)[i]? = some m) : F_Shelf_first_leaf [.ref p, .int i] h = .ok (.int m.fl) h := by
  have hi := (List.getElem?_eq_some_iff.mp e).1
  rw [zal] at hi
  simp [F_Shelf_first_leaf, za3 S (show i <= ps.length by omega), S.ob, S.h7, zag e]
theorem f_last {h : AH} {p : Nat} {ps : List Pc} {i : Nat} {m : Ms} (S : ShelfAt h p ps) (e : (meas ps)[i]? = some m) : F_Shelf_last_leaf [.ref p, .int i] h = .ok (.int m.ll) h := by
  have hi := (List.getElem?_eq_some_iff.mp e).1
  rw [zal] at hi
  simp [F_Shelf_last_leaf, za3 S (show i <= ps.length by omega), S.ob, S.h8, zag e]
def lp : Nat -> Nat × Nat
  | 0 => (1, 2)
  | n + 1 => ((lp n).2, (lp n).1 + (lp n).2)
def ll (n : Nat) : Nat := (lp n).1
def ls (n : Nat) : Nat := 9 * (ll n / 2) + ll n % 2
theorem ll_2 (n : Nat) : ll (n + 2) = ll n + ll (n + 1) := rfl
theorem zd3 : ∀ n, ll n <= ll (n + 1)
  | 0 => by decide
  | n + 1 => by rw [show n + 1 + 1 = n + 2 from rfl, ll_2]; omega
theorem zil {a b : Nat} (h : a <= b) : ll a <= ll b := by
  induction h with
  | refl => exact Nat.le_refl _
  | step h ih => exact Nat.le_trans ih (zd3 _)
theorem zb5 {a b : Nat} (h : a <= b) : ls a <= ls b := by
  have := zil h
  unfold ls; omega
theorem lv_nat {i j a b : Nat} (h1 : i <= j + 1) (h2 : j <= i + 1) (u1 : ll i <= a) (u2 : ll j <= b) : ll (max i j + 1) <= a + b := by
  rcases Nat.lt_trichotomy i j with c | c | c
  . have e' : j = i + 1 := Nat.le_antisymm h2 c
    subst e'
    rw [Nat.max_eq_right (Nat.le_succ i), ll_2]; exact Nat.add_le_add u1 u2
  . subst c
    rw [Nat.max_self]
    refine Nat.le_trans ?_ (Nat.add_le_add u1 u2)
    cases i with
    | zero => exact Nat.le_refl 2
    | succ k => rw [show k + 1 + 1 = k + 2 from rfl, ll_2]; exact Nat.add_le_add_right (zd3 k) _
  . have e' : i = j + 1 := Nat.le_antisymm h1 c
    subst e'
    rw [Nat.max_eq_left (Nat.le_succ j), ll_2, Nat.add_comm]; exact Nat.add_le_add u1 u2
theorem lv_max {x y : Int} {a b : Nat} (hx : 0 <= x) (hy : 0 <= y) (q : (x - y).natAbs <= 1) (u1 : ll x.toNat <= a) (u2 : ll y.toNat <= b) : ll (max x y + 1).toNat <= a + b := by
  obtain ⟨i, rfl⟩ := Int.eq_ofNat_of_zero_le hx
  obtain ⟨j, rfl⟩ := Int.eq_ofNat_of_zero_le hy
  have e : (max (i : Int) j + 1).toNat = max i j + 1 := by clear u1 u2 q; omega
  rw [e]
  exact lv_nat (by clear u1 u2 e; omega) (by clear u1 u2 e; omega) u1 u2
theorem Good.lv {ps : List Pc} (g : Good ps) : ∀ n m x f l, Tx ps n m x f l -> ll m.ht.toNat <= m.lv := by
  intro n
  induction n using Nat.strongRecOn with
  | ind n ih =>
    intro m x f l T
    have hn := T.n1
    have hle := T.le
    obtain ⟨i, rfl⟩ : ∃ i, n = i + 1 := ⟨n - 1, by omega⟩
    obtain ⟨q, eq⟩ : ∃ q, ps[i]? = some q := ⟨ps[i], by simp⟩
    cases q with
    | leaf y =>
      have z := (zbl g eq).ms.symm.trans T.ms; cases z
      exact Nat.le_refl 1
    | fork a b =>
      have ok' : ForkOk (ps.take i) a b := g.get eq
      have li : (ps.take i).length = i := by simp; omega
      obtain ⟨ma, mb, la, fb, q1, q2, q3, q4, q5, q6, q7⟩ := ok'.ex
      have ba := (List.getElem?_eq_some_iff.mp q1).1
      have bb := (List.getElem?_eq_some_iff.mp q2).1
      rw [zal, li] at ba bb
      obtain ⟨ma', x1, fa, la', A⟩ := g.tx a ok'.pa (by omega)
      obtain ⟨mb', y1, fb', lb, B⟩ := g.tx b ok'.pb (by omega)
      have tp := zbB ps i
      have z1 := A.ms.symm.trans (zac tp q1); cases z1
      have z2 := B.ms.symm.trans (zac tp q2); cases z2
      have u1 := ih a (by omega) _ _ _ _ A
      have u2 := ih b (by omega) _ _ _ _ B
      have z := (zbm g eq A B).ms.symm.trans T.ms; cases z
      exact lv_max A.ky.ht B.ky.ht q6 u1 u2
theorem Tx.ls {ps : List Pc} (g : Good ps) {n : Nat} {m : Ms} {x : Str} {f l : Ms} (T : Tx ps n m x f l) : Sk.ls m.ht.toNat <= m.sg := by
  have u := g.lv _ _ _ _ _ T
  have f1 := T.ky.f1
  unfold Sk.ls
  obtain ⟨k, ⟨e, a, _⟩ | ⟨e, a, _⟩⟩ := T.ky.cnt
  . rw [e] at u; generalize ll m.ht.toNat = q at *; clear e; omega
  . rw [e] at u; generalize ll m.ht.toNat = q at *; clear e; omega
theorem ls101 : 1000000000000000000 < ls 101 := by decide +kernel
theorem zhg {ps : List Pc} (g : Good ps) {n : Nat} {m : Ms} {x : Str} {f l : Ms} (T : Tx ps n m x f l) : m.ht.toNat <= 200 := by
  refine Nat.le_of_not_lt fun z => ?_
  have a := T.ls g
  have b := zb5 (show 101 <= m.ht.toNat by omega)
  have c := ls101
  have d := T.ky.most
  omega
theorem Good.kind {ps : List Pc} (g : Good ps) {n : Nat} {m : Ms} {x : Str} {f l : Ms} (T : Tx ps n m x f l) :
    (ps[n - 1]? = some (.leaf x) /\ m.ht = 0 /\ m = lfMs x n /\ 1 <= x.length /\ x.length <= 8) \/ ∃ a b ma mb y z fa la fb lb, ps[n - 1]? = some (.fork a b) /\ a < n /\ b < n /\ Tx ps a ma y fa la /\ Tx ps b mb z fb lb /\ x = y ++ z /\ m = forkMs ma mb /\ (ma.ht - mb.ht).natAbs <= 1 := by
  have hn := T.n1
  have hle := T.le
  obtain ⟨i, rfl⟩ : ∃ i, n = i + 1 := ⟨n - 1, by omega⟩
  obtain ⟨q, eq⟩ : ∃ q, ps[i]? = some q := ⟨ps[i], by simp⟩
  cases q with
  | leaf y =>
    have L := zbl g eq
    have z := L.ms.symm.trans T.ms; cases z
    have z2 := L.rd.symm.trans T.rd; cases z2
    have ok : shortS x = true := g.get eq
    obtain ⟨s1, s2, s3⟩ := zbS ok
    exact .inl ⟨eq, rfl, rfl, s1, s2⟩
  | fork a b =>
    have ok' : ForkOk (ps.take i) a b := g.get eq
    have li : (ps.take i).length = i := by simp; omega
    obtain ⟨ma, mb, la, fb, q1, q2, q3, q4, q5, q6, q7⟩ := ok'.ex
    have ba := (List.getElem?_eq_some_iff.mp q1).1
    have bb := (List.getElem?_eq_some_iff.mp q2).1
    rw [zal, li] at ba bb
    obtain ⟨ma', y, fa, la', A⟩ := g.tx a ok'.pa (by omega)
    obtain ⟨mb', z, fb', lb, B⟩ := g.tx b ok'.pb (by omega)
    have tp := zbB ps i
    have z1 := A.ms.symm.trans (zac tp q1); cases z1
    have z2 := B.ms.symm.trans (zac tp q2); cases z2
    have F := zbm g eq A B
    have z3 := F.ms.symm.trans T.ms; cases z3
    have z4 := F.rd.symm.trans T.rd; cases z4
    exact .inr ⟨a, b, ma, mb, y, z, fa, la', fb', lb, eq, by omega, by omega, A, B, rfl, rfl, q6⟩
theorem za4 {h : AH} {p : Nat} {ps : List Pc} {n : Nat} {q : Pc} (S : ShelfAt h p ps) (n1 : 1 <= n) (e : ps[n - 1]? = some q) : F_Shelf_piece [.ref p, .int n] h = .ok q.av h := by
  have := zii S e
  rw [show ((n - 1 : Nat) : Int) + 1 = (n : Int) by omega] at this
  exact this
theorem hs1 {m a b : Int} (e : m = max a b + 1) (ha : 0 <= a) (hb : 0 <= b) : ∃ j : Nat, m.toNat = j + 1 /\ a.toNat <= j /\ b.toNat <= j /\ 0 < m := by
  obtain ⟨x, rfl⟩ := Int.eq_ofNat_of_zero_le ha
  obtain ⟨y, rfl⟩ := Int.eq_ofNat_of_zero_le hb
  subst e
  exact ⟨max x y, by omega, Nat.le_max_left _ _, Nat.le_max_right _ _, by omega⟩
end Sk

namespace Sk
open PySem PySem.Spec L2 Sm
theorem zao {x y : Str} (e : x.cps.toList = y.cps.toList) : x = y := by
  cases x; cases y
  simpa using e
theorem zai (x y z : Str) : (x ++ y) ++ z = x ++ (y ++ z) := zao (by simp only [zap, List.append_assoc])
theorem ls83 : 1000000000000000000 < ls 83 := by decide +kernel
theorem ht82 {ps : List Pc} (g : Good ps) {n : Nat} {m : Ms} {x : Str} {f l : Ms} (T : Tx ps n m x f l) : m.ht <= 82 := by
  have h1 := T.ls g
  have h2 := T.ky.most
  have h3 := T.ky.ht
  apply Classical.byContradiction
  intro h4
  have := zb5 (show 83 <= m.ht.toNat by omega)
  have := ls83
  omega
theorem Good.cut {ps : List Pc} (g : Good ps) {n : Nat} {m : Ms} {x : Str} {f l : Ms} (T : Tx ps n m x f l) (hh : 0 < m.ht) :
    ∃ a b ma mb y z la fb, ps[n - 1]? = some (.fork a b) /\ Tx ps a ma y f la /\ Tx ps b mb z fb l /\ x = y ++ z /\ m = forkMs ma mb /\ -1 <= ma.ht - mb.ht /\ ma.ht - mb.ht <= 1 /\ 8 < la.sg + fb.sg := by
  rcases g.kind T with ⟨_, e, _⟩ | ⟨a, b, ma, mb, y, z, fa, la, fb, lb, e1, e2, e3, A, B, e4, e5, e6⟩
  . omega
  . have ok : ForkOk (ps.take (n - 1)) a b := g.get e1
    obtain ⟨ma', mb', la', fb', q1, q2, q3, q4, q5, _⟩ := (ok.pre (zbB ps _)).ex
    have z1 := A.ms.symm.trans q1; cases z1
    have z2 := B.ms.symm.trans q2; cases z2
    have z3 := A.ky.ll.symm.trans q3; cases z3
    have z4 := B.ky.fl.symm.trans q4; cases z4
    have f1 := T.ky.fl
    have l1 := T.ky.ll
    rw [e5] at f1 l1
    have z5 := f1.symm.trans A.ky.fl; cases z5
    have z6 := l1.symm.trans B.ky.ll; cases z6
    exact ⟨a, b, ma, mb, y, z, la, fb, e1, A, B, e4, e5, by omega, by omega, q5⟩
structure Dn (F : AH -> Out AV) (p : Nat) (h h' : AH) (ps ps' : List Pc) (k n : Nat) : Prop where
  ev : F h = .ok (.int n) h'
  dd : Dd p h h' ps ps' k
  re : ∀ h2 ps2, ShelfAt h2 p ps2 -> Good ps2 -> ps' <+: ps2 -> F h2 = .ok (.int n) h2
theorem Dd.trans {p : Nat} {h h' h'' : AH} {ps ps' ps'' : List Pc} {k k' k2 : Nat} (a : Dd p h h' ps ps' k) (b : Dd p h' h'' ps' ps'' k') (hk : k + k' <= k2) : Dd p h h'' ps ps'' k2 :=
  ⟨b.sh, b.gd, a.pre.trans b.pre, by have := a.len; have := b.len; omega, fun i hi => (b.fr i hi).trans (a.fr i hi), b.hl.trans a.hl⟩
theorem Dd.refl {p : Nat} {h : AH} {ps : List Pc} (S : ShelfAt h p ps) (g : Good ps) : Dd p h h ps ps 0 := ⟨S, g, List.prefix_refl _, by omega, fun _ _ => rfl, rfl⟩
theorem Dn.seq {F F1 : AH -> Out AV} {F2 : AV -> AH -> Out AV} {p : Nat} {h h1 h2 : AH} {ps ps1 ps2 : List Pc} {k1 k2 k n1 n2 : Nat} (S : ShelfAt h p ps) (g : Good ps) (d1 : Dn F1 p h h1 ps ps1 k1 n1) (d2 : Dn (F2 (.int n1)) p h1 h2 ps1 ps2 k2 n2)
    (eq : ∀ hh pp, ShelfAt hh p pp -> Good pp -> ps <+: pp -> F hh = (F1 hh).bind F2) (hk : k1 + k2 <= k) : Dn F p h h2 ps ps2 k n2 := by
  refine ⟨?_, d1.dd.trans d2.dd hk, fun h3 ps3 S3 g3 p3 => ?_⟩
  . rw [eq h ps S g (List.prefix_refl _), d1.ev]; exact d2.ev
  . rw [eq h3 ps3 S3 g3 (d1.dd.pre.trans (d2.dd.pre.trans p3)), d1.re h3 ps3 S3 g3 (d2.dd.pre.trans p3)]
    exact d2.re h3 ps3 S3 g3 p3
theorem Dn.as {F F1 : AH -> Out AV} {p : Nat} {h h1 : AH} {ps ps1 : List Pc} {k1 k n1 : Nat} (S : ShelfAt h p ps) (g : Good ps) (d1 : Dn F1 p h h1 ps ps1 k1 n1) (eq : ∀ hh pp, ShelfAt hh p pp -> Good pp -> ps <+: pp -> F hh = F1 hh) (hk : k1 <= k) : Dn F p h h1 ps ps1 k n1 := by
  refine ⟨?_, { d1.dd with len := Nat.le_trans d1.dd.len (Nat.add_le_add_left hk _) }, fun h3 ps3 S3 g3 p3 => ?_⟩
  . rw [eq h ps S g (List.prefix_refl _)]; exact d1.ev
  . rw [eq h3 ps3 S3 g3 (d1.dd.pre.trans p3)]; exact d1.re h3 ps3 S3 g3 p3
theorem Dn.val {F : AH -> Out AV} {p n : Nat} {h : AH} {ps : List Pc} (S : ShelfAt h p ps) (g : Good ps) (eq : ∀ hh pp, ShelfAt hh p pp -> Good pp -> ps <+: pp -> F hh = .ok (.int n) hh) : Dn F p h h ps ps 0 n :=
  ⟨eq h ps S g (List.prefix_refl _), Dd.refl S g, fun h3 ps3 S3 g3 p3 => eq h3 ps3 S3 g3 p3⟩
theorem pre_at {ps ps' : List Pc} (h : ps <+: ps') {i : Nat} {q : Pc} (e : ps[i]? = some q) : ps'[i]? = some q := by
  obtain ⟨r, rfl⟩ := h
  rw [List.getElem?_append_left (List.getElem?_eq_some_iff.mp e).1]; exact e
theorem zfd {h : AH} {p : Nat} {ps : List Pc} {x : Str} (S : ShelfAt h p ps) (g : Good ps) (hx : shortS x = true) (hz : ps.length < 16000000) :
    ∃ (n : Nat) (ps' : List Pc) (h' : AH), Dn (F_Shelf_leaf [.ref p, .str x]) p h h' ps ps' 1 n /\ Tx ps' n (lfMs x n) x (lfMs x n) (lfMs x n) := by
  obtain ⟨s1, s2, s3⟩ := zbS hx
  have hs : x.length <= sizeLine := Nat.le_trans s2 (by decide)
  by_cases hq : Pc.leaf x ∈ ps
  . obtain ⟨i, hi, e⟩ := List.getElem_of_mem hq
    have e' : ps[i]? = some (.leaf x) := by rw [List.getElem?_eq_getElem hi, e]
    exact ⟨i + 1, ps, h, ⟨zbz S g.nodup hx hs e', ⟨S, g, List.prefix_refl _, by omega, fun _ _ => rfl, rfl⟩, fun h2 ps2 S2 g2 p2 => zbz S2 g2.nodup hx hs (pre_at p2 e')⟩, zbl g e'⟩
  . have g' : Good (ps ++ [.leaf x]) := .snoc g hq hx
    have e' : (ps ++ [Pc.leaf x])[ps.length]? = some (.leaf x) := by simp
    exact ⟨ps.length + 1, _, _, ⟨zfG S hx hs hq hz, ⟨zbx S, g', List.prefix_append _ _, by simp, fun i hi => zd1 hi, zdv _ _ _⟩, fun h2 ps2 S2 g2 p2 => zbz S2 g2.nodup hx hs (pre_at p2 e')⟩, zbl g' e'⟩
theorem zaw {h : AH} {p : Nat} {ps : List Pc} {a b : Nat} {ma mb fa la fb lb : Ms} {x y : Str} (S : ShelfAt h p ps) (g : Good ps) (A : Tx ps a ma x fa la) (B : Tx ps b mb y fb lb) (hc : 8 < la.sg + fb.sg) (v1 : -1 <= ma.ht - mb.ht) (v2 : ma.ht - mb.ht <= 1) (hm : ma.sg + mb.sg <= 1000000000000000000) (hz : ps.length < 16000000) :
    ∃ (n : Nat) (ps' : List Pc) (h' : AH), Dn (F_Shelf_fork [.ref p, .int a, .int b]) p h h' ps ps' 1 n /\ Tx ps' n (forkMs ma mb) (x ++ y) fa lb := by
  have F : ForkOk ps a b := ⟨A.n1, B.n1, ma, mb, la, fb, A.ms, B.ms, A.ky.ll, B.ky.fl, hc, by omega, hm⟩
  by_cases hq : Pc.fork a b ∈ ps
  . obtain ⟨i, hi, e⟩ := List.getElem_of_mem hq
    have e' : ps[i]? = some (.fork a b) := by rw [List.getElem?_eq_getElem hi, e]
    exact ⟨i + 1, ps, h, ⟨zbA S g.nodup F e', ⟨S, g, List.prefix_refl _, by omega, fun _ _ => rfl, rfl⟩, fun h2 ps2 S2 g2 p2 => zbA S2 g2.nodup (F.pre p2) (pre_at p2 e')⟩, zbm g e' A B⟩
  . have g' : Good (ps ++ [.fork a b]) := .snoc g hq F
    have e' : (ps ++ [Pc.fork a b])[ps.length]? = some (.fork a b) := by simp
    have pr : ps <+: ps ++ [Pc.fork a b] := List.prefix_append _ _
    exact ⟨ps.length + 1, _, _, ⟨zfH S F hq hz, ⟨zbx S, g', pr, by simp, fun i hi => zd1 hi, zdv _ _ _⟩, fun h2 ps2 S2 g2 p2 => zbA S2 g2.nodup (F.pre (pr.trans p2)) (pre_at p2 e')⟩, zbm g' e' (A.pre pr) (B.pre pr)⟩
theorem fmS (ma mb : Ms) : (forkMs ma mb).sg = ma.sg + mb.sg := rfl
theorem fmH (ma mb : Ms) : (forkMs ma mb).ht = max ma.ht mb.ht + 1 := rfl
theorem i1 (s : Str) (a b : Int) (h : AH) : fIx (.tup [.str s, .int a, .int b]) (.int 1) h = .ok (.int a) h := rfl
theorem i2 (s : Str) (a b : Int) (h : AH) : fIx (.tup [.str s, .int a, .int b]) (.int 2) h = .ok (.int b) h := rfl
theorem zaA {h : AH} {p : Nat} {ps : List Pc} {n a b : Nat} (S : ShelfAt h p ps) (n1 : 1 <= n) (e : ps[n - 1]? = some (.fork a b)) : F_Shelf_piece [.ref p, .int n] h = .ok (.tup [.str "fork", .int a, .int b]) h := za4 S n1 e
theorem tl_1 {h : AH} {p : Nat} {ps : List Pc} {a b : Nat} {ma mb : Ms} (S : ShelfAt h p ps) (ea : (meas ps)[a]? = some ma) (eb : (meas ps)[b]? = some mb) (hd : mb.ht - ma.ht < 2) :
    F_turned_left [.ref p, .int a, .int b] h = F_Shelf_fork [.ref p, .int a, .int b] h := by
  have f1 := zad S ea
  have f2 := zad S eb
  generalize hF : F_Shelf_fork [.ref p, .int a, .int b] h = R
  simp [F_turned_left, S.ob, f1, f2, hd, hF]
  cases R <;> rfl
theorem tl_2 {h : AH} {p : Nat} {ps : List Pc} {a b c d : Nat} {ma mb mc md : Ms} (S : ShelfAt h p ps) (b1 : 1 <= b) (ea : (meas ps)[a]? = some ma) (eb : (meas ps)[b]? = some mb) (e : ps[b - 1]? = some (.fork c d)) (ec : (meas ps)[c]? = some mc) (ed : (meas ps)[d]? = some md) (hd : ¬ mb.ht - ma.ht < 2) (hh : mc.ht <= md.ht) :
    F_turned_left [.ref p, .int a, .int b] h = (F_Shelf_fork [.ref p, .int a, .int c] h).bind fun v h1 => F_Shelf_fork [.ref p, v, .int d] h1 := by
  have f1 := zad S ea
  have f2 := zad S eb
  have f3 := zaA S b1 e
  have f4 := zad S ec
  have f5 := zad S ed
  generalize hF : F_Shelf_fork [.ref p, .int a, .int c] h = R
  simp [F_turned_left, S.ob, f1, f2, hd, f3, i1, i2, f4, f5, hh, hF, -fIx]
  cases R with
  | ok v h1 => dsimp only; cases F_Shelf_fork [.ref p, v, .int d] h1 <;> rfl
  | ex c h1 => rfl
  | bad => rfl
def onSh (p : Nat) (F : AH -> Out AV) (h : AH) : Out AV := match h[p]? with
  | some (.ins c' _) => if c' = 0 then F h else .bad
  | _ => .bad
theorem zfe {h : AH} {p : Nat} {ps : List Pc} (S : ShelfAt h p ps) (F : AH -> Out AV) : onSh p F h = F h := by simp [onSh, S.ob]
theorem tl_3 {h : AH} {p : Nat} {ps : List Pc} {a b c d i j : Nat} {ma mb mc md : Ms} (S : ShelfAt h p ps) (b1 : 1 <= b) (c1 : 1 <= c) (ea : (meas ps)[a]? = some ma) (eb : (meas ps)[b]? = some mb) (e : ps[b - 1]? = some (.fork c d)) (ec : (meas ps)[c]? = some mc) (ed : (meas ps)[d]? = some md) (e2 : ps[c - 1]? = some (.fork i j)) (hd : ¬ mb.ht - ma.ht < 2) (hh : ¬ mc.ht <= md.ht) :
    F_turned_left [.ref p, .int a, .int b] h = (F_Shelf_fork [.ref p, .int a, .int i] h).bind fun v h1 => (onSh p (F_Shelf_fork [.ref p, .int j, .int d]) h1).bind fun w h2 => F_Shelf_fork [.ref p, v, w] h2 := by
  have f1 := zad S ea
  have f2 := zad S eb
  have f3 := zaA S b1 e
  have f4 := zad S ec
  have f5 := zad S ed
  have f6 := zaA S c1 e2
  generalize hF : F_Shelf_fork [.ref p, .int a, .int i] h = R
  simp [F_turned_left, S.ob, f1, f2, hd, f3, i1, i2, f4, f5, hh, f6, hF, -fIx]
  cases R with
  | ok v h1 =>
    unfold onSh
    dsimp only
    cases hx : h1[p]? with
    | none => rfl
    | some o =>
      cases o with
      | lst l => rfl
      | dct q l => rfl
      | ins c' l =>
        dsimp only
        by_cases z : c' = 0
        . rw [if_pos z]
          cases F_Shelf_fork [.ref p, .int j, .int d] h1 with
          | ok w h2 => dsimp only; cases F_Shelf_fork [.ref p, v, w] h2 <;> rfl
          | ex c h2 => rfl
          | bad => rfl
        . rw [if_neg z]
  | ex c h1 => rfl
  | bad => rfl
theorem tlh1 {a b m : Int} (h1 : -1 <= b - a) (h2 : b - a < 2) (e : m = max a b + 1) : max a b <= m /\ m <= max a b + 1 /\ (b - a <= 1 -> m = max a b + 1) := by omega
theorem zff {h : AH} {p : Nat} {ps : List Pc} {a b : Nat} {ma mb fa la fb lb : Ms} {x y : Str} (S : ShelfAt h p ps) (g : Good ps) (A : Tx ps a ma x fa la) (B : Tx ps b mb y fb lb) (hc : 8 < la.sg + fb.sg) (v1 : -1 <= mb.ht - ma.ht) (v2 : mb.ht - ma.ht <= 2) (hm : ma.sg + mb.sg <= 1000000000000000000) (hz : ps.length + 3 < 16000000) :
    ∃ (n : Nat) (ps' : List Pc) (h' : AH) (m : Ms), Dn (F_turned_left [.ref p, .int a, .int b]) p h h' ps ps' 3 n /\ Tx ps' n m (x ++ y) fa lb /\ max ma.ht mb.ht <= m.ht /\ m.ht <= max ma.ht mb.ht + 1 /\ (mb.ht - ma.ht <= 1 -> m.ht = max ma.ht mb.ht + 1) := by
  by_cases q : mb.ht - ma.ht < 2
  . obtain ⟨n, ps', h', d, T⟩ := zaw S g A B hc (by omega) (by omega) hm (by omega)
    exact ⟨n, ps', h', _, d.as S g (fun hh pp S' _ pr => tl_1 S' (zac pr A.ms) (zac pr B.ms) q) (by omega), T, tlh1 v1 q (fmH ma mb)⟩
  . obtain ⟨c, d, mc, md, y1, y2, lc, fd, e, C, D, rfl, em, w1, w2, w3⟩ := g.cut B (by have := A.ky.ht; omega)
    have sg := congrArg Ms.sg em
    have ht := congrArg Ms.ht em
    rw [fmS] at sg
    rw [fmH] at ht
    by_cases r : mc.ht <= md.ht
    . obtain ⟨n1, ps1, h1, d1, T1⟩ := zaw S g A C hc (by omega) (by omega) (by omega) (by omega)
      obtain ⟨n2, ps2, h2, d2, T2⟩ := zaw d1.dd.sh d1.dd.gd T1 (D.pre d1.dd.pre) w3 (by rw [fmH]; omega) (by rw [fmH]; omega) (by rw [fmS]; omega) (by have := d1.dd.len; omega)
      rw [zai] at T2
      refine ⟨n2, ps2, h2, _, Dn.seq S g d1 d2 (fun hh pp S' _ pr => tl_2 S' B.n1 (zac pr A.ms) (zac pr B.ms) (pre_at pr e) (zac pr C.ms) (zac pr D.ms) q r) (by omega), T2, ?_⟩
      rw [fmH, fmH]; omega
    . obtain ⟨i, j, mi, mj, z1, z2, li, fj, e2, I, J, rfl, em2, u1, u2, u3⟩ := g.cut C (by have := D.ky.ht; omega)
      have sg2 := congrArg Ms.sg em2
      have ht2 := congrArg Ms.ht em2
      rw [fmS] at sg2
      rw [fmH] at ht2
      obtain ⟨n1, ps1, h1, d1, T1⟩ := zaw S g A I hc (by omega) (by omega) (by omega) (by omega)
      obtain ⟨n2, ps2, h2, d2, T2⟩ := zaw d1.dd.sh d1.dd.gd (J.pre d1.dd.pre) (D.pre d1.dd.pre) w3 (by omega) (by omega) (by omega) (by have := d1.dd.len; omega)
      obtain ⟨n3, ps3, h3, d3, T3⟩ := zaw d2.dd.sh d2.dd.gd (T1.pre d2.dd.pre) T2 u3 (by rw [fmH, fmH]; omega) (by rw [fmH, fmH]; omega) (by rw [fmS, fmS]; omega) (by have := d1.dd.len; have := d2.dd.len; omega)
      have d2' : Dn (onSh p (F_Shelf_fork [.ref p, .int j, .int d])) p h1 h2 ps1 ps2 1 n2 := d2.as d1.dd.sh d1.dd.gd (fun hh pp S' _ _ => zfe S' _) (Nat.le_refl _)
      have d23 := Dn.seq (F := fun h1 => (onSh p (F_Shelf_fork [.ref p, .int j, .int d]) h1).bind fun w h2 => F_Shelf_fork [.ref p, .int n1, w] h2) (F2 := fun w h2 => F_Shelf_fork [.ref p, .int n1, w] h2) d1.dd.sh d1.dd.gd d2' d3 (fun _ _ _ _ _ => rfl) (k := 2) (by omega)
      have ea : (x ++ z1) ++ (z2 ++ y2) = x ++ (z1 ++ z2 ++ y2) := by rw [zai, zai]
      rw [ea] at T3
      refine ⟨n3, ps3, h3, _, Dn.seq (F2 := fun v h1 => (onSh p (F_Shelf_fork [.ref p, .int j, .int d]) h1).bind fun w h2 => F_Shelf_fork [.ref p, v, w] h2) S g d1 d23 (fun hh pp S' _ pr => tl_3 S' B.n1 C.n1 (zac pr A.ms) (zac pr B.ms) (pre_at pr e) (zac pr C.ms) (zac pr D.ms) (pre_at pr e2) q r) (by omega), T3, ?_⟩
      rw [fmH, fmH, fmH]; omega
theorem tr_1 {h : AH} {p : Nat} {ps : List Pc} {a b : Nat} {ma mb : Ms} (S : ShelfAt h p ps) (ea : (meas ps)[a]? = some ma) (eb : (meas ps)[b]? = some mb) (hd : ma.ht - mb.ht < 2) :
    F_turned_right [.ref p, .int a, .int b] h = F_Shelf_fork [.ref p, .int a, .int b] h := by
  have f1 := zad S ea
  have f2 := zad S eb
  generalize hF : F_Shelf_fork [.ref p, .int a, .int b] h = R
  simp [F_turned_right, S.ob, f1, f2, hd, hF]
  cases R <;> rfl
theorem tr_2 {h : AH} {p : Nat} {ps : List Pc} {a b c d : Nat} {ma mb mc md : Ms} (S : ShelfAt h p ps) (a1 : 1 <= a) (ea : (meas ps)[a]? = some ma) (eb : (meas ps)[b]? = some mb) (e : ps[a - 1]? = some (.fork c d)) (ec : (meas ps)[c]? = some mc) (ed : (meas ps)[d]? = some md) (hd : ¬ ma.ht - mb.ht < 2) (hh : md.ht <= mc.ht) :
    F_turned_right [.ref p, .int a, .int b] h = (F_Shelf_fork [.ref p, .int d, .int b] h).bind fun v h1 => F_Shelf_fork [.ref p, .int c, v] h1 := by
  have f1 := zad S ea
  have f2 := zad S eb
  have f3 := zaA S a1 e
  have f4 := zad S ec
  have f5 := zad S ed
  generalize hF : F_Shelf_fork [.ref p, .int d, .int b] h = R
  simp [F_turned_right, S.ob, f1, f2, hd, f3, i1, i2, f4, f5, hh, hF, -fIx]
  cases R with
  | ok v h1 => dsimp only; cases F_Shelf_fork [.ref p, .int c, v] h1 <;> rfl
  | ex c h1 => rfl
  | bad => rfl
theorem tr_3 {h : AH} {p : Nat} {ps : List Pc} {a b c d i j : Nat} {ma mb mc md : Ms} (S : ShelfAt h p ps) (a1 : 1 <= a) (d1 : 1 <= d) (ea : (meas ps)[a]? = some ma) (eb : (meas ps)[b]? = some mb) (e : ps[a - 1]? = some (.fork c d)) (ec : (meas ps)[c]? = some mc) (ed : (meas ps)[d]? = some md) (e2 : ps[d - 1]? = some (.fork i j)) (hd : ¬ ma.ht - mb.ht < 2) (hh : ¬ md.ht <= mc.ht) :
    F_turned_right [.ref p, .int a, .int b] h = (F_Shelf_fork [.ref p, .int c, .int i] h).bind fun v h1 => (onSh p (F_Shelf_fork [.ref p, .int j, .int b]) h1).bind fun w h2 => F_Shelf_fork [.ref p, v, w] h2 := by
  have f1 := zad S ea
  have f2 := zad S eb
  have f3 := zaA S a1 e
  have f4 := zad S ec
  have f5 := zad S ed
  have f6 := zaA S d1 e2
  generalize hF : F_Shelf_fork [.ref p, .int c, .int i] h = R
  simp [F_turned_right, S.ob, f1, f2, hd, f3, i1, i2, f4, f5, hh, f6, hF, -fIx]
  cases R with
  | ok v h1 =>
    unfold onSh
    dsimp only
    cases hx : h1[p]? with
    | none => rfl
    | some o =>
      cases o with
      | lst l => rfl
      | dct q l => rfl
      | ins c' l =>
        dsimp only
        by_cases z : c' = 0
        . rw [if_pos z]
          cases F_Shelf_fork [.ref p, .int j, .int b] h1 with
          | ok w h2 => dsimp only; cases F_Shelf_fork [.ref p, v, w] h2 <;> rfl
          | ex c h2 => rfl
          | bad => rfl
        . rw [if_neg z]
  | ex c h1 => rfl
  | bad => rfl
theorem zhh {h : AH} {p : Nat} {ps : List Pc} {a b : Nat} {ma mb fa la fb lb : Ms} {x y : Str} (S : ShelfAt h p ps) (g : Good ps) (A : Tx ps a ma x fa la) (B : Tx ps b mb y fb lb) (hc : 8 < la.sg + fb.sg) (v1 : -1 <= ma.ht - mb.ht) (v2 : ma.ht - mb.ht <= 2) (hm : ma.sg + mb.sg <= 1000000000000000000) (hz : ps.length + 3 < 16000000) :
    ∃ (n : Nat) (ps' : List Pc) (h' : AH) (m : Ms), Dn (F_turned_right [.ref p, .int a, .int b]) p h h' ps ps' 3 n /\ Tx ps' n m (x ++ y) fa lb /\ max ma.ht mb.ht <= m.ht /\ m.ht <= max ma.ht mb.ht + 1 /\ (ma.ht - mb.ht <= 1 -> m.ht = max ma.ht mb.ht + 1) := by
  by_cases q : ma.ht - mb.ht < 2
  . obtain ⟨n, ps', h', d, T⟩ := zaw S g A B hc (by omega) (by omega) hm (by omega)
    refine ⟨n, ps', h', _, d.as S g (fun hh pp S' _ pr => tr_1 S' (zac pr A.ms) (zac pr B.ms) q) (by omega), T, ?_⟩
    rw [fmH]; omega
  . obtain ⟨c, d, mc, md, y1, y2, lc, fd, e, C, D, rfl, em, w1, w2, w3⟩ := g.cut A (by have := B.ky.ht; omega)
    have sg := congrArg Ms.sg em
    have ht := congrArg Ms.ht em
    rw [fmS] at sg
    rw [fmH] at ht
    by_cases r : md.ht <= mc.ht
    . obtain ⟨n1, ps1, h1, d1, T1⟩ := zaw S g D B hc (by omega) (by omega) (by omega) (by omega)
      obtain ⟨n2, ps2, h2, d2, T2⟩ := zaw d1.dd.sh d1.dd.gd (C.pre d1.dd.pre) T1 w3 (by rw [fmH]; omega) (by rw [fmH]; omega) (by rw [fmS]; omega) (by have := d1.dd.len; omega)
      rw [<- zai] at T2
      refine ⟨n2, ps2, h2, _, Dn.seq (F2 := fun v h1 => F_Shelf_fork [.ref p, .int c, v] h1) S g d1 d2 (fun hh pp S' _ pr => tr_2 S' A.n1 (zac pr A.ms) (zac pr B.ms) (pre_at pr e) (zac pr C.ms) (zac pr D.ms) q r) (by omega), T2, ?_⟩
      rw [fmH, fmH]; omega
    . obtain ⟨i, j, mi, mj, z1, z2, li, fj, e2, I, J, rfl, em2, u1, u2, u3⟩ := g.cut D (by have := C.ky.ht; omega)
      have sg2 := congrArg Ms.sg em2
      have ht2 := congrArg Ms.ht em2
      rw [fmS] at sg2
      rw [fmH] at ht2
      obtain ⟨n1, ps1, h1, d1, T1⟩ := zaw S g C I w3 (by omega) (by omega) (by omega) (by omega)
      obtain ⟨n2, ps2, h2, d2, T2⟩ := zaw d1.dd.sh d1.dd.gd (J.pre d1.dd.pre) (B.pre d1.dd.pre) hc (by omega) (by omega) (by omega) (by have := d1.dd.len; omega)
      obtain ⟨n3, ps3, h3, d3, T3⟩ := zaw d2.dd.sh d2.dd.gd (T1.pre d2.dd.pre) T2 u3 (by rw [fmH, fmH]; omega) (by rw [fmH, fmH]; omega) (by rw [fmS, fmS]; omega) (by have := d1.dd.len; have := d2.dd.len; omega)
      have d2' : Dn (onSh p (F_Shelf_fork [.ref p, .int j, .int b])) p h1 h2 ps1 ps2 1 n2 := d2.as d1.dd.sh d1.dd.gd (fun hh pp S' _ _ => zfe S' _) (Nat.le_refl _)
      have d23 := Dn.seq (F := fun h1 => (onSh p (F_Shelf_fork [.ref p, .int j, .int b]) h1).bind fun w h2 => F_Shelf_fork [.ref p, .int n1, w] h2) (F2 := fun w h2 => F_Shelf_fork [.ref p, .int n1, w] h2) d1.dd.sh d1.dd.gd d2' d3 (fun _ _ _ _ _ => rfl) (k := 2) (by omega)
      have ea : (y1 ++ z1) ++ (z2 ++ y) = y1 ++ (z1 ++ z2) ++ y := by rw [zai, zai, zai]
      rw [ea] at T3
      refine ⟨n3, ps3, h3, _, Dn.seq (F2 := fun v h1 => (onSh p (F_Shelf_fork [.ref p, .int j, .int b]) h1).bind fun w h2 => F_Shelf_fork [.ref p, v, w] h2) S g d1 d23 (fun hh pp S' _ pr => tr_3 S' A.n1 D.n1 (zac pr A.ms) (zac pr B.ms) (pre_at pr e) (zac pr C.ms) (zac pr D.ms) (pre_at pr e2) q r) (by omega), T3, ?_⟩
      rw [fmH, fmH, fmH]; omega
end Sk

namespace Sk
open PySem PySem.Spec L2 Sm
theorem Dn.seq' {F F1 F2 : AH -> Out AV} {p : Nat} {h h1 h2 : AH} {ps ps1 ps2 : List Pc} {k1 k2 k n1 n2 : Nat} (S : ShelfAt h p ps) (g : Good ps) (d1 : Dn F1 p h h1 ps ps1 k1 n1) (d2 : Dn F2 p h1 h2 ps1 ps2 k2 n2)
    (eq : ∀ hh hh1 pp, ShelfAt hh p pp -> Good pp -> ps <+: pp -> F1 hh = .ok (.int n1) hh1 -> F hh = F2 hh1) (hk : k1 + k2 <= k) : Dn F p h h2 ps ps2 k n2 := by
  refine ⟨?_, d1.dd.trans d2.dd hk, fun h3 ps3 S3 g3 p3 => ?_⟩
  . rw [eq h h1 ps S g (List.prefix_refl _) d1.ev]; exact d2.ev
  . rw [eq h3 h3 ps3 S3 g3 (d1.dd.pre.trans (d2.dd.pre.trans p3)) (d1.re h3 ps3 S3 g3 (d2.dd.pre.trans p3))]
    exact d2.re h3 ps3 S3 g3 p3
theorem lk_1 {h : AH} {p : Nat} {ps : List Pc} {a b d : Nat} {ma mb : Ms} (S : ShelfAt h p ps) (ea : (meas ps)[a]? = some ma) (eb : (meas ps)[b]? = some mb) (h1 : ma.ht - mb.ht <= 1) (h2 : -1 <= ma.ht - mb.ht) :
    F_linked (d + 1) [.ref p, .int a, .int b] h = F_Shelf_fork [.ref p, .int a, .int b] h := by
  have f1 := zad S ea
  have f2 := zad S eb
  have c1 : ¬ 1 < ma.ht - mb.ht := by omega
  have c2 : ¬ ma.ht - mb.ht < -1 := by omega
  generalize hF : F_Shelf_fork [.ref p, .int a, .int b] h = R
  simp [F_linked, S_linked, S.ob, f1, f2, c1, c2, hF]
  cases R <;> rfl
theorem lk_2 {h h1 : AH} {p : Nat} {ps : List Pc} {a b c e d : Nat} {v : Int} {ma mb : Ms} (S : ShelfAt h p ps) (a1 : 1 <= a) (ea : (meas ps)[a]? = some ma) (eb : (meas ps)[b]? = some mb) (ep : ps[a - 1]? = some (.fork c e)) (hd : 1 < ma.ht - mb.ht) (ev : F_linked d [.ref p, .int e, .int b] h = .ok (.int v) h1) :
    F_linked (d + 1) [.ref p, .int a, .int b] h = F_turned_left [.ref p, .int c, .int v] h1 := by
  have f1 := zad S ea
  have f2 := zad S eb
  have f3 := zaA S a1 ep
  generalize hF : F_turned_left [.ref p, .int c, .int v] h1 = R
  simp [F_linked, S_linked, S.ob, f1, f2, hd, f3, i1, i2, ev, hF, -fIx]
  cases R <;> rfl
theorem lk_3 {h h1 : AH} {p : Nat} {ps : List Pc} {a b c e d : Nat} {v : Int} {ma mb : Ms} (S : ShelfAt h p ps) (b1 : 1 <= b) (ea : (meas ps)[a]? = some ma) (eb : (meas ps)[b]? = some mb) (ep : ps[b - 1]? = some (.fork c e)) (hd : ma.ht - mb.ht < -1) (ev : F_linked d [.ref p, .int a, .int c] h = .ok (.int v) h1) :
    F_linked (d + 1) [.ref p, .int a, .int b] h = F_turned_right [.ref p, .int v, .int e] h1 := by
  have f1 := zad S ea
  have f2 := zad S eb
  have f3 := zaA S b1 ep
  have c1 : ¬ 1 < ma.ht - mb.ht := by omega
  generalize hF : F_turned_right [.ref p, .int v, .int e] h1 = R
  simp [F_linked, S_linked, S.ob, f1, f2, c1, hd, f3, i1, i2, ev, hF, -fIx]
  cases R <;> rfl
theorem zbC {p : Nat} : ∀ (d t : Nat) {h : AH} {ps : List Pc} {a b : Nat} {ma mb fa la fb lb : Ms} {x y : Str} (S : ShelfAt h p ps) (g : Good ps) (A : Tx ps a ma x fa la) (B : Tx ps b mb y fb lb) (hc : 8 < la.sg + fb.sg) (hm : ma.sg + mb.sg <= 1000000000000000000)
    (ht : (ma.ht - mb.ht).natAbs <= t) (hd : t < d) (hz : ps.length + 3 * t + 4 < 16000000),
    ∃ (n : Nat) (ps' : List Pc) (h' : AH) (m : Ms), Dn (F_linked d [.ref p, .int a, .int b]) p h h' ps ps' (3 * t + 1) n /\ Tx ps' n m (x ++ y) fa lb /\ max ma.ht mb.ht <= m.ht /\ m.ht <= max ma.ht mb.ht + 1
  | 0, t, h, ps, a, b, ma, mb, fa, la, fb, lb, x, y, S, g, A, B, hc, hm, ht, hd, hz => absurd hd (Nat.not_lt_zero t)
  | d + 1, t, h, ps, a, b, ma, mb, fa, la, fb, lb, x, y, S, g, A, B, hc, hm, ht, hd, hz => by
    by_cases q1 : 1 < ma.ht - mb.ht
    . obtain ⟨c, e, mc, me, y1, y2, lc, fe, ep, C, E, rfl, em, w1, w2, w3⟩ := g.cut A (by have := B.ky.ht; omega)
      have sg := congrArg Ms.sg em
      have hh := congrArg Ms.ht em
      rw [fmS] at sg
      rw [fmH] at hh
      obtain ⟨n1, ps1, h1, m1, d1, T1, u1, u2⟩ := zbC d (t - 1) S g E B hc (by omega) (by omega) (by omega) (by omega)
      have s1 : m1.sg = me.sg + mb.sg := by rw [T1.ky.sg, zaq, <- E.ky.sg, <- B.ky.sg]
      obtain ⟨n2, ps2, h2, m2, d2, T2, u3, u4, u5⟩ := zff d1.dd.sh d1.dd.gd (C.pre d1.dd.pre) T1 w3 (by omega) (by omega) (by omega) (by have := d1.dd.len; omega)
      rw [<- zai] at T2
      exact ⟨n2, ps2, h2, m2, Dn.seq' S g d1 d2 (fun hh hh1 pp S' _ pr ev => lk_2 S' A.n1 (zac pr A.ms) (zac pr B.ms) (pre_at pr ep) q1 ev) (by omega), T2, by omega, by omega⟩
    . by_cases q2 : ma.ht - mb.ht < -1
      . obtain ⟨c, e, mc, me, y1, y2, lc, fe, ep, C, E, rfl, em, w1, w2, w3⟩ := g.cut B (by have := A.ky.ht; omega)
        have sg := congrArg Ms.sg em
        have hh := congrArg Ms.ht em
        rw [fmS] at sg
        rw [fmH] at hh
        obtain ⟨n1, ps1, h1, m1, d1, T1, u1, u2⟩ := zbC d (t - 1) S g A C hc (by omega) (by omega) (by omega) (by omega)
        have s1 : m1.sg = ma.sg + mc.sg := by rw [T1.ky.sg, zaq, <- A.ky.sg, <- C.ky.sg]
        obtain ⟨n2, ps2, h2, m2, d2, T2, u3, u4, u5⟩ := zhh d1.dd.sh d1.dd.gd T1 (E.pre d1.dd.pre) w3 (by omega) (by omega) (by omega) (by have := d1.dd.len; omega)
        rw [zai] at T2
        exact ⟨n2, ps2, h2, m2, Dn.seq' S g d1 d2 (fun hh hh1 pp S' _ pr ev => lk_3 S' B.n1 (zac pr A.ms) (zac pr B.ms) (pre_at pr ep) q2 ev) (by omega), T2, by omega, by omega⟩
      . obtain ⟨n, ps', h', dn, T⟩ := zaw S g A B hc (by omega) (by omega) hm (by omega)
        exact ⟨n, ps', h', _, dn.as S g (fun hh pp S' _ pr => lk_1 S' (zac pr A.ms) (zac pr B.ms) (by omega) (by omega)) (by omega), T, by rw [fmH]; omega, by rw [fmH]; omega⟩
theorem zbn {h : AH} {p : Nat} {ps : List Pc} {n : Nat} {x : Str} (S : ShelfAt h p ps) (n1 : 1 <= n) (e : ps[n - 1]? = some (.leaf x)) : F_Shelf_piece [.ref p, .int n] h = .ok (.tup [.str "leaf", .str x]) h := za4 S n1 e
theorem i0L (x : Str) (h : AH) : fIx (.tup [.str "leaf", .str x]) (.int 0) h = .ok (.str "leaf") h := rfl
theorem i0F (a b : Int) (h : AH) : fIx (.tup [.str "fork", .int a, .int b]) (.int 0) h = .ok (.str "fork") h := rfl
theorem i1L (x : Str) (h : AH) : fIx (.tup [.str "leaf", .str x]) (.int 1) h = .ok (.str x) h := rfl
theorem eqL (h : AH) : fEq (.str "leaf") (.str "leaf") h = .ok (.bl true) h := by simp
theorem eqF (h : AH) : fEq (.str "fork") (.str "leaf") h = .ok (.bl false) h := by
  have : ¬ (Str.ofString "fork" = Str.ofString "leaf") := by decide +kernel
  simp [this]
theorem wl_1 {h : AH} {p : Nat} {ps : List Pc} {a d : Nat} {L : Int} {x : Str} (S : ShelfAt h p ps) (a1 : 1 <= a) (ep : ps[a - 1]? = some (.leaf x)) : F_with_last (d + 1) [.ref p, .int a, .int L] h = .ok (.int L) h := by
  simp [F_with_last, S_with_last, S.ob, zbn S a1 ep, i0L, eqL, -fIx, -fEq]
theorem wl_2 {h h1 : AH} {p : Nat} {ps : List Pc} {a d c e : Nat} {L v : Int} (S : ShelfAt h p ps) (a1 : 1 <= a) (ep : ps[a - 1]? = some (.fork c e)) (ev : F_with_last d [.ref p, .int e, .int L] h = .ok (.int v) h1) :
    F_with_last (d + 1) [.ref p, .int a, .int L] h = F_Shelf_fork [.ref p, .int c, .int v] h1 := by
  generalize hF : F_Shelf_fork [.ref p, .int c, .int v] h1 = R
  simp [F_with_last, S_with_last, S.ob, zaA S a1 ep, i0F, i1, i2, eqF, ev, hF, -fIx, -fEq]
  cases R <;> rfl
theorem zbo {ps : List Pc} {n : Nat} {m : Ms} {x : Str} {f l : Ms} (T : Tx ps n m x f l) (e : m = lfMs x n) : f = m /\ l = m := by
  have h1 := T.ky.fl
  have h2 := T.ky.ll
  have h3 := T.ms
  rw [e] at h1 h2
  exact ⟨Option.some.inj (h1.symm.trans h3), Option.some.inj (h2.symm.trans h3)⟩
theorem zfg {p : Nat} : ∀ (d : Nat) {h : AH} {ps : List Pc} {a L : Nat} {m f l : Ms} {x w : Str} (S : ShelfAt h p ps) (g : Good ps) (T : Tx ps a m x f l) (N : Tx ps L (lfMs w L) w (lfMs w L) (lfMs w L)) (hw : l.sg <= w.length) (hm : m.sg + w.length <= 1000000000000000000 + l.sg) (hd : m.ht.toNat < d) (hz : ps.length + m.ht.toNat < 16000000),
    ∃ (n : Nat) (ps' : List Pc) (h' : AH) (m' f' : Ms) (u v : Str), Dn (F_with_last d [.ref p, .int a, .int L]) p h h' ps ps' m.ht.toNat n /\ x = u ++ v /\ v.length = l.sg /\ Tx ps' n m' (u ++ w) f' (lfMs w L) /\ m'.ht = m.ht /\ f.sg <= f'.sg
  | 0, h, ps, a, L, m, f, l, x, w, S, g, T, N, hw, hm, hd, hz => absurd hd (Nat.not_lt_zero _)
  | d + 1, h, ps, a, L, m, f, l, x, w, S, g, T, N, hw, hm, hd, hz => by
    by_cases q : 0 < m.ht
    . obtain ⟨c, e, mc, me, y1, y2, lc, fe, ep, C, E, rfl, em, w1, w2, w3⟩ := g.cut T q
      have sg := congrArg Ms.sg em
      have hh := congrArg Ms.ht em
      rw [fmS] at sg
      rw [fmH] at hh
      have c0 := C.ky.ht
      have e0 := E.ky.ht
      obtain ⟨n1, ps1, h1, m1, f1, u, v, d1, rfl, lv, T1, k1, k2⟩ := zfg d S g E N hw (by omega) (by omega) (by omega)
      have s1 : m1.sg + l.sg = me.sg + w.length := by rw [T1.ky.sg, E.ky.sg, zaq, zaq]; omega
      obtain ⟨n2, ps2, h2, d2, T2⟩ := zaw d1.dd.sh d1.dd.gd (C.pre d1.dd.pre) T1 (by omega) (by omega) (by omega) (by omega) (by have := d1.dd.len; omega)
      rw [<- zai] at T2
      exact ⟨n2, ps2, h2, _, f, y1 ++ u, v, Dn.seq' S g d1 d2 (fun hh hh1 pp S' _ pr ev => wl_2 S' T.n1 (pre_at pr ep) ev) (by omega), by rw [zai], lv, T2, by rw [fmH, k1, hh], Nat.le_refl _⟩
    . rcases g.kind T with ⟨e1, e2, e3, e4, e5⟩ | ⟨c, e, mc, me, y1, y2, fc, lc, fe, le, e1, e2, e3, C, E, e4, e5, e6⟩
      . obtain ⟨z1, z2⟩ := zbo T e3
        subst z1 z2
        have em : ("" : Str) ++ x = x := zao (by rw [zap]; rfl)
        have em2 : ("" : Str) ++ w = w := zao (by rw [zap]; rfl)
        have dv : Dn (F_with_last (d + 1) [.ref p, .int a, .int L]) p h h ps ps 0 L := Dn.val S g fun hh pp S' _ pr => wl_1 S' T.n1 (pre_at pr e1)
        refine ⟨L, ps, h, _, _, "", x, dv.as S g (fun _ _ _ _ _ => rfl) (Nat.zero_le _), em.symm, T.ky.sg.symm, by rw [em2]; exact N, e2.symm, hw⟩
      . have := congrArg Ms.ht e5
        rw [fmH] at this
        have c0 := C.ky.ht
        omega
theorem wf_1 {h : AH} {p : Nat} {ps : List Pc} {a d : Nat} {x : Str} (S : ShelfAt h p ps) (a1 : 1 <= a) (ep : ps[a - 1]? = some (.leaf x)) : F_without_first (d + 1) [.ref p, .int a] h = .ok (.int (0 : Nat)) h := by
  simp [F_without_first, S_without_first, S.ob, zbn S a1 ep, i0L, eqL, -fIx, -fEq]
theorem wf_2 {h h1 : AH} {p : Nat} {ps : List Pc} {a d c e : Nat} (S : ShelfAt h p ps) (a1 : 1 <= a) (ep : ps[a - 1]? = some (.fork c e)) (ev : F_without_first d [.ref p, .int c] h = .ok (.int (0 : Nat)) h1) :
    F_without_first (d + 1) [.ref p, .int a] h = .ok (.int e) h1 := by
  have z : fEq (.int 0) (.int 0) h1 = .ok (.bl true) h1 := by simp
  simp [F_without_first, S_without_first, S.ob, zaA S a1 ep, i0F, i1, i2, eqF, ev, z, -fIx, -fEq]
theorem wf_3 {h h1 : AH} {p : Nat} {ps : List Pc} {a d c e v : Nat} (S : ShelfAt h p ps) (a1 : 1 <= a) (ep : ps[a - 1]? = some (.fork c e)) (v1 : 1 <= v) (ev : F_without_first d [.ref p, .int c] h = .ok (.int v) h1) :
    F_without_first (d + 1) [.ref p, .int a] h = F_turned_left [.ref p, .int v, .int e] h1 := by
  have z : fEq (.int (v : Int)) (.int 0) h1 = .ok (.bl false) h1 := by
    have : ¬ (v = 0) := by omega
    simp [this]
  generalize hF : F_turned_left [.ref p, .int v, .int e] h1 = R
  simp [F_without_first, S_without_first, S.ob, zaA S a1 ep, i0F, i1, i2, eqF, ev, z, hF, -fIx, -fEq]
  cases R <;> rfl
end Sk

namespace Sk
open PySem PySem.Spec L2 Sm
theorem zd4 {p : Nat} : ∀ (d : Nat) {h : AH} {ps : List Pc} {a : Nat} {m f l : Ms} {x : Str} (S : ShelfAt h p ps) (g : Good ps) (T : Tx ps a m x f l) (hd : m.ht.toNat < d) (hz : ps.length + 3 * m.ht.toNat < 16000000),
    (m.ht = 0 /\ f.sg = x.length /\ Dn (F_without_first d [.ref p, .int a]) p h h ps ps 0 0) \/
    (0 < m.ht /\ ∃ (n : Nat) (ps' : List Pc) (h' : AH) (m' f2 : Ms) (u v : Str), Dn (F_without_first d [.ref p, .int a]) p h h' ps ps' (3 * m.ht.toNat) n /\ x = u ++ v /\ u.length = f.sg /\ Tx ps' n m' v f2 l /\ m.ht - 1 <= m'.ht /\ m'.ht <= m.ht /\ 8 < f.sg + f2.sg)
  | 0, h, ps, a, m, f, l, x, S, g, T, hd, hz => absurd hd (Nat.not_lt_zero _)
  | d + 1, h, ps, a, m, f, l, x, S, g, T, hd, hz => by
    by_cases q : 0 < m.ht
    . obtain ⟨c, e, mc, me, y1, y2, lc, fe, ep, C, E, rfl, em, w1, w2, w3⟩ := g.cut T q
      have sg := congrArg Ms.sg em
      have hh := congrArg Ms.ht em
      rw [fmS] at sg
      rw [fmH] at hh
      have c0 := C.ky.ht
      have e0 := E.ky.ht
      have most := T.ky.most
      refine .inr ⟨q, ?_⟩
      rcases zd4 d S g C (by omega) (by omega) with ⟨k1, k2, d1⟩ | ⟨k1, n1, ps1, h1, m1, f2, u, v, d1, rfl, lu, T1, r1, r2, r3⟩
      . rcases g.kind C with ⟨e1, e2, e3, e4, e5⟩ | ⟨_, _, mx, my, _, _, _, _, _, _, _, _, _, X, Y, _, e5, _⟩
        . obtain ⟨z1, z2⟩ := zbo C e3
          have dv : Dn (F_without_first (d + 1) [.ref p, .int a]) p h h ps ps 0 e := by
            refine ⟨wf_2 S T.n1 ep d1.ev, Dd.refl S g, fun h3 ps3 S3 g3 p3 => wf_2 S3 T.n1 (pre_at p3 ep) (d1.re h3 ps3 S3 g3 p3)⟩
          exact ⟨e, ps, h, me, fe, y1, y2, dv.as S g (fun _ _ _ _ _ => rfl) (Nat.zero_le _), rfl, k2.symm, E, by omega, by omega, by rw [z1]; rw [z2] at w3; exact w3⟩
        . have := congrArg Ms.ht e5
          rw [fmH] at this
          have := X.ky.ht
          omega
      . have s1 : m1.sg + f.sg = mc.sg := by rw [T1.ky.sg, C.ky.sg, zaq]; omega
        obtain ⟨n2, ps2, h2, m2, d2, T2, u3, u4, u5⟩ := zff d1.dd.sh d1.dd.gd T1 (E.pre d1.dd.pre) w3 (by omega) (by omega) (by omega) (by have := d1.dd.len; omega)
        refine ⟨n2, ps2, h2, m2, f2, u, v ++ y2, Dn.seq' S g d1 d2 (fun hh hh1 pp S' _ pr ev => wf_3 S' T.n1 (pre_at pr ep) T1.n1 ev) (by omega), by rw [zai], lu, T2, ?_, ?_, r3⟩
        . omega
        . omega
    . rcases g.kind T with ⟨e1, e2, e3, e4, e5⟩ | ⟨_, _, mx, my, _, _, _, _, _, _, _, _, _, X, Y, _, e5, _⟩
      . obtain ⟨z1, z2⟩ := zbo T e3
        exact .inl ⟨e2, by rw [z1]; exact T.ky.sg, Dn.val S g fun hh pp S' _ pr => wf_1 S' T.n1 (pre_at pr e1)⟩
      . have := congrArg Ms.ht e5
        rw [fmH] at this
        have := X.ky.ht
        omega
theorem Good.ends {ps : List Pc} (g : Good ps) : ∀ (k n : Nat) {m f l : Ms} {x : Str}, n <= k -> Tx ps n m x f l ->
    (∃ w u : Str, 1 <= m.fl /\ ps[m.fl - 1]? = some (.leaf w) /\ x = w ++ u /\ w.length = f.sg) /\ (∃ w u : Str, 1 <= m.ll /\ ps[m.ll - 1]? = some (.leaf w) /\ x = u ++ w /\ w.length = l.sg)
  | 0, n, m, f, l, x, hn, T => absurd T.n1 (by omega)
  | k + 1, n, m, f, l, x, hn, T => by
    rcases g.kind T with ⟨e1, e2, e3, e4, e5⟩ | ⟨a, b, ma, mb, y, z, fa, la, fb, lb, e1, e2, e3, A, B, rfl, e5, e6⟩
    . obtain ⟨z1, z2⟩ := zbo T e3
      have em : ("" : Str) ++ x = x := zao (by rw [zap]; rfl)
      have em2 : x ++ ("" : Str) = x := zao (by rw [zap]; simp; rfl)
      have hf : m.fl = n := by rw [e3]; rfl
      have hl : m.ll = n := by rw [e3]; rfl
      have hx := T.ky.sg
      refine ⟨⟨x, "", by rw [hf]; exact T.n1, by rw [hf]; exact e1, em2.symm, by rw [z1]; exact hx.symm⟩, ⟨x, "", by rw [hl]; exact T.n1, by rw [hl]; exact e1, em.symm, by rw [z2]; exact hx.symm⟩⟩
    . have q1 := g.ends k a (by omega) A
      have q2 := g.ends k b (by omega) B
      obtain ⟨⟨w, u, a1, a2, rfl, a4⟩, _⟩ := q1
      obtain ⟨_, ⟨w2, u2, b1, b2, rfl, b4⟩⟩ := q2
      have f1 := T.ky.fl
      have l1 := T.ky.ll
      have hf : m.fl = ma.fl := by rw [e5]; rfl
      have hl : m.ll = mb.ll := by rw [e5]; rfl
      rw [hf] at f1
      rw [hl] at l1
      have z5 := f1.symm.trans A.ky.fl; cases z5
      have z6 := l1.symm.trans B.ky.ll; cases z6
      rw [hf, hl]
      exact ⟨⟨w, u ++ (u2 ++ w2), a1, a2, by rw [zai], a4⟩, ⟨w2, w ++ u ++ u2, b1, b2, by rw [zai (w ++ u)], b4⟩⟩
theorem zfh {a b c d : Str} (e : a ++ b = c ++ d) (h : a.length = c.length) : a = c /\ b = d := by
  have := congrArg (fun z : Str => z.cps.toList) e
  simp only [zap] at this
  obtain ⟨h1, h2⟩ := List.append_inj this (by rw [<- zae, <- zae]; exact h)
  exact ⟨zao h1, zao h2⟩
theorem zhi {a b c d : Str} (e : a ++ b = c ++ d) (h : b.length = d.length) : a = c /\ b = d := by
  refine zfh e ?_
  have := congrArg Str.length e
  rw [zaq, zaq] at this
  omega
theorem zim {h : AH} {p : Nat} {ps : List Pc} {a b : Nat} {ma mb la fb : Ms} (S : ShelfAt h p ps) (ea : (meas ps)[a]? = some ma) (eb : (meas ps)[b]? = some mb) (el : (meas ps)[ma.ll]? = some la) (ef : (meas ps)[mb.fl]? = some fb) :
    F_are_close [.ref p, .int a, .int b] h = .ok (.bl (decide (8 < la.sg + fb.sg))) h := by
  have e1 := f_last S ea
  have e2 := zfc S eb
  have e3 := zaC S el
  have e4 := zaC S ef
  have : decide ((8 : Int) < (la.sg : Int) + fb.sg) = decide (8 < la.sg + fb.sg) := by apply decide_eq_decide.mpr; omega
  simp [F_are_close, S.ob, e1, e2, e3, e4, this]
theorem zhj {w v : Str} (hw : w.length + v.length <= 100) (h : AH) : fAdd (.str w) (.str v) h = .ok (.str (w ++ v)) h := by
  have : w.length + v.length <= sizeLine := Nat.le_trans hw (by decide)
  simp [fAdd, this]
theorem wd_1 {h h1 h2 h3 : AH} {p : Nat} {ps : List Pc} {a b : Nat} {L n k : Int} {ma mb : Ms} {w v : Str} (S : ShelfAt h p ps) (ea : (meas ps)[a]? = some ma) (eb : (meas ps)[b]? = some mb) (l1 : 1 <= ma.ll) (f1 : 1 <= mb.fl) (el : ps[ma.ll - 1]? = some (.leaf w)) (ef : ps[mb.fl - 1]? = some (.leaf v)) (hw : w.length + v.length <= 100)
    (e1 : F_Shelf_leaf [.ref p, .str (w ++ v)] h = .ok (.int L) h1) (e2 : F_with_last 90 [.ref p, .int a, .int L] h1 = .ok (.int n) h2) (e3 : F_without_first 90 [.ref p, .int b] h2 = .ok (.int k) h3) :
    F_welded [.ref p, .int a, .int b] h = if k = 0 then .ok (.int n) h3 else F_linked 90 [.ref p, .int n, .int k] h3 := by
  have q1 := f_last S ea
  have q2 := zfc S eb
  have q3 := zbn S l1 el
  have q4 := zbn S f1 ef
  have ad := zhj hw h
  unfold F_welded
  generalize F_with_last 90 = WL at *
  generalize F_without_first 90 = WF at *
  generalize hF : F_linked 90 = LK at *
  by_cases z : k = 0
  . subst z
    have zz : fEq (.int 0) (.int 0) h3 = .ok (.bl true) h3 := by simp
    simp [S.ob, q1, q2, q3, q4, i1L, ad, e1, e2, e3, zz, -fIx, -fEq, -fAdd]
  . have zz : fEq (.int k) (.int 0) h3 = .ok (.bl false) h3 := by simp [z]
    rw [if_neg z]
    generalize hR : LK [.ref p, .int n, .int k] h3 = R
    simp [S.ob, q1, q2, q3, q4, i1L, ad, e1, e2, e3, zz, hR, -fIx, -fEq, -fAdd]
    cases R <;> rfl
end Sk

namespace Sk
open PySem PySem.Spec L2 Sm
theorem zgu {w v : Str} (h1 : 1 <= w.length) (h2 : w.length + v.length <= 8) (pw : plainS w = true) (pv : plainS v = true) : shortS (w ++ v) = true := by
  unfold shortS
  rw [zaM, zaq, pw, pv]
  simp; omega
theorem zhk {h : AH} {p : Nat} {ps : List Pc} {a b : Nat} {ma mb fa la fb lb : Ms} {x y : Str} (S : ShelfAt h p ps) (g : Good ps) (A : Tx ps a ma x fa la) (B : Tx ps b mb y fb lb) (hc : ¬ 8 < la.sg + fb.sg) (hm : ma.sg + mb.sg <= 1000000000000000000) (hz : ps.length < 15000000) :
    ∃ (n : Nat) (ps' : List Pc) (h' : AH) (m f l : Ms), Dn (F_welded [.ref p, .int a, .int b]) p h h' ps ps' (7 * (max ma.ht mb.ht).toNat + 2) n /\ Tx ps' n m (x ++ y) f l /\ m.ht <= max ma.ht mb.ht + 1 := by
  obtain ⟨_, w, u, l1, el, ex, lw⟩ := g.ends a a (Nat.le_refl _) A
  obtain ⟨⟨v, t, f1, ef, ey, lv⟩, _⟩ := g.ends b b (Nat.le_refl _) B
  have a0 := A.ky.ht
  have b0 := B.ky.ht
  have ha := ht82 g A
  have hb := ht82 g B
  have px : plainS x = true := A.ky.pl
  have py : plainS y = true := B.ky.pl
  have pw : plainS w = true := by rw [ex, zaM, Bool.and_eq_true] at px; exact px.2
  have pv : plainS v = true := by rw [ey, zaM, Bool.and_eq_true] at py; exact py.1
  have la1 := A.ky.l1
  have fb1 := B.ky.f1
  have sx := A.ky.sg
  have sy := B.ky.sg
  have lx : x.length = u.length + w.length := by rw [ex, zaq]
  have ly : y.length = v.length + t.length := by rw [ey, zaq]
  have lwv : (w ++ v).length = w.length + v.length := zaq w v
  obtain ⟨L, ps1, h1, d1, N⟩ := zfd S g (zgu (w := w) (v := v) (by omega) (by omega) pw pv) (by omega)
  have z1 := d1.dd.len
  obtain ⟨n2, ps2, h2, m2, f2, u2, v2, d2, ex2, lv2, T2, k1, k2⟩ := zfg 90 d1.dd.sh d1.dd.gd (A.pre d1.dd.pre) N (by omega) (by omega) (by omega) (by omega)
  have z2 := d2.dd.len
  obtain ⟨rfl, rfl⟩ : u = u2 /\ w = v2 := zhi (ex.symm.trans ex2) (by omega)
  have s2 : m2.sg = u.length + (w.length + v.length) := by rw [T2.ky.sg, zaq, zaq]
  have p12 := d1.dd.pre.trans d2.dd.pre
  have lm : (lfMs (w ++ v) L).sg = w.length + v.length := zaq w v
  have tb : ∀ q : Int, 0 <= q -> q <= max ma.ht mb.ht -> q.toNat <= (max ma.ht mb.ht).toNat := fun q _ _ => by omega
  rcases zd4 90 d2.dd.sh d2.dd.gd (B.pre p12) (by omega) (by omega) with ⟨r1, r2, d3⟩ | ⟨r1, n3, ps3, h3, m3, f3, u3, v3, d3, ey3, lu3, T3, r2, r3, r4⟩
  . have t0 : t.length = 0 := by omega
    have te : t = "" := zao (by rw [zae] at t0; rw [List.length_eq_zero_iff.mp t0]; rfl)
    have rd : u ++ (w ++ v) = x ++ y := by
      rw [ex, ey, te, zai]
      congr 2
    rw [rd] at T2
    refine ⟨n2, ps2, h2, m2, f2, _, ⟨?_, d1.dd.trans d2.dd (by omega), fun h4 ps4 S4 g4 p4 => ?_⟩, T2, by omega⟩
    . rw [wd_1 S A.ms B.ms l1 f1 el ef (by omega) d1.ev d2.ev d3.ev]; rfl
    . have q1 := d1.re h4 ps4 S4 g4 (d2.dd.pre.trans p4)
      have q2 := d2.re h4 ps4 S4 g4 p4
      have q3 := d3.re h4 ps4 S4 g4 p4
      rw [wd_1 S4 (zac (p12.trans p4) A.ms) (zac (p12.trans p4) B.ms) l1 f1 (pre_at (p12.trans p4) el) (pre_at (p12.trans p4) ef) (by omega) q1 q2 q3]; rfl
  . obtain ⟨rfl, rfl⟩ : v = u3 /\ t = v3 := zfh (ey.symm.trans ey3) (by omega)
    have z3 := d3.dd.len
    have s3 : m3.sg = t.length := T3.ky.sg
    have m30 := T3.ky.ht
    obtain ⟨n4, ps4, h4, m4, d4, T4, r5, r6⟩ := zbC 90 (max ma.ht mb.ht).toNat d3.dd.sh d3.dd.gd (T2.pre d3.dd.pre) T3 (by omega) (by omega) (by omega) (by omega) (by omega)
    have rd : (u ++ (w ++ v)) ++ t = x ++ y := by rw [ex, ey, zai, zai, zai]
    rw [rd] at T4
    have n3z : ¬ (n3 : Int) = 0 := by have := T3.n1; omega
    have p123 := p12.trans d3.dd.pre
    refine ⟨n4, ps4, h4, m4, f2, lb, ⟨?_, ((d1.dd.trans d2.dd (Nat.le_refl _)).trans d3.dd (Nat.le_refl _)).trans d4.dd (by omega), fun h5 ps5 S5 g5 p5 => ?_⟩, T4, by omega⟩
    . rw [wd_1 S A.ms B.ms l1 f1 el ef (by omega) d1.ev d2.ev d3.ev, if_neg n3z]; exact d4.ev
    . have p45 := d4.dd.pre.trans p5
      have q1 := d1.re h5 ps5 S5 g5 (d2.dd.pre.trans (d3.dd.pre.trans p45))
      have q2 := d2.re h5 ps5 S5 g5 (d3.dd.pre.trans p45)
      have q3 := d3.re h5 ps5 S5 g5 p45
      have q4 := d4.re h5 ps5 S5 g5 p5
      have pa := p123.trans p45
      rw [wd_1 S5 (zac pa A.ms) (zac pa B.ms) l1 f1 (pre_at pa el) (pre_at pa ef) (by omega) q1 q2 q3, if_neg n3z]; exact q4
def TxZ (ps : List Pc) (n : Nat) (y : Str) : Prop := (n = 0 /\ y = "") \/ ∃ m f l, Tx ps n m y f l
theorem TxZ.pre {ps ps' : List Pc} {n : Nat} {y : Str} (t : TxZ ps n y) (h : ps <+: ps') : TxZ ps' n y := by
  rcases t with t | ⟨m, f, l, t⟩
  . exact .inl t
  . exact .inr ⟨m, f, l, t.pre h⟩
theorem zbd (ps : List Pc) : (meas ps)[0]? = some ms0 := by
  obtain ⟨r, e, _⟩ := za2 newMs ps [ms0]
  rw [meas, e]; rfl
def htOf (ps : List Pc) (n : Nat) : Int := ((meas ps).getD n ms0).ht
theorem ht_of {ps : List Pc} {n : Nat} {m : Ms} (e : (meas ps)[n]? = some m) : htOf ps n = m.ht := by unfold htOf; rw [zaR e]
theorem zin (ps : List Pc) : htOf ps 0 = -1 := ht_of (zbd ps)
theorem zaV {i : Int} (hi : i <= 1000000000000000000) (h : AH) : F_check_length [.int i] h = .ok .non h := by
  have : ¬ (1000000000000000000 : Int) < i := by omega
  simp [F_check_length, this]
theorem jn_0 {h : AH} {p : Nat} {ps : List Pc} {b : Nat} {mb : Ms} (S : ShelfAt h p ps) (eb : (meas ps)[b]? = some mb) (hm : mb.sg <= 1000000000000000000) : F_joined [.ref p, .int (0 : Nat), .int b] h = .ok (.int b) h := by
  have e1 := zaC S (zbd ps)
  have e2 := zaC S eb
  have z : ms0.sg = 0 := rfl
  rw [z] at e1
  have e1' : F_Shelf_signs [.ref p, .int 0] h = .ok (.int 0) h := e1
  have ck := zaV (i := (0 : Int) + mb.sg) (by omega) h
  have zz : fEq (.int 0) (.int 0) h = .ok (.bl true) h := by simp
  have ad : fAdd (.int 0) (.int mb.sg) h = .ok (.int (0 + mb.sg)) h := rfl
  simp [F_joined, S.ob, e1', e2, ad, ck, zz, -fEq, -fAdd, -Int.zero_add]
theorem jn_1 {h : AH} {p : Nat} {ps : List Pc} {a : Nat} {ma : Ms} (S : ShelfAt h p ps) (a1 : 1 <= a) (ea : (meas ps)[a]? = some ma) (hm : ma.sg <= 1000000000000000000) : F_joined [.ref p, .int a, .int (0 : Nat)] h = .ok (.int a) h := by
  have e1 := zaC S (zbd ps)
  have e2 := zaC S ea
  have z : ms0.sg = 0 := rfl
  rw [z] at e1
  have e1' : F_Shelf_signs [.ref p, .int 0] h = .ok (.int 0) h := e1
  have ck := zaV (i := (ma.sg : Int) + 0) (by omega) h
  have zz : fEq (.int 0) (.int 0) h = .ok (.bl true) h := by simp
  have z2 : fEq (.int a) (.int 0) h = .ok (.bl false) h := by
    have : ¬ a = 0 := by omega
    simp [this]
  have ad : fAdd (.int ma.sg) (.int 0) h = .ok (.int (ma.sg + 0)) h := rfl
  simp [F_joined, S.ob, e1', e2, ad, ck, zz, z2, -fEq, -fAdd, -Int.add_zero]
theorem jn_2 {h : AH} {p : Nat} {ps : List Pc} {a b : Nat} {ma mb la fb : Ms} (S : ShelfAt h p ps) (a1 : 1 <= a) (b1 : 1 <= b) (ea : (meas ps)[a]? = some ma) (eb : (meas ps)[b]? = some mb) (el : (meas ps)[ma.ll]? = some la) (ef : (meas ps)[mb.fl]? = some fb) (hm : ma.sg + mb.sg <= 1000000000000000000) :
    F_joined [.ref p, .int a, .int b] h = if 8 < la.sg + fb.sg then F_linked 90 [.ref p, .int a, .int b] h else F_welded [.ref p, .int a, .int b] h := by
  have e1 := zaC S ea
  have e2 := zaC S eb
  have cl := zim S ea eb el ef
  have ck := zaV (i := (ma.sg : Int) + mb.sg) (by omega) h
  have z1 : fEq (.int a) (.int 0) h = .ok (.bl false) h := by
    have : ¬ a = 0 := by omega
    simp [this]
  have z2 : fEq (.int b) (.int 0) h = .ok (.bl false) h := by
    have : ¬ b = 0 := by omega
    simp [this]
  have ad : fAdd (.int ma.sg) (.int mb.sg) h = .ok (.int (ma.sg + mb.sg)) h := rfl
  unfold F_joined
  generalize F_linked 90 = LK at *
  by_cases q : 8 < la.sg + fb.sg
  . rw [if_pos q]
    generalize hR : LK [.ref p, .int a, .int b] h = R
    simp [S.ob, e1, e2, ad, ck, z1, z2, cl, q, hR, -fEq, -fAdd]
    cases R <;> rfl
  . rw [if_neg q]
    generalize hR : F_welded [.ref p, .int a, .int b] h = R
    simp [S.ob, e1, e2, ad, ck, z1, z2, cl, q, hR, -fEq, -fAdd]
    cases R <;> rfl
theorem TxZ.meas {ps : List Pc} {n : Nat} {y : Str} (t : TxZ ps n y) : ∃ m, (meas ps)[n]? = some m /\ m.sg = y.length := by
  rcases t with ⟨rfl, rfl⟩ | ⟨m, f, l, T⟩
  . exact ⟨ms0, zbd ps, rfl⟩
  . exact ⟨m, T.ms, T.ky.sg⟩
theorem zcy {h : AH} {p : Nat} {ps : List Pc} {a b : Nat} {x y : Str} (S : ShelfAt h p ps) (g : Good ps) (A : TxZ ps a x) (B : TxZ ps b y) (hm : x.length + y.length <= 1000000000000000000) (hz : ps.length < 15000000) :
    ∃ (n : Nat) (ps' : List Pc) (h' : AH), Dn (F_joined [.ref p, .int a, .int b]) p h h' ps ps' (16 * (max (htOf ps a) (htOf ps b) + 1).toNat) n /\ TxZ ps' n (x ++ y) := by
  rcases A with ⟨rfl, rfl⟩ | ⟨ma, fa, la, A⟩
  . obtain ⟨mb, eb, sb⟩ := B.meas
    have em : ("" : Str) ++ y = y := zao (by rw [zap]; rfl)
    have dv : Dn (F_joined [.ref p, .int (0 : Nat), .int b]) p h h ps ps 0 b := Dn.val S g fun hh pp S' _ pr => jn_0 S' (zac pr eb) (by rw [sb]; omega)
    exact ⟨b, ps, h, dv.as S g (fun _ _ _ _ _ => rfl) (Nat.zero_le _), by rw [em]; exact B⟩
  . rcases B with ⟨rfl, rfl⟩ | ⟨mb, fb, lb, B⟩
    . have em : x ++ ("" : Str) = x := zao (by rw [zap]; simp; rfl)
      have dv : Dn (F_joined [.ref p, .int a, .int (0 : Nat)]) p h h ps ps 0 a := Dn.val S g fun hh pp S' _ pr => jn_1 S' A.n1 (zac pr A.ms) A.ky.most
      exact ⟨a, ps, h, dv.as S g (fun _ _ _ _ _ => rfl) (Nat.zero_le _), by rw [em]; exact .inr ⟨_, _, _, A⟩⟩
    . have sa := A.ky.sg
      have sb := B.ky.sg
      have a0 := A.ky.ht
      have b0 := B.ky.ht
      have ha := ht82 g A
      have hb := ht82 g B
      rw [ht_of A.ms, ht_of B.ms]
      by_cases q : 8 < la.sg + fb.sg
      . obtain ⟨n, ps', h', m, d, T, _⟩ := zbC 90 (max ma.ht mb.ht).toNat S g A B q (by omega) (by omega) (by omega) (by omega)
        exact ⟨n, ps', h', d.as S g (fun hh pp S' _ pr => by rw [jn_2 S' A.n1 B.n1 (zac pr A.ms) (zac pr B.ms) (zac pr A.ky.ll) (zac pr B.ky.fl) (by omega), if_pos q]) (by omega), .inr ⟨_, _, _, T⟩⟩
      . obtain ⟨n, ps', h', m, f, l, d, T, _⟩ := zhk S g A B q (by omega) hz
        exact ⟨n, ps', h', d.as S g (fun hh pp S' _ pr => by rw [jn_2 S' A.n1 B.n1 (zac pr A.ms) (zac pr B.ms) (zac pr A.ky.ll) (zac pr B.ky.fl) (by omega), if_neg q]) (by omega), .inr ⟨_, _, _, T⟩⟩
end Sk

namespace Sk
open PySem PySem.Spec L2 Sm
theorem zio {b e : Nat} {y : Str} (be : b <= e) : (cutS y (some (b : Int)) (some (e : Int))).cps.toList = (y.cps.toList.drop b).take (e - b) := by
  unfold cutS
  rw [HT.sIx_nat, HT.sIx_nat]
  generalize y.cps.toList = l
  show (l.drop (min b l.length)).take (min e l.length - min b l.length) = _
  apply List.ext_getElem?
  intro i
  rw [List.getElem?_take, List.getElem?_take, List.getElem?_drop, List.getElem?_drop]
  by_cases q : b <= l.length
  . rw [Nat.min_eq_left q]
    by_cases c1 : i < e - b
    . rw [if_pos c1]
      by_cases c2 : i < min e l.length - b
      . rw [if_pos c2]
      . rw [if_neg c2, List.getElem?_eq_none (by omega)]
    . rw [if_neg c1, if_neg (by omega)]
  . rw [if_neg (by omega), List.getElem?_eq_none (l := l) (i := b + i) (by omega)]
    split <;> rfl
def cat : List Str -> Str
  | [] => ""
  | w :: ws => w ++ cat ws
theorem zc7 : ∀ as bs : List Str, cat (as ++ bs) = cat as ++ cat bs
  | [], bs => (zao (by rw [zap]; rfl) : cat bs = ("" : Str) ++ cat bs)
  | w :: as, bs => by
    show w ++ cat (as ++ bs) = (w ++ cat as) ++ cat bs
    rw [zc7 as bs, zai]
theorem zfi (w : Str) : cat [w] = w := zao (by show (w ++ ("" : Str)).cps.toList = _; rw [zap]; simp; rfl)
def LS (ps : List Pc) (ns : List Nat) (ws : List Str) : Prop := ns.length = ws.length /\ ∀ (i n : Nat) (w : Str), ns[i]? = some n -> ws[i]? = some w -> Tx ps n (lfMs w n) w (lfMs w n) (lfMs w n)
theorem LS.pre {ps ps' : List Pc} {ns : List Nat} {ws : List Str} (s : LS ps ns ws) (h : ps <+: ps') : LS ps' ns ws := ⟨s.1, fun i n w a b => (s.2 i n w a b).pre h⟩
theorem LS.take {ps : List Pc} {ns : List Nat} {ws : List Str} (s : LS ps ns ws) (k : Nat) : LS ps (ns.take k) (ws.take k) := by
  refine ⟨by simp [s.1], fun i n w a b => ?_⟩
  rw [List.getElem?_take] at a b
  by_cases q : i < k
  . rw [if_pos q] at a b; exact s.2 i n w a b
  . rw [if_neg q] at a; cases a
theorem LS.drop {ps : List Pc} {ns : List Nat} {ws : List Str} (s : LS ps ns ws) (k : Nat) : LS ps (ns.drop k) (ws.drop k) := by
  refine ⟨by simp [s.1], fun i n w a b => ?_⟩
  rw [List.getElem?_drop] at a b
  exact s.2 _ n w a b
abbrev ivs (ns : List Nat) : List AV := ns.map fun n : Nat => AV.int (n : Int)
theorem hv_1 {h : AH} {p d n : Nat} : F_halved (d + 1) [.ref p, .fl (ivs [n])] h = .ok (.int n) h := by
  have ix : fIx (.fl [.int (n : Int)]) (.int 0) h = .ok (.int n) h := rfl
  simp [F_halved, S_halved, ix, -fIx]
theorem zgv {α : Type} (l : List α) {k : Nat} (hk : k <= l.length) : cutA l none (some (k : Int)) = l.take k := by
  unfold cutA
  rw [HT.sIx_nat, HT.sIx_none, Nat.min_eq_left hk]; simp
theorem zgw {α : Type} (l : List α) {k : Nat} (hk : k <= l.length) : cutA l (some (k : Int)) none = l.drop k := by
  unfold cutA
  rw [HT.sIx_nat, HT.sIx_none, Nat.min_eq_left hk, List.take_of_length_le (by simp)]
theorem hv_2 {h h1 h2 : AH} {p d : Nat} {ps : List Pc} {ns : List Nat} {v1 v2 : Int} (S : ShelfAt h p ps) (hl : 2 <= ns.length) (e1 : F_halved d [.ref p, .fl (ivs (ns.take (ns.length / 2)))] h = .ok (.int v1) h1) (e2 : F_halved d [.ref p, .fl (ivs (ns.drop (ns.length / 2)))] h1 = .ok (.int v2) h2) :
    F_halved (d + 1) [.ref p, .fl (ivs ns)] h = F_Shelf_fork [.ref p, .int v1, .int v2] h2 := by
  have hh : ns.length / 2 <= ns.length := Nat.div_le_self _ _
  have ln : fLen [.fl (ivs ns)] h = .ok (.int ns.length) h := by simp [fLen]
  have q : fEq (.int ns.length) (.int 1) h = .ok (.bl false) h := by
    have : ¬ (ns.length : Int) = 1 := by omega
    simp [this]
  have dv : fDiv (.int ns.length) (.int 2) h = .ok (.int (ns.length / 2 : Nat)) h := rfl
  have c1 : cutOf (.fl (ivs ns)) none (some (ns.length / 2 : Nat)) h = .ok (.fl (ivs (ns.take (ns.length / 2)))) h := by
    have := zgv (ivs ns) (k := ns.length / 2) (by simpa using hh)
    simp only [cutOf, this, ivs, List.map_take]
  have c2 : ∀ h, cutOf (.fl (ivs ns)) (some (ns.length / 2 : Nat)) none h = .ok (.fl (ivs (ns.drop (ns.length / 2)))) h := fun h => by
    have := zgw (ivs ns) (k := ns.length / 2) (by simpa using hh)
    simp only [cutOf, this, ivs, List.map_drop]
  generalize hF : F_Shelf_fork [.ref p, .int v1, .int v2] h2 = R
  unfold F_halved S_halved
  generalize ivs ns = Z at *
  generalize ivs (ns.take (ns.length / 2)) = Z1 at *
  generalize ivs (ns.drop (ns.length / 2)) = Z2 at *
  generalize ((ns.length / 2 : Nat) : Int) = M at *
  generalize (ns.length : Int) = K at *
  simp [S.ob, ln, q, dv, c1, c2, e1, e2, hF, -fLen, -fEq, -fDiv, -cutOf]
  cases R <;> rfl
theorem pw1 {a b ha hb : Nat} (ab : b <= a + 1) (h1 : a <= 2 ^ ha) (h2 : hb = 0 \/ 2 ^ (hb - 1) < b) : hb <= ha + 1 := by
  rcases h2 with h2 | h2
  . omega
  . have : 2 ^ (hb - 1) <= 2 ^ ha := by omega
    have := (Nat.pow_le_pow_iff_right (a := 2) (by decide)).mp this
    omega
theorem pw2 {a b ha hb : Nat} (ab : a <= b) (h1 : b <= 2 ^ hb) (h2 : ha = 0 \/ 2 ^ (ha - 1) < a) : ha <= hb := by
  rcases h2 with h2 | h2
  . omega
  . have : 2 ^ (ha - 1) < 2 ^ hb := by omega
    have := (Nat.pow_lt_pow_iff_right (a := 2) (by decide)).mp this
    omega
theorem pw3 {k b hb : Nat} (h1 : k <= 2 * b) (h2 : 2 * b <= k + 1) (h3 : 2 <= k) (h4 : b <= 2 ^ hb) (h5 : hb = 0 \/ 2 ^ (hb - 1) < b) : k <= 2 ^ (hb + 1) /\ 2 ^ (hb + 1 - 1) < k := by
  rw [Nat.pow_succ, Nat.add_sub_cancel]
  refine ⟨by omega, ?_⟩
  rcases h5 with h5 | h5
  . subst h5; simp; omega
  . cases hb with
    | zero => simp; omega
    | succ n =>
      rw [Nat.add_sub_cancel] at h5
      rw [Nat.pow_succ]; omega
theorem pw4 {k e : Nat} (h : k <= 2 ^ (e + 1)) : k / 2 <= 2 ^ e /\ k - k / 2 <= 2 ^ e := by rw [Nat.pow_succ] at h; omega
theorem zcz {p : Nat} : ∀ (d e : Nat) {h : AH} {ps : List Pc} {ns : List Nat} {ws : List Str}, ShelfAt h p ps -> Good ps -> LS ps ns ws -> 1 <= ns.length -> ns.length <= 2 ^ e -> e < d -> (∀ (i : Nat) (w : Str), ws[i]? = some w -> i + 1 < ws.length -> w.length = 8) -> ps.length + ns.length < 16000000 -> ns.length <= 10000 ->
    ∃ (n : Nat) (ps' : List Pc) (h' : AH) (m f l : Ms) (H : Nat), F_halved d [.ref p, .fl (ivs ns)] h = .ok (.int n) h' /\ Dd p h h' ps ps' (ns.length - 1) /\ Tx ps' n m (cat ws) f l /\ m.ht = H /\ ns.length <= 2 ^ H /\ (H = 0 \/ 2 ^ (H - 1) < ns.length) /\ ((∀ w ∈ ws, w.length = 8) -> l.sg = 8) /\ m.sg <= 8 * ns.length
  | 0, e, h, ps, ns, ws, S, g, LL, h1, h2, h3, h4, h5, h6 => absurd h3 (Nat.not_lt_zero _)
  | d + 1, e, h, ps, ns, ws, S, g, LL, h1, h2, h3, h4, h5, h6 => by
    by_cases q : ns.length = 1
    . obtain ⟨n, rfl⟩ : ∃ n, ns = [n] := List.length_eq_one_iff.mp q
      obtain ⟨w, rfl⟩ : ∃ w, ws = [w] := List.length_eq_one_iff.mp (LL.1.symm.trans q)
      have T := LL.2 0 n w rfl rfl
      refine ⟨n, ps, h, _, _, _, 0, hv_1, { Dd.refl S g with len := by omega }, by rw [zfi]; exact T, rfl, by simp, .inl rfl, fun hw => hw w (by simp), ?_⟩
      have := T.ky.f8
      simpa using this
    . have hh : 2 <= ns.length := by omega
      obtain ⟨e', rfl⟩ : ∃ e', e = e' + 1 := by
        cases e with
        | zero => simp at h2; omega
        | succ e' => exact ⟨e', rfl⟩
      obtain ⟨w1, w2⟩ := pw4 h2
      have lt : (ns.take (ns.length / 2)).length = ns.length / 2 := by rw [List.length_take]; omega
      have ld : (ns.drop (ns.length / 2)).length = ns.length - ns.length / 2 := List.length_drop ..
      have lw := LL.1
      obtain ⟨n1, ps1, hh1, m1, f1, l1, H1, a1, a2, a3, a4, a5, a6, a7, a8⟩ := zcz d e' S g (LL.take (ns.length / 2)) (by omega) (by omega) (by omega) (fun i w ew hi => by
        rw [List.getElem?_take] at ew
        split at ew
        . rw [List.length_take] at hi; exact h4 i w ew (by omega)
        . cases ew) (by omega) (by omega)
      have z1 := a2.len
      obtain ⟨n2, ps2, hh2, m2, f2, l2, H2, b1, b2, b3, b4, b5, b6, b7, b8⟩ := zcz d e' a2.sh a2.gd ((LL.drop (ns.length / 2)).pre a2.pre) (by omega) (by omega) (by omega) (fun i w ew hi => by
        rw [List.getElem?_drop] at ew
        rw [List.length_drop] at hi
        exact h4 _ w ew (by omega)) (by omega) (by omega)
      have z2 := b2.len
      rw [lt] at a5 a6 a8
      rw [ld] at b5 b6 b8
      have g1 := pw1 (a := ns.length / 2) (b := ns.length - ns.length / 2) (by omega) a5 b6
      have g2 := pw2 (a := ns.length / 2) (b := ns.length - ns.length / 2) (by omega) b5 a6
      have l8 : l1.sg = 8 := a7 fun w hw => by
        obtain ⟨i, hi, ei⟩ := List.getElem_of_mem hw
        have hi' := hi
        rw [List.length_take] at hi'
        have : (ws.take (ns.length / 2))[i]? = some w := by rw [List.getElem?_eq_getElem hi, ei]
        rw [List.getElem?_take] at this
        split at this
        . exact h4 i w this (by omega)
        . cases this
      have f1' := b3.ky.f1
      obtain ⟨n3, ps3, hh3, d3, T3⟩ := zaw b2.sh b2.gd (a3.pre b2.pre) b3 (by omega) (by omega) (by omega) (by omega) (by omega)
      have rd : cat (ws.take (ns.length / 2)) ++ cat (ws.drop (ns.length / 2)) = cat ws := by rw [<- zc7, List.take_append_drop]
      rw [rd] at T3
      have hv := hv_2 S hh a1 b1
      obtain ⟨y1, y2⟩ := pw3 (k := ns.length) (b := ns.length - ns.length / 2) (by omega) (by omega) hh b5 b6
      refine ⟨n3, ps3, hh3, _, f1, l2, H2 + 1, hv.trans d3.ev, (a2.trans b2 (Nat.le_refl _)).trans d3.dd (by omega), T3, by rw [fmH, a4, b4]; omega, y1, .inr y2, fun hw => b7 fun w hm => hw w (List.mem_of_mem_drop hm), by rw [fmS]; omega⟩
end Sk

namespace Sk
open PySem PySem.Spec L2 Sm
def chunk (x : Str) (k : Nat) : Str := cutS x (some ((8 * k : Nat) : Int)) (some ((8 * k + 8 : Nat) : Int))
theorem zbT (x : Str) (k : Nat) : (chunk x k).cps.toList = (x.cps.toList.drop (8 * k)).take 8 := by
  unfold chunk
  rw [zio (by omega), show 8 * k + 8 - 8 * k = 8 by omega]
theorem zdw (x : Str) (k : Nat) : (chunk x k).length = min 8 (x.length - 8 * k) := by
  rw [zae, zbT, List.length_take, List.length_drop, <- zae]
theorem zen {x : Str} (px : plainS x = true) (k : Nat) : plainS (chunk x k) = true := by
  unfold plainS at *
  rw [zbT, List.all_eq_true]
  rw [List.all_eq_true] at px
  exact fun c hc => px c (List.mem_of_mem_drop (List.mem_of_mem_take hc))
theorem zcO (x : Str) : ∀ j, (cat ((List.range j).map (chunk x))).cps.toList = x.cps.toList.take (8 * j)
  | 0 => rfl
  | j + 1 => by
    rw [List.range_succ, List.map_append, zc7, zap, zcO x j]
    show _ ++ (cat [chunk x j]).cps.toList = _
    rw [zfi, zbT, show 8 * (j + 1) = 8 * j + 8 by omega, List.take_add]
theorem zdx {α : Type} {f : Nat -> α} {N i : Nat} {w : α} (e : ((List.range N).map f)[i]? = some w) : i < N /\ w = f i := by
  rw [List.getElem?_map] at e
  obtain ⟨j, ej, ew⟩ := Option.map_eq_some_iff.mp e
  have h1 := (List.getElem?_eq_some_iff.mp ej).1
  rw [List.length_range] at h1
  rw [List.getElem?_range h1] at ej
  cases ej
  exact ⟨h1, ew.symm⟩
theorem LS.snoc {ps ps' : List Pc} {ns : List Nat} {ws : List Str} {n : Nat} {w : Str} (s : LS ps ns ws) (h : ps <+: ps') (T : Tx ps' n (lfMs w n) w (lfMs w n) (lfMs w n)) : LS ps' (ns ++ [n]) (ws ++ [w]) := by
  have l := s.1
  refine ⟨by simp [s.1], fun i a b ea eb => ?_⟩
  by_cases q : i < ns.length
  . rw [List.getElem?_append_left q] at ea
    rw [List.getElem?_append_left (by omega)] at eb
    exact (s.2 i a b ea eb).pre h
  . have h1 := (List.getElem?_eq_some_iff.mp ea).1
    have hi : i = ns.length := by simp at h1; omega
    subst hi
    rw [List.getElem?_append_right (by omega)] at ea eb
    simp at ea
    rw [show ns.length - ws.length = 0 by omega] at eb
    simp at eb
    subst ea eb
    exact T
theorem zeo {h : AH} {p : Nat} {ps : List Pc} {x : Str} (S : ShelfAt h p ps) (g : Good ps) (px : plainS x = true) (N : Nat) (hN : 8 * N < x.length + 8) (hx : x.length <= 10000) (hz : ps.length + N < 16000000) (all : List AV) (js : List Nat) (en : En) (hj : js.map (fun j => (en[j]?).join) = [some (.ref p), some (.str x)]) :
    ∃ (ns : List Nat) (ps' : List Pc) (h' : AH), sCompGo js en none all sYes (sMeth 0 F_Shelf_leaf (sVar 1) (sCons (sCut (sVar 2) (some (sVar 0)) (some (sOp2 fAdd (sVar 0) (sLit (.int 8))))) sNil)) ((List.range N).map fun m : Nat => AV.int (0 + (m : Int) * 8)) [] h = .ok (ivs ns) h' /\ Dd p h h' ps ps' N /\ LS ps' ns ((List.range N).map (chunk x)) := by
  obtain ⟨zs, h', c1, ns, ps', e1, D, LL⟩ := comp_i (js := js) (en := en) (all := all) (e := sMeth 0 F_Shelf_leaf (sVar 1) (sCons (sCut (sVar 2) (some (sVar 0)) (some (sOp2 fAdd (sVar 0) (sLit (.int 8))))) sNil)) (xs := (List.range N).map fun m : Nat => AV.int (0 + (m : Int) * 8)) (h := h)
    (fun j ys h' => ∃ (ns : List Nat) (ps' : List Pc), ys = ivs ns /\ Dd p h h' ps ps' j /\ LS ps' ns ((List.range j).map (chunk x))) ⟨[], ps, rfl, Dd.refl S g, rfl, fun i n w a _ => by simp at a⟩ (by
      rintro j v ys h' hv ⟨ns, ps', rfl, D, LL⟩
      obtain ⟨jN, rfl⟩ := zdx hv
      have z := D.len
      have lc := zdw x j
      have sc : shortS (chunk x j) = true := by
        unfold shortS
        rw [zen px j, lc]
        simp; omega
      obtain ⟨n, ps2, h2, d2, T⟩ := zfd D.sh D.gd sc (by omega)
      have i1 : (0 : Int) + (j : Int) * 8 = ((8 * j : Nat) : Int) := by omega
      have i2 : ((8 * j : Nat) : Int) + 8 = ((8 * j + 8 : Nat) : Int) := by omega
      have ct : cutOf (.str x) (some ((8 * j : Nat) : Int)) (some ((8 * j + 8 : Nat) : Int)) h' = .ok (.str (chunk x j)) h' := rfl
      have ev := d2.ev
      rw [hj]
      have e : sMeth 0 F_Shelf_leaf (sVar 1) (sCons (sCut (sVar 2) (some (sVar 0)) (some (sOp2 fAdd (sVar 0) (sLit (.int 8))))) sNil) [some (.int (0 + (j : Int) * 8)), some (.ref p), some (.str x)] h' = .ok (.int n) h2 := by
        rw [i1]
        have ad : fAdd (.int ((8 * j : Nat) : Int)) (.int 8) h' = .ok (.int ((8 * j + 8 : Nat) : Int)) h' := by rw [<- i2]; rfl
        generalize ((8 * j : Nat) : Int) = B1 at *
        generalize ((8 * j + 8 : Nat) : Int) = B2 at *
        simp [D.sh.ob, ad, ct, ev, -fAdd, -cutOf]
      rw [e]
      refine ⟨ns ++ [n], ps2, by simp [ivs], D.trans d2.dd (by omega), ?_⟩
      rw [List.range_succ, List.map_append]
      exact LL.snoc d2.dd.pre T) (by simp; exact Nat.le_trans (show N <= 10000 by omega) (by decide))
  rw [List.length_map, List.length_range] at D LL
  exact ⟨ns, ps', h', by rw [c1, e1], D, LL⟩
theorem ziq {h : AH} {p : Nat} {ps : List Pc} {x : Str} (S : ShelfAt h p ps) (g : Good ps) (px : plainS x = true) (hx : x.length <= 10000) (hz : ps.length + 2 * x.length < 16000000) :
    ∃ (n : Nat) (ps' : List Pc) (h' : AH), F_built [.ref p, .str x] h = .ok (.int n) h' /\ Dd p h h' ps ps' (2 * x.length) /\ TxZ ps' n x := by
  have sl : x.length <= sizeLine := Nat.le_trans hx (by decide)
  have fp := ze6 x h sl
  rw [px] at fp
  have c1 : ¬ (10000 : Int) < x.length := by omega
  by_cases q : x.length = 0
  . have xe : x = "" := zao (by rw [zae] at q; rw [List.length_eq_zero_iff.mp q]; rfl)
    subst xe
    refine ⟨0, ps, h, ?_, { Dd.refl S g with len := by omega }, .inl ⟨rfl, rfl⟩⟩
    simp [F_built, fp, c1]
  . obtain ⟨N, eN⟩ : ∃ N, N = (x.length - 1) / 8 + 1 := ⟨_, rfl⟩
    obtain ⟨ns, ps1, h1, e1, D1, LL⟩ := zeo S g px N (by omega) hx (by omega) ((List.range N).map fun m : Nat => AV.int (0 + (m : Int) * 8)) [0, 1] [some (.ref p), some (.str x), none] rfl
    have z1 := D1.len
    have ln : ns.length = N := by rw [LL.1]; simp
    obtain ⟨n, ps2, h2, m, f, l, H, b1, b2, b3, _⟩ := zcz (p := p) 20 11 D1.sh D1.gd LL (by omega) (by rw [ln]; have : (2 : Nat) ^ 11 = 2048 := rfl; omega) (by decide) (fun i w ew hi => by
      obtain ⟨iN, rfl⟩ := zdx ew
      rw [List.length_map, List.length_range] at hi
      rw [zdw]; omega) (by omega) (by omega)
    have rd : cat ((List.range N).map (chunk x)) = x := zao (by rw [zcO, List.take_of_length_le (by rw [<- zae]; omega)])
    rw [rd] at b3
    have ir : iRange3 (sLit (.int 0)) (sAppl fLen (sCons (sVar 1) sNil)) (sLit (.int 8)) [some (.ref p), some (.str x), none] h = .ok ((List.range N).map (fun m : Nat => AV.int (0 + (m : Int) * 8)), none) h := by
      have r1 : ((if (0 : Int) < x.length then ((x.length : Int) - 0 - 1) / 8 + 1 else 0 : Int)).toNat = N := by
        rw [if_pos (by omega)]; omega
      have r2 : (0 : Int).natAbs < 2 ^ 40 /\ (x.length : Int).natAbs < 2 ^ 40 /\ (0 : Int) < 8 /\ (8 : Int) < 2 ^ 20 := ⟨by decide, by omega, by decide, by decide⟩
      show (if _ then _ else _) = _
      rw [if_pos r2, r1]
    have cp : sComp [0, 1] (iRange3 (sLit (.int 0)) (sAppl fLen (sCons (sVar 1) sNil)) (sLit (.int 8))) sYes (sMeth 0 F_Shelf_leaf (sVar 1) (sCons (sCut (sVar 2) (some (sVar 0)) (some (sOp2 fAdd (sVar 0) (sLit (.int 8))))) sNil)) [some (.ref p), some (.str x), none] h = .ok (.fl (ivs ns)) h1 := by
      simp only [sComp, ir, e1]
    have ne : fEq (.str x) (.str "") h = .ok (.bl false) h := by
      have : ¬ x = Str.ofString "" := fun z => q (by rw [z]; rfl)
      simp [this]
    refine ⟨n, ps2, h2, ?_, D1.trans b2 (by omega), .inr ⟨_, _, _, b3⟩⟩
    unfold F_built
    generalize sComp [0, 1] (iRange3 (sLit (.int 0)) (sAppl fLen (sCons (sVar 1) sNil)) (sLit (.int 8))) sYes (sMeth 0 F_Shelf_leaf (sVar 1) (sCons (sCut (sVar 2) (some (sVar 0)) (some (sOp2 fAdd (sVar 0) (sLit (.int 8))))) sNil)) = CP at *
    generalize F_halved 20 = HV at *
    simp [fp, c1, ne, cp, b1, -fEq]
end Sk

namespace Sk
open PySem PySem.Spec L2 Sm
def tkS (x : Str) (a : Nat) : Str := ⟨(x.cps.toList.take a).toArray⟩
def dpS (x : Str) (a : Nat) : Str := ⟨(x.cps.toList.drop a).toArray⟩
theorem dp_cps (x : Str) (a : Nat) : (dpS x a).cps.toList = x.cps.toList.drop a := rfl
theorem dp_len (x : Str) (a : Nat) : (dpS x a).length = x.length - a := by
  rw [zae, zae x, dp_cps, List.length_drop]
theorem zhl {x : Str} (h : plainS x = true) (a : Nat) : plainS (dpS x a) = true := by
  unfold plainS at *
  rw [dp_cps, List.all_eq_true]
  rw [List.all_eq_true] at h
  exact fun c hc => h c (List.mem_of_mem_drop hc)
theorem cut_dp {x : Str} {a : Nat} (ha : a <= x.length) (h : AH) : cutOf (.str x) (some (a : Int)) none h = .ok (.str (dpS x a)) h := by
  have : cutS x (some (a : Int)) none = dpS x a := zao (by
    unfold cutS
    rw [HT.sIx_nat, HT.sIx_none, dp_cps]
    rw [zae] at ha
    rw [Nat.min_eq_left ha]
    show (x.cps.toList.drop a).take (x.cps.toList.length - a) = _
    rw [List.take_of_length_le (by rw [List.length_drop]; exact Nat.le_refl _)])
  simp only [cutOf, this]
def cst (z : Int) : Nat := 8 * ((z + 1).toNat * (z + 2).toNat)
theorem zc8 {h : AH} {st : Nat} {n : Int} (m : Nat) (e : h[st]? = some (.lst [.int n])) (hm : 0 < m) (hm2 : m <= 10 ^ 50) : ∃ v : Nat, v < m /\ F_law_take [.ref st, .int m] h = .ok (.int v) (h.set st (.lst [.int (n / m)])) := by
  have a0 : atI [AV.int n] 0 = some (.int n) := rfl
  have i0 : ixN 1 0 = some 0 := rfl
  have hm0 : (0 : Int) < m := Int.ofNat_lt.mpr hm
  have hm3 : m < 1606938044258990275541962092341162602522202993782792835301376 := Nat.lt_of_le_of_lt hm2 (by decide)
  refine ⟨(n % m).toNat, ?_, ?_⟩
  . have := Int.emod_lt_of_pos n hm0; have := Int.emod_nonneg n (show (m : Int) ≠ 0 by omega); omega
  . rw [Int.toNat_of_nonneg (Int.emod_nonneg n (show (m : Int) ≠ 0 by omega))]
    simp [F_law_take, e, a0, hm0, hm, hm3, i0]
theorem zhm (c k : Int) (h : AH) : ∃ m, F_law_mixed [.int c, .int k] h = .ok (.int m) h := by
  have b1 : 0 <= (c % 1000000007 + 7919 * k + 101) * 48271 % 2147483647 := Int.emod_nonneg _ (by decide)
  have b2 : (c % 1000000007 + 7919 * k + 101) * 48271 % 2147483647 < 2147483647 := Int.emod_lt_of_pos _ (by decide)
  refine ⟨(c % 1000000007 + 7919 * k + 101) * 48271 % 2147483647 * ((c % 1000000007 + 7919 * k + 101) * 48271 % 2147483647) % 2147483629 * 69621 % 2147483647, ?_⟩
  generalize he : (c % 1000000007 + 7919 * k + 101) * 48271 % 2147483647 = v at *
  have c1 : v.natAbs < 18446744073709551616 := by omega
  simp [F_law_mixed, he, c1]
theorem f_own (c k : Int) (h : AH) : ∃ n, F_law_own [.int c, .int k] h = .ok (.ref h.length) (h ++ [.lst [.int n]]) := by
  obtain ⟨d, ed⟩ : ∃ d, d = c % 1000000000000000000000000000000000000000000000000000000000000000000000000000000000000000000000000000000000000000000000000 := ⟨_, rfl⟩
  by_cases hc : (1000000000000000000 : Int) <= d
  . exact ⟨d, by rw [ed] at hc ⊢; simp [F_law_own, hc]⟩
  . obtain ⟨e', h', r1, r2⟩ := for_p (w := none) (all := rangeA 0 12) (t := .nm 3) (b := B_law_own_1) (xs := rangeA 0 12) (en := [some (.int d), some (.int k), some (.int 0), none]) (h := h)
      (fun _ en h' => h' = h /\ ∃ f o, en = [some (.int d), some (.int k), some (.int f), o]) ⟨rfl, 0, none, rfl⟩ (fun _ _ _ _ => rfl) (by
        rintro j x en h' hx ⟨rfl, f, o, rfl⟩
        rw [zbQ] at hx
        split at hx
        . cases hx
          obtain ⟨m, hm⟩ := zhm (d + 1009 * k) (0 + (j : Int)) h'
          have e : B_law_own_1 [some (.int d), some (.int k), some (.int f), some (.int (0 + (j : Int)))] h' = .nx [some (.int d), some (.int k), some (.int (f * 2147483647 + m)), some (.int (0 + (j : Int)))] h' := by
            generalize (0 + (j : Int)) = jj at hm ⊢
            simp [B_law_own_1, hm]
          show thn (B_law_own_1 [some (.int d), some (.int k), some (.int f), some (.int (0 + (j : Int)))] h') _
          rw [e]
          exact ⟨rfl, _, _, rfl⟩
        . cases hx)
    obtain ⟨rfl, f, o, rfl⟩ := r2
    have f1 := (for_of (t := .nm 3) (b := B_law_own_1) (zba (a := sLit (.int 12)) (en := [some (.int d), some (.int k), some (.int 0), none]) (h := h') (n := 12) rfl (by decide))).trans r1
    refine ⟨f, ?_⟩
    subst ed
    simp [F_law_own, hc, f1, -sFor]
def many6 : Str := "abcdefghijklmnopqrstuvwxyzABCDEFGHIJKLMNOPQRSTUVWXYZ0123456789 !#$&'()*+,-./:;<=>?\x40[]^_{|}~"
def sg6 : List Str := ["ab", "ab" ++ "\n", (((many6 ++ "\n") ++ "\\") ++ "\"") ++ "`", "a"]
theorem sg6_ok : ∀ x ∈ sg6, plainS x = true /\ 1 <= x.length /\ x.length <= 200 := by decide +kernel
theorem zhn (v : Nat) (hv : v < 4) (h : AH) : ∃ x : Str, (plainS x = true /\ 1 <= x.length /\ x.length <= 200) /\ F_law_signs [.int v] h = .ok (.str x) h := by
  have l1 : (Str.length "ab") + (Str.length "\n") <= sizeLine := by decide +kernel
  have l2 : (Str.length many6) + (Str.length "\n") <= sizeLine := by decide +kernel
  have l3 : (many6 ++ (Str.ofString "\n")).length + (Str.length "\\") <= sizeLine := by decide +kernel
  have l4 : ((many6 ++ (Str.ofString "\n")) ++ (Str.ofString "\\")).length + (Str.length "\"") <= sizeLine := by decide +kernel
  have l5 : (((many6 ++ (Str.ofString "\n")) ++ (Str.ofString "\\")) ++ (Str.ofString "\"")).length + (Str.length "`") <= sizeLine := by decide +kernel
  have em : Str.ofString "abcdefghijklmnopqrstuvwxyzABCDEFGHIJKLMNOPQRSTUVWXYZ0123456789 !#$&'()*+,-./:;<=>?\x40[]^_{|}~" = many6 := rfl
  have : v = 0 \/ v = 1 \/ v = 2 \/ v = 3 := by omega
  refine ⟨sg6.getD v "", sg6_ok _ ?_, ?_⟩
  . rcases this with rfl | rfl | rfl | rfl <;> simp [sg6]
  . rcases this with rfl | rfl | rfl | rfl <;> simp [F_law_signs, em, l1, l2, l3, l4, l5] <;> rfl
theorem zho {x : Str} {v : Nat} (hv : v < x.length) (hx : plainS x = true) (h : AH) : ∃ c, plainC c = true /\ fIx (.str x) (.int v) h = .ok (.str ⟨#[c]⟩) h := by
  have hv' : v < x.cps.toList.length := by rw [<- zae]; exact hv
  refine ⟨x.cps.toList[v], List.all_eq_true.mp hx _ (List.getElem_mem hv'), ?_⟩
  have e : x.cps.toList[v]? = some x.cps.toList[v] := List.getElem?_eq_getElem hv'
  simp only [fIx, zbf e]
theorem zb6 (z : Str) (n : Nat) : (repS z n).cps.toList = (List.replicate n z.cps.toList).flatten := rfl
theorem zb7 (z : Str) (a b : Nat) : repS z a ++ repS z b = repS z (a + b) := zao (by rw [zap, zb6, zb6, zb6, <- List.flatten_append, List.replicate_append_replicate])
theorem zc9 (z : Str) : repS z 1 = z := zao (by rw [zb6]; simp)
theorem zcA (z : Str) : repS z 0 = "" := zao rfl
theorem zda (z : Str) : ∀ n, (repS z n).length = z.length * n
  | 0 => by rw [zcA]; rfl
  | n + 1 => by rw [<- zb7, zaq, zda z n, zc9, Nat.mul_succ]
theorem zfj : ∀ n, repS "" n = ""
  | 0 => zcA _
  | n + 1 => by
    rw [<- zb7, zfj n, zc9]
    exact zao (by rw [zap]; rfl)
theorem db_0 {h : AH} {p n d : Nat} : F_doubled (d + 1) [.ref p, .int n, .int (0 : Nat)] h = .ok (.int (0 : Nat)) h := by
  have z : fEq (.int 0) (.int 0) h = .ok (.bl true) h := by simp
  simp [F_doubled, S_doubled, z, -fEq]
theorem db_1 {h h1 : AH} {p n d k : Nat} {a : Int} (hk : ¬ k = 0) (hp : k % 2 = 0) (e1 : F_doubled d [.ref p, .int n, .int (k / 2 : Nat)] h = .ok (.int a) h1) : F_doubled (d + 1) [.ref p, .int n, .int k] h = F_joined [.ref p, .int a, .int a] h1 := by
  have z : fEq (.int k) (.int 0) h = .ok (.bl false) h := by simp [hk]
  have dv : fDiv (.int k) (.int 2) h = .ok (.int (k / 2 : Nat)) h := rfl
  have md : ∀ h, fMod (.int k) (.int 2) h = .ok (.int 0) h := fun h => by
    have : (k : Int) % 2 = 0 := by omega
    show Out.ok (AV.int ((k : Int) % 2)) h = _
    rw [this]
  have z2 : ∀ h, fEq (.int 0) (.int 0) h = .ok (.bl true) h := fun h => by simp
  unfold F_doubled S_doubled
  generalize hF : F_joined [.ref p, .int a, .int a] h1 = R
  generalize ((k / 2 : Nat) : Int) = K2 at *
  generalize F_doubled d = G at *
  simp [z, dv, e1, hF, -fEq, -fDiv, -fMod]
  cases R with
  | ok v h2 => simp [md, z2, -fEq, -fMod]
  | ex c h2 => rfl
  | bad => rfl
theorem db_2 {h h1 : AH} {p n d k : Nat} {a : Int} (hk : ¬ k = 0) (hp : ¬ k % 2 = 0) (e1 : F_doubled d [.ref p, .int n, .int (k / 2 : Nat)] h = .ok (.int a) h1) : F_doubled (d + 1) [.ref p, .int n, .int k] h = (F_joined [.ref p, .int a, .int a] h1).bind fun v h2 => F_joined [.ref p, v, .int n] h2 := by
  have z : fEq (.int k) (.int 0) h = .ok (.bl false) h := by simp [hk]
  have dv : fDiv (.int k) (.int 2) h = .ok (.int (k / 2 : Nat)) h := rfl
  have md : ∀ h, fMod (.int k) (.int 2) h = .ok (.int 1) h := fun h => by
    have : (k : Int) % 2 = 1 := by omega
    show Out.ok (AV.int ((k : Int) % 2)) h = _
    rw [this]
  have z2 : ∀ h, fEq (.int 1) (.int 0) h = .ok (.bl false) h := fun h => by simp
  unfold F_doubled S_doubled
  generalize hF : F_joined [.ref p, .int a, .int a] h1 = R
  generalize ((k / 2 : Nat) : Int) = K2 at *
  generalize F_doubled d = G at *
  simp [z, dv, e1, hF, -fEq, -fDiv, -fMod]
  cases R with
  | ok v h2 =>
    simp [md, z2, -fEq, -fMod]
    cases F_joined [.ref p, v, .int n] h2 <;> rfl
  | ex c h2 => rfl
  | bad => rfl
theorem zcB {ps : List Pc} (g : Good ps) {a b : Nat} {x y : Str} (A : TxZ ps a x) (B : TxZ ps b y) : 16 * (max (htOf ps a) (htOf ps b) + 1).toNat <= 1400 := by
  have key : ∀ {n : Nat} {y : Str}, TxZ ps n y -> htOf ps n <= 82 := fun {n y} t => by
    rcases t with ⟨rfl, rfl⟩ | ⟨m, f, l, T⟩
    . rw [zin]; omega
    . rw [ht_of T.ms]; exact ht82 g T
  have := key A
  have := key B
  omega
theorem zdy {p : Nat} : ∀ (d e : Nat) {h : AH} {ps : List Pc} {n k : Nat} {x : Str}, ShelfAt h p ps -> Good ps -> TxZ ps n x -> k < 2 ^ e -> e < d -> x.length * k <= 1000000000000000000 -> ps.length + 2800 * e < 15000000 ->
    ∃ (m : Nat) (ps' : List Pc) (h' : AH), Dn (F_doubled d [.ref p, .int n, .int k]) p h h' ps ps' (2800 * e) m /\ TxZ ps' m (repS x k)
  | 0, e, h, ps, n, k, x, S, g, T, hk, hd, hm, hz => absurd hd (Nat.not_lt_zero _)
  | d + 1, e, h, ps, n, k, x, S, g, T, hk, hd, hm, hz => by
    by_cases k0 : k = 0
    . subst k0
      have dv : Dn (F_doubled (d + 1) [.ref p, .int n, .int (0 : Nat)]) p h h ps ps 0 0 := Dn.val S g fun hh pp S' _ pr => db_0
      exact ⟨0, ps, h, dv.as S g (fun _ _ _ _ _ => rfl) (Nat.zero_le _), .inl ⟨rfl, zcA x⟩⟩
    . obtain ⟨e', rfl⟩ : ∃ e', e = e' + 1 := by
        cases e with
        | zero => simp at hk; omega
        | succ e' => exact ⟨e', rfl⟩
      rw [Nat.pow_succ] at hk
      have kk : x.length * (k / 2) + x.length * (k / 2) + x.length * (k % 2) = x.length * k := by
        rw [<- Nat.mul_add, <- Nat.mul_add]
        congr 1
        omega
      obtain ⟨a, ps1, h1, d1, T1⟩ := zdy d e' (k := k / 2) S g T (by omega) (by omega) (by omega) (by omega)
      have z1 := d1.dd.len
      have l1 := zda x (k / 2)
      obtain ⟨b, ps2, h2, d2, T2⟩ := zcy d1.dd.sh d1.dd.gd T1 T1 (by omega) (by omega)
      have w2 := zcB d1.dd.gd T1 T1
      have z2 := d2.dd.len
      rw [zb7] at T2
      by_cases hp : k % 2 = 0
      . have ek : k / 2 + k / 2 = k := by omega
        rw [ek] at T2
        exact ⟨b, ps2, h2, Dn.seq' S g d1 d2 (fun hh hh1 pp S' _ pr ev => db_1 k0 hp ev) (by omega), T2⟩
      . have l2 := zda x (k / 2 + k / 2)
        rw [Nat.mul_add] at l2
        have km : x.length * (k % 2) = x.length := by rw [show k % 2 = 1 by omega, Nat.mul_one]
        have p12 := d1.dd.pre.trans d2.dd.pre
        obtain ⟨c, ps3, h3, d3, T3⟩ := zcy d2.dd.sh d2.dd.gd T2 (T.pre p12) (by omega) (by omega)
        have w3 := zcB d2.dd.gd T2 (T.pre p12)
        have ek : repS x (k / 2 + k / 2) ++ x = repS x k := by
          conv => lhs; rhs; rw [<- zc9 x]
          rw [zb7]
          congr 1
          omega
        rw [ek] at T3
        have d23 := Dn.seq (F := fun hh => (F_joined [.ref p, .int a, .int a] hh).bind fun v h2 => F_joined [.ref p, v, .int n] h2) (F2 := fun v h2 => F_joined [.ref p, v, .int n] h2) d1.dd.sh d1.dd.gd d2 d3 (fun _ _ _ _ _ => rfl) (k := 2800) (by omega)
        exact ⟨c, ps3, h3, Dn.seq' S g d1 d23 (fun hh hh1 pp S' _ pr ev => db_2 k0 hp ev) (by omega), T3⟩
theorem rp_eq {h : AH} {p n k : Nat} {ps : List Pc} {m : Ms} (S : ShelfAt h p ps) (em : (meas ps)[n]? = some m) (hk : k < 2 ^ 63) (hm : m.sg * k <= 1000000000000000000) : F_repeated [.ref p, .int n, .int k] h = if n = 0 then .ok (.int (0 : Nat)) h else F_doubled 64 [.ref p, .int n, .int k] h := by
  have fs := zaC S em
  have lt : fLt (.int k) (.int 0) h = .ok (.bl false) h := by
    have : ¬ (k : Int) < 0 := by omega
    simp only [fLt, this, decide_false]
  have ml : fMul (.int m.sg) (.int k) h = .ok (.int ((m.sg * k : Nat) : Int)) h := by
    have h2 : (k : Int).natAbs < 2 ^ 64 := by
      have : (2 : Nat) ^ 63 < 2 ^ 64 := by decide
      omega
    rw [fMul_r h2]; congr 2
  have ck := zaV (i := ((m.sg * k : Nat) : Int)) (by omega) h
  unfold F_repeated
  generalize F_doubled 64 = G at *
  generalize ((m.sg * k : Nat) : Int) = MK at *
  by_cases z : n = 0
  . subst z
    have z0 : fEq (.int 0) (.int 0) h = .ok (.bl true) h := by simp
    have fs' : F_Shelf_signs [.ref p, .int 0] h = .ok (.int m.sg) h := fs
    simp [S.ob, fs', lt, ml, ck, z0, -fLt, -fMul, -fEq]
  . have z0 : fEq (.int n) (.int 0) h = .ok (.bl false) h := by simp [z]
    rw [if_neg z]
    generalize hR : G [.ref p, .int n, .int k] h = R
    simp [S.ob, fs, lt, ml, ck, z0, hR, -fLt, -fMul, -fEq]
    cases R <;> rfl
theorem zcP {h : AH} {p : Nat} {ps : List Pc} {n k e : Nat} {x : Str} (S : ShelfAt h p ps) (g : Good ps) (T : TxZ ps n x) (hk : k < 2 ^ e) (he : e < 62) (hm : x.length * k <= 1000000000000000000) (hz : ps.length + 2800 * e < 15000000) :
    ∃ (m : Nat) (ps' : List Pc) (h' : AH), Dn (F_repeated [.ref p, .int n, .int k]) p h h' ps ps' (2800 * e) m /\ TxZ ps' m (repS x k) := by
  obtain ⟨m, em, sm⟩ := T.meas
  have k63 : k < 2 ^ 63 := Nat.lt_of_lt_of_le hk (Nat.pow_le_pow_right (by decide) (by omega))
  by_cases z : n = 0
  . rcases T with ⟨_, rfl⟩ | ⟨_, _, _, T⟩
    . have dv : Dn (F_repeated [.ref p, .int n, .int k]) p h h ps ps 0 0 := Dn.val S g fun hh pp S' _ pr => by rw [rp_eq S' (zac pr em) k63 (by rw [sm]; exact hm), if_pos z]
      exact ⟨0, ps, h, dv.as S g (fun _ _ _ _ _ => rfl) (Nat.zero_le _), .inl ⟨rfl, zfj k⟩⟩
    . exact absurd T.n1 (by omega)
  . obtain ⟨c, ps', h', d, T'⟩ := zdy 64 e S g T hk (by omega) hm hz
    exact ⟨c, ps', h', d.as S g (fun hh pp S' _ pr => by rw [rp_eq S' (zac pr em) k63 (by rw [sm]; exact hm), if_neg z]) (Nat.le_refl _), T'⟩
end Sk

namespace Sk
open PySem PySem.Spec L2 Sm
def lookV (m f l : Ms) : AV := .tup [.int m.ht, .int m.sg, .int f.sg, .int l.sg, .int m.lv]
structure KOl (ps : List Pc) (kvs : List (AV × AV)) : Prop where
  ok : ∀ (k : Int) (v : AV), valA kvs (.int k) = some v -> ∃ (n : Nat) (m : Ms) (x : Str) (f l : Ms), k = n /\ Tx ps n m x f l /\ v = lookV m f l
  nd : (kvs.map (·.1)).Nodup
  ks : ∀ q ∈ kvs, ∃ n : Nat, q.1 = .int n /\ n <= ps.length
  cl : ∀ n a b : Nat, (valA kvs (.int n)).isSome = true -> ps[n - 1]? = some (.fork a b) -> (valA kvs (.int a)).isSome = true /\ (valA kvs (.int b)).isSome = true
theorem zir {kvs : List (AV × AV)} {k v : AV} (e : valA kvs k = none) : putA kvs k v = kvs ++ [(k, v)] := by
  unfold putA
  rw [zc3, e]; rfl
theorem zbp {kvs : List (AV × AV)} {k v j : AV} : valA (kvs ++ [(k, v)]) j = (valA kvs j).or (if k = j then some v else none) := by
  unfold valA
  rw [List.find?_append]
  cases q : kvs.find? fun p => decide (p.1 = j) with
  | some z => rfl
  | none =>
    by_cases c : k = j
    . simp [c]
    . simp [c]
theorem val_no {kvs : List (AV × AV)} {k : AV} (e : valA kvs k = none) : ∀ q ∈ kvs, q.1 ≠ k := fun q hq z => by
  unfold valA at e
  rw [Option.map_eq_none_iff, List.find?_eq_none] at e
  exact e q hq (by simp [z])
theorem zfk : ∀ (N : Nat) (l : List Nat), l.Nodup -> (∀ a ∈ l, a < N) -> l.length <= N
  | 0, l, _, h => by
    cases l with
    | nil => exact Nat.le_refl _
    | cons a l => exact absurd (h a (List.mem_cons_self ..)) (Nat.not_lt_zero _)
  | N + 1, l, n, h => by
    have z := zfk N (l.erase N) (n.erase N) fun a ha => by
      have h1 := h a (List.mem_of_mem_erase ha)
      have h2 := (n.mem_erase_iff.mp ha).1
      omega
    by_cases q : N ∈ l
    . rw [List.length_erase_of_mem q] at z; omega
    . rw [List.erase_of_not_mem q] at z; omega
def iN : AV -> Nat
  | .int i => i.toNat
  | _ => 0
theorem KOl.few {ps : List Pc} {kvs : List (AV × AV)} (K : KOl ps kvs) : kvs.length <= ps.length + 1 := by
  have z := zfk (ps.length + 1) (kvs.map fun q => iN q.1) (by
    rw [show (kvs.map fun q => iN q.1) = (kvs.map (·.1)).map iN by rw [List.map_map]; rfl]
    refine List.Pairwise.map _ ?_ (List.Pairwise.and_mem.mp K.nd)
    rintro a b ⟨ha, hb, ne⟩ e
    obtain ⟨q, hq, rfl⟩ := List.mem_map.mp ha
    obtain ⟨r, hr, rfl⟩ := List.mem_map.mp hb
    obtain ⟨i, e1, _⟩ := K.ks q hq
    obtain ⟨j, e2, _⟩ := K.ks r hr
    rw [e1, e2] at e ne
    have : i = j := by simpa [iN] using e
    exact ne (by rw [this])) fun a ha => by
    obtain ⟨q, hq, rfl⟩ := List.mem_map.mp ha
    obtain ⟨i, e1, h1⟩ := K.ks q hq
    rw [e1]
    show (i : Int).toNat < _
    omega
  simpa using z
theorem KOl.nil (ps : List Pc) : KOl ps [] := ⟨fun _ _ z => by simp [valA] at z, List.nodup_nil, fun _ h => (nomatch h), fun _ _ _ z => by simp [valA] at z⟩
theorem KOl.put {ps : List Pc} {kvs : List (AV × AV)} (K : KOl ps kvs) {n : Nat} {m : Ms} {x : Str} {f l : Ms} (T : Tx ps n m x f l) (e : valA kvs (.int n) = none)
    (c : ∀ a b : Nat, ps[n - 1]? = some (.fork a b) -> (valA kvs (.int a)).isSome = true /\ (valA kvs (.int b)).isSome = true) : KOl ps (putA kvs (.int n) (lookV m f l)) /\ (valA (putA kvs (.int n) (lookV m f l)) (.int n)).isSome = true /\ (∀ k, (valA kvs k).isSome = true -> (valA (putA kvs (.int n) (lookV m f l)) k).isSome = true) /\ ∀ k, (valA (putA kvs (.int n) (lookV m f l)) k).isSome = true -> (valA kvs k).isSome = true \/ k = .int n := by
  rw [zir e]
  have up : ∀ k, (valA kvs k).isSome = true -> (valA (kvs ++ [(.int n, lookV m f l)]) k).isSome = true := fun k h => by
    rw [zbp]
    obtain ⟨v, e⟩ := Option.isSome_iff_exists.mp h
    rw [e]; rfl
  refine ⟨⟨fun k v hv => ?_, ?_, fun q hq => ?_, fun j a b hj hp => ?_⟩, ?_, up, fun k hk => ?_⟩
  . rw [zbp] at hv
    cases w : valA kvs (.int k) with
    | some u => rw [w] at hv; cases hv; exact K.ok k _ w
    | none =>
      rw [w] at hv
      by_cases z : AV.int n = AV.int k
      . rw [if_pos z] at hv
        injection z with z
        cases hv
        exact ⟨n, m, x, f, l, z.symm, T, rfl⟩
      . rw [if_neg z] at hv; cases hv
  . rw [List.map_append]
    refine List.nodup_append.mpr ⟨K.nd, by simp, fun a ha b hb => ?_⟩
    obtain ⟨q, hq, rfl⟩ := List.mem_map.mp ha
    simp at hb
    subst hb
    exact val_no e q hq
  . rcases List.mem_append.mp hq with h | h
    . exact K.ks q h
    . simp at h; subst h; exact ⟨n, rfl, T.le⟩
  . rw [zbp] at hj
    by_cases z : (valA kvs (.int j)).isSome = true
    . exact ⟨up _ (K.cl j a b z hp).1, up _ (K.cl j a b z hp).2⟩
    . cases w : valA kvs (.int j) with
      | some u => rw [w] at z; exact absurd rfl z
      | none =>
        rw [w] at hj
        by_cases y : AV.int n = AV.int j
        . injection y with y
          have : n = j := by omega
          subst this
          exact ⟨up _ (c a b hp).1, up _ (c a b hp).2⟩
        . rw [if_neg y] at hj; cases hj
  . rw [zbp, e, if_pos rfl]; rfl
  . rw [zbp] at hk
    cases w : valA kvs k with
    | some u => exact .inl rfl
    | none =>
      rw [w] at hk
      by_cases y : AV.int n = k
      . exact .inr y.symm
      . rw [if_neg y] at hk; cases hk
theorem zhp {h : AH} {D : Nat} {o : AO} (e : h[D]? = some o) : h.set D o = h := by
  apply List.ext_getElem?
  intro i
  by_cases q : D = i
  . subst q; rw [List.getElem?_set_self (lt_of e), e]
  . rw [List.getElem?_set_ne q]
theorem zis (a b c d e : Int) (h : AH) : fNe (.tup [.int a, .int b, .int c, .int d, .int e]) (.tup []) h = .ok (.bl true) h := by
  have q : eqA (.tup [.int a, .int b, .int c, .int d, .int e]) (.tup []) h = some false := by
    show some (PyData.eqv (.tuple [.int a, .int b, .int c, .int d, .int e]) (.tuple [])) = some false
    simp [PyData.eqv, PyData.eqvAll]
  show (match eqA (.tup [.int a, .int b, .int c, .int d, .int e]) (.tup []) h with | some b => Out.ok (AV.bl (!b)) h | none => Out.bad) = _
  rw [q]; rfl
theorem zit (m f l : Ms) (h : AH) : fEq (lookV m f l) (.tup []) h = .ok (.bl false) h := by
  have q : eqA (lookV m f l) (.tup []) h = some false := by
    show some (PyData.eqv (.tuple [.int _, .int _, .int _, .int _, .int _]) (.tuple [])) = some false
    simp [PyData.eqv, PyData.eqvAll]
  show (match eqA (lookV m f l) (.tup []) h with | some b => Out.ok (AV.bl b) h | none => Out.bad) = _
  rw [q]
theorem lo_in {h : AH} {p D d n : Nat} {kvs : List (AV × AV)} {v : AV} (eD : h[D]? = some (.dct false kvs)) (e : valA kvs (.int n) = some v) : F_law_look (d + 1) [.ref p, .int n, .ref D] h = .ok v h := by
  simp [F_law_look, S_law_look, eD, e, isKey]
theorem eqFL (h : AH) : fEq (.str "leaf") (.str "fork") h = .ok (.bl false) h := by
  have : ¬ (Str.ofString "leaf" = Str.ofString "fork") := by decide +kernel
  simp [this]
theorem eqFF (h : AH) : fEq (.str "fork") (.str "fork") h = .ok (.bl true) h := by simp
theorem ziu {h : AH} {p D d n : Nat} {ps : List Pc} {kvs : List (AV × AV)} {x : Str} (S : ShelfAt h p ps) (n1 : 1 <= n) (ep : ps[n - 1]? = some (.leaf x)) (x1 : 1 <= x.length) (x8 : x.length <= 8) (eD : h[D]? = some (.dct false kvs)) (e : valA kvs (.int n) = none) (sz : kvs.length < sizeLine) :
    F_law_look (d + 1) [.ref p, .int n, .ref D] h = .ok (.tup [.int 0, .int x.length, .int x.length, .int x.length, .int 1]) (h.set D (.dct false (putA kvs (.int n) (.tup [.int 0, .int x.length, .int x.length, .int x.length, .int 1])))) := by
  have fp := zbn S n1 ep
  have c1 : 0 < x.length := by omega
  have c2 : (x.length : Int) < 9 := by omega
  have ni : fIn (.int n) (.ref D) h = .ok (.bl false) h := by simp [eD, e, isKey]
  have ii : ∀ t : String, (AV.str x |> fun v => tyN v h) = some "str" := fun _ => rfl
  unfold F_law_look S_law_look
  generalize F_law_look d = G
  simp [ni, S.ob, fp, i0L, eqL, i1L, eqFL, c1, c2, eD, sz, isKey, -fIn, -fEq, -fIx]
theorem ziv {h h1 h2 : AH} {p D d n a b : Nat} {ps : List Pc} {kvs kvs2 : List (AV × AV)} {ma mb fa la fb lb : Ms} (S : ShelfAt h p ps) (n1 : 1 <= n) (ep : ps[n - 1]? = some (.fork a b)) (a1 : 1 <= a) (b1 : 1 <= b) (an : a < n) (bn : b < n) (eD : h[D]? = some (.dct false kvs)) (e : valA kvs (.int n) = none)
    (e1 : F_law_look d [.ref p, .int a, .ref D] h = .ok (lookV ma fa la) h1) (e2 : F_law_look d [.ref p, .int b, .ref D] h1 = .ok (lookV mb fb lb) h2) (v1 : -1 <= ma.ht - mb.ht) (v2 : ma.ht - mb.ht <= 1) (hc : 8 < la.sg + fb.sg) (eD2 : h2[D]? = some (.dct false kvs2)) (sz : kvs2.length < sizeLine) :
    F_law_look (d + 1) [.ref p, .int n, .ref D] h = .ok (.tup [.int (1 + max ma.ht mb.ht), .int (ma.sg + mb.sg), .int fa.sg, .int lb.sg, .int (ma.lv + mb.lv)]) (h2.set D (.dct false (putA kvs2 (.int n) (.tup [.int (1 + max ma.ht mb.ht), .int (ma.sg + mb.sg), .int fa.sg, .int lb.sg, .int (ma.lv + mb.lv)])))) := by
  have fp := zaA S n1 ep
  have c1 : (0 : Int) < a /\ (a : Int) < n := by omega
  have c2 : (0 : Int) < b /\ (b : Int) < n := by omega
  have c3 : (8 : Int) < (la.sg : Int) + fb.sg := by omega
  have ni : fIn (.int n) (.ref D) h = .ok (.bl false) h := by simp [eD, e, isKey]
  have la1 : fLt (.int a) (.int n) h = .ok (.bl true) h := by simp [an]
  have lb1 : fLt (.int b) (.int n) h = .ok (.bl true) h := by simp [bn]
  have la0 : fLt (.int 0) (.int a) h = .ok (.bl true) h := by simp [show 0 < a by omega]
  have lb0 : fLt (.int 0) (.int b) h = .ok (.bl true) h := by simp [show 0 < b by omega]
  have x0 : ∀ (i j k l o : Int) h, fIx (.tup [.int i, .int j, .int k, .int l, .int o]) (.int 0) h = .ok (.int i) h := fun _ _ _ _ _ _ => rfl
  have x1 : ∀ (i j k l o : Int) h, fIx (.tup [.int i, .int j, .int k, .int l, .int o]) (.int 1) h = .ok (.int j) h := fun _ _ _ _ _ _ => rfl
  have x2 : ∀ (i j k l o : Int) h, fIx (.tup [.int i, .int j, .int k, .int l, .int o]) (.int 2) h = .ok (.int k) h := fun _ _ _ _ _ _ => rfl
  have x3 : ∀ (i j k l o : Int) h, fIx (.tup [.int i, .int j, .int k, .int l, .int o]) (.int 3) h = .ok (.int l) h := fun _ _ _ _ _ _ => rfl
  have x4 : ∀ (i j k l o : Int) h, fIx (.tup [.int i, .int j, .int k, .int l, .int o]) (.int 4) h = .ok (.int o) h := fun _ _ _ _ _ _ => rfl
  have ab : fAbs [.int (ma.ht - mb.ht)] h2 = .ok (.int (if ma.ht - mb.ht < 0 then -(ma.ht - mb.ht) else ma.ht - mb.ht)) h2 := rfl
  have abl : fLt (.int (if ma.ht - mb.ht < 0 then -(ma.ht - mb.ht) else ma.ht - mb.ht)) (.int 2) h2 = .ok (.bl true) h2 := by
    have : (if ma.ht - mb.ht < 0 then -(ma.ht - mb.ht) else ma.ht - mb.ht) < 2 := by split <;> omega
    simp only [fLt, this, decide_true]
  have gt : fGt (.int ((la.sg : Int) + fb.sg)) (.int 8) h2 = .ok (.bl true) h2 := by simp [c3]
  have mx : fMax2 [.int ma.ht, .int mb.ht] h2 = .ok (.int (max ma.ht mb.ht)) h2 := by
    have : (if ma.ht < mb.ht then mb.ht else ma.ht) = max ma.ht mb.ht := by split <;> omega
    simp [fMax2, this]
  unfold lookV at e1 e2
  unfold F_law_look S_law_look
  generalize F_law_look d = G at *
  simp [ni, S.ob, fp, i0F, eqF, eqFF, i1, i2, la0, la1, lb0, lb1, e1, e2, zis, x0, x1, x2, x3, x4, ab, abl, gt, mx, eD2, sz, isKey, -fIn, -fEq, -fIx, -fLt, -fNe, -fAbs, -fGt, -fMax2]
theorem zdb {p : Nat} : ∀ (d : Nat) {h : AH} {ps : List Pc} {n D : Nat} {m f l : Ms} {x : Str} {kvs : List (AV × AV)}, ShelfAt h p ps -> Good ps -> Tx ps n m x f l -> m.ht.toNat < d -> D < p \/ p + 8 < D -> h[D]? = some (.dct false kvs) -> KOl ps kvs -> ps.length < 16000000 ->
    ∃ kvs', F_law_look d [.ref p, .int n, .ref D] h = .ok (lookV m f l) (h.set D (.dct false kvs')) /\ KOl ps kvs' /\ (valA kvs' (.int n)).isSome = true /\ (∀ k, (valA kvs k).isSome = true -> (valA kvs' k).isSome = true) /\ ∀ k : Int, (valA kvs' (.int k)).isSome = true -> (valA kvs (.int k)).isSome = true \/ k <= n
  | 0, h, ps, n, D, m, f, l, x, kvs, S, g, T, hd, hD, eD, K, hl => absurd hd (Nat.not_lt_zero _)
  | d + 1, h, ps, n, D, m, f, l, x, kvs, S, g, T, hd, hD, eD, K, hl => by
    have sz : ∀ {q : List (AV × AV)}, KOl ps q -> q.length < sizeLine := fun K => by
      have := K.few
      exact Nat.lt_of_le_of_lt (m := 16000000) (by omega) (by decide)
    cases e : valA kvs (.int n) with
    | some v =>
      obtain ⟨n', m', x', f', l', q1, T', rfl⟩ := K.ok n v e
      have : n = n' := Int.ofNat.inj q1
      subst this
      have z1 := T.ms.symm.trans T'.ms; cases z1
      have z2 := T.ky.fl.symm.trans T'.ky.fl; cases z2
      have z3 := T.ky.ll.symm.trans T'.ky.ll; cases z3
      exact ⟨kvs, by rw [zhp eD]; exact lo_in eD e, K, by rw [e]; rfl, fun _ h => h, fun _ h => .inl h⟩
    | none =>
      have Dl := lt_of eD
      rcases g.kind T with ⟨e1, e2, e3, e4, e5⟩ | ⟨a, b, ma, mb, y, z, fa, la, fb, lb, ep, an, bn, A, B, e4, em, _⟩
      . obtain ⟨z1, z2⟩ := zbo T e3
        have r := ziu S T.n1 e1 e4 e5 eD e (sz K) (d := d)
        have lk : AV.tup [.int 0, .int x.length, .int x.length, .int x.length, .int 1] = lookV m f l := by
          unfold lookV
          rw [z1, z2, e3]; rfl
        rw [lk] at r
        obtain ⟨K3, i1, i2, i3⟩ := K.put T e (fun a b z => by rw [e1] at z; cases z)
        exact ⟨_, r, K3, i1, i2, fun k hk => (i3 _ hk).imp id fun z => by injection z with z; omega⟩
      . have q : 0 < m.ht := by
          have := A.ky.ht
          have : m.ht = max ma.ht mb.ht + 1 := by rw [em]; rfl
          omega
        obtain ⟨a', b', ma', mb', y', z', la', fb', ep', A', B', rfl, em', w1, w2, w3⟩ := g.cut T q
        have zz := ep.symm.trans ep'
        injection zz with zz
        injection zz with t1 t2
        subst t1 t2
        have lm : m.lv = ma'.lv + mb'.lv := by rw [em']; rfl
        have hm : m.ht = max ma'.ht mb'.ht + 1 := by rw [em']; rfl
        have sm : m.sg = ma'.sg + mb'.sg := by rw [em']; rfl
        have a0 := A'.ky.ht
        have b0 := B'.ky.ht
        obtain ⟨k1, r1, K1, c1, c2, c3⟩ := zdb d S g A' (by omega) hD eD K hl
        have S1 : ShelfAt (h.set D (.dct false k1)) p ps := S.keep fun i i1 i2 => List.getElem?_set_ne (by omega)
        have eD1 : (h.set D (.dct false k1))[D]? = some (.dct false k1) := List.getElem?_set_self Dl
        obtain ⟨k2, r2, K2, d1, d2, d3⟩ := zdb d S1 g B' (by omega) hD eD1 K1 hl
        rw [List.set_set] at r2
        have eD2 : (h.set D (.dct false k2))[D]? = some (.dct false k2) := List.getElem?_set_self Dl
        have r3 := ziv S T.n1 ep A'.n1 B'.n1 an bn eD e r1 r2 w1 w2 w3 eD2 (sz K2)
        have lk : AV.tup [.int (1 + max ma'.ht mb'.ht), .int (ma'.sg + mb'.sg), .int f.sg, .int l.sg, .int (ma'.lv + mb'.lv)] = lookV m f l := by
          unfold lookV
          rw [hm, sm, lm, Int.add_comm 1]; simp
        rw [lk, List.set_set] at r3
        have e2 : valA k2 (.int n) = none := by
          cases w : valA k2 (.int n) with
          | none => rfl
          | some u =>
            rcases d3 n (by rw [w]; rfl) with h1 | h1
            . rcases c3 n h1 with h2 | h2
              . rw [e] at h2; cases h2
              . omega
            . omega
        obtain ⟨K3, i1, i2, i3⟩ := K2.put T e2 (fun a2 b2 z => by
          have zz := ep.symm.trans z
          injection zz with zz
          injection zz with t1 t2
          subst t1 t2
          exact ⟨d2 _ c1, d1⟩)
        refine ⟨_, r3, K3, i1, fun k hk => i2 k (d2 k (c2 k hk)), fun k hk => ?_⟩
        rcases i3 _ hk with h1 | h1
        . rcases d3 k h1 with h2 | h2
          . rcases c3 k h2 with h3 | h3
            . exact .inl h3
            . exact .inr (by omega)
          . exact .inr (by omega)
        . injection h1 with h1
          exact .inr (by omega)
end Sk

namespace Sk
open PySem PySem.Spec L2 Sm
theorem zbD (ns : List Int) : intsOf (ns.map AV.int) = some ns := by
  induction ns with
  | nil => rfl
  | cons n r ih => simp [ih]
theorem fSubN {a b c : Nat} (e : a = b + c) (h : AH) : fSub (.int a) (.int b) h = .ok (.int c) h := by
  have : (a : Int) - b = c := by omega
  simp only [fSub, this]
theorem fAddN {a b c : Nat} (e : a + b = c) (h : AH) : fAdd (.int a) (.int b) h = .ok (.int c) h := by
  have : (a : Int) + b = c := by omega
  simp only [fAdd, this]
theorem fMulN {a b c : Nat} (ha : a <= 1000000) (e : a * b = c) (h : AH) : fMul (.int a) (.int b) h = .ok (.int c) h := by
  rw [fMul_l (Nat.lt_of_le_of_lt (m := 1000000) (by omega) (by decide)), <- e]; rfl
theorem fMulNr {a b c : Nat} (hb : b <= 1000000) (e : a * b = c) (h : AH) : fMul (.int a) (.int b) h = .ok (.int c) h := by
  rw [fMul_r (Nat.lt_of_le_of_lt (m := 1000000) (by omega) (by decide)), <- e]; rfl
def rp (B : List Nat) (t : Nat) : List Nat := (List.replicate t B).flatten
theorem rp_s (B : List Nat) (t : Nat) : rp B (t + 1) = B ++ rp B t := by
  unfold rp; rw [List.replicate_succ, List.flatten_cons]
theorem rp_len (B : List Nat) : ∀ t : Nat, (rp B t).length = B.length * t
  | 0 => rfl
  | t + 1 => by rw [rp_s, List.length_append, rp_len B t, Nat.mul_succ, Nat.add_comm]
theorem rp_cnt (B : List Nat) : ∀ t : Nat, (rp B t).count 10 = B.count 10 * t
  | 0 => rfl
  | t + 1 => by rw [rp_s, List.count_append, rp_cnt B t, Nat.mul_succ, Nat.add_comm]
abbrev Bk := Str × Nat
abbrev bv (x : Bk) : AV := .tup [.str x.1, .int x.2]
def fB : List Bk -> List Nat
  | [] => []
  | x :: r => rp x.1.cps.toList x.2 ++ fB r
theorem fB_app : ∀ a b : List Bk, fB (a ++ b) = fB a ++ fB b
  | [], b => rfl
  | x :: a, b => by rw [List.cons_append, fB, fB, fB_app a b, List.append_assoc]
theorem fB_one (x : Bk) : fB [x] = rp x.1.cps.toList x.2 := by rw [fB, fB, List.append_nil]
theorem zb8 (x : Bk) : (rp x.1.cps.toList x.2).length = x.1.length * x.2 := by rw [rp_len, <- zae]
def BOk (bs : List Bk) : Prop := ∀ q ∈ bs, q.1.length <= 100
theorem sumB : ∀ bs : List Bk, (bs.map fun x : Bk => ((x.1.length * x.2 : Nat) : Int)).sum = ((fB bs).length : Int)
  | [] => rfl
  | x :: r => by rw [List.map_cons, List.sum_cons, sumB r, fB, List.length_append, zb8]; omega
theorem sumC : ∀ bs : List Bk, (bs.map fun x : Bk => ((x.1.cps.toList.count 10 * x.2 : Nat) : Int)).sum = ((fB bs).count 10 : Int)
  | [] => rfl
  | x :: r => by rw [List.map_cons, List.sum_cons, sumC r, fB, List.count_append, rp_cnt]; omega
theorem zhq (x : Str) (h : AH) : mCountS (.str x) [.str "\n"] h = .ok (.int ((x.cps.toList.count 10 : Nat) : Int)) h := by
  rw [<- zaO]
  simp [mCountS, cps_nl, endsS]
theorem za5 {h : AH} {bs : List Bk} (ok : BOk bs) (hl : bs.length <= 1000) : F_law_length [.fl (bs.map bv)] h = .ok (.int (fB bs).length) h := by
  have c1 := zaL (js := []) (en := [some (.fl (bs.map bv))]) (w := none) (all := bs.map bv) (c := un2 sYes) (e := un2 (sOp2 fMul (sAppl fLen (sCons (sVar 0) sNil)) (sVar 1))) (g := bv) (f := fun x : Bk => AV.int ((x.1.length * x.2 : Nat) : Int)) (p := fun _ => true) (h := h) rfl bs [] (fun _ _ => rfl) (by
    intro x hx _
    have b := ok x hx
    exact fMulN (a := x.1.length) (b := x.2) (by omega) rfl h) (by exact Nat.le_trans (m := 1000) (by simpa using hl) (by decide))
  rw [List.filter_eq_self.mpr (fun _ _ => rfl), List.nil_append] at c1
  have it : iValT (sVar 0) [some (.fl (bs.map bv))] h = .ok (bs.map bv, none) h := by
    generalize bs.map bv = Z
    simp
  have e : (bs.map fun x : Bk => AV.int ((x.1.length * x.2 : Nat) : Int)) = (bs.map fun x : Bk => ((x.1.length * x.2 : Nat) : Int)).map AV.int := by rw [List.map_map]; rfl
  rw [e] at c1
  have cp : sComp2 [] (iValT (sVar 0)) sYes (sOp2 fMul (sAppl fLen (sCons (sVar 0) sNil)) (sVar 1)) [some (.fl (bs.map bv))] h = .ok (.fl ((bs.map fun x : Bk => ((x.1.length * x.2 : Nat) : Int)).map AV.int)) h := by
    simp only [sComp2, sComp, it, c1]
  have sm : fSum [.fl ((bs.map fun x : Bk => ((x.1.length * x.2 : Nat) : Int)).map AV.int)] h = .ok (.int (fB bs).length) h := by
    simp only [fSum, zbD, sumB]
  unfold F_law_length
  generalize sComp2 [] (iValT (sVar 0)) sYes (sOp2 fMul (sAppl fLen (sCons (sVar 0) sNil)) (sVar 1)) = CP at *
  generalize (bs.map fun x : Bk => ((x.1.length * x.2 : Nat) : Int)).map AV.int = Z at *
  generalize bs.map bv = Z2 at *
  simp [cp, sm, -fSum]
theorem f_sumC {h : AH} {bs : List Bk} (ok : BOk bs) (hl : bs.length <= 1000) (o0 o1 o3 o4 o5 o6 o7 : Option AV) :
    sAppl fSum (sCons (sComp2 [] (iValT (sVar 2)) sYes (sOp2 fMul (sBM isStr mCountS (sVar 0) (sCons (sLit (.str "\n")) sNil)) (sVar 1))) sNil) [o0, o1, some (.fl (bs.map bv)), o3, o4, o5, o6, o7] h = .ok (.int ((fB bs).count 10 : Nat)) h := by
  have c1 := zaL (js := []) (en := [o0, o1, some (.fl (bs.map bv)), o3, o4, o5, o6, o7]) (w := none) (all := bs.map bv) (c := un2 sYes) (e := un2 (sOp2 fMul (sBM isStr mCountS (sVar 0) (sCons (sLit (.str "\n")) sNil)) (sVar 1))) (g := bv) (f := fun x : Bk => AV.int ((x.1.cps.toList.count 10 * x.2 : Nat) : Int)) (p := fun _ => true) (h := h) rfl bs [] (fun _ _ => rfl) (by
    intro x hx _
    have b := ok x hx
    have c := List.count_le_length (a := 10) (l := x.1.cps.toList)
    rw [<- zae] at c
    have e1 := zhq x.1 h
    have e2 := fMulN (a := x.1.cps.toList.count 10) (b := x.2) (by omega) rfl h
    have is : isStr (.str x.1) h = true := rfl
    have u : un2 (sOp2 fMul (sBM isStr mCountS (sVar 0) (sCons (sLit (.str "\n")) sNil)) (sVar 1)) (some (bv x) :: ([] : List Nat).map fun j => (([o0, o1, some (.fl (bs.map bv)), o3, o4, o5, o6, o7] : En)[j]?).join) h = sOp2 fMul (sBM isStr mCountS (sVar 0) (sCons (sLit (.str "\n")) sNil)) (sVar 1) [some (.str x.1), some (.int x.2)] h := rfl
    rw [u]
    generalize ((x.1.cps.toList.count 10 * x.2 : Nat) : Int) = A at *
    generalize ((x.1.cps.toList.count 10 : Nat) : Int) = B at *
    simp [is, e1, e2, -fMul, -mCountS, -isStr]) (by exact Nat.le_trans (m := 1000) (by simpa using hl) (by decide))
  rw [List.filter_eq_self.mpr (fun _ _ => rfl), List.nil_append] at c1
  have it : iValT (sVar 2) [o0, o1, some (.fl (bs.map bv)), o3, o4, o5, o6, o7] h = .ok (bs.map bv, none) h := by
    generalize bs.map bv = Z
    simp
  have e : (bs.map fun x : Bk => AV.int ((x.1.cps.toList.count 10 * x.2 : Nat) : Int)) = (bs.map fun x : Bk => ((x.1.cps.toList.count 10 * x.2 : Nat) : Int)).map AV.int := by rw [List.map_map]; rfl
  rw [e] at c1
  have cp : sComp2 [] (iValT (sVar 2)) sYes (sOp2 fMul (sBM isStr mCountS (sVar 0) (sCons (sLit (.str "\n")) sNil)) (sVar 1)) [o0, o1, some (.fl (bs.map bv)), o3, o4, o5, o6, o7] h = .ok (.fl ((bs.map fun x : Bk => ((x.1.cps.toList.count 10 * x.2 : Nat) : Int)).map AV.int)) h := by
    simp only [sComp2, sComp, it, c1]
  have sm : fSum [.fl ((bs.map fun x : Bk => ((x.1.cps.toList.count 10 * x.2 : Nat) : Int)).map AV.int)] h = .ok (.int ((fB bs).count 10 : Nat)) h := by
    simp only [fSum, zbD, sumC]
  generalize sComp2 [] (iValT (sVar 2)) sYes (sOp2 fMul (sBM isStr mCountS (sVar 0) (sCons (sLit (.str "\n")) sNil)) (sVar 1)) = CP at *
  generalize (bs.map fun x : Bk => ((x.1.cps.toList.count 10 * x.2 : Nat) : Int)).map AV.int = Z at *
  generalize bs.map bv = Z2 at *
  simp [cp, sm, -fSum]
structure Fr (L : Nat) (h h' : AH) : Prop where
  fr : ∀ i, i < h.length -> i ≠ L -> h'[i]? = h[i]?
  hl : h.length <= h'.length
  ro : ∃ N : Int, h'[L]? = some (.lst [.int N])
theorem Fr.trans {L : Nat} {h h' h'' : AH} (a : Fr L h h') (b : Fr L h' h'') : Fr L h h'' :=
  ⟨fun i hi n => (b.fr i (Nat.lt_of_lt_of_le hi a.hl) n).trans (a.fr i hi n), Nat.le_trans a.hl b.hl, b.ro⟩
theorem Fr.app {L : Nat} {h h' : AH} (a : Fr L h h') (r : AH) : Fr L h (h' ++ r) := by
  obtain ⟨N, e⟩ := a.ro
  exact ⟨fun i hi n => by rw [List.getElem?_append_left (Nat.lt_of_lt_of_le hi a.hl)]; exact a.fr i hi n, by rw [List.length_append]; have := a.hl; omega, N, by rw [List.getElem?_append_left (lt_of e)]; exact e⟩
theorem Fr.set {L : Nat} {h h' : AH} (a : Fr L h h') (N' : Int) : Fr L h (h'.set L (.lst [.int N'])) := by
  obtain ⟨N, e⟩ := a.ro
  exact ⟨fun i hi n => by rw [List.getElem?_set_ne (Ne.symm n)]; exact a.fr i hi n, by rw [List.length_set]; exact a.hl, N', List.getElem?_set_self (lt_of e)⟩
theorem Fr.new {L R : Nat} {h h' : AH} (a : Fr L h h') (hR : h.length <= R) (hL : L < h.length) (o : AO) : Fr L h (h'.set R o) := by
  obtain ⟨N, e⟩ := a.ro
  exact ⟨fun i hi n => by rw [List.getElem?_set_ne (by omega)]; exact a.fr i hi n, by rw [List.length_set]; exact a.hl, N, by rw [List.getElem?_set_ne (by omega)]; exact e⟩
theorem Fr.take {L : Nat} {h h' : AH} (a : Fr L h h') (m : Nat) (hm : 0 < m) (hm2 : m <= 10 ^ 50) : ∃ (v : Nat) (N : Int), v < m /\ F_law_take [.ref L, .int m] h' = .ok (.int v) (h'.set L (.lst [.int N])) /\ Fr L h (h'.set L (.lst [.int N])) := by
  obtain ⟨N, e⟩ := a.ro
  obtain ⟨v, hv, t⟩ := zc8 m e hm hm2
  exact ⟨v, _, hv, t, a.set _⟩
theorem rp_at (l : List Nat) : ∀ (n j : Nat), j < l.length * n -> (rp l n)[j]? = l[j % l.length]?
  | 0, j, hj => by rw [Nat.mul_zero] at hj; exact absurd hj (Nat.not_lt_zero _)
  | n + 1, j, hj => by
    rw [rp_s, List.getElem?_append]
    split
    . rename_i q; rw [Nat.mod_eq_of_lt q]
    . rename_i q
      rw [rp_at l n (j - l.length) (by rw [Nat.mul_succ] at hj; omega), <- Nat.mod_eq_sub_mod (Nat.le_of_not_lt q)]
theorem zd5 {h : AH} (all : List AV) (rw' : Option AV) : ∀ (rs : List Bk) (q : Nat) (o2 o3 : Option AV), BOk rs -> q < (fB rs).length -> ∃ c, (fB rs)[q]? = some c /\ sForGo none all (.tup [2, 3]) B_law_block_sign_1 (rs.map bv) [rw', some (.int q), o2, o3] h = .rt (.str ⟨#[c]⟩) h
  | [], q, _, _, _, hq => absurd hq (Nat.not_lt_zero _)
  | (y, k) :: rs, q, o2, o3, ok, hq => by
    have y2' : y.length <= 100 := ok (y, k) (by simp)
    have mu := fMulN (a := y.length) (b := k) (by omega) rfl h
    have ex : fB ((y, k) :: rs) = rp y.cps.toList k ++ fB rs := rfl
    have lr : (rp y.cps.toList k).length = y.length * k := zb8 (y, k)
    have ln : fLen [.str y] h = .ok (.int y.length) h := by simp
    by_cases c : q < y.length * k
    . have y1' : 1 <= y.length := by
        apply Classical.byContradiction
        intro z
        rw [show y.length = 0 by omega, Nat.zero_mul] at c
        omega
      have yl : q % y.length < y.cps.toList.length := by rw [<- zae]; exact Nat.mod_lt _ y1'
      refine ⟨y.cps.toList[q % y.length], ?_, ?_⟩
      . rw [ex, List.getElem?_append_left (by rw [lr]; exact c), rp_at _ _ _ (by rw [<- zae]; exact c), <- zae, List.getElem?_eq_getElem yl]
      . have c' : fLt (.int q) (.int ((y.length * k : Nat) : Int)) h = .ok (.bl true) h := by
          have : (q : Int) < ((y.length * k : Nat) : Int) := Int.ofNat_lt.mpr c
          simp only [fLt, this, decide_true]
        have md : fMod (.int q) (.int y.length) h = .ok (.int (q % y.length : Nat)) h := by
          have y0 : (0 : Int) < y.length := by omega
          simp [y0]
          omega
        have ix : fIx (.str y) (.int (q % y.length : Nat)) h = .ok (.str ⟨#[y.cps.toList[q % y.length]]⟩) h := by simp only [fIx, zbf (List.getElem?_eq_getElem yl)]
        have eB : B_law_block_sign_1 [rw', some (.int q), some (.str y), some (.int k)] h = .rt (.str ⟨#[y.cps.toList[q % y.length]]⟩) h := by
          generalize (⟨#[y.cps.toList[q % y.length]]⟩ : Str) = Z at *
          generalize ((q % y.length : Nat) : Int) = Q at *
          generalize ((y.length * k : Nat) : Int) = YK at *
          generalize (y.length : Int) = YL at *
          simp [B_law_block_sign_1, ln, mu, c', md, ix, -fLen, -fMul, -fLt, -fMod, -fIx]
        generalize B_law_block_sign_1 = BB at *
        simp [sForGo, bv, setT, eB]
    . obtain ⟨c0, e0, g0⟩ := zd5 (h := h) all rw' rs (q - y.length * k) (some (.str y)) (some (.int k)) (fun z hz => ok z (by simp [hz])) (by rw [ex, List.length_append, lr] at hq; omega)
      refine ⟨c0, ?_, ?_⟩
      . rw [ex, List.getElem?_append_right (by rw [lr]; omega), lr]; exact e0
      . have c' : fLt (.int q) (.int ((y.length * k : Nat) : Int)) h = .ok (.bl false) h := by
          have : ¬ (q : Int) < ((y.length * k : Nat) : Int) := fun z => c (Int.ofNat_lt.mp z)
          simp only [fLt, this, decide_false]
        have sb : fSub (.int q) (.int ((y.length * k : Nat) : Int)) h = .ok (.int ((q - y.length * k : Nat) : Int)) h := by
          have : (q : Int) - ((y.length * k : Nat) : Int) = ((q - y.length * k : Nat) : Int) := by omega
          simp only [fSub, this]
        have eB : B_law_block_sign_1 [rw', some (.int q), some (.str y), some (.int k)] h = .nx [rw', some (.int ((q - y.length * k : Nat) : Int)), some (.str y), some (.int k)] h := by
          generalize ((q - y.length * k : Nat) : Int) = Q at *
          generalize ((y.length * k : Nat) : Int) = YK at *
          generalize (y.length : Int) = YL at *
          simp [B_law_block_sign_1, ln, mu, c', sb, -fLen, -fMul, -fLt, -fSub]
        generalize B_law_block_sign_1 = BB at *
        rw [List.map_cons]
        unfold sForGo
        simp [bv, setT, eB]
        exact g0
theorem ziw {h : AH} {rs : List Bk} {q : Nat} (ok : BOk rs) (hq : q < (fB rs).length) : ∃ c, (fB rs)[q]? = some c /\ F_law_block_sign [.fl (rs.map bv), .int q] h = .ok (.str ⟨#[c]⟩) h := by
  obtain ⟨c, e, g⟩ := zd5 (h := h) (rs.map bv) (some (.fl (rs.map bv))) rs q none none ok hq
  refine ⟨c, e, ?_⟩
  have it : iValT (sVar 0) [some (.fl (rs.map bv)), some (.int q), none, none] h = .ok (rs.map bv, none) h := by
    generalize rs.map bv = Z
    simp
  have f1 := (for_of (t := .tup [2, 3]) (b := B_law_block_sign_1) it).trans g
  unfold F_law_block_sign
  generalize sFor (iValT (sVar 0)) (.tup [2, 3]) B_law_block_sign_1 = FO at *
  generalize rs.map bv = Z at *
  generalize (⟨#[c]⟩ : Str) = CC at *
  simp [f1]
end Sk

namespace Sk
open PySem PySem.Spec L2 Sm
theorem cutB (l : List Bk) (k : Nat) (h : AH) : cutOf (.fl (l.map bv)) none (some (k : Int)) h = .ok (.fl ((l.take k).map bv)) h := by
  simp only [cutOf]
  congr 2
  unfold cutA
  rw [HT.sIx_nat, HT.sIx_none, List.length_map, List.map_take]
  show ((l.map bv).drop 0).take (min k l.length - 0) = _
  rw [List.drop_zero, Nat.sub_zero]
  by_cases q : k <= l.length
  . rw [Nat.min_eq_left q]
  . rw [Nat.min_eq_right (by omega), List.take_of_length_le (by simp), List.take_of_length_le (by simp; omega)]
abbrev eSp (Z : AV) (L T R : Nat) (s : Int) (o5 o6 : Option AV) : En := [some Z, some (.ref L), some (.int T), some (.ref R), some (.int s), o5, o6]
structure Sq (L : Nat) (h hh : AH) (qs : List Int) : Prop where
  f : Fr L h hh
  p : hh[h.length]? = some (.lst (qs.map AV.int))
theorem ext_sp {L R k : Nat} {hh : AH} {qs ws : List Int} (p : hh[R]? = some (.lst (qs.map AV.int))) (w : hh[k]? = some (.lst (ws.map AV.int))) (lq : qs.length + ws.length <= 1000) : mExtR (.ref R) [.ref k] hh = .ok .non (hh.set R (.lst ((qs ++ ws).map AV.int))) := by
  have : (qs.map AV.int).length + (ws.map AV.int).length <= sizeLine := Nat.le_trans (m := 1000) (by simpa using lq) (by decide)
  simp only [mExtR, p, w, this, if_true, List.map_append]
theorem zix {L T : Nat} {Z : AV} {h hh : AH} {qs : List Int} {s : Int} {x : Bk} (q : Sq L h hh qs) (hL : L < h.length) (lq : qs.length <= 900) (hx : x.1.length <= 100) :
    ∃ (h' : AH) (ws : List Int) (s' : Int), ws.length = 3 /\ B_law_spots_1 (eSp Z L T h.length s (some (.str x.1)) (some (.int x.2))) hh = .nx (eSp Z L T h.length s' (some (.str x.1)) (some (.int x.2))) h' /\ Sq L h h' (qs ++ ws) := by
  obtain ⟨s', es⟩ : ∃ s' : Int, s' = s + ((x.1.length * x.2 : Nat) : Int) := ⟨_, rfl⟩
  obtain ⟨ws, ews⟩ : ∃ ws : List Int, ws = [s' - 1, s', s' - x.1.length] := ⟨_, rfl⟩
  obtain ⟨h3, eh3⟩ : ∃ h3, h3 = hh ++ [AO.lst (ws.map AV.int)] := ⟨_, rfl⟩
  have P3 : h3[h.length]? = some (.lst (qs.map AV.int)) := by rw [eh3, List.getElem?_append_left (lt_of q.p)]; exact q.p
  have W3 : h3[hh.length]? = some (.lst (ws.map AV.int)) := by rw [eh3]; simp
  have lw : ws.length = 3 := by rw [ews]; rfl
  have xt := ext_sp (L := L) P3 W3 (by omega)
  have isl : isLst (.ref h.length) hh = true := by simp [q.p]
  refine ⟨h3.set h.length (.lst ((qs ++ ws).map AV.int)), ws, s', lw, ?_, ⟨(eh3 ▸ q.f.app _).new (by omega) hL _, List.getElem?_set_self (lt_of P3)⟩⟩
  have mu := fMulN (a := x.1.length) (b := x.2) (by omega) rfl hh
  have ln : fLen [.str x.1] hh = .ok (.int x.1.length) hh := by simp
  have ad : fAdd (.int s) (.int ((x.1.length * x.2 : Nat) : Int)) hh = .ok (.int s') hh := by rw [es]; rfl
  have s1 : fSub (.int s') (.int 1) hh = .ok (.int (s' - 1)) hh := rfl
  have s2 : fSub (.int s') (.int x.1.length) hh = .ok (.int (s' - x.1.length)) hh := rfl
  have hw : ws.map AV.int = [.int (s' - 1), .int s', .int (s' - x.1.length)] := by rw [ews]; rfl
  rw [hw] at eh3
  generalize h3.set h.length (.lst ((qs ++ ws).map AV.int)) = HF at *
  clear q P3 W3 hw ews es
  simp only [eSp]
  generalize ((x.1.length * x.2 : Nat) : Int) = XL at *
  generalize (x.1.length : Int) = X1 at *
  generalize s' - 1 = K1 at *
  generalize s' - X1 = K2 at *
  simp [B_law_spots_1, isl, ln, mu, ad, s1, s2, <- eh3, xt, -isLst, -fSub, -fAdd, -fMul, -fLen, -mExtR]
theorem ziy {h : AH} {L : Nat} {bs : List Bk} (eL : ∃ N : Int, h[L]? = some (.lst [.int N])) (ok : BOk bs) (hl : bs.length <= 1000) (h0 : 0 < (fB bs).length) (hT : (fB bs).length <= 1000000000000000000) :
    ∃ (h' : AH) (qs : List Int), F_law_spots [.fl (bs.map bv), .ref L] h = .ok (.fl (qs.map AV.int)) h' /\ Fr L h h' /\ (∀ q ∈ qs, 0 <= q /\ q < (fB bs).length) /\ qs.length <= 1000 := by
  obtain ⟨N0, eN⟩ := eL
  have hL := lt_of eN
  have ln := za5 (h := h) ok hl
  have ct := cutB bs 12
  have okc : BOk (bs.take 12) := fun q hq => ok q (List.mem_of_mem_take hq)
  obtain ⟨T, eT_⟩ : ∃ T, T = (fB bs).length := ⟨_, rfl⟩
  rw [<- eT_] at h0 hT ln ⊢
  obtain ⟨cs, ecs⟩ : ∃ cs, cs = bs.take 12 := ⟨_, rfl⟩
  rw [<- ecs] at ct okc
  have lc : cs.length <= 12 := by rw [ecs, List.length_take]; omega
  have F0 : Fr L h h := ⟨fun _ _ _ => rfl, Nat.le_refl _, N0, eN⟩
  obtain ⟨Z, eZ⟩ : ∃ Z, Z = AV.fl (bs.map bv) := ⟨_, rfl⟩
  rw [<- eZ] at ln ct ⊢
  obtain ⟨q0, eq0⟩ : ∃ q0 : List Int, q0 = [0, (T : Int) - 1] := ⟨_, rfl⟩
  have Q0 : Sq L h (h ++ [.lst (q0.map AV.int)]) q0 := ⟨F0.app _, by simp⟩
  obtain ⟨e', H1, r1, r2⟩ := for_p (w := none) (all := cs.map bv) (t := .tup [5, 6]) (b := B_law_spots_1) (xs := cs.map bv) (en := eSp Z L T h.length 0 none none) (h := h ++ [.lst (q0.map AV.int)])
    (fun j en hh => j <= cs.length -> ∃ (qs : List Int) (s : Int) (o5 o6 : Option AV), qs.length <= 2 + 3 * j /\ en = eSp Z L T h.length s o5 o6 /\ Sq L h hh qs)
    (fun _ => ⟨q0, 0, none, none, by rw [eq0]; exact Nat.le_refl _, rfl, Q0⟩) (fun _ _ _ _ => rfl) (by
      intro j u en hh hu p2
      rw [List.getElem?_map] at hu
      obtain ⟨x, ex, rfl⟩ := Option.map_eq_some_iff.mp hu
      have hj := (List.getElem?_eq_some_iff.mp ex).1
      obtain ⟨qs, s, o5, o6, lq, rfl, Q⟩ := p2 (by omega)
      obtain ⟨h', ws, s', lw, ev, Q'⟩ := zix (T := T) (Z := Z) (s := s) (x := x) Q hL (by omega) (okc x (List.mem_of_getElem? ex))
      show thn (B_law_spots_1 (eSp Z L T h.length s (some (.str x.1)) (some (.int x.2))) hh) _
      rw [ev]
      exact fun _ => ⟨qs ++ ws, s', _, _, by rw [List.length_append]; omega, rfl, Q'⟩)
  have lnk : (cs.map bv).length = cs.length := List.length_map ..
  rw [lnk] at r2
  obtain ⟨qs, s, o5, o6, lq, rfl, Q1⟩ := r2 (Nat.le_refl _)
  have it1 : iValT (sCut (sVar 0) none (some (sLit (.int 12)))) (eSp Z L T h.length 0 none none) (h ++ [.lst (q0.map AV.int)]) = .ok (cs.map bv, none) (h ++ [.lst (q0.map AV.int)]) := by
    have := ct (h ++ [.lst (q0.map AV.int)])
    have c2 : cutOf Z none (some 12) (h ++ [.lst (q0.map AV.int)]) = .ok (.fl (cs.map bv)) (h ++ [.lst (q0.map AV.int)]) := this
    generalize cs.map bv = CS at *
    simp [eSp, c2, -cutOf]
  have l1 := (for_of (t := .tup [5, 6]) (b := B_law_spots_1) it1).trans r1
  obtain ⟨zs, H2, c1, c2⟩ := comp_i (js := [1, 2]) (en := eSp Z L T h.length s o5 o6) (all := rangeA 0 3) (e := sAppl F_law_take (sCons (sVar 1) (sCons (sVar 2) sNil))) (xs := rangeA 0 3) (h := H1)
    (fun j ys hh => ∃ ws : List Int, ys = ws.map AV.int /\ ws.length = j /\ Sq L h hh qs) ⟨[], rfl, rfl, Q1⟩ (by
      rintro j x ys hh _ ⟨ws, rfl, lw, Q⟩
      obtain ⟨v, N, hv, t, f⟩ := Q.f.take T h0 (Nat.le_trans hT (by decide))
      have e : sAppl F_law_take (sCons (sVar 1) (sCons (sVar 2) sNil)) (some x :: [1, 2].map fun j => ((eSp Z L T h.length s o5 o6)[j]?).join) hh = .ok (.int v) (hh.set L (.lst [.int N])) := by
        simp [eSp, t]
      rw [e]
      exact ⟨ws ++ [(v : Int)], by simp, by simp [lw], f, by rw [List.getElem?_set_ne (by omega)]; exact Q.p⟩) (by decide)
  rw [zaU] at c2
  obtain ⟨ws, rfl, lw, Q2⟩ := c2
  have cm : sCompM [1, 2] (iRange1 (sLit (.int 3))) sYes (sAppl F_law_take (sCons (sVar 1) (sCons (sVar 2) sNil))) (eSp Z L T h.length s o5 o6) H1 = .ok (.ref H2.length) (H2 ++ [.lst (ws.map AV.int)]) := by
    have r := zba (a := sLit (.int 3)) (en := eSp Z L T h.length s o5 o6) (h := H1) (n := 3) rfl (by decide)
    simp only [sCompM, r, c1]
  obtain ⟨H3, eH3⟩ : ∃ H3, H3 = H2 ++ [AO.lst (ws.map AV.int)] := ⟨_, rfl⟩
  have P3 : H3[h.length]? = some (.lst (qs.map AV.int)) := by rw [eH3, List.getElem?_append_left (lt_of Q2.p)]; exact Q2.p
  have W3 : H3[H2.length]? = some (.lst (ws.map AV.int)) := by rw [eH3]; simp
  have xt := ext_sp (L := L) P3 W3 (by omega)
  obtain ⟨us, eus⟩ : ∃ us, us = qs ++ ws := ⟨_, rfl⟩
  have lu : us.length <= 100 := by rw [eus, List.length_append]; omega
  rw [<- eus] at xt
  obtain ⟨H4, eH4⟩ : ∃ H4, H4 = H3.set h.length (.lst (us.map AV.int)) := ⟨_, rfl⟩
  have P4 : H4[h.length]? = some (.lst (us.map AV.int)) := by rw [eH4]; exact List.getElem?_set_self (lt_of P3)
  have F4 : Fr L h H4 := by rw [eH4, eH3]; exact (Q2.f.app _).new (Nat.le_refl _) hL _
  rw [<- eH4] at xt
  have lv : liveB (some h.length) (us.map AV.int) H4 = true := by simp [P4]
  have cp := zaL (js := [2]) (en := eSp Z L T h.length s o5 o6) (w := some h.length) (all := us.map AV.int) (c := sBool (sChain fLe fLt (sLit (.int 0)) (sVar 0) (sVar 1))) (e := sVar 0) (g := AV.int) (f := AV.int) (p := fun x => decide (0 <= x /\ x < (T : Int))) (h := H4) lv us [] (by
    intro x hx
    have l1 : fLe (.int 0) (.int x) H4 = .ok (.bl (decide (0 <= x))) H4 := by simp
    have l2 : fLt (.int x) (.int T) H4 = .ok (.bl (decide (x < T))) H4 := by simp
    by_cases a : 0 <= x
    . rw [decide_eq_true a] at l1
      have : decide (0 <= x /\ x < (T : Int)) = decide (x < (T : Int)) := by simp [a]
      rw [this]
      simp [eSp, l1, l2, -fLe, -fLt]
    . rw [decide_eq_false a] at l1
      have : decide (0 <= x /\ x < (T : Int)) = false := by simp [a]
      rw [this]
      simp [eSp, l1, -fLe]) (fun x _ _ => rfl) (Nat.le_trans (m := 100) (by simpa using lu) (by decide))
  rw [List.nil_append] at cp
  have it4 : iVal (sVar 3) (eSp Z L T h.length s o5 o6) H4 = .ok (us.map AV.int, some h.length) H4 := by
    simp [eSp, P4]
  have sc : sComp [2] (iVal (sVar 3)) (sBool (sChain fLe fLt (sLit (.int 0)) (sVar 0) (sVar 1))) (sVar 0) (eSp Z L T h.length s o5 o6) H4 = .ok (.fl ((us.filter fun x => decide (0 <= x /\ x < (T : Int))).map AV.int)) H4 := by
    simp only [sComp, it4, cp]
  refine ⟨H4, us.filter fun x => decide (0 <= x /\ x < (T : Int)), ?_, F4, ?_, ?_⟩
  . generalize (us.filter fun x => decide (0 <= x /\ x < (T : Int))).map AV.int = OUT at *
    have isl : isLst (.ref h.length) H1 = true := by simp [Q1.p]
    have s1 : fSub (.int T) (.int 1) h = .ok (.int ((T : Int) - 1)) h := rfl
    have q0' : q0.map AV.int = [.int 0, .int ((T : Int) - 1)] := by rw [eq0]; rfl
    rw [q0'] at l1
    rw [<- eH3] at cm
    clear Q0 Q1 Q2 r1 c1 cp it1 it4 lv F0 F4 P3 W3 P4 eH3 eH4 lnk r2 q0' eq0 ct
    unfold F_law_spots
    generalize sComp [2] (iVal (sVar 3)) (sBool (sChain fLe fLt (sLit (.int 0)) (sVar 0) (sVar 1))) (sVar 0) = SC at *
    generalize sCompM [1, 2] (iRange1 (sLit (.int 3))) sYes (sAppl F_law_take (sCons (sVar 1) (sCons (sVar 2) sNil))) = SM at *
    generalize sFor (iValT (sCut (sVar 0) none (some (sLit (.int 12))))) (.tup [5, 6]) B_law_spots_1 = L1 at *
    simp only [eSp] at l1 sc cm
    generalize (T : Int) - 1 = T1 at *
    simp [ln, s1, l1, isl, cm, xt, sc, -isLst, -fSub, -mExtR]
  . intro q hq
    rw [List.mem_filter, decide_eq_true_eq] at hq
    exact hq.2
  . exact Nat.le_trans (List.length_filter_le _ _) (by omega)
end Sk

namespace Sk
open PySem PySem.Spec L2 Sm
theorem ziz {h : AH} {p : Nat} {ps : List Pc} (S : ShelfAt h p ps) (g : Good ps) {n q D : Nat} {m : Ms} {x : Str} {f l : Ms} {kvs : List (AV × AV)} (T : Tx ps n m x f l) (eD : h[D]? = some (.dct false kvs)) (K : KOl ps kvs) (hn : (valA kvs (.int n)).isSome = true) (hq : q < x.length) :
    ∃ c, x.cps.toList[q]? = some c /\ F_law_sign [.ref p, .int n, .int q, .ref D] h = .ok (.str ⟨#[c]⟩) h := by
  have ln := zae x
  have hq' : q < x.cps.toList.length := by rw [<- ln]; exact hq
  obtain ⟨c, ec⟩ : ∃ c, x.cps.toList[q]? = some c := ⟨_, List.getElem?_eq_getElem hq'⟩
  refine ⟨c, ec, ?_⟩
  obtain ⟨pc, epc⟩ : ∃ pc, ps[n - 1]? = some pc := by
    have := T.le
    have := T.n1
    exact ⟨_, List.getElem?_eq_getElem (by omega)⟩
  have fp0 := za4 S T.n1 epc
  obtain ⟨e', h', r1, rfl, o1, q', y, o5, r2, r3⟩ := ze4 (c := sBool (sOp2 fEq (sOp2 fIx (sVar 4) (sLit (.int 0))) (sLit (.str "fork")))) (b := B_law_sign_1) (fuel := wFuel) (n := m.ht.toNat) (en := [some (.ref p), some (.int n), some (.int q), some (.ref D), some pc.av, none]) (h := h)
    (fun i en hh => hh = h /\ ∃ (n' q' : Nat) (m' : Ms) (x' : Str) (f' l' : Ms) (pc' : Pc) (o5 : Option AV), Tx ps n' m' x' f' l' /\ m'.ht.toNat = i /\ (valA kvs (.int n')).isSome = true /\ x'.cps.toList[q']? = some c /\ ps[n' - 1]? = some pc' /\ en = [some (.ref p), some (.int n'), some (.int q'), some (.ref D), some pc'.av, o5])
    (fun en hh => hh = h /\ ∃ (o1 : Option AV) (q' : Nat) (y : Str) (o5 : Option AV), y.cps.toList[q']? = some c /\ en = [some (.ref p), o1, some (.int q'), some (.ref D), some (Pc.leaf y).av, o5])
    ⟨rfl, n, q, m, x, f, l, pc, none, T, rfl, hn, ec, epc, rfl⟩ (Nat.lt_of_le_of_lt (zhg g T) (by decide)) (by
      rintro i en hh ⟨rfl, n', q', m', x', f', l', pc', o5, T', hi, hn', ec', ep', rfl⟩
      rcases g.kind T' with ⟨e1, e2, e3, _⟩ | ⟨a, b, ma, mb, y, z, fa, la, fb, lb, e1, e2, e3, A, B, e4, e5, e6⟩
      . have := ep'.symm.trans e1
        injection this with this
        subst this
        have c1 : (sBool (sOp2 fEq (sOp2 fIx (sVar 4) (sLit (.int 0))) (sLit (.str "fork")))) [some (.ref p), some (.int n'), some (.int q'), some (.ref D), some (Pc.leaf x').av, o5] hh = .ok false hh := by
          have i0 : fIx (Pc.leaf x').av (.int 0) hh = .ok (.str "leaf") hh := rfl
          have q1 := eqFL hh
          generalize (Pc.leaf x').av = W at *
          simp [i0, q1, -fIx, -fEq]
        rw [c1]
        exact ⟨rfl, _, q', x', o5, ec', rfl⟩
      . have := ep'.symm.trans e1
        injection this with this
        subst this
        obtain ⟨j, ej, ja, jb, z0⟩ := hs1 (show m'.ht = max ma.ht mb.ht + 1 by rw [e5]; rfl) A.ky.ht B.ky.ht
        have c1 : (sBool (sOp2 fEq (sOp2 fIx (sVar 4) (sLit (.int 0))) (sLit (.str "fork")))) [some (.ref p), some (.int n'), some (.int q'), some (.ref D), some (Pc.fork a b).av, o5] hh = .ok true hh := by
          have i0 : fIx (Pc.fork a b).av (.int 0) hh = .ok (.str "fork") hh := rfl
          have q1 := eqFF hh
          generalize (Pc.fork a b).av = W at *
          simp [i0, q1, -fIx, -fEq]
        rw [c1]
        obtain ⟨ka, kb⟩ := K.cl n' a b hn' e1
        obtain ⟨v, ev⟩ := Option.isSome_iff_exists.mp ka
        obtain ⟨a', m2, x2, f2, l2, z1, T2, rfl⟩ := K.ok a v ev
        have : a = a' := Int.ofNat.inj z1
        subst this
        have z2 := A.ms.symm.trans T2.ms; cases z2
        have xa : fIx (.ref D) (.int a) hh = .ok (lookV ma f2 l2) hh := by simp [eD, isKey, ev]
        have xb : fIx (lookV ma f2 l2) (.int 1) hh = .ok (.int ma.sg) hh := rfl
        have i1 : fIx (Pc.fork a b).av (.int 1) hh = .ok (.int a) hh := rfl
        have i2 : fIx (Pc.fork a b).av (.int 2) hh = .ok (.int b) hh := rfl
        have sa := A.ky.sg
        have la : y.cps.toList.length = ma.sg := by rw [sa, <- zae]
        rw [e4, zap] at ec'
        have lt : fLt (.int q') (.int ma.sg) hh = .ok (.bl (decide (q' < ma.sg))) hh := by
          have : decide ((q' : Int) < ma.sg) = decide (q' < ma.sg) := by apply decide_eq_decide.mpr; omega
          simp only [fLt, this]
        by_cases cq : q' < ma.sg
        . obtain ⟨pa, epa⟩ : ∃ pc, ps[a - 1]? = some pc := by
            have := A.le
            have := A.n1
            exact ⟨_, List.getElem?_eq_getElem (by omega)⟩
          have fp := za4 S A.n1 epa
          rw [decide_eq_true cq] at lt
          have eB : B_law_sign_1 [some (.ref p), some (.int n'), some (.int q'), some (.ref D), some (Pc.fork a b).av, o5] hh = .nx [some (.ref p), some (.int a), some (.int q'), some (.ref D), some pa.av, some (.int ma.sg)] hh := by
            have ob := S.ob
            clear K S T
            generalize (Pc.fork a b).av = W at *
            generalize pa.av = PA at *
            generalize lookV ma f2 l2 = LV at *
            simp [B_law_sign_1, i1, xa, xb, lt, ob, fp, -fIx, -fLt]
          show thn (B_law_sign_1 _ hh) _
          rw [eB]
          rw [List.getElem?_append_left (by omega)] at ec'
          exact ⟨ma.ht.toNat, by omega, rfl, a, q', ma, y, fa, _, pa, _, A, rfl, ka, ec', epa, rfl⟩
        . obtain ⟨pb, epb⟩ : ∃ pc, ps[b - 1]? = some pc := by
            have := B.le
            have := B.n1
            exact ⟨_, List.getElem?_eq_getElem (by omega)⟩
          have fp := za4 S B.n1 epb
          rw [decide_eq_false cq] at lt
          have sb := fSubN (a := q') (b := ma.sg) (c := q' - ma.sg) (by omega) hh
          have eB : B_law_sign_1 [some (.ref p), some (.int n'), some (.int q'), some (.ref D), some (Pc.fork a b).av, o5] hh = .nx [some (.ref p), some (.int b), some (.int (q' - ma.sg : Nat)), some (.ref D), some pb.av, some (.int ma.sg)] hh := by
            have ob := S.ob
            clear K S T
            generalize (Pc.fork a b).av = W at *
            generalize pb.av = PA at *
            generalize lookV ma f2 l2 = LV at *
            generalize ((q' - ma.sg : Nat) : Int) = QQ at *
            simp [B_law_sign_1, i1, i2, xa, xb, lt, sb, ob, fp, -fIx, -fLt, -fSub]
          show thn (B_law_sign_1 _ hh) _
          rw [eB]
          rw [List.getElem?_append_right (by omega), la] at ec'
          exact ⟨mb.ht.toNat, by omega, rfl, b, q' - ma.sg, mb, z, fb, lb, pb, _, B, rfl, kb, ec', epb, rfl⟩)
  subst r3
  have i1 : fIx (Pc.leaf y).av (.int 1) h' = .ok (.str y) h' := rfl
  have k1 : fIx (.str y) (.int q') h' = .ok (.str ⟨#[c]⟩) h' := by simp only [fIx, zbf r2]
  have ob := S.ob
  clear K S T
  unfold F_law_sign
  generalize sWhile (sBool (sOp2 fEq (sOp2 fIx (sVar 4) (sLit (.int 0))) (sLit (.str "fork")))) B_law_sign_1 wFuel = WH at *
  generalize pc.av = PA at *
  generalize (Pc.leaf y).av = PB at *
  generalize (⟨#[c]⟩ : Str) = CC at *
  simp [ob, fp0, r1, i1, k1, -fIx]
structure Rr (L : Nat) (h : AH) (ps : List Pc) : Prop where
  sh : ShelfAt h 0 ps
  gd : Good ps
  far : 8 < L
  ro : ∃ N : Int, h[L]? = some (.lst [.int N])
theorem Rr.fr {L : Nat} {h h' : AH} {ps : List Pc} (s : Rr L h ps) (f : Fr L h h') : Rr L h' ps := by
  have l8 := lt_of s.sh.h8
  have fa := s.far
  exact ⟨s.sh.keep fun i i1 i8 => f.fr i (by omega) (by omega), s.gd, s.far, f.ro⟩
theorem Rr.app {L : Nat} {h : AH} {ps : List Pc} (s : Rr L h ps) (r : AH) : Rr L (h ++ r) ps := by
  obtain ⟨N, e⟩ := s.ro
  exact ⟨s.sh.app r, s.gd, s.far, N, by rw [List.getElem?_append_left (lt_of e)]; exact e⟩
theorem Rr.dd {L : Nat} {h h' : AH} {ps ps' : List Pc} {k : Nat} (s : Rr L h ps) (d : Dd 0 h h' ps ps' k) : Rr L h' ps' := by
  obtain ⟨N, e⟩ := s.ro
  have := s.far
  exact ⟨d.sh, d.gd, s.far, N, (d.fr L (.inr (by omega))).trans e⟩
theorem Rr.self {L : Nat} {h : AH} {ps : List Pc} (s : Rr L h ps) : Fr L h h := ⟨fun _ _ _ => rfl, Nat.le_refl _, s.ro⟩
theorem zfl {L n : Nat} {h : AH} {ps : List Pc} {X : Str} {bs : List Bk} (s : Rr L h ps) (T : TxZ ps n X) (eX : X.cps.toList = fB bs) (hX : X.length <= 1000000000000000000) (ok : BOk bs) (hl : bs.length <= 1000) (hz : ps.length < 16000000) :
    ∃ h', F_law_reads [.ref 0, .int n, .fl (bs.map bv), .ref L] h = .ok (.bl true) h' /\ Fr L h h' := by
  have xl : (fB bs).length = X.length := by rw [<- eX, <- zae]
  have lh := za5 (h := h) ok hl
  rw [xl] at lh
  rcases T with ⟨rfl, rfl⟩ | ⟨m, f, l, T⟩
  . refine ⟨h, ?_, s.self⟩
    have z0 : fEq (.int 0) (.int 0) h = .ok (.bl true) h := by simp
    have lh' : F_law_length [.fl (bs.map bv)] h = .ok (.int 0) h := lh
    unfold F_law_reads
    generalize bs.map bv = Z at *
    simp [lh', z0, -fEq]
  . have n1 := T.n1
    have sg := T.ky.sg
    have sg1 := T.ky.sg1
    have e0 : fEq (.int n) (.int 0) h = .ok (.bl false) h := by
      have : ¬ n = 0 := by omega
      simp [this]
    have e1 : fEq (.int X.length) (.int 0) h = .ok (.bl false) h := by
      have : ¬ X.length = 0 := by omega
      simp [this]
    obtain ⟨N0, eN⟩ := s.ro
    have Ll := lt_of eN
    have h8 := lt_of s.sh.h8
    have hh := ht82 s.gd T
    have h0 := T.ky.ht
    obtain ⟨kvs, e2, K, kn, _, _⟩ := zdb (p := 0) 90 (D := h.length) (kvs := []) (s.sh.app [.dct false []]) s.gd T (by omega) (by omega) (by simp) (KOl.nil ps) hz
    have st : (h ++ [AO.dct false []]).set h.length (.dct false kvs) = h ++ [.dct false kvs] := by simp
    rw [st] at e2
    have s1 := s.app [.dct false kvs]
    have eD : (h ++ [AO.dct false kvs])[h.length]? = some (.dct false kvs) := by simp
    have F0 := s.self.app [.dct false kvs]
    obtain ⟨h1, eh1⟩ : ∃ h1, h1 = h ++ [AO.dct false kvs] := ⟨_, rfl⟩
    have n1' : h1.length = h.length + 1 := by rw [eh1]; simp
    rw [<- eh1] at e2 s1 eD F0
    have q0 := zit m f l h1
    have ix1 : fIx (lookV m f l) (.int 1) h1 = .ok (.int X.length) h1 := by rw [<- sg]; rfl
    have ne : fNe (.int X.length) (.int X.length) h1 = .ok (.bl false) h1 := by simp
    have fs := zaC s1.sh T.ms
    rw [sg] at fs
    have fe := zik s1.sh T.ms
    have en := T.ky.en
    rw [zaO, eX] at en
    rw [en] at fe
    obtain ⟨h2, qs, f2, F2, hq, lq⟩ := ziy (h := h1) s1.ro ok hl (by omega) (by omega)
    have s2 := s1.fr F2
    have D2 : h2[h.length]? = some (.dct false kvs) := (F2.fr h.length (by omega) (by omega)).trans eD
    rw [xl] at hq
    have ca := zdZ (js := [0, 1, 5, 2]) (en := [some (.ref 0), some (.int n), some (.fl (bs.map bv)), some (.ref L), some (.int X.length), some (.ref h.length), some (lookV m f l), some (.fl (qs.map AV.int))]) (w := none) (all := qs.map AV.int) (e := sOp2 fEq (sAppl F_law_sign (sCons (sVar 1) (sCons (sVar 2) (sCons (sVar 0) (sCons (sVar 3) sNil))))) (sAppl F_law_block_sign (sCons (sVar 4) (sCons (sVar 0) sNil)))) (g := AV.int) (f := fun _ => AV.bl true) (h := h2) rfl qs [] (by
      intro q hqq
      obtain ⟨q0, q1⟩ := hq q hqq
      obtain ⟨a, rfl⟩ : ∃ a : Nat, q = a := ⟨q.toNat, by omega⟩
      obtain ⟨c, c1, c2⟩ := ziz (q := a) s2.sh s2.gd T D2 K kn (by omega)
      obtain ⟨c', c3, c4⟩ := ziw (h := h2) (q := a) ok (by omega)
      rw [<- eX, c1] at c3
      cases c3
      have eq : fEq (.str ⟨#[c]⟩) (.str ⟨#[c]⟩) h2 = .ok (.bl true) h2 := by simp
      generalize bs.map bv = Z at *
      generalize (⟨#[c]⟩ : Str) = CC at *
      generalize lookV m f l = LV at *
      generalize qs.map AV.int = QS at *
      generalize (X.length : Int) = XL at *
      simp [c2, c4, eq, -fEq]) (Nat.le_trans (m := 1000) (by simpa using lq) (by decide))
    have it : iVal (sVar 7) [some (.ref 0), some (.int n), some (.fl (bs.map bv)), some (.ref L), some (.int X.length), some (.ref h.length), some (lookV m f l), some (.fl (qs.map AV.int))] h2 = .ok (qs.map AV.int, none) h2 := by
      generalize qs.map AV.int = QS at *
      simp
    have sc : sComp [0, 1, 5, 2] (iVal (sVar 7)) sYes (sOp2 fEq (sAppl F_law_sign (sCons (sVar 1) (sCons (sVar 2) (sCons (sVar 0) (sCons (sVar 3) sNil))))) (sAppl F_law_block_sign (sCons (sVar 4) (sCons (sVar 0) sNil)))) [some (.ref 0), some (.int n), some (.fl (bs.map bv)), some (.ref L), some (.int X.length), some (.ref h.length), some (lookV m f l), some (.fl (qs.map AV.int))] h2 = .ok (.fl (qs.map fun _ => AV.bl true)) h2 := by
      rw [List.nil_append] at ca
      simp only [sComp, it, ca]
    have al : fAll [.fl (qs.map fun _ => AV.bl true)] h2 = .ok (.bl true) h2 := by
      have : ∀ l : List Int, boolsOf (l.map fun _ => AV.bl true) = some (l.map fun _ => true) := by
        intro l
        induction l with
        | nil => rfl
        | cons a l ih => simp [boolsOf, ih]
      simp [fAll, this]
    refine ⟨h2, ?_, F0.trans F2⟩
    have sc' := f_sumC (h := h1) ok hl (some (.ref 0)) (some (.int n)) (some (.ref L)) (some (.int X.length)) (some (.ref h.length)) (some (lookV m f l)) none
    have ne2 : fNe (.int ((fB bs).count 10 : Nat)) (.int ((fB bs).count 10 : Nat)) h1 = .ok (.bl false) h1 := by simp
    have ob := s1.sh.ob
    clear s s1 s2 T K ca it F0 F2 D2 eD hq eX eh1
    unfold F_law_reads
    generalize sComp [0, 1, 5, 2] (iVal (sVar 7)) sYes (sOp2 fEq (sAppl F_law_sign (sCons (sVar 1) (sCons (sVar 2) (sCons (sVar 0) (sCons (sVar 3) sNil))))) (sAppl F_law_block_sign (sCons (sVar 4) (sCons (sVar 0) sNil)))) = SC at *
    generalize sAppl fSum (sCons (sComp2 [] (iValT (sVar 2)) sYes (sOp2 fMul (sBM isStr mCountS (sVar 0) (sCons (sLit (.str "\n")) sNil)) (sVar 1))) sNil) = SU at *
    generalize F_law_look 90 = FL at *
    generalize (((fB bs).count 10 : Nat) : Int) = CN at *
    generalize bs.map bv = Z at *
    generalize lookV m f l = LV at *
    generalize (qs.map fun _ => AV.bl true) = QB at *
    generalize qs.map AV.int = QS at *
    generalize (X.length : Int) = XL at *
    simp [lh, e0, e1, e2, q0, ix1, ne, ob, fs, fe, sc', ne2, f2, sc, al, -fEq, -fNe, -fIx, -fAll]
end Sk

namespace Sk
open PySem PySem.Spec L2 Sm
theorem ziA (n : Nat) : 9 * ((ll n : Int) / 2) + (ll n : Int) % 2 = (ls n : Int) := by unfold ls; omega
theorem f_high (s : Nat) (h1 : 1 <= s) (h2 : s <= 1000000000000000000) (h : AH) : ∃ H : Nat, F_law_high [.int s] h = .ok (.int H) h /\ ls H <= s /\ s < ls (H + 1) := by
  have big : ∀ n, s < ls n -> n <= 83 \/ ls 83 <= s \/ True := fun _ _ => .inr (.inr trivial)
  obtain ⟨e', h', q1, H, q2, q3, q4, q5⟩ := ze4 (c := sBool (sOp2 fLe (sOp2 fAdd (sOp2 fMul (sLit (.int 9)) (sOp2 fDiv (sVar 2) (sLit (.int 2)))) (sOp2 fMod (sVar 2) (sLit (.int 2)))) (sVar 0))) (b := B_law_high_1) (fuel := wFuel) (n := 83) (en := [some (.int s), some (.int 1), some (.int 2), some (.int 0)]) (h := h)
    (fun N en hh => ∃ H : Nat, hh = h /\ en = [some (.int s), some (.int (ll H)), some (.int (ll (H + 1))), some (.int H)] /\ ls H <= s /\ N = 83 - H)
    (fun en hh => ∃ H : Nat, hh = h /\ en = [some (.int s), some (.int (ll H)), some (.int (ll (H + 1))), some (.int H)] /\ ls H <= s /\ s < ls (H + 1))
    ⟨0, rfl, rfl, h1, rfl⟩ (by show 83 < 100000000; omega) (by
      rintro N en hh ⟨H, rfl, rfl, q, eN⟩
      have H82 : H <= 82 := by
        apply Classical.byContradiction
        intro z
        have := zb5 (show 83 <= H by omega)
        have := ls83
        omega
      have ml : fMul (.int 9) (.int ((ll (H + 1) : Int) / 2)) hh = .ok (.int (9 * ((ll (H + 1) : Int) / 2))) hh := fMul_l (by decide)
      have dv : fDiv (.int (ll (H + 1))) (.int 2) hh = .ok (.int ((ll (H + 1) : Int) / 2)) hh := rfl
      have md : fMod (.int (ll (H + 1))) (.int 2) hh = .ok (.int ((ll (H + 1) : Int) % 2)) hh := rfl
      have ad : fAdd (.int (9 * ((ll (H + 1) : Int) / 2))) (.int ((ll (H + 1) : Int) % 2)) hh = .ok (.int (ls (H + 1))) hh := by rw [<- ziA]; rfl
      have le : fLe (.int (ls (H + 1))) (.int s) hh = .ok (.bl (decide (ls (H + 1) <= s))) hh := by
        have : decide ((ls (H + 1) : Int) <= s) = decide (ls (H + 1) <= s) := by apply decide_eq_decide.mpr; omega
        simp only [fLe, this]
      have c : sBool (sOp2 fLe (sOp2 fAdd (sOp2 fMul (sLit (.int 9)) (sOp2 fDiv (sVar 2) (sLit (.int 2)))) (sOp2 fMod (sVar 2) (sLit (.int 2)))) (sVar 0)) [some (.int s), some (.int (ll H)), some (.int (ll (H + 1))), some (.int H)] hh = .ok (decide (ls (H + 1) <= s)) hh := by
        generalize (ll (H + 1) : Int) = L1 at *
        generalize L1 / 2 = L2 at *
        generalize L1 % 2 = L3 at *
        generalize (ls (H + 1) : Int) = L4 at *
        simp [dv, ml, md, ad, le, -fDiv, -fMul, -fMod, -fAdd, -fLe]
      rw [c]
      by_cases z : ls (H + 1) <= s
      . rw [decide_eq_true z]
        have e : B_law_high_1 [some (.int s), some (.int (ll H)), some (.int (ll (H + 1))), some (.int H)] hh = .nx [some (.int s), some (.int (ll (H + 1))), some (.int (ll (H + 1 + 1))), some (.int ((H + 1 : Nat) : Int))] hh := by
          have l2 : ((ll (H + 1 + 1) : Nat) : Int) = (ll H : Int) + ll (H + 1) := by rw [show H + 1 + 1 = H + 2 from rfl, ll_2]; omega
          rw [l2]
          simp [B_law_high_1]
        show thn (B_law_high_1 _ hh) _
        rw [e]
        exact ⟨83 - (H + 1), by omega, H + 1, rfl, rfl, z, rfl⟩
      . rw [decide_eq_false z]
        exact ⟨H, rfl, rfl, q, by omega⟩)
  subst q2 q3
  refine ⟨H, ?_, q4, q5⟩
  unfold F_law_high
  generalize sWhile (sBool (sOp2 fLe (sOp2 fAdd (sOp2 fMul (sLit (.int 9)) (sOp2 fDiv (sVar 2) (sLit (.int 2)))) (sOp2 fMod (sVar 2) (sLit (.int 2)))) (sVar 0))) B_law_high_1 wFuel = WH at *
  simp [q1]
theorem TxZ.pos {ps : List Pc} {n : Nat} {y : Str} (t : TxZ ps n y) (hy : 1 <= y.length) : ∃ m f l, Tx ps n m y f l := by
  rcases t with ⟨rfl, rfl⟩ | t
  . exact absurd hy (by decide)
  . exact t
theorem zdc {hh : AH} {L : Nat} {N : Int} (m : Nat) (e : hh[L]? = some (.lst [.int N])) (hm : 0 < m) (hm2 : m <= 10 ^ 50) : ∃ (v : Nat) (N' : Int), v < m /\ F_law_take [.ref L, .int m] hh = .ok (.int v) (hh.set L (.lst [.int N'])) := by
  obtain ⟨v, hv, e1⟩ := zc8 m e hm hm2
  exact ⟨v, N / m, hv, e1⟩
theorem zfJ {y : Str} {c : Nat} (hy : plainS y = true) (hc : plainC c = true) : plainS (y ++ ⟨#[c]⟩) = true /\ (y ++ (⟨#[c]⟩ : Str)).length = y.length + 1 := by
  refine ⟨?_, by rw [zaq]; rfl⟩
  rw [zaM, hy]
  simp [plainS, hc]
theorem zfK {hh : AH} {L : Nat} {N : Int} (most : Nat) (hm : most <= 1000) (e : hh[L]? = some (.lst [.int N])) : ∃ (y : Str) (N' : Int), F_law_plain [.ref L, .int most] hh = .ok (.str y) (hh.set L (.lst [.int N'])) /\ plainS y = true /\ y.length <= most := by
  have Ll := lt_of e
  obtain ⟨v, N1, hv, t1⟩ := zdc 4 e (by decide) (by decide)
  have t1' : F_law_take [.ref L, .int 4] hh = .ok (.int v) (hh.set L (.lst [.int N1])) := t1
  obtain ⟨z, ⟨pz, z1, z2⟩, ez⟩ := zhn v hv (hh.set L (.lst [.int N1]))
  have e1 : (hh.set L (.lst [.int N1]))[L]? = some (.lst [.int N1]) := List.getElem?_set_self Ll
  obtain ⟨k, N2, hk, t2⟩ := zdc (most + 1) e1 (Nat.succ_pos _) (Nat.le_trans (Nat.succ_le_succ hm) (by decide))
  rw [List.set_set] at t2
  have t2' : F_law_take [.ref L, .int ((most : Int) + 1)] (hh.set L (.lst [.int N1])) = .ok (.int k) (hh.set L (.lst [.int N2])) := by
    have := t2; rw [Int.natCast_succ] at this; exact this
  obtain ⟨e', h', r1, y, N3, o4, r2, r3, r4, r5⟩ := for_p (w := none) (all := rangeA 0 k) (t := .nm 4) (b := B_law_plain_1) (xs := rangeA 0 k) (en := [some (.ref L), some (.int most), some (.str z), some (.str ""), none]) (h := hh.set L (.lst [.int N2]))
    (fun j en h' => ∃ (y : Str) (N' : Int) (o4 : Option AV), en = [some (.ref L), some (.int most), some (.str z), some (.str y), o4] /\ h' = hh.set L (.lst [.int N']) /\ plainS y = true /\ y.length = j) ⟨"", N2, none, rfl, rfl, rfl, rfl⟩ (fun _ _ _ _ => rfl) (by
      rintro j u en h' hu ⟨y, N', o4, rfl, rfl, py, ly⟩
      have jk : j < k := by have := (List.getElem?_eq_some_iff.mp hu).1; rwa [zaU] at this
      have e3 : (hh.set L (.lst [.int N']))[L]? = some (.lst [.int N']) := List.getElem?_set_self Ll
      obtain ⟨t, N4, ht, et⟩ := zdc z.length e3 (by omega) (Nat.le_trans z2 (by decide))
      rw [List.set_set] at et
      obtain ⟨c, pc, ec⟩ := zho ht pz (hh.set L (.lst [.int N4]))
      have ad : fAdd (.str y) (.str ⟨#[c]⟩) (hh.set L (.lst [.int N4])) = .ok (.str (y ++ ⟨#[c]⟩)) (hh.set L (.lst [.int N4])) := by
        have : y.length + (⟨#[c]⟩ : Str).length <= sizeLine := Nat.le_trans (m := 1001) (by show y.length + 1 <= _; omega) (by decide)
        simp only [fAdd, this, if_true]
      have es : B_law_plain_1 [some (.ref L), some (.int most), some (.str z), some (.str y), some u] (hh.set L (.lst [.int N'])) = .nx [some (.ref L), some (.int most), some (.str z), some (.str (y ++ ⟨#[c]⟩)), some u] (hh.set L (.lst [.int N4])) := by
        generalize hh.set L (.lst [.int N4]) = h2 at *
        generalize hh.set L (.lst [.int N']) = h1 at *
        simp [B_law_plain_1, et, ec, ad, -fIx, -fAdd]
      show thn (B_law_plain_1 [some (.ref L), some (.int most), some (.str z), some (.str y), some u] (hh.set L (.lst [.int N']))) _
      rw [es]
      obtain ⟨q1, q2⟩ := zfJ py pc
      exact ⟨_, N4, _, rfl, rfl, q1, by rw [q2, ly]⟩)
  rw [zaU] at r5
  have f1 := (for_of (t := .nm 4) (b := B_law_plain_1) (zba (a := sAppl F_law_take (sCons (sVar 0) (sCons (sOp2 fAdd (sVar 1) (sLit (.int 1))) sNil))) (en := [some (.ref L), some (.int most), some (.str z), some (.str ""), none]) (h := hh.set L (.lst [.int N1])) (n := k) (by simp [t2']) (by omega))).trans r1
  refine ⟨y, N3, ?_, r4, by omega⟩
  rw [<- r3]
  subst r2
  unfold F_law_plain
  generalize sFor (iRange1 (sAppl F_law_take (sCons (sVar 0) (sCons (sOp2 fAdd (sVar 1) (sLit (.int 1))) sNil)))) (.nm 4) B_law_plain_1 = F1 at *
  generalize hh.set L (.lst [.int N1]) = h1 at *
  simp [t1', ez, f1]
theorem ziB (c k : Int) (h : AH) : ∃ m, F_law_mixed [.int c, .int k] h = .ok (.int m) h := by
  have b1 : 0 <= (c % 1000000007 + 7919 * k + 101) * 48271 % 2147483647 := Int.emod_nonneg _ (by decide)
  have b2 : (c % 1000000007 + 7919 * k + 101) * 48271 % 2147483647 < 2147483647 := Int.emod_lt_of_pos _ (by decide)
  refine ⟨(c % 1000000007 + 7919 * k + 101) * 48271 % 2147483647 * ((c % 1000000007 + 7919 * k + 101) * 48271 % 2147483647) % 2147483629 * 69621 % 2147483647, ?_⟩
  generalize he : (c % 1000000007 + 7919 * k + 101) * 48271 % 2147483647 = v at *
  have c1 : v.natAbs < 18446744073709551616 := by omega
  simp [F_law_mixed, he, c1]
theorem fMul_b {i j : Int} {h : AH} (hi : i.natAbs < 2 ^ 4000) (hj : j.natAbs < 2 ^ 4000) : fMul (.int i) (.int j) h = .ok (.int (i * j)) h := if_pos (.inr ⟨hi, hj⟩)
abbrev T60 : Int := 1000000000000000000000000000000000000000000000000000000000000000000000000000000000000000000000000000000000000000000000000
theorem big780 : (10 : Nat) ^ 720 < 2 ^ 4000 := by decide +kernel
theorem big60 : T60.natAbs < 2 ^ 4000 := by decide +kernel
theorem zep (ns : List Int) (k : Nat) (i : Nat) (c : Nat) (o : Option AV) (h : AH) (hi : i < 6) (hc : c < 10 ^ (120 * i)) (hj : k + i * 12 < ns.length) :
    ∃ c' : Nat, c' < 10 ^ (120 * (i + 1)) /\ B_law_stream_1 [some (.fl (ns.map AV.int)), some (.int k), some (.int c), some (.int ((k : Int) + i * 12)), o] h = .nx [some (.fl (ns.map AV.int)), some (.int k), some (.int c'), some (.int ((k : Int) + i * 12)), o] h := by
  obtain ⟨s, es⟩ : ∃ s, ns[k + i * 12]? = some s := ⟨ns[k + i * 12], by simp [hj]⟩
  have ix : fIx (.fl (ns.map AV.int)) (.int ((k : Int) + i * 12)) h = .ok (.int s) h := by
    rw [show ((k : Int) + i * 12) = ((k + i * 12 : Nat) : Int) by simp]
    simp only [fIx, zcv es]
  have p1 : (10 : Nat) ^ (120 * i) <= 10 ^ 720 := Nat.pow_le_pow_right (by decide) (by omega)
  have m1 : ((c : Int)).natAbs < 2 ^ 4000 := by
    have := big780
    exact Nat.lt_trans (show c < 10 ^ 720 by omega) this
  have mu : fMul (.int c) (.int T60) h = .ok (.int (c * T60)) h := fMul_b m1 big60
  have r0 : 0 <= s % T60 := Int.emod_nonneg _ (by decide)
  have r1 : s % T60 < T60 := Int.emod_lt_of_pos _ (by decide)
  obtain ⟨r, er⟩ : ∃ r : Nat, s % T60 = (r : Int) := ⟨(s % T60).toNat, (Int.toNat_of_nonneg r0).symm⟩
  have rl : r < 10 ^ 120 := by
    have : (r : Int) < T60 := er ▸ r1
    have e : T60 = ((10 ^ 120 : Nat) : Int) := by decide +kernel
    rw [e] at this; exact Int.ofNat_lt.mp this
  obtain ⟨c', ec, lc⟩ : ∃ c' : Nat, (c : Int) * T60 + r = (c' : Int) /\ c' < 10 ^ (120 * (i + 1)) := by
    refine ⟨c * 10 ^ 120 + r, ?_, ?_⟩
    . have e : T60 = ((10 ^ 120 : Nat) : Int) := by decide +kernel
      rw [e, Int.natCast_add, Int.natCast_mul]
    . rw [show 120 * (i + 1) = 120 * i + 120 by omega, Nat.pow_add]
      have : (c + 1) * 10 ^ 120 <= 10 ^ (120 * i) * 10 ^ 120 := Nat.mul_le_mul_right _ hc
      have e2 : (c + 1) * 10 ^ 120 = c * 10 ^ 120 + 10 ^ 120 := Nat.succ_mul _ _
      omega
  refine ⟨c', lc, ?_⟩
  have pw : (sOp2 fMul (sOp2 fPow (sLit (.int 10)) (sLit (.int 60))) (sOp2 fPow (sLit (.int 10)) (sLit (.int 60)))) [some (.fl (ns.map AV.int)), some (.int k), some (.int c), some (.int ((k : Int) + i * 12)), o] h = .ok (.int T60) h := by simp
  have md : fMod (.int s) (.int T60) h = .ok (.int r) h := by simp only [fMod]; rw [if_pos (by decide), er]
  clear p1 m1 r0 r1 er rl hc lc hi
  unfold B_law_stream_1
  generalize sOp2 fMul (sOp2 fPow (sLit (.int 10)) (sLit (.int 60))) (sOp2 fPow (sLit (.int 10)) (sLit (.int 60))) = PW at *
  generalize T60 = t60 at *
  simp [pw, mu, ix, md, ec, -fMul, -fIx, -fMod]
theorem zd6 (en0 : Option AV) (ns : List Int) (k c f j : Int) (h : AH) : ∃ f', B_law_stream_2 [some (.fl (ns.map AV.int)), some (.int k), some (.int c), some (.int j), some (.int f)] h = .nx [some (.fl (ns.map AV.int)), some (.int k), some (.int c), some (.int j), some (.int f')] h := by
  obtain ⟨m, hm⟩ := ziB (c + 1009 * k + ns.length) j h
  refine ⟨f * 2147483647 + m, ?_⟩
  have m1 : fMul (.int f) (.int 2147483647) h = .ok (.int (f * 2147483647)) h := fMul_r (by decide)
  have m2 : fMul (.int 1009) (.int k) h = .ok (.int (1009 * k)) h := fMul_l (by decide)
  simp [B_law_stream_2, hm, m1, m2, -fMul]
theorem zhr (ns : List Int) (hl : ns.length <= 63) (k : Nat) (hk : k <= 10) (h : AH) : ∃ N : Int, F_law_stream [.fl (ns.map AV.int), .int k] h = .ok (.ref h.length) (h ++ [.lst [.int N]]) := by
  obtain ⟨M, eM⟩ : ∃ M : Nat, M = (if (k : Int) < (ns.length : Int) then ((ns.length : Int) - k - 1) / 12 + 1 else 0).toNat := ⟨_, rfl⟩
  have hM : M <= 6 /\ ∀ i, i < M -> k + i * 12 < ns.length := by
    rw [eM]
    split
    . refine ⟨by omega, fun i hi => by omega⟩
    . refine ⟨by omega, fun i hi => by simp at hi⟩
  obtain ⟨e1, h1, r1, r2⟩ := for_p (w := none) (all := (List.range M).map (fun m : Nat => AV.int ((k : Int) + m * 12))) (t := .nm 3) (b := B_law_stream_1) (xs := (List.range M).map (fun m : Nat => AV.int ((k : Int) + m * 12))) (en := [some (.fl (ns.map AV.int)), some (.int k), some (.int 0), none, none]) (h := h)
    (fun i en h' => h' = h /\ ∃ (c : Nat) (o : Option AV), c < 10 ^ (120 * i) /\ en = [some (.fl (ns.map AV.int)), some (.int k), some (.int c), o, none]) ⟨rfl, 0, none, by decide, rfl⟩ (fun _ _ _ _ => rfl) (by
      rintro j x en h' hx ⟨rfl, c, o, hc, rfl⟩
      rw [List.getElem?_map] at hx
      obtain ⟨m, em, rfl⟩ := Option.map_eq_some_iff.mp hx
      have hj : j < M := by
        have := (List.getElem?_eq_some_iff.mp em).1; simpa using this
      rw [List.getElem?_range hj] at em
      cases em
      obtain ⟨c', l', e⟩ := zep ns k j c none h' (by have := hM.1; omega) hc (hM.2 j hj)
      show thn (B_law_stream_1 [some (.fl (ns.map AV.int)), some (.int k), some (.int c), some (.int ((k : Int) + j * 12)), none] h') _
      rw [e]
      exact ⟨rfl, c', _, l', rfl⟩)
  obtain ⟨rfl, c, o, hc, rfl⟩ := r2
  have z1 : (k : Int).natAbs < 1099511627776 := by omega
  have z2 : ((ns.length : Nat) : Int).natAbs < 1099511627776 := by omega
  have it3 : iRange3 (sVar 1) (sAppl fLen (sCons (sVar 0) sNil)) (sLit (.int 12)) [some (.fl (ns.map AV.int)), some (.int k), some (.int 0), none, none] h1 = .ok ((List.range M).map (fun m : Nat => AV.int ((k : Int) + m * 12)), none) h1 := by
    simp only [iRange3, sVar, sAppl, sCons, sNil, sLit, Out.bind, fLen, List.getElem?_cons_zero, List.getElem?_cons_succ, lenA]
    rw [if_pos ⟨z1, z2, by decide, by decide⟩, <- eM]
  have f1 := (for_of (t := .nm 3) (b := B_law_stream_1) it3).trans r1
  clear r1 it3
  by_cases hb : (1000000000000000000 : Int) <= c
  . exact ⟨c, by simp [F_law_stream, f1, hb, -sFor]⟩
  . have cm := zdZ (js := []) (en := [some (.fl (ns.map AV.int)), some (.int k), some (.int c), o, none]) (w := none) (all := ns.map AV.int) (e := sOp2 fMod (sVar 0) (sOp2 fPow (sLit (.int 10)) (sLit (.int 18)))) (g := AV.int) (f := fun i => AV.int (i % 1000000000000000000)) (h := h1) rfl ns [] (by intro i _; simp) (by
        simp only [List.length_nil]; exact Nat.le_trans (show 0 + ns.length <= 63 by omega) (by decide))
    have im : (ns.map fun i => AV.int (i % 1000000000000000000)) = (ns.map fun i => i % 1000000000000000000).map AV.int := by simp
    obtain ⟨S, eS⟩ : ∃ S : Int, S = (ns.map fun i => i % 1000000000000000000).sum := ⟨_, rfl⟩
    have sm : fSum [.fl (ns.map fun i => AV.int (i % 1000000000000000000))] h1 = .ok (.int S) h1 := by
      rw [im, eS]; simp only [fSum, zbD]
    obtain ⟨e2, h2, s1, s2⟩ := for_p (w := none) (all := rangeA 0 24) (t := .nm 3) (b := B_law_stream_2) (xs := rangeA 0 24) (en := [some (.fl (ns.map AV.int)), some (.int k), some (.int (c + S)), o, some (.int 0)]) (h := h1)
      (fun i en h' => h' = h1 /\ ∃ (f : Int) (o : Option AV), en = [some (.fl (ns.map AV.int)), some (.int k), some (.int (c + S)), o, some (.int f)]) ⟨rfl, 0, o, rfl⟩ (fun _ _ _ _ => rfl) (by
        rintro j x en h' hx ⟨rfl, f, o, rfl⟩
        rw [zbQ] at hx
        by_cases q : j < 24
        . rw [if_pos q] at hx
          cases hx
          obtain ⟨f', e⟩ := zd6 none ns k (c + S) f (0 + (j : Int)) h'
          show thn (B_law_stream_2 [some (.fl (ns.map AV.int)), some (.int k), some (.int (c + S)), some (.int (0 + (j : Int))), some (.int f)] h') _
          rw [e]
          exact ⟨rfl, f', _, rfl⟩
        . rw [if_neg q] at hx; cases hx)
    obtain ⟨rfl, f, o', rfl⟩ := s2
    have f2 := (for_of (t := .nm 3) (b := B_law_stream_2) (zba (a := sLit (.int 24)) (en := [some (.fl (ns.map AV.int)), some (.int k), some (.int (c + S)), o, some (.int 0)]) (h := h2) (n := 24) rfl (by decide))).trans s1
    refine ⟨f, ?_⟩
    simp at cm
    simp [F_law_stream, f1, hb, cm, sm, f2, -sFor, -fSum]
theorem zdz {w : Option Nat} {js : List Nat} {en : En} {all : List AV} {c : SB} {e : SE} (P : Nat -> List AV -> AH -> Prop) (lv : ∀ i ys h, P i ys h -> liveB w all h = true) : ∀ (xs ys : List AV) (i : Nat) (h : AH), P i ys h ->
    (∀ j x ys h, xs[j]? = some x -> P (i + j) ys h -> c (some x :: js.map fun j => (en[j]?).join) h = .ok true h /\ ∃ v h2, e (some x :: js.map fun j => (en[j]?).join) h = .ok v h2 /\ P (i + j + 1) (ys ++ [v]) h2) -> ys.length + xs.length <= sizeLine ->
    ∃ zs h', sCompGo js en w all c e xs ys h = .ok zs h' /\ P (i + xs.length) zs h'
  | [], ys, i, h, p, _, _ => ⟨ys, h, by unfold sCompGo; rw [if_pos (lv _ _ _ p)], p⟩
  | x :: xs, ys, i, h, p, s, hl => by
    obtain ⟨q0, v, h2, q1, q2⟩ := s 0 x ys h rfl p
    obtain ⟨zs, h', r1, r2⟩ := zdz P lv xs (ys ++ [v]) (i + 1) h2 q2 (fun j y ys h hy hp => by
      have := s (j + 1) y ys h (by simpa using hy) (by rw [show i + (j + 1) = i + 1 + j by omega]; exact hp)
      rw [show i + (j + 1) + 1 = i + 1 + j + 1 by omega] at this
      exact this) (by simp at hl ⊢; omega)
    refine ⟨zs, h', ?_, by rw [List.length_cons, show i + (xs.length + 1) = i + 1 + xs.length by omega]; exact r2⟩
    unfold sCompGo
    rw [if_pos ⟨lv _ _ _ p, by simp at hl; omega⟩, q0]
    dsimp only
    rw [q1]
    exact r1
end Sk

namespace Sk
open PySem PySem.Spec L2 Sm
abbrev En2 := Nat × List Bk
abbrev ev2 (q : En2) : AV := .tup [.int q.1, .fl (q.2.map bv)]
structure Ent (ps : List Pc) (q : En2) : Prop where
  tx : ∃ X : Str, TxZ ps q.1 X /\ X.cps.toList = fB q.2
  l1 : 1 <= (fB q.2).length
  l2 : (fB q.2).length <= 1000000000000000000
  ok : BOk q.2
  fw : q.2.length <= 30
theorem Ent.pre {ps ps' : List Pc} {q : En2} (e : Ent ps q) (h : ps <+: ps') : Ent ps' q := by
  obtain ⟨X, T, eX⟩ := e.tx
  exact ⟨⟨X, T.pre h, eX⟩, e.l1, e.l2, e.ok, e.fw⟩
structure Kd (L : Nat) (h h' : AH) (ps ps' : List Pc) (k : Nat) : Prop where
  rr : Rr L h' ps'
  pre : ps <+: ps'
  len : ps'.length <= ps.length + k
  fr : ∀ i, 8 < i -> i < h.length -> i ≠ L -> h'[i]? = h[i]?
  hl : h.length <= h'.length
theorem Kd.refl {L : Nat} {h : AH} {ps : List Pc} (s : Rr L h ps) : Kd L h h ps ps 0 := ⟨s, List.prefix_refl _, by omega, fun _ _ _ _ => rfl, Nat.le_refl _⟩
theorem Kd.fr' {L : Nat} {h h' h'' : AH} {ps ps' : List Pc} {k : Nat} (a : Kd L h h' ps ps' k) (f : Fr L h' h'') : Kd L h h'' ps ps' k :=
  ⟨a.rr.fr f, a.pre, a.len, fun i i8 hi n => (f.fr i (Nat.lt_of_lt_of_le hi a.hl) n).trans (a.fr i i8 hi n), Nat.le_trans a.hl f.hl⟩
theorem Kd.dd {L : Nat} {h h' h'' : AH} {ps ps' ps'' : List Pc} {k k' k2 : Nat} (a : Kd L h h' ps ps' k) (d : Dd 0 h' h'' ps' ps'' k') (hk : k + k' <= k2) : Kd L h h'' ps ps'' k2 :=
  ⟨a.rr.dd d, a.pre.trans d.pre, by have := a.len; have := d.len; omega, fun i i8 hi n => (d.fr i (.inr (by omega))).trans (a.fr i i8 hi n), by rw [d.hl]; exact a.hl⟩
theorem Kd.take {L : Nat} {h h' : AH} {ps ps' : List Pc} {k : Nat} (a : Kd L h h' ps ps' k) (m : Nat) (hm : 0 < m) (hm2 : m <= 10 ^ 50) : ∃ (v : Nat) (h'' : AH), v < m /\ F_law_take [.ref L, .int m] h' = .ok (.int v) h'' /\ Kd L h h'' ps ps' k := by
  obtain ⟨v, N, hv, t, F⟩ := a.rr.self.take m hm hm2
  exact ⟨v, _, hv, t, a.fr' F⟩
theorem rp_rp (B : List Nat) (X : Str) (e : X.cps.toList = B) (k : Nat) : (repS X k).cps.toList = rp B k := by rw [<- e]; rfl
theorem fB_rep (bs : List Bk) : ∀ k : Nat, fB (List.replicate k bs).flatten = rp (fB bs) k
  | 0 => rfl
  | k + 1 => by rw [List.replicate_succ, List.flatten_cons, fB_app, fB_rep bs k, rp_s]
theorem zfm (bs : List Bk) : ∀ k : Nat, (List.replicate k (bs.map bv)).flatten = ((List.replicate k bs).flatten).map bv
  | 0 => rfl
  | k + 1 => by rw [List.replicate_succ, List.flatten_cons, zfm bs k, List.replicate_succ, List.flatten_cons, List.map_append]
theorem zd7 (bs : List Bk) : ∀ k : Nat, ((List.replicate k bs).flatten).length = bs.length * k
  | 0 => rfl
  | k + 1 => by rw [List.replicate_succ, List.flatten_cons, List.length_append, zd7 bs k, Nat.mul_succ, Nat.add_comm]
theorem ziC {bs : List Bk} {k : Nat} {q : Bk} (h : q ∈ (List.replicate k bs).flatten) : q ∈ bs := by
  obtain ⟨l, h1, h2⟩ := List.mem_flatten.mp h
  rw [List.eq_of_mem_replicate h1] at h2
  exact h2
def w42 : Str := "ba\ncdefg"
theorem w42_ok : plainS w42 = true /\ w42.length = 8 := by decide +kernel
theorem ziD (v : Nat) (hv : v < 3) (h : AH) : ∃ m : Nat, fIx (.fl [.int 9, .int 1000000, .int 1000000000000000]) (.int v) h = .ok (.int m) h /\ 0 < m /\ m <= 1000000000000000 := by
  have : v = 0 \/ v = 1 \/ v = 2 := by omega
  rcases this with rfl | rfl | rfl
  . exact ⟨9, rfl, by decide, by decide⟩
  . exact ⟨1000000, rfl, by decide, by decide⟩
  . exact ⟨1000000000000000, rfl, by decide, by decide⟩
theorem zfn {L : Nat} {h h0 : AH} {ps ps0 : List Pc} {k0 : Nat} (a : Kd L h0 h ps0 ps k0) (hz : ps.length < 13000000) :
    ∃ (q : En2) (h' : AH) (ps' : List Pc), F_law_fresh [.ref 0, .ref L] h = .ok (ev2 q) h' /\ Kd L h0 h' ps0 ps' (k0 + 140100) /\ Ent ps' q := by
  obtain ⟨v, h1, hv, t1, a1⟩ := a.take 8 (by decide) (by decide)
  have t1' : F_law_take [.ref L, .int 8] h = .ok (.int v) h1 := t1
  obtain ⟨N1, eN1⟩ := a1.rr.ro
  obtain ⟨x, N2, p1, px, lx⟩ := zfK 12 (by decide) eN1
  have p1' : F_law_plain [.ref L, .int 12] h1 = .ok (.str x) (h1.set L (.lst [.int N2])) := p1
  have a2 := a1.fr' (a1.rr.self.set N2)
  generalize h1.set L (.lst [.int N2]) = h2 at *
  obtain ⟨u, h3, hu, t3, a3⟩ := a2.take 3 (by decide) (by decide)
  have t3' : F_law_take [.ref L, .int 3] h2 = .ok (.int u) h3 := t3
  obtain ⟨m, em, m0, m1⟩ := ziD u hu h3
  obtain ⟨w, h4, hw, t4, a4⟩ := a3.take m m0 (Nat.le_trans m1 (by decide))
  obtain ⟨pw, lw⟩ := w42_ok
  obtain ⟨y, ey⟩ : ∃ y, y = dpS w42 v ++ x := ⟨_, rfl⟩
  have cd := cut_dp (x := w42) (a := v) (by omega) h1
  have cd' : cutOf (.str "ba\ncdefg") (some (v : Int)) none h1 = .ok (.str (dpS w42 v)) h1 := cd
  have dl := dp_len w42 v
  have ad : fAdd (.str (dpS w42 v)) (.str x) h2 = .ok (.str y) h2 := by
    have : (dpS w42 v).length + x.length <= sizeLine := Nat.le_trans (m := 1000) (by omega) (by decide)
    rw [ey]
    simp only [fAdd, this, if_true]
  have py : plainS y = true := by rw [ey, zaM, zhl pw, px]; rfl
  have ly : 1 <= y.length /\ y.length <= 20 := by rw [ey, zaq]; omega
  obtain ⟨n, ps5, h5, e5, D5, T5⟩ := ziq a4.rr.sh a4.rr.gd py (by omega) (by omega)
  have a5 := a4.dd D5 (k2 := k0 + 40) (by omega)
  have l5 := D5.len
  obtain ⟨K, eK⟩ : ∃ K, K = 1 + w := ⟨_, rfl⟩
  have aw : fAdd (.int 1) (.int w) h4 = .ok (.int K) h4 := fAddN (a := 1) (b := w) (by omega) h4
  have yK : 1 <= y.length * K /\ y.length * K <= 1000000000000000000 := by
    have h1 := Nat.mul_le_mul ly.2 (show K <= 1000000000000000 by omega)
    have h2 := Nat.mul_le_mul ly.1 (show 1 <= K by omega)
    omega
  obtain ⟨b, ps6, h6, d6, T6⟩ := zcP (e := 50) (k := K) a5.rr.sh a5.rr.gd T5 (Nat.lt_of_le_of_lt (m := 1000000000000000) (by omega) (by decide)) (by decide) yK.2 (by omega)
  have a6 := a5.dd d6.dd (k2 := k0 + 140100) (by omega)
  have e6 := d6.ev
  have p6 : ∀ hh, fPow (.int 10) (.int 6) hh = .ok (.int 1000000) hh := fun hh => by simp
  have p15 : ∀ hh, fPow (.int 10) (.int 15) hh = .ok (.int 1000000000000000) hh := fun hh => by simp
  refine ⟨(b, [(y, K)]), h6, ps6, ?_, a6, ⟨⟨_, T6, by rw [rp_rp _ _ rfl, fB_one]⟩, by rw [fB_one, zb8]; exact yK.1, by rw [fB_one, zb8]; exact yK.2, fun q hq => by simp at hq; rw [hq]; show y.length <= 100; omega, by show 1 <= 30; decide⟩⟩
  clear a a1 a2 a3 a4 a5 a6 D5 d6 T5 T6 t1 t3 cd
  show F_law_fresh [.ref 0, .ref L] h = .ok (.tup [.int b, .fl [.tup [.str y, .int K]]]) h6
  unfold F_law_fresh
  generalize (K : Int) = KK at *
  simp [t1', cd', p1', ad, p6, p15, t3', em, t4, aw, e5, e6, -cutOf, -fAdd, -fPow, -fIx]
end Sk

namespace Sk
open PySem PySem.Spec L2 Sm
theorem ziE {h : AH} {ps : List Pc} {n : Nat} {X : Str} (S : ShelfAt h 0 ps) (g : Good ps) (T : TxZ ps n X) (hX : X.length <= 1000000000000000000) : n = 0 \/ ∃ (H : Nat) (t : Int), F_Shelf_height [.ref 0, .int n] h = .ok (.int t) h /\ F_law_high [.int X.length] h = .ok (.int H) h /\ ¬ (H : Int) < t := by
  rcases T with ⟨rfl, rfl⟩ | ⟨m, f, l, T⟩
  . exact .inl rfl
  . obtain ⟨H, e, q1, q2⟩ := f_high m.sg T.ky.sg1 T.ky.most h
    have hs := T.ls g
    rw [T.ky.sg] at e
    refine .inr ⟨H, m.ht, zad S T.ms, e, fun z => ?_⟩
    have h0 := T.ky.ht
    have := zb5 (show H + 1 <= m.ht.toNat by omega)
    omega
def C42a : SB := (sAnd (sBool (sOp2 fEq (sVar 3) (sLit (.int 1)))) (sAnd (sBool (sOp2 fLt (sOp2 fMul (sAppl fLen (sCons (sVar 5) sNil)) (sVar 8)) (sLit (.int 31)))) (sBool (sOp2 fLe (sOp2 fMul (sAppl F_law_length (sCons (sVar 5) sNil)) (sVar 8)) (sOp2 fPow (sLit (.int 10)) (sLit (.int 18)))))))
def C42b : SB := (sAnd (sBool (sOp2 fLt (sAppl fLen (sCons (sOp2 fAdd (sVar 5) (sVar 7)) sNil)) (sLit (.int 31)))) (sBool (sOp2 fLe (sAppl F_law_length (sCons (sOp2 fAdd (sVar 5) (sVar 7)) sNil)) (sOp2 fPow (sLit (.int 10)) (sLit (.int 18))))))
def C42 : SB := (sOr (sBool (sOp2 fLt (sAppl fLen (sCons (sVar 1) sNil)) (sLit (.int 2)))) (sBool (sOp2 fEq (sVar 3) (sLit (.int 0)))))
theorem zhs : F_law_deed = mkFn 3 9
    (sSeq (sSet 3 (sAppl F_law_take (sCons (sVar 2) (sCons (sLit (.int 4)) sNil))))
    (sSeq (sIf C42 (sRet (sAppl F_law_fresh (sCons (sVar 0) (sCons (sVar 2) sNil)))) sNext)
    (sSeq (sSetT (.tup [4, 5]) (sOp2 fIx (sVar 1) (sAppl F_law_take (sCons (sVar 2) (sCons (sAppl fLen (sCons (sVar 1) sNil)) sNil)))))
    (sSeq (sSetT (.tup [6, 7]) (sOp2 fIx (sVar 1) (sAppl F_law_take (sCons (sVar 2) (sCons (sAppl fLen (sCons (sVar 1) sNil)) sNil)))))
    (sSeq (sSet 8 (sOp2 fAdd (sLit (.int 1)) (sAppl F_law_take (sCons (sVar 2) (sCons (sLit (.int 9)) sNil)))))
    (sSeq (sIf C42a (sRet (sTup (sCons (sAppl F_repeated (sCons (sVar 0) (sCons (sVar 4) (sCons (sVar 8) sNil)))) (sCons (sOp2 fMulL (sVar 5) (sVar 8)) sNil)))) sNext)
    (sSeq (sIf C42b (sRet (sTup (sCons (sAppl F_joined (sCons (sVar 0) (sCons (sVar 4) (sCons (sVar 6) sNil)))) (sCons (sOp2 fAdd (sVar 5) (sVar 7)) sNil)))) sNext)
    (sRet (sAppl F_law_fresh (sCons (sVar 0) (sCons (sVar 2) sNil))))))))))) := rfl
theorem pow18 (hh : AH) : fPow (.int 10) (.int 18) hh = .ok (.int 1000000000000000000) hh := by simp
theorem ltD (a b : Nat) (h : AH) : fLt (.int a) (.int b) h = .ok (.bl (decide (a < b))) h := by
  have : decide ((a : Int) < b) = decide (a < b) := by apply decide_eq_decide.mpr; omega
  simp only [fLt, this]
theorem leD (a b : Nat) (h : AH) : fLe (.int a) (.int b) h = .ok (.bl (decide (a <= b))) h := by
  have : decide ((a : Int) <= b) = decide (a <= b) := by apply decide_eq_decide.mpr; omega
  simp only [fLe, this]
theorem eqD (a b : Nat) (h : AH) : fEq (.int a) (.int b) h = .ok (.bl (decide (a = b))) h := by
  by_cases q : a = b
  . subst q; simp
  . have : ¬ (a : Int) = b := by omega
    simp [this, q]
theorem lenB (bs : List Bk) (h : AH) : fLen [.fl (bs.map bv)] h = .ok (.int bs.length) h := by
  simp
theorem addB {as bs : List Bk} (ha : as.length + bs.length <= 1000) (h : AH) : fAdd (.fl (as.map bv)) (.fl (bs.map bv)) h = .ok (.fl ((as ++ bs).map bv)) h := by
  have sl : (as.map bv).length + (bs.map bv).length <= sizeLine := Nat.le_trans (m := 1000) (by simpa using ha) (by decide)
  show (if (as.map bv).length + (bs.map bv).length <= sizeLine then Out.ok (AV.fl (as.map bv ++ bs.map bv)) h else .bad) = _
  rw [if_pos sl, List.map_append]
theorem c42a {o0 o1 o2 o4 o6 o7 : Option AV} {kd t : Nat} {b1 : List Bk} (ok : BOk b1) (fw : b1.length <= 30) (ht : t <= 9) (h : AH) :
    C42a [o0, o1, o2, some (.int kd), o4, some (.fl (b1.map bv)), o6, o7, some (.int t)] h = .ok (decide (kd = 1 /\ b1.length * t < 31 /\ (fB b1).length * t <= 1000000000000000000)) h := by
  have e1 : fEq (.int kd) (.int 1) h = .ok (.bl (decide (kd = 1))) h := eqD kd 1 h
  have e2 := lenB b1 h
  have e3 := fMulN (a := b1.length) (b := t) (by omega) rfl h
  have e4 : fLt (.int ((b1.length * t : Nat) : Int)) (.int 31) h = .ok (.bl (decide (b1.length * t < 31))) h := ltD _ 31 h
  have e5 := za5 (h := h) ok (by omega)
  have e6 := fMulNr (a := (fB b1).length) (b := t) (by omega) rfl h
  have e7 : fLe (.int (((fB b1).length * t : Nat) : Int)) (.int 1000000000000000000) h = .ok (.bl (decide ((fB b1).length * t <= 1000000000000000000))) h := leD _ 1000000000000000000 h
  have e8 := pow18 h
  unfold C42a
  generalize b1.map bv = Z at *
  generalize ((b1.length * t : Nat) : Int) = A1 at *
  generalize (((fB b1).length * t : Nat) : Int) = A2 at *
  generalize (b1.length : Int) = A3 at *
  generalize ((fB b1).length : Int) = A4 at *
  by_cases q1 : kd = 1
  . rw [decide_eq_true q1] at e1
    by_cases q2 : b1.length * t < 31
    . rw [decide_eq_true q2] at e4
      simp only [q1, q2, true_and]
      by_cases q3 : (fB b1).length * t <= 1000000000000000000
      . rw [decide_eq_true q3] at e7
        have e1' : fEq (.int 1) (.int 1) h = .ok (.bl true) h := by rw [q1] at e1; exact e1
        simp [e1', e2, e3, e4, e5, e6, e7, e8, q3, -fEq, -fLen, -fMul, -fLt, -fLe, -fPow]
      . rw [decide_eq_false q3] at e7
        have e1' : fEq (.int 1) (.int 1) h = .ok (.bl true) h := by rw [q1] at e1; exact e1
        simp [e1', e2, e3, e4, e5, e6, e7, e8, q3, -fEq, -fLen, -fMul, -fLt, -fLe, -fPow]
    . rw [decide_eq_false q2] at e4
      simp [e1, e2, e3, e4, q2, -fEq, -fLen, -fMul, -fLt, -fLe, -fPow]
  . rw [decide_eq_false q1] at e1
    simp [e1, q1, -fEq]
theorem c42b {o0 o1 o2 o3 o4 o6 o8 : Option AV} {b1 b2 : List Bk} (ok : BOk b1) (ok2 : BOk b2) (fw : b1.length <= 30) (fw2 : b2.length <= 30) (h : AH) :
    C42b [o0, o1, o2, o3, o4, some (.fl (b1.map bv)), o6, some (.fl (b2.map bv)), o8] h = .ok (decide ((b1 ++ b2).length < 31 /\ (fB (b1 ++ b2)).length <= 1000000000000000000)) h := by
  have e1 := addB (as := b1) (bs := b2) (by omega) h
  have e2 := lenB (b1 ++ b2) h
  have e4 : fLt (.int ((b1 ++ b2).length : Nat)) (.int 31) h = .ok (.bl (decide ((b1 ++ b2).length < 31))) h := ltD _ 31 h
  have okk : BOk (b1 ++ b2) := fun q hq => (List.mem_append.mp hq).elim (ok q) (ok2 q)
  have e5 := za5 (h := h) okk (by rw [List.length_append]; omega)
  have e7 : fLe (.int ((fB (b1 ++ b2)).length : Nat)) (.int 1000000000000000000) h = .ok (.bl (decide ((fB (b1 ++ b2)).length <= 1000000000000000000))) h := leD _ 1000000000000000000 h
  have e8 := pow18 h
  unfold C42b
  generalize (b1 ++ b2).map bv = Z12 at *
  generalize b1.map bv = Z1 at *
  generalize b2.map bv = Z2 at *
  generalize (b1 ++ b2).length = A3 at *
  generalize (fB (b1 ++ b2)).length = A4 at *
  by_cases q2 : A3 < 31
  . rw [decide_eq_true q2] at e4
    simp only [q2, true_and]
    by_cases q3 : A4 <= 1000000000000000000
    . rw [decide_eq_true q3] at e7
      simp [e1, e2, e4, e5, e7, e8, q3, -fLen, -fAdd, -fLt, -fLe, -fPow]
    . rw [decide_eq_false q3] at e7
      simp [e1, e2, e4, e5, e7, e8, q3, -fLen, -fAdd, -fLt, -fLe, -fPow]
  . rw [decide_eq_false q2] at e4
    simp [e1, e2, e4, q2, -fLen, -fAdd, -fLt, -fLe]
def RowIs (L : Nat) (h : AH) (v : AV) (es : List En2) : Prop := (v = .fl [] /\ es = []) \/ ∃ R, v = .ref R /\ 8 < R /\ R ≠ L /\ h[R]? = some (.lst (es.map ev2))
theorem c42 {v : AV} {L kd : Nat} {h : AH} {es : List En2} {o0 o2 o4 o5 o6 o7 o8 : Option AV} (r : RowIs L h v es) : C42 [o0, some v, o2, some (.int kd), o4, o5, o6, o7, o8] h = .ok (decide (es.length < 2 \/ kd = 0)) h := by
  have e0 : fLen [v] h = .ok (.int es.length) h := by
    rcases r with ⟨rfl, rfl⟩ | ⟨R, rfl, _, _, e⟩
    . rfl
    . simp [e]
  have e1 : fLt (.int es.length) (.int 2) h = .ok (.bl (decide (es.length < 2))) h := ltD _ 2 h
  have e2 : fEq (.int kd) (.int 0) h = .ok (.bl (decide (kd = 0))) h := eqD kd 0 h
  unfold C42
  by_cases q1 : es.length < 2
  . rw [decide_eq_true q1] at e1
    generalize (es.length : Int) = A at *
    simp [e0, e1, q1, -fLen, -fLt]
  . rw [decide_eq_false q1] at e1
    generalize (es.length : Int) = A at *
    by_cases q2 : kd = 0
    . rw [decide_eq_true q2] at e2
      subst q2
      have e2' : fEq (.int 0) (.int 0) h = .ok (.bl true) h := e2
      simp [e0, e1, e2', -fLen, -fLt, -fEq]
    . rw [decide_eq_false q2] at e2
      simp [e0, e1, e2, q1, q2, -fLen, -fLt, -fEq]
theorem f_deed {L : Nat} {h : AH} {ps : List Pc} {es : List En2} {v : AV} (s : Rr L h ps) (r : RowIs L h v es) (hen : ∀ q ∈ es, Ent ps q) (le : es.length <= 6) (hz : ps.length < 12500000) :
    ∃ (q : En2) (h' : AH) (ps' : List Pc), F_law_deed [.ref 0, v, .ref L] h = .ok (ev2 q) h' /\ Kd L h h' ps ps' 140100 /\ Ent ps' q := by
  obtain ⟨kd, h1, hkd, t1, a1⟩ := (Kd.refl s).take 4 (by decide) (by decide)
  have t1' : F_law_take [.ref L, .int 4] h = .ok (.int kd) h1 := t1
  obtain ⟨N, eN⟩ := s.ro
  have r1 : RowIs L h1 v es := r.imp id fun ⟨R, e1, e2, e3, e4⟩ => ⟨R, e1, e2, e3, (a1.fr R e2 (lt_of e4) e3).trans e4⟩
  have cc := c42 (kd := kd) (o0 := some (.ref 0)) (o2 := some (.ref L)) (o4 := none) (o5 := none) (o6 := none) (o7 := none) (o8 := none) r1
  rw [zhs]
  by_cases q : es.length < 2 \/ kd = 0
  . obtain ⟨w, h2, ps2, e2, a2, E2⟩ := zfn a1 (by omega)
    refine ⟨w, h2, ps2, ?_, { a2 with len := by have := a2.len; omega }, E2⟩
    rw [decide_eq_true q] at cc
    generalize C42 = CA at *
    generalize F_law_fresh = FF at *
    generalize ev2 w = W at *
    simp [t1', cc, e2]
  . rw [decide_eq_false q] at cc
    rcases r1 with ⟨rfl, rfl⟩ | ⟨R, rfl, R8, RL, eR⟩
    . exact absurd (Or.inl (by decide)) q
    have Rl : R < h1.length := lt_of eR
    have lnR : ∀ hh : AH, hh[R]? = some (.lst (es.map ev2)) -> fLen [.ref R] hh = .ok (.int es.length) hh := fun hh e => by simp [e]
    obtain ⟨i1, h2, hi1, t2, a2⟩ := (Kd.refl a1.rr).take es.length (by omega) (Nat.le_trans le (by decide))
    have eR2 : h2[R]? = some (.lst (es.map ev2)) := (a2.fr R R8 Rl RL).trans eR
    obtain ⟨i2, h3, hi2, t3, a3⟩ := a2.take es.length (by omega) (Nat.le_trans le (by decide))
    have eR3 : h3[R]? = some (.lst (es.map ev2)) := (a3.fr R R8 Rl RL).trans eR
    obtain ⟨v9, h4, hv9, t4, a4⟩ := a3.take 9 (by decide) (by decide)
    have t4' : F_law_take [.ref L, .int 9] h3 = .ok (.int v9) h4 := t4
    obtain ⟨⟨n1, b1⟩, eq1⟩ : ∃ q, es[i1]? = some q := ⟨_, List.getElem?_eq_getElem hi1⟩
    obtain ⟨⟨n2, b2⟩, eq2⟩ : ∃ q, es[i2]? = some q := ⟨_, List.getElem?_eq_getElem hi2⟩
    have x1 : fIx (.ref R) (.int i1) h2 = .ok (.tup [.int n1, .fl (b1.map bv)]) h2 := by
      have : atI (es.map ev2) (i1 : Int) = some (ev2 (n1, b1)) := zcv eq1
      simp only [fIx, eR2, this]
    have x2 : fIx (.ref R) (.int i2) h3 = .ok (.tup [.int n2, .fl (b2.map bv)]) h3 := by
      have : atI (es.map ev2) (i2 : Int) = some (ev2 (n2, b2)) := zcv eq2
      simp only [fIx, eR3, this]
    have E1 := hen _ (List.mem_of_getElem? eq1)
    have E2 := hen _ (List.mem_of_getElem? eq2)
    obtain ⟨t, et⟩ : ∃ t, t = 1 + v9 := ⟨_, rfl⟩
    have at' : fAdd (.int 1) (.int v9) h4 = .ok (.int t) h4 := fAddN (a := 1) (b := v9) (by omega) h4
    have A4 : Kd L h h4 ps ps 0 := ⟨a4.rr, List.prefix_refl _, by omega, fun i i8 hi n => (a4.fr i i8 (Nat.lt_of_lt_of_le hi a1.hl) n).trans (a1.fr i i8 hi n), Nat.le_trans a1.hl a4.hl⟩
    have ca := c42a (kd := kd) (t := t) (b1 := b1) (o0 := some (.ref 0)) (o1 := some (.ref R)) (o2 := some (.ref L)) (o4 := some (.int n1)) (o6 := some (.int n2)) (o7 := some (.fl (b2.map bv))) E1.ok E1.fw (by omega) h4
    have cb := c42b (b1 := b1) (b2 := b2) (o0 := some (.ref 0)) (o1 := some (.ref R)) (o2 := some (.ref L)) (o3 := some (.int kd)) (o4 := some (.int n1)) (o6 := some (.int n2)) (o8 := some (.int t)) E1.ok E2.ok E1.fw E2.fw h4
    have ln1 := lnR h1 eR
    have ln2 := lnR h2 eR2
    obtain ⟨X1, T1, eX1⟩ := E1.tx
    obtain ⟨X2, T2, eX2⟩ := E2.tx
    have lx1 : X1.length = (fB b1).length := by rw [zae, eX1]
    have lx2 : X2.length = (fB b2).length := by rw [zae, eX2]
    by_cases qa : kd = 1 /\ b1.length * t < 31 /\ (fB b1).length * t <= 1000000000000000000
    . rw [decide_eq_true qa] at ca
      obtain ⟨b, ps5, h5, d5, T5⟩ := zcP (e := 4) (k := t) a4.rr.sh a4.rr.gd T1 (Nat.lt_of_le_of_lt (m := 9) (by omega) (by decide)) (by decide) (by rw [lx1]; exact qa.2.2) (by omega)
      have e5 := d5.ev
      have ml : fMulL (.fl (b1.map bv)) (.int t) h5 = .ok (.fl ((List.replicate t b1).flatten.map bv)) h5 := by
        have c : (t : Int).natAbs < 2 ^ 40 /\ (b1.map bv).length * (t : Int).toNat <= 1000000 := by
          rw [List.length_map, Int.toNat_natCast]
          exact ⟨Nat.lt_of_le_of_lt (m := 9) (by omega) (by decide), by omega⟩
        show (if (t : Int).natAbs < 2 ^ 40 /\ (b1.map bv).length * (t : Int).toNat <= 1000000 then Out.ok (AV.fl (List.replicate (t : Int).toNat (b1.map bv)).flatten) h5 else .bad) = _
        rw [if_pos c, Int.toNat_natCast, zfm]
      refine ⟨(b, (List.replicate t b1).flatten), h5, ps5, ?_, A4.dd d5.dd (by omega), ⟨⟨_, T5, by rw [rp_rp _ _ eX1, fB_rep]⟩, ?_, ?_, fun q hq => E1.ok q (ziC hq), ?_⟩⟩
      . show _ = Out.ok (AV.tup [.int b, .fl ((List.replicate t b1).flatten.map bv)]) h5
        clear a1 a2 a3 a4 A4 d5 T5 T1 T2 E1 E2 t1 t4 cb
        generalize C42 = CA at *
        generalize C42a = CB at *
        generalize C42b = CC at *
        generalize F_law_fresh = FF at *
        generalize (List.replicate t b1).flatten.map bv = Z3 at *
        generalize b1.map bv = Z1 at *
        generalize b2.map bv = Z2 at *
        generalize es.map ev2 = ES at *
        generalize (t : Int) = TT at *
        simp [t1', cc, ln1, t2, x1, ln2, t3, x2, t4', at', ca, e5, ml, -fLen, -fIx, -fAdd]
      . have := E1.l1
        have : 1 <= (fB b1).length * t := Nat.mul_le_mul this (show 1 <= t by omega)
        show 1 <= (fB (List.replicate t b1).flatten).length
        rw [fB_rep, rp_len]; exact this
      . show (fB (List.replicate t b1).flatten).length <= _
        rw [fB_rep, rp_len]; exact qa.2.2
      . show (List.replicate t b1).flatten.length <= 30
        rw [zd7]; omega
    . rw [decide_eq_false qa] at ca
      by_cases qb : (b1 ++ b2).length < 31 /\ (fB (b1 ++ b2)).length <= 1000000000000000000
      . rw [decide_eq_true qb] at cb
        have lf : (fB (b1 ++ b2)).length = (fB b1).length + (fB b2).length := by rw [fB_app, List.length_append]
        obtain ⟨b, ps5, h5, d5, T5⟩ := zcy a4.rr.sh a4.rr.gd T1 T2 (by omega) (by omega)
        have jf := zcB a4.rr.gd T1 T2
        have e5 := d5.ev
        have ad := addB (as := b1) (bs := b2) (by have := E1.fw; have := E2.fw; simp at *; omega) h5
        refine ⟨(b, b1 ++ b2), h5, ps5, ?_, A4.dd d5.dd (by omega), ⟨⟨_, T5, by rw [zap, eX1, eX2, fB_app]⟩, ?_, qb.2, fun q hq => (List.mem_append.mp hq).elim (E1.ok q) (E2.ok q), by have := qb.1; show (b1 ++ b2).length <= 30; omega⟩⟩
        . show _ = Out.ok (AV.tup [.int b, .fl ((b1 ++ b2).map bv)]) h5
          clear a1 a2 a3 a4 A4 d5 T5 T1 T2 E1 E2 t1 t4
          generalize C42 = CA at *
          generalize C42a = CB at *
          generalize C42b = CC at *
          generalize F_law_fresh = FF at *
          generalize (b1 ++ b2).map bv = Z3 at *
          generalize b1.map bv = Z1 at *
          generalize b2.map bv = Z2 at *
          generalize es.map ev2 = ES at *
          generalize (t : Int) = TT at *
          simp [t1', cc, ln1, t2, x1, ln2, t3, x2, t4', at', ca, cb, e5, ad, -fLen, -fIx, -fAdd]
        . have := E1.l1
          show 1 <= (fB (b1 ++ b2)).length
          simp at *
          omega
      . rw [decide_eq_false qb] at cb
        obtain ⟨w, h5, ps5, e5, a5, E5⟩ := zfn A4 (by omega)
        refine ⟨w, h5, ps5, ?_, { a5 with len := by have := a5.len; omega }, E5⟩
        clear a1 a2 a3 a4 a5 A4 T1 T2 E1 E2 t1 t4
        generalize C42 = CA at *
        generalize C42a = CB at *
        generalize C42b = CC at *
        generalize F_law_fresh = FF at *
        generalize ev2 w = W at *
        generalize b1.map bv = Z1 at *
        generalize b2.map bv = Z2 at *
        generalize es.map ev2 = ES at *
        generalize (t : Int) = TT at *
        simp [t1', cc, ln1, t2, x1, ln2, t3, x2, t4', at', ca, cb, e5, -fLen, -fIx, -fAdd]
end Sk

namespace Sk
open PySem PySem.Spec L2 Sm
def RowR (h : AH) (v : AV) (es : List En2) : Prop := (v = .fl [] /\ es = []) \/ ∃ R, v = .ref R /\ 9 < R /\ h[R]? = some (.lst (es.map ev2))
structure St42 (h : AH) (ps : List Pc) (v : AV) (es ms : List En2) : Prop where
  sh : ShelfAt h 0 ps
  gd : Good ps
  md : h[9]? = some (.lst (ms.map ev2))
  rw : RowR h v es
  e6 : es.length <= 6
  ee : ∀ q ∈ es, Ent ps q
  em : ∀ q ∈ ms, Ent ps q
theorem zfo (es : List En2) (q : En2) : es.map ev2 ++ [ev2 q] = (es ++ [q]).map ev2 := by simp
theorem turn42 {h : AH} {ps : List Pc} {v : AV} {es ms : List En2} (s : St42 h ps v es ms) (hz : ps.length < 12000000) (hm : ms.length <= 100) (c k : Int) (o0 o6 o7 o8 : Option AV) :
    ∃ (h' : AH) (ps' : List Pc) (v' : AV) (es' : List En2) (q : En2) (a6 a7 a8 : Option AV), B_law_1 [o0, some (.ref 0), some v, some (.ref 9), some (.int k), some (.int c), o6, o7, o8] h = .nx [o0, some (.ref 0), some v', some (.ref 9), some (.int k), some (.int c), a6, a7, a8] h' /\ St42 h' ps' v' es' (ms ++ [q]) /\ ps'.length <= ps.length + 140100 := by
  have l9 := lt_of s.md
  obtain ⟨N0, ow⟩ := f_own c k h
  obtain ⟨L, eL⟩ : ∃ L, L = h.length := ⟨_, rfl⟩
  rw [<- eL] at ow
  have s1 : Rr L (h ++ [AO.lst [.int N0]]) ps := ⟨s.sh.app _, s.gd, by omega, N0, by rw [eL]; simp⟩
  have M1 : (h ++ [AO.lst [.int N0]])[9]? = some (.lst (ms.map ev2)) := by rw [List.getElem?_append_left l9]; exact s.md
  have R1 : RowR (h ++ [AO.lst [.int N0]]) v es := s.rw.imp id fun ⟨R, e1, e2, e3⟩ => ⟨R, e1, e2, by rw [List.getElem?_append_left (lt_of e3)]; exact e3⟩
  have rL : ∀ R, v = .ref R -> R ≠ L := fun R e => by
    rcases s.rw with ⟨e1, _⟩ | ⟨R', e1, e2, e3⟩
    . rw [e1] at e; cases e
    . rw [e1] at e; cases e
      have := lt_of e3
      omega
  obtain ⟨h1, eh1⟩ : ∃ h1, h1 = h ++ [AO.lst [.int N0]] := ⟨_, rfl⟩
  have n1 : h1.length = L + 1 := by rw [eh1, eL]; simp
  rw [<- eh1] at ow s1 M1 R1
  have r1 : RowIs L h1 v es := R1.imp id fun ⟨R, e1, e2, e3⟩ => ⟨R, e1, by omega, rL R e1, e3⟩
  obtain ⟨q, h2, ps2, f2, a2, E2⟩ := f_deed s1 r1 s.ee s.e6 (by omega)
  have z2 := a2.len
  obtain ⟨X, T2, eX⟩ := E2.tx
  have xl : X.length = (fB q.2).length := by rw [zae, eX]
  obtain ⟨h3, f3, F3⟩ := zfl a2.rr T2 eX (by rw [xl]; exact E2.l2) E2.ok (Nat.le_trans E2.fw (by decide)) (by omega)
  have a3 := a2.fr' F3
  have M3 : h3[9]? = some (.lst (ms.map ev2)) := (a3.fr 9 (by decide) (by omega) (by omega)).trans M1
  have R3 : RowR h3 v es := R1.imp id fun ⟨R, e1, e2, e3⟩ => ⟨R, e1, e2, (a3.fr R (by omega) (lt_of e3) (rL R e1)).trans e3⟩
  obtain ⟨m, f, l, Tq⟩ := T2.pos (by rw [xl]; exact E2.l1)
  have q1 := Tq.n1
  have hk := ziE a3.rr.sh a3.rr.gd T2 (by rw [xl]; exact E2.l2)
  rcases hk with hk | ⟨H, t, g1, g2, g3⟩
  . omega
  have lq := za5 (h := h3) E2.ok (Nat.le_trans E2.fw (by decide))
  rw [<- xl] at lq
  have gt : fGt (.int t) (.int H) h3 = .ok (.bl false) h3 := by simp only [fGt, g3, gt_iff_lt, decide_false]
  have ap : mAppend (.ref 9) [ev2 q] h3 = .ok .non (h3.set 9 (.lst ((ms ++ [q]).map ev2))) := by
    have : (ms.map ev2).length < sizeLine := Nat.lt_of_le_of_lt (m := 100) (by simpa using hm) (by decide)
    rw [<- zfo]
    simp only [mAppend, M3, this, if_true]
  have isl : isLst (.ref 9) h3 = true := by simp [M3]
  obtain ⟨h4, eh4⟩ : ∃ h4, h4 = h3.set 9 (.lst ((ms ++ [q]).map ev2)) := ⟨_, rfl⟩
  rw [<- eh4] at ap
  have M4 : h4[9]? = some (.lst ((ms ++ [q]).map ev2)) := by rw [eh4]; exact List.getElem?_set_self (lt_of M3)
  have k4 : ∀ i, i ≠ 9 -> h4[i]? = h3[i]? := fun i hi => by rw [eh4]; exact List.getElem?_set_ne (Ne.symm hi)
  have S4 : ShelfAt h4 0 ps2 := a3.rr.sh.keep fun i i1 i8 => k4 i (by omega)
  have R4 : lstOf v h4 = some (es.map ev2) := by
    rcases R3 with ⟨rfl, rfl⟩ | ⟨R, rfl, e2, e3⟩
    . rfl
    . have : h4[R]? = some (.lst (es.map ev2)) := (k4 R (by omega)).trans e3
      simp [lstOf, this]
  have am : fAddM v (.fl [ev2 q]) h4 = .ok (.ref h4.length) (h4 ++ [.lst ((es ++ [q]).map ev2)]) := by
    have le : (es.map ev2).length + ([ev2 q] : List AV).length <= sizeLine := Nat.le_trans (m := 10) (by rw [List.length_map]; show es.length + 1 <= 10; have := s.e6; omega) (by decide)
    have l2 : lstOf (.fl [ev2 q]) h4 = some [ev2 q] := rfl
    rw [<- zfo]
    simp only [fAddM, R4, l2, le, if_true]
  obtain ⟨h5, eh5⟩ : ∃ h5, h5 = h4 ++ [AO.lst ((es ++ [q]).map ev2)] := ⟨_, rfl⟩
  rw [<- eh5] at am
  obtain ⟨R, eR⟩ : ∃ R, R = h4.length := ⟨_, rfl⟩
  rw [<- eR] at am
  have hl4 : h4.length = h3.length := by rw [eh4, List.length_set]
  have hl3 := a3.hl
  have W5 : h5[R]? = some (.lst ((es ++ [q]).map ev2)) := by rw [eh5, eR]; simp
  have M5 : h5[9]? = some (.lst ((ms ++ [q]).map ev2)) := by rw [eh5, List.getElem?_append_left (lt_of M4)]; exact M4
  have S5 : ShelfAt h5 0 ps2 := eh5 ▸ S4.app _
  obtain ⟨N3, eN3⟩ := a3.rr.ro
  have eN5 : h5[L]? = some (.lst [.int N3]) := by rw [eh5, List.getElem?_append_left (by omega), k4 L (by omega)]; exact eN3
  have ee : ∀ w ∈ es ++ [q], Ent ps2 w := fun w hw => (List.mem_append.mp hw).elim (fun h => (s.ee w h).pre a2.pre) fun h => by rw [List.mem_singleton.mp h]; exact E2
  have em : ∀ w ∈ ms ++ [q], Ent ps2 w := fun w hw => (List.mem_append.mp hw).elim (fun h => (s.em w h).pre a2.pre) fun h => by rw [List.mem_singleton.mp h]; exact E2
  have ln5 : fLen [.ref R] h5 = .ok (.int ((es ++ [q]).length : Nat)) h5 := by simp [W5]
  have g6 : fGt (.int ((es ++ [q]).length : Nat)) (.int 6) h5 = .ok (.bl (decide (6 < (es ++ [q]).length))) h5 := by
    have : decide (((es ++ [q]).length : Int) > 6) = decide (6 < (es ++ [q]).length) := by apply decide_eq_decide.mpr; omega
    simp only [fGt, this]
  have ob3 := a3.rr.sh.ob
  obtain ⟨b, qb⟩ := q
  have f2' : F_law_deed [.ref 0, v, .ref L] h1 = .ok (.tup [.int b, .fl (qb.map bv)]) h2 := f2
  by_cases q6 : 6 < (es ++ [(b, qb)]).length
  . rw [decide_eq_true q6] at g6
    obtain ⟨u, hu, t6⟩ := zc8 6 eN5 (by decide) (by decide)
    have t6' : F_law_take [.ref L, .int 6] h5 = .ok (.int u) (h5.set L (.lst [.int (N3 / (6 : Nat))])) := t6
    obtain ⟨h6, eh6⟩ : ∃ h6, h6 = h5.set L (.lst [.int (N3 / (6 : Nat))]) := ⟨_, rfl⟩
    rw [<- eh6] at t6'
    have k6 : ∀ i, i ≠ L -> h6[i]? = h5[i]? := fun i hi => by rw [eh6]; exact List.getElem?_set_ne (Ne.symm hi)
    have W6 : h6[R]? = some (.lst ((es ++ [(b, qb)]).map ev2)) := (k6 R (by omega)).trans W5
    obtain ⟨y, ey⟩ : ∃ y, (es ++ [(b, qb)])[u]? = some y := ⟨_, List.getElem?_eq_getElem (by omega)⟩
    have ey' : ((es ++ [(b, qb)]).map ev2)[(u : Int).toNat]? = some (ev2 y) := by rw [Int.toNat_natCast, List.getElem?_map, ey]; rfl
    have pp : mPopAt (.ref R) [.int u] h6 = .ok (ev2 y) (h6.set R (.lst (((es ++ [(b, qb)]).eraseIdx u).map ev2))) := by
      have c : 0 <= (u : Int) /\ (u : Int) < 2 ^ 40 := by omega
      have em : (((es ++ [(b, qb)]).eraseIdx u).map ev2) = ((es ++ [(b, qb)]).map ev2).eraseIdx (u : Int).toNat := by
        rw [Int.toNat_natCast, List.eraseIdx_eq_take_drop_succ, List.eraseIdx_eq_take_drop_succ, List.map_append, List.map_take, List.map_drop]
      rw [em]
      simp only [mPopAt, W6]
      rw [if_pos c, ey']
    have isl5 : isLst (.ref R) h5 = true := by simp [W5]
    have le := s.e6
    have lel : ((es ++ [(b, qb)]).eraseIdx u).length <= 6 := by
      rw [List.length_eraseIdx_of_lt (by omega), List.length_append]; show es.length + 1 - 1 <= 6; omega
    refine ⟨h6.set R (.lst (((es ++ [(b, qb)]).eraseIdx u).map ev2)), ps2, .ref R, (es ++ [(b, qb)]).eraseIdx u, (b, qb), some (.ref L), some (.int b), some (.fl (qb.map bv)), ?_, ⟨?_, a2.rr.gd, ?_, .inr ⟨R, rfl, by omega, List.getElem?_set_self (lt_of W6)⟩, lel, fun w hw => ee w (List.mem_of_mem_eraseIdx hw), em⟩, by omega⟩
    . clear a2 a3 F3 E2 T2 Tq s s1 r1 R1 R3 R4 M1 M3 M4 M5 W5 W6 S4 S5 ee em eN5 eN3 eX xl f2 lel ey ey'
      have ap' : mAppend (.ref 9) [.tup [.int b, .fl (qb.map bv)]] h3 = .ok .non h4 := ap
      have am' : fAddM v (.fl [.tup [.int b, .fl (qb.map bv)]]) h4 = .ok (.ref R) h5 := am
      generalize h6.set R (.lst (((es ++ [(b, qb)]).eraseIdx u).map ev2)) = H7 at *
      generalize ((es ++ [(b, qb)]).length : Int) = EL at *
      generalize ev2 y = EY at *
      have f3' : F_law_reads [.ref 0, .int b, .fl (qb.map bv), .ref L] h2 = .ok (.bl true) h3 := f3
      have lq' : F_law_length [.fl (qb.map bv)] h3 = .ok (.int X.length) h3 := lq
      have g1' : F_Shelf_height [.ref 0, .int b] h3 = .ok (.int t) h3 := g1
      generalize qb.map bv = QB at *
      generalize (X.length : Int) = XL at *
      unfold B_law_1
      generalize F_law_reads = FR at *
      generalize F_law_deed = FD at *
      generalize F_law_high = FH at *
      simp [ow, f2', f3', ob3, g1', lq', g2, gt, isl, ap', am', ln5, g6, isl5, t6', pp, -fGt, -isLst, -mAppend, -fAddM, -fLen, -mPopAt]
    . have := S5
      exact S5.keep fun i i1 i8 => by rw [List.getElem?_set_ne (by omega)]; exact k6 i (by omega)
    . rw [List.getElem?_set_ne (by omega), k6 9 (by omega)]; exact M5
  . rw [decide_eq_false q6] at g6
    refine ⟨h5, ps2, .ref R, es ++ [(b, qb)], (b, qb), some (.ref L), some (.int b), some (.fl (qb.map bv)), ?_, ⟨S5, a2.rr.gd, M5, .inr ⟨R, rfl, by omega, W5⟩, by omega, ee, em⟩, by omega⟩
    clear a2 a3 F3 E2 T2 Tq s s1 r1 R1 R3 R4 M1 M3 M4 M5 W5 S4 S5 ee em eN5 eN3 eX xl f2
    have ap' : mAppend (.ref 9) [.tup [.int b, .fl (qb.map bv)]] h3 = .ok .non h4 := ap
    have am' : fAddM v (.fl [.tup [.int b, .fl (qb.map bv)]]) h4 = .ok (.ref R) h5 := am
    generalize ((es ++ [(b, qb)]).length : Int) = EL at *
    have f3' : F_law_reads [.ref 0, .int b, .fl (qb.map bv), .ref L] h2 = .ok (.bl true) h3 := f3
    have lq' : F_law_length [.fl (qb.map bv)] h3 = .ok (.int X.length) h3 := lq
    have g1' : F_Shelf_height [.ref 0, .int b] h3 = .ok (.int t) h3 := g1
    generalize qb.map bv = QB at *
    generalize (X.length : Int) = XL at *
    unfold B_law_1
    generalize F_law_reads = FR at *
    generalize F_law_deed = FD at *
    generalize F_law_high = FH at *
    simp [ow, f2', f3', ob3, g1', lq', g2, gt, isl, ap', am', ln5, g6, -fGt, -isLst, -mAppend, -fAddM, -fLen]
end Sk

namespace Sk
open PySem PySem.Spec L2 Sm
theorem ziF (n : Nat) (h : AH) : fAll [.fl (List.replicate n (.bl true))] h = .ok (.bl true) h := by
  have : ∀ n : Nat, boolsOf (List.replicate n (.bl true)) = some (List.replicate n true) := by
    intro n
    induction n with
    | zero => rfl
    | succ n ih => simp [List.replicate_succ, boolsOf, ih]
  simp [fAll, this]
theorem law_true (ns : List Int) (hl : ns.length <= 63) : ∃ h', F_law [.fl (ns.map AV.int)] [] = .ok (.bl true) h' := by
  have mk := f_make [some (.fl (ns.map AV.int)), none, none, none, none, none, none, none, none] []
  have l0 : ([] : AH).length = 0 := rfl
  rw [l0, List.nil_append] at mk
  have S0 : ShelfAt (shNew 0) 0 [] := by have := new_at [] []; simpa using this
  have n0 : (shNew 0).length = 9 := rfl
  obtain ⟨sc, esc⟩ : ∃ sc : Option AV, sc = some (.fl (ns.map AV.int)) := ⟨_, rfl⟩
  obtain ⟨cells, ecl⟩ : ∃ cells : List Int, cells = ns ++ [0, 1, 2] := ⟨_, rfl⟩
  have lc : cells.length <= 66 := by rw [ecl]; simp; omega
  have St0 : St42 (shNew 0 ++ [.lst []]) [] (.fl []) [] [] := ⟨S0.app _, .nil, rfl, .inl ⟨rfl, rfl⟩, by decide, fun _ h => (nomatch h), fun _ h => (nomatch h)⟩
  obtain ⟨e', H2, r1, r2⟩ := for_p (w := none) (all := Sm.numbered 0 (cells.map AV.int)) (t := .tup [4, 5]) (b := B_law_1) (xs := Sm.numbered 0 (cells.map AV.int)) (en := [sc, some (.ref 0), some (.fl []), some (.ref 9), none, none, none, none, none]) (h := shNew 0 ++ [.lst []])
    (fun i en h' => i <= 66 -> ∃ (o4 o5 o6 o7 o8 : Option AV) (v : AV) (ps : List Pc) (es ms : List En2), en = [sc, some (.ref 0), some v, some (.ref 9), o4, o5, o6, o7, o8] /\ St42 h' ps v es ms /\ ms.length = i /\ ps.length <= 140100 * i)
    (fun _ => ⟨none, none, none, none, none, .fl [], [], [], [], rfl, St0, rfl, Nat.zero_le _⟩) (fun _ _ _ _ => rfl) (by
      intro j u en h' hu hp
      rw [Sm.numbered_get, List.getElem?_map] at hu
      obtain ⟨w, ev, rfl⟩ := Option.map_eq_some_iff.mp hu
      obtain ⟨c, ec, rfl⟩ := Option.map_eq_some_iff.mp ev
      have hj : j < cells.length := (List.getElem?_eq_some_iff.mp ec).1
      obtain ⟨o4, o5, o6, o7, o8, v, ps, es, ms, rfl, S, lm, lp⟩ := hp (by omega)
      obtain ⟨h2, ps2, v2, es2, q, a6, a7, a8, e, S2, lp2⟩ := turn42 S (by omega) (by omega) c ((0 + j : Nat) : Int) sc o6 o7 o8
      obtain ⟨BB, hB⟩ : ∃ BB, BB = B_law_1 := ⟨_, rfl⟩
      rw [<- hB] at e ⊢
      show thn (BB [sc, some (.ref 0), some v, some (.ref 9), some (.int ((0 + j : Nat) : Int)), some (.int c), o6, o7, o8] h') _
      rw [e]
      exact fun _ => ⟨_, _, a6, a7, a8, v2, ps2, es2, ms ++ [q], rfl, S2, by simp [lm], by omega⟩)
  have nl : ∀ (xs : List AV) (k : Nat), (Sm.numbered k xs).length = xs.length := fun xs => by
    induction xs with
    | nil => intro k; rfl
    | cons x xs ih => intro k; simp [Sm.numbered, ih (k + 1)]
  rw [nl, List.length_map] at r2
  obtain ⟨o4, o5, o6, o7, o8, v, ps, es, ms, rfl, S2, lm, lp⟩ := r2 lc
  obtain ⟨N, st⟩ := zhr ns hl 0 (by decide) H2
  have st' : F_law_stream [.fl (ns.map AV.int), .int 0] H2 = .ok (.ref H2.length) (H2 ++ [.lst [.int N]]) := st
  obtain ⟨L, eL⟩ : ∃ L, L = H2.length := ⟨_, rfl⟩
  have l9 := lt_of S2.md
  rw [<- eL] at st'
  have s3 : Rr L (H2 ++ [AO.lst [.int N]]) ps := ⟨S2.sh.app _, S2.gd, by omega, N, by rw [eL]; simp⟩
  have M3 : (H2 ++ [AO.lst [.int N]])[9]? = some (.lst (ms.map ev2)) := by rw [List.getElem?_append_left l9]; exact S2.md
  obtain ⟨H3, eH3⟩ : ∃ H3, H3 = H2 ++ [AO.lst [.int N]] := ⟨_, rfl⟩
  rw [<- eH3] at st' s3 M3
  obtain ⟨zs, H4, c1, c2, c3, c4⟩ := zdz (w := some 9) (c := un2 sYes) (js := [1, 6]) (en := [sc, some (.ref 0), some v, some (.ref 9), o4, o5, some (.ref L), o7, o8]) (all := ms.map ev2) (e := un2 (sAppl F_law_reads (sCons (sVar 2) (sCons (sVar 0) (sCons (sVar 1) (sCons (sVar 3) sNil))))))
    (fun i ys hh => hh[9]? = some (.lst (ms.map ev2)) /\ Rr L hh ps /\ ys = List.replicate i (.bl true)) (fun _ _ _ p => by simp [p.1]) (ms.map ev2) [] 0 H3 ⟨M3, s3, rfl⟩ (by
      rintro j x ys hh hx ⟨p1, p2, rfl⟩
      rw [List.getElem?_map] at hx
      obtain ⟨⟨b, qb⟩, eq, rfl⟩ := Option.map_eq_some_iff.mp hx
      have E := S2.em _ (List.mem_of_getElem? eq)
      obtain ⟨X, T, eX⟩ := E.tx
      obtain ⟨h5, f5, F5⟩ := zfl p2 T eX (by rw [zae, eX]; exact E.l2) E.ok (Nat.le_trans E.fw (by decide)) (by omega)
      refine ⟨rfl, .bl true, h5, ?_, (F5.fr 9 (lt_of p1) (by omega)).trans p1, p2.fr F5, by rw [List.replicate_succ']⟩
      have u : un2 (sAppl F_law_reads (sCons (sVar 2) (sCons (sVar 0) (sCons (sVar 1) (sCons (sVar 3) sNil))))) (some (ev2 (b, qb)) :: [1, 6].map fun j => (([sc, some (.ref 0), some v, some (.ref 9), o4, o5, some (.ref L), o7, o8] : En)[j]?).join) hh = sAppl F_law_reads (sCons (sVar 2) (sCons (sVar 0) (sCons (sVar 1) (sCons (sVar 3) sNil)))) [some (.int b), some (.fl (qb.map bv)), some (.ref 0), some (.ref L)] hh := rfl
      rw [u]
      have f5' : F_law_reads [.ref 0, .int b, .fl (qb.map bv), .ref L] hh = .ok (.bl true) h5 := f5
      generalize qb.map bv = QB at *
      generalize F_law_reads = FR at *
      simp [f5']) (Nat.le_trans (m := 66) (by simp; omega) (by decide))
  have it2 : iValT (sVar 3) [sc, some (.ref 0), some v, some (.ref 9), o4, o5, some (.ref L), o7, o8] H3 = .ok (ms.map ev2, some 9) H3 := by simp [M3]
  have cp : sComp2 [1, 6] (iValT (sVar 3)) sYes (sAppl F_law_reads (sCons (sVar 2) (sCons (sVar 0) (sCons (sVar 1) (sCons (sVar 3) sNil))))) [sc, some (.ref 0), some v, some (.ref 9), o4, o5, some (.ref L), o7, o8] H3 = .ok (.fl zs) H4 := by
    simp only [sComp2, sComp, it2, c1]
  have al := ziF (0 + (ms.map ev2).length) H4
  rw [<- c4] at al
  have it1 : Sm.iEnum (sOp2 fAdd (sVar 0) (sLst (sCons (sLit (.int 0)) (sCons (sLit (.int 1)) (sCons (sLit (.int 2)) sNil))))) [some (.fl (ns.map AV.int)), some (.ref 0), some (.fl []), some (.ref 9), none, none, none, none, none] (shNew 0 ++ [.lst []]) = .ok (Sm.numbered 0 (cells.map AV.int), none) (shNew 0 ++ [.lst []]) := by
    have sl : ns.length + 3 <= sizeLine := Nat.le_trans (Nat.add_le_add_right hl 3) (by decide)
    simp [sl, ecl]
  subst esc
  have f1 := (for_of (t := .tup [4, 5]) (b := B_law_1) it1).trans r1
  refine ⟨H4, ?_⟩
  clear r1 it1 it2 c1 c2 c3 s3 M3 S2 St0 S0 st c4 eH3 eL
  unfold F_law
  generalize sMake 0 8 F_Shelf_init sNil = MK at *
  generalize sFor (Sm.iEnum (sOp2 fAdd (sVar 0) (sLst (sCons (sLit (.int 0)) (sCons (sLit (.int 1)) (sCons (sLit (.int 2)) sNil)))))) (.tup [4, 5]) B_law_1 = F1 at *
  generalize sComp2 [1, 6] (iValT (sVar 3)) sYes (sAppl F_law_reads (sCons (sVar 2) (sCons (sVar 0) (sCons (sVar 1) (sCons (sVar 3) sNil))))) = SC at *
  generalize F_law_stream = FS at *
  generalize ns.map AV.int = NS at *
  generalize shNew 0 = SN at *
  have f1' : F1 [some (.fl NS), some (.ref 0), some (.fl []), some (.ref SN.length), none, none, none, none, none] (SN ++ [.lst []]) = .nx [some (.fl NS), some (.ref 0), some v, some (.ref 9), o4, o5, o6, o7, o8] H2 := by rw [n0]; exact f1
  simp [mk, f1', st', cp, al, -fAll]
end Sk

namespace Sk
open PySem PySem.Spec L2 Sm
def top (i : Nat) : Stmt := PySem.Challenge.pw_skeinwood_k42_whole_long_joins.main.body.getD i (.Pass ⟨0, 0, 0, 0⟩)
abbrev s_Shelf_init : Stmt := inClass (top 18) 0
abbrev s_law_mixed : Stmt := top 34
abbrev s_law_stream : Stmt := top 35
abbrev s_law_own : Stmt := top 37
abbrev s_law_take : Stmt := top 36
abbrev s_law_signs : Stmt := top 38
abbrev s_law_plain : Stmt := top 39
abbrev s_is_whole : Stmt := top 11
abbrev s_Shelf_has_piece : Stmt := inClass (top 18) 11
abbrev s_Shelf_check_piece : Stmt := inClass (top 18) 12
abbrev s_Shelf_check_text : Stmt := inClass (top 18) 13
abbrev s_Shelf_signs : Stmt := inClass (top 18) 5
abbrev s_check_length : Stmt := top 23
abbrev s_Shelf_last_leaf : Stmt := inClass (top 18) 10
abbrev s_Shelf_first_leaf : Stmt := inClass (top 18) 9
abbrev s_are_close : Stmt := top 24
abbrev s_Shelf_piece : Stmt := inClass (top 18) 4
abbrev s_Shelf_check_fork : Stmt := inClass (top 18) 14
abbrev s_Shelf_lay : Stmt := inClass (top 18) 17
abbrev s_Shelf_lay_fork : Stmt := inClass (top 18) 16
abbrev s_Shelf_fork : Stmt := inClass (top 18) 2
abbrev s_with_last : Stmt := top 29
abbrev s_Shelf_height : Stmt := inClass (top 18) 8
abbrev s_turned_left : Stmt := top 26
abbrev s_without_first : Stmt := top 30
abbrev s_turned_right : Stmt := top 27
abbrev s_linked : Stmt := top 25
abbrev s_is_plain_sign : Stmt := top 13
abbrev s_is_plain : Stmt := top 12
abbrev s_is_short : Stmt := top 14
abbrev s_ends_in : Stmt := top 15
abbrev s_Shelf_lay_leaf : Stmt := inClass (top 18) 15
abbrev s_Shelf_leaf : Stmt := inClass (top 18) 1
abbrev s_welded : Stmt := top 28
abbrev s_joined : Stmt := top 20
abbrev s_doubled : Stmt := top 32
abbrev s_repeated : Stmt := top 22
abbrev s_halved : Stmt := top 31
abbrev s_built : Stmt := top 21
abbrev s_law_fresh : Stmt := top 47
abbrev s_law_length : Stmt := top 42
abbrev s_law_deed : Stmt := top 48
abbrev s_law_look : Stmt := top 40
abbrev s_law_spots : Stmt := top 44
abbrev s_Shelf_ends : Stmt := inClass (top 18) 6
abbrev s_law_sign : Stmt := top 41
abbrev s_law_block_sign : Stmt := top 43
abbrev s_law_reads : Stmt := top 45
abbrev s_law_high : Stmt := top 46
abbrev s_law : Stmt := top 49
def flds : Nat -> List Str
  | 0 => ["pieces", "numbers", "sign_counts", "end_counts", "leaf_counts", "heights", "first_leaves", "last_leaves"]
  | _ => []
theorem ziG : ∀ c, (flds c).Nodup
  | 0 => by decide +kernel
  | _ + 1 => List.nodup_nil
theorem zht : ∀ c, (flds c).length <= 500
  | 0 => by decide +kernel
  | _ + 1 => Nat.zero_le _
abbrev mkT (K : PySem.W.Frag) (cls exc : Nat -> Option Addr) : Tb := ⟨K, cls, exc, flds, ziG, zht⟩
structure Facts (P : Program) (w : World) (K : PySem.W.Frag) (cls exc : Nat -> Option Addr) (mg : Str -> Option Value) (base : Heap) : Prop where
  b_abs : mg "abs" = none
  b_all : mg "all" = none
  b_bool : mg "bool" = none
  b_enumerate : mg "enumerate" = none
  b_int : mg "int" = none
  b_isinstance : mg "isinstance" = none
  b_len : mg "len" = none
  b_max : mg "max" = none
  b_range : mg "range" = none
  b_str : mg "str" = none
  b_sum : mg "sum" = none
  c_LEAF_SIGNS : ∃ t, mg "LEAF_SIGNS" = some (.int 8 t)
  c_MOST_PLAIN : ∃ t, mg "MOST_PLAIN" = some (.int 10000 t)
  c_MOST_SIGNS : ∃ t, mg "MOST_SIGNS" = some (.int 1000000000000000000 t)
  cf_Shelf : CF (mkT K cls exc) 0
  x_NoText : GX (mkT K cls exc) mg base 1 "NoText"
  x_NoPiece : GX (mkT K cls exc) mg base 2 "NoPiece"
  x_Loose : GX (mkT K cls exc) mg base 3 "Loose"
  x_Unlevel : GX (mkT K cls exc) mg base 4 "Unlevel"
  x_TooLong : GX (mkT K cls exc) mg base 5 "TooLong"
  x_NoPlace : GX (mkT K cls exc) mg base 6 "NoPlace"
  d_Shelf_init : DI K cls mg 0 "Shelf" "Shelf.__init__" s_Shelf_init ["self"]
  d_law_mixed : DG K mg "_law_mixed" s_law_mixed ["cell", "k"]
  d_law_stream : DG K mg "_law_stream" s_law_stream ["script", "k"]
  d_law_own : DG K mg "_law_own" s_law_own ["cell", "k"]
  d_law_take : DG K mg "_law_take" s_law_take ["stream", "many"]
  d_law_signs : DG K mg "_law_signs" s_law_signs ["kind"]
  d_law_plain : DG K mg "_law_plain" s_law_plain ["stream", "most"]
  d_is_whole : DG K mg "is_whole" s_is_whole ["thing"]
  d_Shelf_has_piece : DMm K cls 0 "has_piece" "Shelf.has_piece" s_Shelf_has_piece ["self", "number"]
  d_Shelf_check_piece : DMm K cls 0 "check_piece" "Shelf.check_piece" s_Shelf_check_piece ["self", "number"]
  d_Shelf_check_text : DMm K cls 0 "check_text" "Shelf.check_text" s_Shelf_check_text ["self", "text"]
  d_Shelf_signs : DMm K cls 0 "signs" "Shelf.signs" s_Shelf_signs ["self", "text"]
  d_check_length : DG K mg "check_length" s_check_length ["signs"]
  d_Shelf_last_leaf : DMm K cls 0 "last_leaf" "Shelf.last_leaf" s_Shelf_last_leaf ["self", "text"]
  d_Shelf_first_leaf : DMm K cls 0 "first_leaf" "Shelf.first_leaf" s_Shelf_first_leaf ["self", "text"]
  d_are_close : DG K mg "are_close" s_are_close ["shelf", "one", "other"]
  d_Shelf_piece : DMm K cls 0 "piece" "Shelf.piece" s_Shelf_piece ["self", "number"]
  d_Shelf_check_fork : DMm K cls 0 "check_fork" "Shelf.check_fork" s_Shelf_check_fork ["self", "one", "other"]
  d_Shelf_lay : DMm K cls 0 "lay" "Shelf.lay" s_Shelf_lay ["self", "made"]
  d_Shelf_lay_fork : DMm K cls 0 "lay_fork" "Shelf.lay_fork" s_Shelf_lay_fork ["self", "made"]
  d_Shelf_fork : DMm K cls 0 "fork" "Shelf.fork" s_Shelf_fork ["self", "one", "other"]
  d_with_last : DG K mg "with_last" s_with_last ["shelf", "text", "leaf"]
  d_Shelf_height : DMm K cls 0 "height" "Shelf.height" s_Shelf_height ["self", "text"]
  d_turned_left : DG K mg "turned_left" s_turned_left ["shelf", "one", "other"]
  d_without_first : DG K mg "without_first" s_without_first ["shelf", "text"]
  d_turned_right : DG K mg "turned_right" s_turned_right ["shelf", "one", "other"]
  d_linked : DG K mg "linked" s_linked ["shelf", "one", "other"]
  d_is_plain_sign : DG K mg "is_plain_sign" s_is_plain_sign ["sign"]
  d_is_plain : DG K mg "is_plain" s_is_plain ["thing"]
  d_is_short : DG K mg "is_short" s_is_short ["thing"]
  d_ends_in : DG K mg "ends_in" s_ends_in ["plain"]
  d_Shelf_lay_leaf : DMm K cls 0 "lay_leaf" "Shelf.lay_leaf" s_Shelf_lay_leaf ["self", "made"]
  d_Shelf_leaf : DMm K cls 0 "leaf" "Shelf.leaf" s_Shelf_leaf ["self", "plain"]
  d_welded : DG K mg "welded" s_welded ["shelf", "one", "other"]
  d_joined : DG K mg "joined" s_joined ["shelf", "one", "other"]
  d_doubled : DG K mg "doubled" s_doubled ["shelf", "text", "many"]
  d_repeated : DG K mg "repeated" s_repeated ["shelf", "text", "many"]
  d_halved : DG K mg "halved" s_halved ["shelf", "leaves"]
  d_built : DG K mg "built" s_built ["shelf", "plain"]
  d_law_fresh : DG K mg "_law_fresh" s_law_fresh ["shelf", "stream"]
  d_law_length : DG K mg "_law_length" s_law_length ["blocks"]
  d_law_deed : DG K mg "_law_deed" s_law_deed ["shelf", "row", "stream"]
  d_law_look : DG K mg "_law_look" s_law_look ["shelf", "number", "known"]
  d_law_spots : DG K mg "_law_spots" s_law_spots ["blocks", "stream"]
  d_Shelf_ends : DMm K cls 0 "ends" "Shelf.ends" s_Shelf_ends ["self", "text"]
  d_law_sign : DG K mg "_law_sign" s_law_sign ["shelf", "text", "place", "known"]
  d_law_block_sign : DG K mg "_law_block_sign" s_law_block_sign ["blocks", "place"]
  d_law_reads : DG K mg "_law_reads" s_law_reads ["shelf", "text", "blocks", "stream"]
  d_law_high : DG K mg "_law_high" s_law_high ["signs"]
  d_law : DG K mg "law" s_law ["script"]
theorem zdF : FnScope ["self"] ["self"] (defScope s_Shelf_init) := fsk
theorem zd8 : FnScope ["cell", "k", "one"] ["cell", "k"] (defScope s_law_mixed) := fsk
theorem zdG : FnScope ["script", "k", "cell", "j", "found"] ["script", "k"] (defScope s_law_stream) := fsk
theorem zfL : FnScope ["cell", "k", "found", "j"] ["cell", "k"] (defScope s_law_own) := fsk
theorem zeq : FnScope ["stream", "many", "digit"] ["stream", "many"] (defScope s_law_take) := fsk
theorem zd9 : FnScope ["kind", "many"] ["kind"] (defScope s_law_signs) := fsk
theorem zea : FnScope ["stream", "most", "signs", "found", "k"] ["stream", "most"] (defScope s_law_plain) := fsk
theorem zer : FnScope ["thing"] ["thing"] (defScope s_is_whole) := fsk
theorem zbU : FnScope ["self", "number"] ["self", "number"] (defScope s_Shelf_has_piece) := fsk
theorem zbE : FnScope ["self", "number"] ["self", "number"] (defScope s_Shelf_check_piece) := fsk
theorem zbI : FnScope ["self", "text"] ["self", "text"] (defScope s_Shelf_check_text) := fsk
theorem zdd : FnScope ["self", "text"] ["self", "text"] (defScope s_Shelf_signs) := fsk
theorem zcQ : FnScope ["signs"] ["signs"] (defScope s_check_length) := fsk
theorem zbV : FnScope ["self", "text"] ["self", "text"] (defScope s_Shelf_last_leaf) := fsk
theorem zbJ : FnScope ["self", "text"] ["self", "text"] (defScope s_Shelf_first_leaf) := fsk
theorem zeb : FnScope ["shelf", "one", "other"] ["shelf", "one", "other"] (defScope s_are_close) := fsk
theorem zde : FnScope ["self", "number"] ["self", "number"] (defScope s_Shelf_piece) := fsk
theorem zbK : FnScope ["self", "one", "other", "seam"] ["self", "one", "other"] (defScope s_Shelf_check_fork) := fsk
theorem zec : FnScope ["self", "made", "number"] ["self", "made"] (defScope s_Shelf_lay) := fsk
theorem zca : FnScope ["self", "made", "one", "other"] ["self", "made"] (defScope s_Shelf_lay_fork) := fsk
theorem zdH : FnScope ["self", "one", "other", "made"] ["self", "one", "other"] (defScope s_Shelf_fork) := fsk
theorem zbW : FnScope ["shelf", "text", "leaf", "piece"] ["shelf", "text", "leaf"] (defScope s_with_last) := fsk
theorem zcR : FnScope ["self", "text"] ["self", "text"] (defScope s_Shelf_height) := fsk
theorem zdf : FnScope ["shelf", "one", "other", "piece", "near", "far", "inner"] ["shelf", "one", "other"] (defScope s_turned_left) := fsk
theorem za6 : FnScope ["shelf", "text", "piece", "rest"] ["shelf", "text"] (defScope s_without_first) := fsk
theorem zcS : FnScope ["shelf", "one", "other", "piece", "far", "near", "inner"] ["shelf", "one", "other"] (defScope s_turned_right) := fsk
theorem zdA : FnScope ["shelf", "one", "other", "tilt", "piece"] ["shelf", "one", "other"] (defScope s_linked) := fsk
theorem zcC : FnScope ["sign"] ["sign"] (defScope s_is_plain_sign) := fsk
theorem zes : FnScope ["thing"] ["thing"] (defScope s_is_plain) := fsk
theorem zet : FnScope ["thing"] ["thing"] (defScope s_is_short) := fsk
theorem zfM : FnScope ["plain"] ["plain"] (defScope s_ends_in) := fsk
theorem zcb : FnScope ["self", "made", "number", "plain"] ["self", "made"] (defScope s_Shelf_lay_leaf) := fsk
theorem zdI : FnScope ["self", "plain", "made"] ["self", "plain"] (defScope s_Shelf_leaf) := fsk
theorem zgx : FnScope ["shelf", "one", "other", "seam", "front", "back"] ["shelf", "one", "other"] (defScope s_welded) := fsk
theorem zgy : FnScope ["shelf", "one", "other"] ["shelf", "one", "other"] (defScope s_joined) := fsk
theorem zcT : FnScope ["shelf", "text", "many", "half", "twice"] ["shelf", "text", "many"] (defScope s_doubled) := fsk
theorem zeu : FnScope ["shelf", "text", "many", "signs"] ["shelf", "text", "many"] (defScope s_repeated) := fsk
theorem zdB : FnScope ["shelf", "leaves", "middle"] ["shelf", "leaves"] (defScope s_halved) := fsk
theorem zhu : FnScope ["shelf", "plain", "leaves"] ["shelf", "plain"] (defScope s_built) := fsk
theorem zed : FnScope ["shelf", "stream", "plain", "times"] ["shelf", "stream"] (defScope s_law_fresh) := fsk
theorem zdJ : FnScope ["blocks"] ["blocks"] (defScope s_law_length) := fsk
theorem zev : FnScope ["shelf", "row", "stream", "kind", "one", "first", "other", "last", "times"] ["shelf", "row", "stream"] (defScope s_law_deed) := fsk
theorem zcl : FnScope ["shelf", "number", "known", "piece", "found", "one", "other"] ["shelf", "number", "known"] (defScope s_law_look) := fsk
theorem zee : FnScope ["blocks", "stream", "length", "found", "seam", "plain", "many"] ["blocks", "stream"] (defScope s_law_spots) := fsk
theorem zdK : FnScope ["self", "text"] ["self", "text"] (defScope s_Shelf_ends) := fsk
theorem zew : FnScope ["shelf", "text", "place", "known", "piece", "ahead"] ["shelf", "text", "place", "known"] (defScope s_law_sign) := fsk
theorem zcc : FnScope ["blocks", "place", "plain", "many"] ["blocks", "place"] (defScope s_law_block_sign) := fsk
theorem zef : FnScope ["shelf", "text", "blocks", "stream", "length", "known", "look", "spots"] ["shelf", "text", "blocks", "stream"] (defScope s_law_reads) := fsk
theorem zex : FnScope ["signs", "fewer", "more", "height"] ["signs"] (defScope s_law_high) := fsk
theorem sc_law : FnScope ["script", "shelf", "row", "made", "k", "cell", "stream", "text", "blocks"] ["script"] (defScope s_law) := fsk
section
variable {P : Program} {w : World} {K : PySem.W.Frag} {cls exc : Nat -> Option Addr} {mg : Str -> Option Value} {base : Heap} (Z : Facts P w K cls exc mg base)
include Z
theorem zeg : GK P w (mkT K cls exc) mg base 1 0 "Shelf" F_Shelf_init := gk Z.d_Shelf_init zdF fun hr C hu nd =>
  (zab (zaD rfl Z.cf_Shelf (r_var 0) (r_lstM ra_nil))
    (zab (zaD rfl Z.cf_Shelf (r_var 0) zh1)
    (zab (zaD rfl Z.cf_Shelf (r_var 0) (r_lstM (zaa r_int ra_nil)))
    (zab (zaD rfl Z.cf_Shelf (r_var 0) (r_lstM (zaa r_int ra_nil)))
    (zab (zaD rfl Z.cf_Shelf (r_var 0) (r_lstM (zaa r_int ra_nil)))
    (zab (zaD rfl Z.cf_Shelf (r_var 0) (r_lstM (zaa (r_neg r_int) ra_nil)))
    (zab (zaD rfl Z.cf_Shelf (r_var 0) (r_lstM (zaa r_int ra_nil)))
    (rs_one (zaD rfl Z.cf_Shelf (r_var 0) (r_lstM (zaa r_int ra_nil)))))))))))
theorem zcm : GF P w (mkT K cls exc) mg base 1 "_law_mixed" F_law_mixed := gf Z.d_law_mixed zd8 fun hr C hu nd =>
  (zab (r_set (i := 2) nd (r_bin o_mod (r_bin o_mul (r_bin (o_add rfl) (r_bin (o_add rfl) (r_bin o_mod (r_var 0) r_int) (r_bin o_mul r_int (r_var 1))) r_int) r_int) r_int))
    (rs_one (r_ret (r_bin o_mod (r_bin o_mul (r_bin o_mod (r_bin o_mul (r_var 2) (r_var 2)) r_int) r_int) r_int))))
theorem zeh : GF P w (mkT K cls exc) mg base 2 "_law_stream" F_law_stream := gf Z.d_law_stream zdG fun {f cdv A outer s H E} hr C hu nd =>
  (zab (r_set (i := 2) nd r_int)
    (zab (r_for rfl (zds (E := EN) rfl Z.b_range (r_var 1) (r_bi (b_len rfl) rfl Z.b_len PySem.boot_len (zaa (r_var 0) ra_nil)) r_int) (zb3 (i := 3) nd) (rs_one (r_set (i := 2) nd (r_bin (o_add rfl) (r_bin o_mul (r_var 2) (r_bin o_mul (r_bin o_pow r_int r_int) (r_bin o_pow r_int r_int))) (r_bin o_mod (r_ix rfl hu (r_var 0) (r_var 3)) (r_bin o_mul (r_bin o_pow r_int r_int) (r_bin o_pow r_int r_int)))))))
    (zab (r_if (rt_cmp o_ge (r_var 2) (r_bin o_pow r_int r_int) (nomark _)) (rs_one (r_ret (r_lstM (zaa (r_var 2) ra_nil)))) rs_nil)
    (zab (r_set (i := 2) nd (r_bin (o_add rfl) (r_var 2) (r_bi (b_sum rfl) rfl Z.b_sum PyProof.Rows.boot_sum (zaa (r_comp (jf := []) (zaE (N := ["script", "k", "cell", "j", "found"]) (sc := defScope s_law_stream) rfl (fun _ => rfl) (by decide +kernel)) rfl (ri_val (E := (fun _ => E)) rfl (r_var 0)) (fun _ _ _ _ _ => zaK) (fun _ _ _ _ _ => (r_bin o_mod (r_var 0) (r_bin o_pow r_int r_int)))) ra_nil))))
    (zab (r_set (i := 4) nd r_int)
    (zab (r_for rfl (za9 (E := EN) rfl Z.b_range r_int) (zb3 (i := 3) nd) (rs_one (r_set (i := 4) nd (r_bin (o_add rfl) (r_bin o_mul (r_var 4) r_int) (r_call rfl (C.nox) (zcm Z) hr.m rfl (zaa (r_bin (o_add rfl) (r_bin (o_add rfl) (r_var 2) (r_bin o_mul r_int (r_var 1))) (r_bi (b_len rfl) rfl Z.b_len PySem.boot_len (zaa (r_var 0) ra_nil))) (zaa (r_var 3) ra_nil)))))))
    (rs_one (r_ret (r_lstM (zaa (r_var 4) ra_nil))))))))))
theorem zgz : GF P w (mkT K cls exc) mg base 2 "_law_own" F_law_own := gf Z.d_law_own zfL fun hr C hu nd =>
  (zab (r_set (i := 0) nd (r_bin o_mod (r_var 0) (r_bin o_mul (r_bin o_pow r_int r_int) (r_bin o_pow r_int r_int))))
    (zab (r_if (rt_cmp o_ge (r_var 0) (r_bin o_pow r_int r_int) (nomark _)) (rs_one (r_ret (r_lstM (zaa (r_var 0) ra_nil)))) rs_nil)
    (zab (r_set (i := 2) nd r_int)
    (zab (r_for rfl (za9 (E := EN) rfl Z.b_range r_int) (zb3 (i := 3) nd) (rs_one (r_set (i := 2) nd (r_bin (o_add rfl) (r_bin o_mul (r_var 2) r_int) (r_call rfl (C.nox) (zcm Z) hr.m rfl (zaa (r_bin (o_add rfl) (r_var 0) (r_bin o_mul r_int (r_var 1))) (zaa (r_var 3) ra_nil)))))))
    (rs_one (r_ret (r_lstM (zaa (r_var 2) ra_nil))))))))
theorem zas : GF P w (mkT K cls exc) mg base 1 "_law_take" F_law_take := gf Z.d_law_take zeq fun hr C hu nd =>
  (zab (r_set (i := 2) nd (r_bin o_mod (r_ix rfl hu (r_var 0) r_int) (r_var 1)))
    (zab (zc4 hu (r_var 0) r_int (r_bin o_div (r_ix rfl hu (r_var 0) r_int) (r_var 1)))
    (rs_one (r_ret (r_var 2)))))
theorem zey : GF P w (mkT K cls exc) mg base 1 "_law_signs" F_law_signs := gf Z.d_law_signs zd9 fun hr C hu nd =>
  (zab (r_set (i := 1) nd r_str)
    (rs_one (r_ret (r_ix rfl hu (r_lst (zaa r_str (zaa (r_bin (o_add rfl) r_str r_str) (zaa (r_bin (o_add rfl) (r_bin (o_add rfl) (r_bin (o_add rfl) (r_bin (o_add rfl) (r_var 1) r_str) r_str) r_str) r_str) (zaa r_str ra_nil))))) (r_var 0)))))
theorem zez : GF P w (mkT K cls exc) mg base 2 "_law_plain" F_law_plain := gf Z.d_law_plain zea fun hr C hu nd =>
  (zab (r_set (i := 2) nd (r_call rfl C (zey Z) hr.m rfl (zaa (r_call rfl C (zas Z) hr.m rfl (zaa (r_var 0) (zaa r_int ra_nil))) ra_nil)))
    (zab (r_set (i := 3) nd r_str)
    (zab (r_for rfl (za9 (E := EN) rfl Z.b_range (r_call rfl (C.nox) (zas Z) hr.m rfl (zaa (r_var 0) (zaa (r_bin (o_add rfl) (r_var 1) r_int) ra_nil)))) (zb3 (i := 4) nd) (rs_one (r_set (i := 3) nd (r_bin (o_add rfl) (r_var 3) (r_ix rfl hu (r_var 2) (r_call rfl (C.nox) (zas Z) hr.m rfl (zaa (r_var 0) (zaa (r_bi (b_len rfl) rfl Z.b_len PySem.boot_len (zaa (r_var 2) ra_nil)) ra_nil))))))))
    (rs_one (r_ret (r_var 3))))))
theorem zfN : GF P w (mkT K cls exc) mg base 1 "is_whole" F_is_whole := gf Z.d_is_whole zer fun hr C hu nd =>
  (rs_one (r_ret (r_and (r_isB rfl rfl Z.b_isinstance (r_var 0) rfl Z.b_int bt_int (by decide)) (r_one (r_not (r_isB rfl rfl Z.b_isinstance (r_var 0) rfl Z.b_bool zhW (by decide)))))))
theorem zcd : GM P w (mkT K cls exc) mg base 2 0 "has_piece" F_Shelf_has_piece := gm Z.d_Shelf_has_piece zbU (show ("has_piece" : Str) ∉ flds 0 by decide +kernel) fun hr C hu nd =>
  (rs_one (r_ret (r_and (r_call rfl C (zfN Z) hr.m rfl (zaa (r_var 1) ra_nil)) (r_one (zc1 o_le o_le r_int (r_var 1) (r_bi (b_len rfl) rfl Z.b_len PySem.boot_len (zaa (r_fld rfl Z.cf_Shelf (r_var 0)) ra_nil)))))))
theorem zaz : GM P w (mkT K cls exc) mg base 3 0 "check_piece" F_Shelf_check_piece := gm Z.d_Shelf_check_piece zbE (show ("check_piece" : Str) ∉ flds 0 by decide +kernel) fun hr C hu nd =>
  (rs_one (r_if (rt_not (zaJ rfl (r_meth rfl C (zcd Z) hr.m (r_var 0) (zaa (r_var 1) ra_nil)))) (rs_one (zaI Z.x_NoPiece zaH rfl (zaa r_str ra_nil))) rs_nil))
theorem zax : GM P w (mkT K cls exc) mg base 4 0 "check_text" F_Shelf_check_text := gm Z.d_Shelf_check_text zbI (show ("check_text" : Str) ∉ flds 0 by decide +kernel) fun hr C hu nd =>
  (rs_one (r_if (rt_cmp (o_ne rfl hu) (r_var 1) r_int (nomark _)) (rs_one (r_expr (r_meth rfl C (zaz Z) hr.m (r_var 0) (zaa (r_var 1) ra_nil)))) rs_nil))
theorem zaB : GM P w (mkT K cls exc) mg base 5 0 "signs" F_Shelf_signs := gm Z.d_Shelf_signs zdd (show ("signs" : Str) ∉ flds 0 by decide +kernel) fun hr C hu nd =>
  (zab (r_expr (r_meth rfl C (zax Z) hr.m (r_var 0) (zaa (r_var 1) ra_nil)))
    (rs_one (r_ret (r_ix rfl hu (r_fld rfl Z.cf_Shelf (r_var 0)) (r_var 1)))))
theorem zbq : GF P w (mkT K cls exc) mg base 1 "check_length" F_check_length := gf Z.d_check_length zcQ fun hr C hu nd =>
  (rs_one (r_if (rt_cmp o_gt (r_var 0) (r_gI rfl Z.c_MOST_SIGNS) (nomark _)) (rs_one (zaI Z.x_TooLong zaH rfl (zaa r_str ra_nil))) rs_nil))
theorem zaT : GM P w (mkT K cls exc) mg base 5 0 "last_leaf" F_Shelf_last_leaf := gm Z.d_Shelf_last_leaf zbV (show ("last_leaf" : Str) ∉ flds 0 by decide +kernel) fun hr C hu nd =>
  (zab (r_expr (r_meth rfl C (zax Z) hr.m (r_var 0) (zaa (r_var 1) ra_nil)))
    (rs_one (r_ret (r_ix rfl hu (r_fld rfl Z.cf_Shelf (r_var 0)) (r_var 1)))))
theorem zaS : GM P w (mkT K cls exc) mg base 5 0 "first_leaf" F_Shelf_first_leaf := gm Z.d_Shelf_first_leaf zbJ (show ("first_leaf" : Str) ∉ flds 0 by decide +kernel) fun hr C hu nd =>
  (zab (r_expr (r_meth rfl C (zax Z) hr.m (r_var 0) (zaa (r_var 1) ra_nil)))
    (rs_one (r_ret (r_ix rfl hu (r_fld rfl Z.cf_Shelf (r_var 0)) (r_var 1)))))
theorem zeA : GF P w (mkT K cls exc) mg base 6 "are_close" F_are_close := gf Z.d_are_close zeb fun hr C hu nd =>
  (rs_one (r_ret (r_cmp o_gt (r_bin (o_add rfl) (r_meth rfl C (zaB Z) hr.m (r_var 0) (zaa (r_meth rfl C (zaT Z) hr.m (r_var 0) (zaa (r_var 1) ra_nil)) ra_nil)) (r_meth rfl C (zaB Z) hr.m (r_var 0) (zaa (r_meth rfl C (zaS Z) hr.m (r_var 0) (zaa (r_var 2) ra_nil)) ra_nil))) (r_gI rfl Z.c_LEAF_SIGNS) (nomark _))))
theorem zah : GM P w (mkT K cls exc) mg base 4 0 "piece" F_Shelf_piece := gm Z.d_Shelf_piece zde (show ("piece" : Str) ∉ flds 0 by decide +kernel) fun hr C hu nd =>
  (zab (r_expr (r_meth rfl C (zaz Z) hr.m (r_var 0) (zaa (r_var 1) ra_nil)))
    (rs_one (r_ret (r_ix rfl hu (r_fld rfl Z.cf_Shelf (r_var 0)) (r_bin o_sub (r_var 1) r_int)))))
theorem zbX : GM P w (mkT K cls exc) mg base 4 0 "check_fork" F_Shelf_check_fork := gm Z.d_Shelf_check_fork zbK (show ("check_fork" : Str) ∉ flds 0 by decide +kernel) fun hr C hu nd =>
  (zab (r_expr (r_meth rfl C (zaz Z) hr.m (r_var 0) (zaa (r_var 1) ra_nil)))
    (zab (r_expr (r_meth rfl C (zaz Z) hr.m (r_var 0) (zaa (r_var 2) ra_nil)))
    (zab (r_set (i := 3) nd (r_bin (o_add rfl) (r_ix rfl hu (r_fld rfl Z.cf_Shelf (r_var 0)) (r_ix rfl hu (r_fld rfl Z.cf_Shelf (r_var 0)) (r_var 1))) (r_ix rfl hu (r_fld rfl Z.cf_Shelf (r_var 0)) (r_ix rfl hu (r_fld rfl Z.cf_Shelf (r_var 0)) (r_var 2)))))
    (zab (r_if (rt_cmp o_le (r_var 3) (r_gI rfl Z.c_LEAF_SIGNS) (nomark _)) (rs_one (zaI Z.x_Loose zaH rfl (zaa r_str ra_nil))) rs_nil)
    (zab (r_if (rt_cmp o_gt (r_bi (b_abs) rfl Z.b_abs PyProof.Rows.boot_abs (zaa (r_bin o_sub (r_ix rfl hu (r_fld rfl Z.cf_Shelf (r_var 0)) (r_var 1)) (r_ix rfl hu (r_fld rfl Z.cf_Shelf (r_var 0)) (r_var 2))) ra_nil)) r_int (nomark _)) (rs_one (zaI Z.x_Unlevel zaH rfl (zaa r_str ra_nil))) rs_nil)
    (rs_one (r_if (rt_cmp o_gt (r_bin (o_add rfl) (r_ix rfl hu (r_fld rfl Z.cf_Shelf (r_var 0)) (r_var 1)) (r_ix rfl hu (r_fld rfl Z.cf_Shelf (r_var 0)) (r_var 2))) (r_gI rfl Z.c_MOST_SIGNS) (nomark _)) (rs_one (zaI Z.x_TooLong zaH rfl (zaa r_str ra_nil))) rs_nil)))))))
theorem zcn : GM P w (mkT K cls exc) mg base 1 0 "lay" F_Shelf_lay := gm Z.d_Shelf_lay zec (show ("lay" : Str) ∉ flds 0 by decide +kernel) fun hr C hu nd =>
  (zab (r_expr (r_bm rfl PySem.F.plainAttrs_list PySem.F.slot_list_append PySem.F.type_list_append (zau) zat (r_fld rfl Z.cf_Shelf (r_var 0)) (zaa (r_var 1) ra_nil)))
    (zab (r_set (i := 2) nd (r_bi (b_len rfl) rfl Z.b_len PySem.boot_len (zaa (r_fld rfl Z.cf_Shelf (r_var 0)) ra_nil)))
    (zab (zc4 hu (r_fld rfl Z.cf_Shelf (r_var 0)) (r_var 1) (r_var 2))
    (rs_one (r_ret (r_var 2))))))
theorem zcD : GM P w (mkT K cls exc) mg base 2 0 "lay_fork" F_Shelf_lay_fork := gm Z.d_Shelf_lay_fork zca (show ("lay_fork" : Str) ∉ flds 0 by decide +kernel) fun hr C hu nd =>
  (zab (r_expr (r_meth rfl C (zcn Z) hr.m (r_var 0) (zaa (r_var 1) ra_nil)))
    (zab (r_set (i := 2) nd (r_ix rfl hu (r_var 1) r_int))
    (zab (r_set (i := 3) nd (r_ix rfl hu (r_var 1) r_int))
    (zab (r_expr (r_bm rfl PySem.F.plainAttrs_list PySem.F.slot_list_append PySem.F.type_list_append (zau) zat (r_fld rfl Z.cf_Shelf (r_var 0)) (zaa (r_bin (o_add rfl) (r_ix rfl hu (r_fld rfl Z.cf_Shelf (r_var 0)) (r_var 2)) (r_ix rfl hu (r_fld rfl Z.cf_Shelf (r_var 0)) (r_var 3))) ra_nil)))
    (zab (r_expr (r_bm rfl PySem.F.plainAttrs_list PySem.F.slot_list_append PySem.F.type_list_append (zau) zat (r_fld rfl Z.cf_Shelf (r_var 0)) (zaa (r_bin (o_add rfl) (r_ix rfl hu (r_fld rfl Z.cf_Shelf (r_var 0)) (r_var 2)) (r_ix rfl hu (r_fld rfl Z.cf_Shelf (r_var 0)) (r_var 3))) ra_nil)))
    (zab (r_expr (r_bm rfl PySem.F.plainAttrs_list PySem.F.slot_list_append PySem.F.type_list_append (zau) zat (r_fld rfl Z.cf_Shelf (r_var 0)) (zaa (r_bin (o_add rfl) (r_ix rfl hu (r_fld rfl Z.cf_Shelf (r_var 0)) (r_var 2)) (r_ix rfl hu (r_fld rfl Z.cf_Shelf (r_var 0)) (r_var 3))) ra_nil)))
    (zab (r_expr (r_bm rfl PySem.F.plainAttrs_list PySem.F.slot_list_append PySem.F.type_list_append (zau) zat (r_fld rfl Z.cf_Shelf (r_var 0)) (zaa (r_bin (o_add rfl) (r_bi (b_max2) rfl Z.b_max PyProof.Rows.boot_max (zaa (r_ix rfl hu (r_fld rfl Z.cf_Shelf (r_var 0)) (r_var 2)) (zaa (r_ix rfl hu (r_fld rfl Z.cf_Shelf (r_var 0)) (r_var 3)) ra_nil))) r_int) ra_nil)))
    (zab (r_expr (r_bm rfl PySem.F.plainAttrs_list PySem.F.slot_list_append PySem.F.type_list_append (zau) zat (r_fld rfl Z.cf_Shelf (r_var 0)) (zaa (r_ix rfl hu (r_fld rfl Z.cf_Shelf (r_var 0)) (r_var 2)) ra_nil)))
    (rs_one (r_expr (r_bm rfl PySem.F.plainAttrs_list PySem.F.slot_list_append PySem.F.type_list_append (zau) zat (r_fld rfl Z.cf_Shelf (r_var 0)) (zaa (r_ix rfl hu (r_fld rfl Z.cf_Shelf (r_var 0)) (r_var 3)) ra_nil))))))))))))
theorem zaf : GM P w (mkT K cls exc) mg base 5 0 "fork" F_Shelf_fork := gm Z.d_Shelf_fork zdH (show ("fork" : Str) ∉ flds 0 by decide +kernel) fun hr C hu nd =>
  (zab (r_expr (r_meth rfl C (zbX Z) hr.m (r_var 0) (zaa (r_var 1) (zaa (r_var 2) ra_nil))))
    (zab (r_set (i := 3) nd (r_tup (zaa r_str (zaa (r_var 1) (zaa (r_var 2) ra_nil)))))
    (zab (r_if (rt_cmp (zeY rfl hu) (r_var 3) (r_fld rfl Z.cf_Shelf (r_var 0)) rfl) (rs_one (r_expr (r_meth rfl C (zcD Z) hr.m (r_var 0) (zaa (r_var 3) ra_nil)))) rs_nil)
    (rs_one (r_ret (r_ix rfl hu (r_fld rfl Z.cf_Shelf (r_var 0)) (r_var 3)))))))
theorem zco : ∀ d, GF P w (mkT K cls exc) mg base (5 + d + 1) "with_last" (F_with_last d)
  | 0 => gf Z.d_with_last zbW fun _ _ _ _ => rs_bad
  | d + 1 => gf Z.d_with_last zbW fun hr C hu nd =>
    (zab (r_set (i := 3) nd (r_meth rfl C (zah Z) (hr.mono (show 4 <= 5 + (d + 1) by omega)) (r_var 0) (zaa (r_var 1) ra_nil)))
    (zab (r_if (rt_cmp (o_eq rfl hu) (r_ix rfl hu (r_var 3) r_int) r_str (nomark _)) (rs_one (r_ret (r_var 2))) rs_nil)
    (rs_one (r_ret (r_meth rfl C (zaf Z) (hr.mono (show 5 <= 5 + (d + 1) by omega)) (r_var 0) (zaa (r_ix rfl hu (r_var 3) r_int) (zaa (r_call rfl C (zco d) (hr.mono (by omega)) rfl (zaa (r_var 0) (zaa (r_ix rfl hu (r_var 3) r_int) (zaa (r_var 2) ra_nil)))) ra_nil)))))))
theorem zaj : GM P w (mkT K cls exc) mg base 5 0 "height" F_Shelf_height := gm Z.d_Shelf_height zcR (show ("height" : Str) ∉ flds 0 by decide +kernel) fun hr C hu nd =>
  (zab (r_expr (r_meth rfl C (zax Z) hr.m (r_var 0) (zaa (r_var 1) ra_nil)))
    (rs_one (r_ret (r_ix rfl hu (r_fld rfl Z.cf_Shelf (r_var 0)) (r_var 1)))))
theorem zbH : GF P w (mkT K cls exc) mg base 6 "turned_left" F_turned_left := gf Z.d_turned_left zdf fun hr C hu nd =>
  (zab (r_if (rt_cmp o_lt (r_bin o_sub (r_meth rfl C (zaj Z) hr.m (r_var 0) (zaa (r_var 2) ra_nil)) (r_meth rfl C (zaj Z) hr.m (r_var 0) (zaa (r_var 1) ra_nil))) r_int (nomark _)) (rs_one (r_ret (r_meth rfl C (zaf Z) hr.m (r_var 0) (zaa (r_var 1) (zaa (r_var 2) ra_nil))))) rs_nil)
    (zab (r_set (i := 3) nd (r_meth rfl C (zah Z) hr.m (r_var 0) (zaa (r_var 2) ra_nil)))
    (zab (r_set (i := 4) nd (r_ix rfl hu (r_var 3) r_int))
    (zab (r_set (i := 5) nd (r_ix rfl hu (r_var 3) r_int))
    (zab (r_if (rt_cmp o_le (r_meth rfl C (zaj Z) hr.m (r_var 0) (zaa (r_var 4) ra_nil)) (r_meth rfl C (zaj Z) hr.m (r_var 0) (zaa (r_var 5) ra_nil)) (nomark _)) (rs_one (r_ret (r_meth rfl C (zaf Z) hr.m (r_var 0) (zaa (r_meth rfl C (zaf Z) hr.m (r_var 0) (zaa (r_var 1) (zaa (r_var 4) ra_nil))) (zaa (r_var 5) ra_nil))))) rs_nil)
    (zab (r_set (i := 6) nd (r_meth rfl C (zah Z) hr.m (r_var 0) (zaa (r_var 4) ra_nil)))
    (rs_one (r_ret (r_meth rfl C (zaf Z) hr.m (r_var 0) (zaa (r_meth rfl C (zaf Z) hr.m (r_var 0) (zaa (r_var 1) (zaa (r_ix rfl hu (r_var 6) r_int) ra_nil))) (zaa (r_meth rfl C (zaf Z) hr.m (r_var 0) (zaa (r_ix rfl hu (r_var 6) r_int) (zaa (r_var 5) ra_nil))) ra_nil)))))))))))
theorem zbe : ∀ d, GF P w (mkT K cls exc) mg base (6 + d + 1) "without_first" (F_without_first d)
  | 0 => gf Z.d_without_first za6 fun _ _ _ _ => rs_bad
  | d + 1 => gf Z.d_without_first za6 fun hr C hu nd =>
    (zab (r_set (i := 2) nd (r_meth rfl C (zah Z) (hr.mono (show 4 <= 6 + (d + 1) by omega)) (r_var 0) (zaa (r_var 1) ra_nil)))
    (zab (r_if (rt_cmp (o_eq rfl hu) (r_ix rfl hu (r_var 2) r_int) r_str (nomark _)) (rs_one (r_ret r_int)) rs_nil)
    (zab (r_set (i := 3) nd (r_call rfl C (zbe d) (hr.mono (by omega)) rfl (zaa (r_var 0) (zaa (r_ix rfl hu (r_var 2) r_int) ra_nil))))
    (zab (r_if (rt_cmp (o_eq rfl hu) (r_var 3) r_int (nomark _)) (rs_one (r_ret (r_ix rfl hu (r_var 2) r_int))) rs_nil)
    (rs_one (r_ret (r_call rfl C (zbH Z) (hr.mono (show 6 <= 6 + (d + 1) by omega)) rfl (zaa (r_var 0) (zaa (r_var 3) (zaa (r_ix rfl hu (r_var 2) r_int) ra_nil))))))))))
theorem zdg : GF P w (mkT K cls exc) mg base 6 "turned_right" F_turned_right := gf Z.d_turned_right zcS fun hr C hu nd =>
  (zab (r_if (rt_cmp o_lt (r_bin o_sub (r_meth rfl C (zaj Z) hr.m (r_var 0) (zaa (r_var 1) ra_nil)) (r_meth rfl C (zaj Z) hr.m (r_var 0) (zaa (r_var 2) ra_nil))) r_int (nomark _)) (rs_one (r_ret (r_meth rfl C (zaf Z) hr.m (r_var 0) (zaa (r_var 1) (zaa (r_var 2) ra_nil))))) rs_nil)
    (zab (r_set (i := 3) nd (r_meth rfl C (zah Z) hr.m (r_var 0) (zaa (r_var 1) ra_nil)))
    (zab (r_set (i := 4) nd (r_ix rfl hu (r_var 3) r_int))
    (zab (r_set (i := 5) nd (r_ix rfl hu (r_var 3) r_int))
    (zab (r_if (rt_cmp o_le (r_meth rfl C (zaj Z) hr.m (r_var 0) (zaa (r_var 5) ra_nil)) (r_meth rfl C (zaj Z) hr.m (r_var 0) (zaa (r_var 4) ra_nil)) (nomark _)) (rs_one (r_ret (r_meth rfl C (zaf Z) hr.m (r_var 0) (zaa (r_var 4) (zaa (r_meth rfl C (zaf Z) hr.m (r_var 0) (zaa (r_var 5) (zaa (r_var 2) ra_nil))) ra_nil))))) rs_nil)
    (zab (r_set (i := 6) nd (r_meth rfl C (zah Z) hr.m (r_var 0) (zaa (r_var 5) ra_nil)))
    (rs_one (r_ret (r_meth rfl C (zaf Z) hr.m (r_var 0) (zaa (r_meth rfl C (zaf Z) hr.m (r_var 0) (zaa (r_var 4) (zaa (r_ix rfl hu (r_var 6) r_int) ra_nil))) (zaa (r_meth rfl C (zaf Z) hr.m (r_var 0) (zaa (r_ix rfl hu (r_var 6) r_int) (zaa (r_var 2) ra_nil))) ra_nil)))))))))))
theorem zbF : ∀ d, GF P w (mkT K cls exc) mg base (6 + d + 1) "linked" (F_linked d)
  | 0 => gf Z.d_linked zdA fun _ _ _ _ => rs_bad
  | d + 1 => gf Z.d_linked zdA fun hr C hu nd =>
    (zab (r_set (i := 3) nd (r_bin o_sub (r_meth rfl C (zaj Z) (hr.mono (show 5 <= 6 + (d + 1) by omega)) (r_var 0) (zaa (r_var 1) ra_nil)) (r_meth rfl C (zaj Z) (hr.mono (show 5 <= 6 + (d + 1) by omega)) (r_var 0) (zaa (r_var 2) ra_nil))))
    (zab (r_if (rt_cmp o_gt (r_var 3) r_int (nomark _)) (zab (r_set (i := 4) nd (r_meth rfl C (zah Z) (hr.mono (show 4 <= 6 + (d + 1) by omega)) (r_var 0) (zaa (r_var 1) ra_nil)))
    (rs_one (r_ret (r_call rfl C (zbH Z) (hr.mono (show 6 <= 6 + (d + 1) by omega)) rfl (zaa (r_var 0) (zaa (r_ix rfl hu (r_var 4) r_int) (zaa (r_call rfl C (zbF d) (hr.mono (by omega)) rfl (zaa (r_var 0) (zaa (r_ix rfl hu (r_var 4) r_int) (zaa (r_var 2) ra_nil)))) ra_nil))))))) rs_nil)
    (zab (r_if (rt_cmp o_lt (r_var 3) (r_neg r_int) (nomark _)) (zab (r_set (i := 4) nd (r_meth rfl C (zah Z) (hr.mono (show 4 <= 6 + (d + 1) by omega)) (r_var 0) (zaa (r_var 2) ra_nil)))
    (rs_one (r_ret (r_call rfl C (zdg Z) (hr.mono (show 6 <= 6 + (d + 1) by omega)) rfl (zaa (r_var 0) (zaa (r_call rfl C (zbF d) (hr.mono (by omega)) rfl (zaa (r_var 0) (zaa (r_var 1) (zaa (r_ix rfl hu (r_var 4) r_int) ra_nil)))) (zaa (r_ix rfl hu (r_var 4) r_int) ra_nil))))))) rs_nil)
    (rs_one (r_ret (r_meth rfl C (zaf Z) (hr.mono (show 5 <= 6 + (d + 1) by omega)) (r_var 0) (zaa (r_var 1) (zaa (r_var 2) ra_nil))))))))
theorem zcU : GF P w (mkT K cls exc) mg base 1 "is_plain_sign" F_is_plain_sign := gf Z.d_is_plain_sign zcC fun hr C hu nd =>
  (rs_one (r_ret (r_or (r_cmp (o_eq rfl hu) (r_var 0) r_str (nomark _)) (r_one (zc1 o_le o_le r_str (r_var 0) r_str)))))
theorem zcV : GF P w (mkT K cls exc) mg base 2 "is_plain" F_is_plain := gf Z.d_is_plain zes fun {f cdv A outer s H E} hr C hu nd =>
  (zab (r_if (rt_not (zaJ rfl (r_isB rfl rfl Z.b_isinstance (r_var 0) rfl Z.b_str bt_str (by decide)))) (rs_one (r_ret r_bl)) rs_nil)
    (rs_one (r_ret (r_bi (b_all rfl) rfl Z.b_all PyProof.Rows.boot_all (zaa (r_comp (jf := []) (zaE (N := ["thing"]) (sc := defScope s_is_plain) rfl (fun _ => rfl) (by decide +kernel)) rfl (ri_val (E := (fun _ => E)) rfl (r_var 0)) (fun _ _ _ _ _ => zaK) (fun _ _ _ _ _ => (r_call rfl (CA.never rfl) (zcU Z) hr.m rfl (zaa (r_var 0) ra_nil)))) ra_nil)))))
theorem zfO : GF P w (mkT K cls exc) mg base 3 "is_short" F_is_short := gf Z.d_is_short zet fun hr C hu nd =>
  (rs_one (r_ret (r_and (r_call rfl C (zcV Z) hr.m rfl (zaa (r_var 0) ra_nil)) (r_one (zc1 o_le o_le r_int (r_bi (b_len rfl) rfl Z.b_len PySem.boot_len (zaa (r_var 0) ra_nil)) (r_gI rfl Z.c_LEAF_SIGNS))))))
theorem zgA : GF P w (mkT K cls exc) mg base 1 "ends_in" F_ends_in := gf Z.d_ends_in zfM fun hr C hu nd =>
  (rs_one (r_ret (r_bm rfl PySem.F.plainAttrs_str PySem.F.slot_str_count PySem.F.type_str_count (zdY) zeZ (r_var 0) (zaa r_str ra_nil))))
theorem zcE : GM P w (mkT K cls exc) mg base 2 0 "lay_leaf" F_Shelf_lay_leaf := gm Z.d_Shelf_lay_leaf zcb (show ("lay_leaf" : Str) ∉ flds 0 by decide +kernel) fun hr C hu nd =>
  (zab (r_set (i := 2) nd (r_meth rfl C (zcn Z) hr.m (r_var 0) (zaa (r_var 1) ra_nil)))
    (zab (r_set (i := 3) nd (r_ix rfl hu (r_var 1) r_int))
    (zab (r_expr (r_bm rfl PySem.F.plainAttrs_list PySem.F.slot_list_append PySem.F.type_list_append (zau) zat (r_fld rfl Z.cf_Shelf (r_var 0)) (zaa (r_bi (b_len rfl) rfl Z.b_len PySem.boot_len (zaa (r_var 3) ra_nil)) ra_nil)))
    (zab (r_expr (r_bm rfl PySem.F.plainAttrs_list PySem.F.slot_list_append PySem.F.type_list_append (zau) zat (r_fld rfl Z.cf_Shelf (r_var 0)) (zaa (r_call rfl C (zgA Z) hr.m rfl (zaa (r_var 3) ra_nil)) ra_nil)))
    (zab (r_expr (r_bm rfl PySem.F.plainAttrs_list PySem.F.slot_list_append PySem.F.type_list_append (zau) zat (r_fld rfl Z.cf_Shelf (r_var 0)) (zaa r_int ra_nil)))
    (zab (r_expr (r_bm rfl PySem.F.plainAttrs_list PySem.F.slot_list_append PySem.F.type_list_append (zau) zat (r_fld rfl Z.cf_Shelf (r_var 0)) (zaa r_int ra_nil)))
    (zab (r_expr (r_bm rfl PySem.F.plainAttrs_list PySem.F.slot_list_append PySem.F.type_list_append (zau) zat (r_fld rfl Z.cf_Shelf (r_var 0)) (zaa (r_var 2) ra_nil)))
    (rs_one (r_expr (r_bm rfl PySem.F.plainAttrs_list PySem.F.slot_list_append PySem.F.type_list_append (zau) zat (r_fld rfl Z.cf_Shelf (r_var 0)) (zaa (r_var 2) ra_nil)))))))))))
theorem zbY : GM P w (mkT K cls exc) mg base 4 0 "leaf" F_Shelf_leaf := gm Z.d_Shelf_leaf zdI (show ("leaf" : Str) ∉ flds 0 by decide +kernel) fun hr C hu nd =>
  (zab (r_if (rt_not (zaJ rfl (r_call rfl C (zfO Z) hr.m rfl (zaa (r_var 1) ra_nil)))) (rs_one (zaI Z.x_NoText zaH rfl (zaa r_str ra_nil))) rs_nil)
    (zab (r_set (i := 2) nd (r_tup (zaa r_str (zaa (r_var 1) ra_nil))))
    (zab (r_if (rt_cmp (zeY rfl hu) (r_var 2) (r_fld rfl Z.cf_Shelf (r_var 0)) rfl) (rs_one (r_expr (r_meth rfl C (zcE Z) hr.m (r_var 0) (zaa (r_var 2) ra_nil)))) rs_nil)
    (rs_one (r_ret (r_ix rfl hu (r_fld rfl Z.cf_Shelf (r_var 0)) (r_var 2)))))))
theorem zhv : GF P w (mkT K cls exc) mg base 98 "welded" F_welded := gf Z.d_welded zgx fun hr C hu nd =>
  (zab (r_set (i := 3) nd (r_bin (o_add rfl) (r_ix rfl hu (r_meth rfl C (zah Z) hr.m (r_var 0) (zaa (r_meth rfl C (zaT Z) hr.m (r_var 0) (zaa (r_var 1) ra_nil)) ra_nil)) r_int) (r_ix rfl hu (r_meth rfl C (zah Z) hr.m (r_var 0) (zaa (r_meth rfl C (zaS Z) hr.m (r_var 0) (zaa (r_var 2) ra_nil)) ra_nil)) r_int)))
    (zab (r_set (i := 4) nd (r_call rfl C (zco Z 90) hr.m rfl (zaa (r_var 0) (zaa (r_var 1) (zaa (r_meth rfl C (zbY Z) hr.m (r_var 0) (zaa (r_var 3) ra_nil)) ra_nil)))))
    (zab (r_set (i := 5) nd (r_call rfl C (zbe Z 90) hr.m rfl (zaa (r_var 0) (zaa (r_var 2) ra_nil))))
    (zab (r_if (rt_cmp (o_eq rfl hu) (r_var 5) r_int (nomark _)) (rs_one (r_ret (r_var 4))) rs_nil)
    (rs_one (r_ret (r_call rfl C (zbF Z 90) hr.m rfl (zaa (r_var 0) (zaa (r_var 4) (zaa (r_var 5) ra_nil))))))))))
theorem zcF : GF P w (mkT K cls exc) mg base 99 "joined" F_joined := gf Z.d_joined zgy fun hr C hu nd =>
  (zab (r_expr (r_call rfl C (zbq Z) hr.m rfl (zaa (r_bin (o_add rfl) (r_meth rfl C (zaB Z) hr.m (r_var 0) (zaa (r_var 1) ra_nil)) (r_meth rfl C (zaB Z) hr.m (r_var 0) (zaa (r_var 2) ra_nil))) ra_nil)))
    (zab (r_if (rt_cmp (o_eq rfl hu) (r_var 1) r_int (nomark _)) (rs_one (r_ret (r_var 2))) rs_nil)
    (zab (r_if (rt_cmp (o_eq rfl hu) (r_var 2) r_int (nomark _)) (rs_one (r_ret (r_var 1))) rs_nil)
    (zab (r_if (zaJ rfl (r_call rfl C (zeA Z) hr.m rfl (zaa (r_var 0) (zaa (r_var 1) (zaa (r_var 2) ra_nil))))) (rs_one (r_ret (r_call rfl C (zbF Z 90) hr.m rfl (zaa (r_var 0) (zaa (r_var 1) (zaa (r_var 2) ra_nil)))))) rs_nil)
    (rs_one (r_ret (r_call rfl C (zhv Z) hr.m rfl (zaa (r_var 0) (zaa (r_var 1) (zaa (r_var 2) ra_nil))))))))))
theorem zdC : ∀ d, GF P w (mkT K cls exc) mg base (99 + d + 1) "doubled" (F_doubled d)
  | 0 => gf Z.d_doubled zcT fun _ _ _ _ => rs_bad
  | d + 1 => gf Z.d_doubled zcT fun hr C hu nd =>
    (zab (r_if (rt_cmp (o_eq rfl hu) (r_var 2) r_int (nomark _)) (rs_one (r_ret r_int)) rs_nil)
    (zab (r_set (i := 3) nd (r_call rfl C (zdC d) (hr.mono (by omega)) rfl (zaa (r_var 0) (zaa (r_var 1) (zaa (r_bin o_div (r_var 2) r_int) ra_nil)))))
    (zab (r_set (i := 4) nd (r_call rfl C (zcF Z) (hr.mono (show 99 <= 99 + (d + 1) by omega)) rfl (zaa (r_var 0) (zaa (r_var 3) (zaa (r_var 3) ra_nil)))))
    (zab (r_if (rt_cmp (o_eq rfl hu) (r_bin o_mod (r_var 2) r_int) r_int (nomark _)) (rs_one (r_ret (r_var 4))) rs_nil)
    (rs_one (r_ret (r_call rfl C (zcF Z) (hr.mono (show 99 <= 99 + (d + 1) by omega)) rfl (zaa (r_var 0) (zaa (r_var 4) (zaa (r_var 1) ra_nil))))))))))
theorem zcW : GF P w (mkT K cls exc) mg base 165 "repeated" F_repeated := gf Z.d_repeated zeu fun hr C hu nd =>
  (zab (r_set (i := 3) nd (r_meth rfl C (zaB Z) hr.m (r_var 0) (zaa (r_var 1) ra_nil)))
    (zab (r_if (rt_cmp o_lt (r_var 2) r_int (nomark _)) (rs_one (zaI Z.x_NoPlace zaH rfl (zaa r_str ra_nil))) rs_nil)
    (zab (r_expr (r_call rfl C (zbq Z) hr.m rfl (zaa (r_bin o_mul (r_var 3) (r_var 2)) ra_nil)))
    (zab (r_if (rt_cmp (o_eq rfl hu) (r_var 1) r_int (nomark _)) (rs_one (r_ret r_int)) rs_nil)
    (rs_one (r_ret (r_call rfl C (zdC Z 64) hr.m rfl (zaa (r_var 0) (zaa (r_var 1) (zaa (r_var 2) ra_nil))))))))))
theorem zcG : ∀ d, GF P w (mkT K cls exc) mg base (5 + d + 1) "halved" (F_halved d)
  | 0 => gf Z.d_halved zdB fun _ _ _ _ => rs_bad
  | d + 1 => gf Z.d_halved zdB fun hr C hu nd =>
    (zab (r_if (rt_cmp (o_eq rfl hu) (r_bi (b_len rfl) rfl Z.b_len PySem.boot_len (zaa (r_var 1) ra_nil)) r_int (nomark _)) (rs_one (r_ret (r_ix rfl hu (r_var 1) r_int))) rs_nil)
    (zab (r_set (i := 2) nd (r_bin o_div (r_bi (b_len rfl) rfl Z.b_len PySem.boot_len (zaa (r_var 1) ra_nil)) r_int))
    (rs_one (r_ret (r_meth rfl C (zaf Z) (hr.mono (show 5 <= 5 + (d + 1) by omega)) (r_var 0) (zaa (r_call rfl C (zcG d) (hr.mono (by omega)) rfl (zaa (r_var 0) (zaa (zbk rfl (r_var 1) zb4 (zaX (r_var 2))) ra_nil))) (zaa (r_call rfl C (zcG d) (hr.mono (by omega)) rfl (zaa (r_var 0) (zaa (zbk rfl (r_var 1) (zaX (r_var 2)) zb4) ra_nil))) ra_nil)))))))
theorem ziH : GF P w (mkT K cls exc) mg base 27 "built" F_built := gf Z.d_built zhu fun {f cdv A outer s H E} hr C hu nd =>
  (zab (r_if (rt_not (zaJ rfl (r_call rfl C (zcV Z) hr.m rfl (zaa (r_var 1) ra_nil)))) (rs_one (zaI Z.x_NoText zaH rfl (zaa r_str ra_nil))) rs_nil)
    (zab (r_if (rt_cmp o_gt (r_bi (b_len rfl) rfl Z.b_len PySem.boot_len (zaa (r_var 1) ra_nil)) (r_gI rfl Z.c_MOST_PLAIN) (nomark _)) (rs_one (zaI Z.x_TooLong zaH rfl (zaa r_str ra_nil))) rs_nil)
    (zab (r_if (rt_cmp (o_eq rfl hu) (r_var 1) r_str (nomark _)) (rs_one (r_ret r_int)) rs_nil)
    (zab (zh7 (jf := [(0, "shelf"), (1, "plain")]) (zaE (N := ["shelf", "plain", "leaves"]) (sc := defScope s_built) rfl (fun _ => rfl) (by decide +kernel)) rfl (zds (E := (fun _ => E)) rfl Z.b_range r_int (r_bi (b_len rfl) rfl Z.b_len PySem.boot_len (zaa (r_var 1) ra_nil)) (r_gI rfl Z.c_LEAF_SIGNS)) (fun _ _ _ _ _ => zaK) (fun _ _ _ _ _ => (r_meth rfl (CA.never rfl) (zbY Z) hr.m (r_var 1) (zaa (zbk rfl (r_var 2) (zaX (r_var 0)) (zaX (r_bin (o_add rfl) (r_var 0) (r_gI rfl Z.c_LEAF_SIGNS)))) ra_nil))) nd (i := 2))
    (rs_one (r_ret (r_call rfl C (zcG Z 20) hr.m rfl (zaa (r_var 0) (zaa (r_var 2) ra_nil)))))))))
theorem zcp : GF P w (mkT K cls exc) mg base 166 "_law_fresh" F_law_fresh := gf Z.d_law_fresh zed fun hr C hu nd =>
  (zab (r_set (i := 2) nd (r_bin (o_add rfl) (zbk rfl r_str (zaX (r_call rfl C (zas Z) hr.m rfl (zaa (r_var 1) (zaa r_int ra_nil)))) zb4) (r_call rfl C (zez Z) hr.m rfl (zaa (r_var 1) (zaa r_int ra_nil)))))
    (zab (r_set (i := 3) nd (r_bin (o_add rfl) r_int (r_call rfl C (zas Z) hr.m rfl (zaa (r_var 1) (zaa (r_ix rfl hu (r_lst (zaa r_int (zaa (r_bin o_pow r_int r_int) (zaa (r_bin o_pow r_int r_int) ra_nil)))) (r_call rfl C (zas Z) hr.m rfl (zaa (r_var 1) (zaa r_int ra_nil)))) ra_nil)))))
    (rs_one (r_ret (r_tup (zaa (r_call rfl C (zcW Z) hr.m rfl (zaa (r_var 0) (zaa (r_call rfl C (ziH Z) hr.m rfl (zaa (r_var 0) (zaa (r_var 2) ra_nil))) (zaa (r_var 3) ra_nil)))) (zaa (r_lst (zaa (r_tup (zaa (r_var 2) (zaa (r_var 3) ra_nil))) ra_nil)) ra_nil)))))))
theorem zaF : GF P w (mkT K cls exc) mg base 1 "_law_length" F_law_length := gf Z.d_law_length zdJ fun {f cdv A outer s H E} hr C hu nd =>
  (rs_one (r_ret (r_bi (b_sum rfl) rfl Z.b_sum PyProof.Rows.boot_sum (zaa (zc6 rfl (jf := []) (zbv (N := ["blocks"]) (sc := defScope s_law_length) rfl (fun _ => rfl) (by decide +kernel)) rfl (zbj (E := (fun _ => E)) rfl (r_var 0)) (fun _ _ _ _ _ => zaK) (fun _ _ _ _ _ => (r_bin o_mul (r_bi (b_len rfl) rfl Z.b_len PySem.boot_len (zaa (r_var 0) ra_nil)) (r_var 1)))) ra_nil))))
theorem zfP : GF P w (mkT K cls exc) mg base 167 "_law_deed" F_law_deed := gf Z.d_law_deed zev fun hr C hu nd =>
  (zab (r_set (i := 3) nd (r_call rfl C (zas Z) hr.m rfl (zaa (r_var 2) (zaa r_int ra_nil))))
    (zab (r_if (rt_w (rt_or (rt_cmp o_lt (r_bi (b_len rfl) rfl Z.b_len PySem.boot_len (zaa (r_var 1) ra_nil)) r_int (nomark _)) (rt_or1 (rt_cmp (o_eq rfl hu) (r_var 3) r_int (nomark _))))) (rs_one (r_ret (r_call rfl C (zcp Z) hr.m rfl (zaa (r_var 0) (zaa (r_var 2) ra_nil))))) rs_nil)
    (zab (r_setT (r_ix rfl hu (r_var 1) (r_call rfl C (zas Z) hr.m rfl (zaa (r_var 2) (zaa (r_bi (b_len rfl) rfl Z.b_len PySem.boot_len (zaa (r_var 1) ra_nil)) ra_nil)))) (rg_tup rfl rfl (zay (i := 4) nd (zay (i := 5) nd zaW))))
    (zab (r_setT (r_ix rfl hu (r_var 1) (r_call rfl C (zas Z) hr.m rfl (zaa (r_var 2) (zaa (r_bi (b_len rfl) rfl Z.b_len PySem.boot_len (zaa (r_var 1) ra_nil)) ra_nil)))) (rg_tup rfl rfl (zay (i := 6) nd (zay (i := 7) nd zaW))))
    (zab (r_set (i := 8) nd (r_bin (o_add rfl) r_int (r_call rfl C (zas Z) hr.m rfl (zaa (r_var 2) (zaa r_int ra_nil)))))
    (zab (r_if (rt_w (rt_and (rt_cmp (o_eq rfl hu) (r_var 3) r_int (nomark _)) (rt_and (rt_cmp o_lt (r_bin o_mul (r_bi (b_len rfl) rfl Z.b_len PySem.boot_len (zaa (r_var 5) ra_nil)) (r_var 8)) r_int (nomark _)) (zbi (rt_cmp o_le (r_bin o_mul (r_call rfl C (zaF Z) hr.m rfl (zaa (r_var 5) ra_nil)) (r_var 8)) (r_bin o_pow r_int r_int) (nomark _)))))) (rs_one (r_ret (r_tup (zaa (r_call rfl C (zcW Z) hr.m rfl (zaa (r_var 0) (zaa (r_var 4) (zaa (r_var 8) ra_nil)))) (zaa (r_bin (o_mulL rfl) (r_var 5) (r_var 8)) ra_nil))))) rs_nil)
    (zab (r_if (rt_w (rt_and (rt_cmp o_lt (r_bi (b_len rfl) rfl Z.b_len PySem.boot_len (zaa (r_bin (o_add rfl) (r_var 5) (r_var 7)) ra_nil)) r_int (nomark _)) (zbi (rt_cmp o_le (r_call rfl C (zaF Z) hr.m rfl (zaa (r_bin (o_add rfl) (r_var 5) (r_var 7)) ra_nil)) (r_bin o_pow r_int r_int) (nomark _))))) (rs_one (r_ret (r_tup (zaa (r_call rfl C (zcF Z) hr.m rfl (zaa (r_var 0) (zaa (r_var 4) (zaa (r_var 6) ra_nil)))) (zaa (r_bin (o_add rfl) (r_var 5) (r_var 7)) ra_nil))))) rs_nil)
    (rs_one (r_ret (r_call rfl C (zcp Z) hr.m rfl (zaa (r_var 0) (zaa (r_var 2) ra_nil))))))))))))
theorem zbG : ∀ d, GF P w (mkT K cls exc) mg base (4 + d + 1) "_law_look" (F_law_look d)
  | 0 => gf Z.d_law_look zcl fun _ _ _ _ => rs_bad
  | d + 1 => gf Z.d_law_look zcl fun hr C hu nd =>
    (zab (r_if (rt_cmp (o_in rfl hu) (r_var 1) (r_var 2) rfl) (rs_one (r_ret (r_ix rfl hu (r_var 2) (r_var 1)))) rs_nil)
    (zab (r_set (i := 3) nd (r_meth rfl C (zah Z) (hr.mono (show 4 <= 4 + (d + 1) by omega)) (r_var 0) (zaa (r_var 1) ra_nil)))
    (zab (r_set (i := 4) nd (r_tup ra_nil))
    (zab (r_if (rt_w (rt_and (rt_cmp (o_eq rfl hu) (r_ix rfl hu (r_var 3) r_int) r_str (nomark _)) (rt_and (zaJ rfl (r_isB rfl rfl Z.b_isinstance (r_ix rfl hu (r_var 3) r_int) rfl Z.b_str bt_str (by decide))) (zbi (zbt o_lt o_lt r_int (r_bi (b_len rfl) rfl Z.b_len PySem.boot_len (zaa (r_ix rfl hu (r_var 3) r_int) ra_nil)) r_int))))) (rs_one (r_set (i := 4) nd (r_tup (zaa r_int (zaa (r_bi (b_len rfl) rfl Z.b_len PySem.boot_len (zaa (r_ix rfl hu (r_var 3) r_int) ra_nil)) (zaa (r_bi (b_len rfl) rfl Z.b_len PySem.boot_len (zaa (r_ix rfl hu (r_var 3) r_int) ra_nil)) (zaa (r_bi (b_len rfl) rfl Z.b_len PySem.boot_len (zaa (r_ix rfl hu (r_var 3) r_int) ra_nil)) (zaa r_int ra_nil)))))))) rs_nil)
    (zab (r_if (rt_w (rt_and (rt_cmp (o_eq rfl hu) (r_ix rfl hu (r_var 3) r_int) r_str (nomark _)) (rt_and (zbt o_lt o_lt r_int (r_ix rfl hu (r_var 3) r_int) (r_var 1)) (zbi (zbt o_lt o_lt r_int (r_ix rfl hu (r_var 3) r_int) (r_var 1)))))) (zab (r_set (i := 5) nd (r_call rfl C (zbG d) (hr.mono (by omega)) rfl (zaa (r_var 0) (zaa (r_ix rfl hu (r_var 3) r_int) (zaa (r_var 2) ra_nil)))))
    (zab (r_set (i := 6) nd (r_call rfl C (zbG d) (hr.mono (by omega)) rfl (zaa (r_var 0) (zaa (r_ix rfl hu (r_var 3) r_int) (zaa (r_var 2) ra_nil)))))
    (rs_one (r_if (rt_w (rt_and (rt_cmp (o_ne rfl hu) (r_var 5) (r_tup ra_nil) (nomark _)) (rt_and (rt_cmp (o_ne rfl hu) (r_var 6) (r_tup ra_nil) (nomark _)) (rt_and (rt_cmp o_lt (r_bi (b_abs) rfl Z.b_abs PyProof.Rows.boot_abs (zaa (r_bin o_sub (r_ix rfl hu (r_var 5) r_int) (r_ix rfl hu (r_var 6) r_int)) ra_nil)) r_int (nomark _)) (zbi (rt_cmp o_gt (r_bin (o_add rfl) (r_ix rfl hu (r_var 5) r_int) (r_ix rfl hu (r_var 6) r_int)) r_int (nomark _))))))) (rs_one (r_set (i := 4) nd (r_tup (zaa (r_bin (o_add rfl) r_int (r_bi (b_max2) rfl Z.b_max PyProof.Rows.boot_max (zaa (r_ix rfl hu (r_var 5) r_int) (zaa (r_ix rfl hu (r_var 6) r_int) ra_nil)))) (zaa (r_bin (o_add rfl) (r_ix rfl hu (r_var 5) r_int) (r_ix rfl hu (r_var 6) r_int)) (zaa (r_ix rfl hu (r_var 5) r_int) (zaa (r_ix rfl hu (r_var 6) r_int) (zaa (r_bin (o_add rfl) (r_ix rfl hu (r_var 5) r_int) (r_ix rfl hu (r_var 6) r_int)) ra_nil)))))))) rs_nil)))) rs_nil)
    (zab (zc4 hu (r_var 2) (r_var 1) (r_var 4))
    (rs_one (r_ret (r_var 4)))))))))
theorem zeB : GF P w (mkT K cls exc) mg base 2 "_law_spots" F_law_spots := gf Z.d_law_spots zee fun {f cdv A outer s H E} hr C hu nd =>
  (zab (r_set (i := 2) nd (r_call rfl C (zaF Z) hr.m rfl (zaa (r_var 0) ra_nil)))
    (zab (r_set (i := 3) nd (r_lstM (zaa r_int (zaa (r_bin o_sub (r_var 2) r_int) ra_nil))))
    (zab (r_set (i := 4) nd r_int)
    (zab (r_for rfl (zbj (E := EN) rfl (zbk rfl (r_var 0) zb4 (zaX r_int))) (rg_tup rfl rfl (zay (i := 5) nd (zay (i := 6) nd zaW))) (zab (r_set (i := 4) nd (r_bin (o_add rfl) (r_var 4) (r_bin o_mul (r_bi (b_len rfl) rfl Z.b_len PySem.boot_len (zaa (r_var 5) ra_nil)) (r_var 6))))
    (rs_one (r_expr (r_bm rfl PySem.F.plainAttrs_list PySem.F.slot_list_extend PySem.F.type_list_extend (m_extR) zat (r_var 3) (zaa (r_lstM (zaa (r_bin o_sub (r_var 4) r_int) (zaa (r_var 4) (zaa (r_bin o_sub (r_var 4) (r_bi (b_len rfl) rfl Z.b_len PySem.boot_len (zaa (r_var 5) ra_nil))) ra_nil)))) ra_nil))))))
    (zab (r_expr (r_bm rfl PySem.F.plainAttrs_list PySem.F.slot_list_extend PySem.F.type_list_extend (m_extR) zat (r_var 3) (zaa (zh6 (jf := [(1, "stream"), (2, "length")]) (zaE (N := ["blocks", "stream", "length", "found", "seam", "plain", "many"]) (sc := defScope s_law_spots) rfl (fun _ => rfl) (by decide +kernel)) rfl (za9 (E := (fun _ => E)) rfl Z.b_range r_int) (fun _ _ _ _ _ => zaK) (fun _ _ _ _ _ => (r_call rfl (CA.never rfl) (zas Z) hr.m rfl (zaa (r_var 1) (zaa (r_var 2) ra_nil))))) ra_nil)))
    (rs_one (r_ret (r_comp (jf := [(2, "length")]) (zaE (N := ["blocks", "stream", "length", "found", "seam", "plain", "many"]) (sc := defScope s_law_spots) rfl (fun _ => rfl) (by decide +kernel)) rfl (ri_val (E := (fun _ => E)) rfl (r_var 3)) (fun _ _ _ _ _ => zh5 (zbt o_le o_lt r_int (r_var 0) (r_var 1))) (fun _ _ _ _ _ => (r_var 0))))))))))
theorem zei : GM P w (mkT K cls exc) mg base 5 0 "ends" F_Shelf_ends := gm Z.d_Shelf_ends zdK (show ("ends" : Str) ∉ flds 0 by decide +kernel) fun hr C hu nd =>
  (zab (r_expr (r_meth rfl C (zax Z) hr.m (r_var 0) (zaa (r_var 1) ra_nil)))
    (rs_one (r_ret (r_ix rfl hu (r_fld rfl Z.cf_Shelf (r_var 0)) (r_var 1)))))
theorem zfQ : GF P w (mkT K cls exc) mg base 5 "_law_sign" F_law_sign := gf Z.d_law_sign zew fun hr C hu nd =>
  (zab (r_set (i := 4) nd (r_meth rfl C (zah Z) hr.m (r_var 0) (zaa (r_var 1) ra_nil)))
    (zab (zeS wFuel (rt_cmp (o_eq rfl hu) (r_ix rfl hu (r_var 4) r_int) r_str (nomark _)) (zab (r_set (i := 5) nd (r_ix rfl hu (r_ix rfl hu (r_var 3) (r_ix rfl hu (r_var 4) r_int)) r_int))
    (zab (r_if (rt_cmp o_lt (r_var 2) (r_var 5) (nomark _)) (rs_one (r_set (i := 1) nd (r_ix rfl hu (r_var 4) r_int))) (zab (r_set (i := 1) nd (r_ix rfl hu (r_var 4) r_int))
    (rs_one (r_set (i := 2) nd (r_bin o_sub (r_var 2) (r_var 5))))))
    (rs_one (r_set (i := 4) nd (r_meth rfl (C.nox) (zah Z) hr.m (r_var 0) (zaa (r_var 1) ra_nil)))))))
    (rs_one (r_ret (r_ix rfl hu (r_ix rfl hu (r_var 4) r_int) (r_var 2))))))
theorem zcH : GF P w (mkT K cls exc) mg base 1 "_law_block_sign" F_law_block_sign := gf Z.d_law_block_sign zcc fun hr C hu nd =>
  (zab (r_for rfl (zbj (E := EN) rfl (r_var 0)) (rg_tup rfl rfl (zay (i := 2) nd (zay (i := 3) nd zaW))) (zab (r_if (rt_cmp o_lt (r_var 1) (r_bin o_mul (r_bi (b_len rfl) rfl Z.b_len PySem.boot_len (zaa (r_var 2) ra_nil)) (r_var 3)) (nomark _)) (rs_one (r_ret (r_ix rfl hu (r_var 2) (r_bin o_mod (r_var 1) (r_bi (b_len rfl) rfl Z.b_len PySem.boot_len (zaa (r_var 2) ra_nil)))))) rs_nil)
    (rs_one (r_set (i := 1) nd (r_bin o_sub (r_var 1) (r_bin o_mul (r_bi (b_len rfl) rfl Z.b_len PySem.boot_len (zaa (r_var 2) ra_nil)) (r_var 3)))))))
    (rs_one (r_ret r_str)))
theorem zcq : GF P w (mkT K cls exc) mg base 96 "_law_reads" F_law_reads := gf Z.d_law_reads zef fun {f cdv A outer s H E} hr C hu nd =>
  (zab (r_set (i := 4) nd (r_call rfl C (zaF Z) hr.m rfl (zaa (r_var 2) ra_nil)))
    (zab (r_if (rt_w (rt_or (rt_cmp (o_eq rfl hu) (r_var 1) r_int (nomark _)) (rt_or1 (rt_cmp (o_eq rfl hu) (r_var 4) r_int (nomark _))))) (rs_one (r_ret (r_and (r_cmp (o_eq rfl hu) (r_var 1) r_int (nomark _)) (r_one (r_cmp (o_eq rfl hu) (r_var 4) r_int (nomark _)))))) rs_nil)
    (zab (r_set (i := 5) nd zh0)
    (zab (r_set (i := 6) nd (r_call rfl C (zbG Z 90) hr.m rfl (zaa (r_var 0) (zaa (r_var 1) (zaa (r_var 5) ra_nil)))))
    (zab (r_if (rt_w (rt_or (rt_cmp (o_eq rfl hu) (r_var 6) (r_tup ra_nil) (nomark _)) (rt_or (rt_cmp (o_ne rfl hu) (r_ix rfl hu (r_var 6) r_int) (r_var 4) (nomark _)) (rt_or1 (rt_cmp (o_ne rfl hu) (r_meth rfl C (zaB Z) hr.m (r_var 0) (zaa (r_var 1) ra_nil)) (r_var 4) (nomark _)))))) (rs_one (r_ret r_bl)) rs_nil)
    (zab (r_if (rt_cmp (o_ne rfl hu) (r_meth rfl C (zei Z) hr.m (r_var 0) (zaa (r_var 1) ra_nil)) (r_bi (b_sum rfl) rfl Z.b_sum PyProof.Rows.boot_sum (zaa (zc6 rfl (jf := []) (zbv (N := ["shelf", "text", "blocks", "stream", "length", "known", "look", "spots"]) (sc := defScope s_law_reads) rfl (fun _ => rfl) (by decide +kernel)) rfl (zbj (E := (fun _ => E)) rfl (r_var 2)) (fun _ _ _ _ _ => zaK) (fun _ _ _ _ _ => (r_bin o_mul (r_bm rfl PySem.F.plainAttrs_str PySem.F.slot_str_count PySem.F.type_str_count (zdY) zeZ (r_var 0) (zaa r_str ra_nil)) (r_var 1)))) ra_nil)) (nomark _)) (rs_one (r_ret r_bl)) rs_nil)
    (zab (r_set (i := 7) nd (r_call rfl C (zeB Z) hr.m rfl (zaa (r_var 2) (zaa (r_var 3) ra_nil))))
    (rs_one (r_ret (r_bi (b_all rfl) rfl Z.b_all PyProof.Rows.boot_all (zaa (r_comp (jf := [(0, "shelf"), (1, "text"), (5, "known"), (2, "blocks")]) (zaE (N := ["shelf", "text", "blocks", "stream", "length", "known", "look", "spots"]) (sc := defScope s_law_reads) rfl (fun _ => rfl) (by decide +kernel)) rfl (ri_val (E := (fun _ => E)) rfl (r_var 7)) (fun _ _ _ _ _ => zaK) (fun _ _ _ _ _ => (r_cmp (o_eq rfl hu) (r_call rfl (CA.never rfl) (zfQ Z) hr.m rfl (zaa (r_var 1) (zaa (r_var 2) (zaa (r_var 0) (zaa (r_var 3) ra_nil))))) (r_call rfl (CA.never rfl) (zcH Z) hr.m rfl (zaa (r_var 4) (zaa (r_var 0) ra_nil))) (nomark _)))) ra_nil)))))))))))
theorem zfR : GF P w (mkT K cls exc) mg base 1 "_law_high" F_law_high := gf Z.d_law_high zex fun hr C hu nd =>
  (zab (r_set (i := 1) nd r_int)
    (zab (r_set (i := 2) nd r_int)
    (zab (r_set (i := 3) nd r_int)
    (zab (zeS wFuel (rt_cmp o_le (r_bin (o_add rfl) (r_bin o_mul r_int (r_bin o_div (r_var 2) r_int)) (r_bin o_mod (r_var 2) r_int)) (r_var 0) (nomark _)) (zab (r_par (i := 1) (j := 2) nd (zaa (r_var 2) (zaa (r_bin (o_add rfl) (r_var 1) (r_var 2)) ra_nil)))
    (rs_one (r_set (i := 3) nd (r_bin (o_add rfl) (r_var 3) r_int)))))
    (rs_one (r_ret (r_var 3)))))))
theorem Q_law {f : Addr} {fd : FuncData} (h4 : Fun K "law" "law" s_law f fd) : FnOk P w K mg base (CXE P w) 168 f fd ["script"] (spA (mkT K cls exc) F_law) := gl (T := mkT K cls exc) h4 sc_law fun {cdv A outer s H E} hr C hu nd =>
  (zab (r_set (i := 1) nd (zia rfl C (zeg Z) hr.m rfl))
    (zab (r_set (i := 2) nd (r_lst ra_nil))
    (zab (r_set (i := 3) nd (r_lstM ra_nil))
    (zab (r_for rfl (zh4 (E := EN) rfl rfl Z.b_enumerate (r_bin (o_add rfl) (r_var 0) (r_lst (zaa r_int (zaa r_int (zaa r_int ra_nil)))))) (rg_tup rfl rfl (zay (i := 4) nd (zay (i := 5) nd zaW))) (zab (r_set (i := 6) nd (r_call rfl (C.nox) (zgz Z) hr.m rfl (zaa (r_var 5) (zaa (r_var 4) ra_nil))))
    (zab (r_setT (r_call rfl (C.nox) (zfP Z) hr.m rfl (zaa (r_var 1) (zaa (r_var 2) (zaa (r_var 6) ra_nil)))) (rg_tup rfl rfl (zay (i := 7) nd (zay (i := 8) nd zaW))))
    (zab (r_if (rt_not (zaJ rfl (r_call rfl (C.nox) (zcq Z) hr.m rfl (zaa (r_var 1) (zaa (r_var 7) (zaa (r_var 8) (zaa (r_var 6) ra_nil))))))) (rs_one (r_ret r_bl)) rs_nil)
    (zab (r_if (rt_cmp o_gt (r_meth rfl (C.nox) (zaj Z) hr.m (r_var 1) (zaa (r_var 7) ra_nil)) (r_call rfl (C.nox) (zfR Z) hr.m rfl (zaa (r_call rfl (C.nox) (zaF Z) hr.m rfl (zaa (r_var 8) ra_nil)) ra_nil)) (nomark _)) (rs_one (r_ret r_bl)) rs_nil)
    (zab (r_expr (r_bm rfl PySem.F.plainAttrs_list PySem.F.slot_list_append PySem.F.type_list_append (zau) zat (r_var 3) (zaa (r_tup (zaa (r_var 7) (zaa (r_var 8) ra_nil))) ra_nil)))
    (zab (r_set (i := 2) nd (r_bin (o_addM rfl) (r_var 2) (r_lst (zaa (r_tup (zaa (r_var 7) (zaa (r_var 8) ra_nil))) ra_nil))))
    (rs_one (r_if (rt_cmp o_gt (r_bi (b_len rfl) rfl Z.b_len PySem.boot_len (zaa (r_var 2) ra_nil)) r_int (nomark _)) (rs_one (r_expr (r_bm rfl PySem.F.plainAttrs_list PySem.F.slot_list_pop PySem.F.type_list_pop (zie) zat (r_var 2) (zaa (r_call rfl (C.nox) (zas Z) hr.m rfl (zaa (r_var 6) (zaa r_int ra_nil))) ra_nil)))) rs_nil)))))))))
    (zab (r_set (i := 6) nd (r_call rfl C (zeh Z) hr.m rfl (zaa (r_var 0) (zaa r_int ra_nil))))
    (rs_one (r_ret (r_bi (b_all rfl) rfl Z.b_all PyProof.Rows.boot_all (zaa (zc6 rfl (jf := [(1, "shelf"), (6, "stream")]) (zbv (N := ["script", "shelf", "row", "made", "k", "cell", "stream", "text", "blocks"]) (sc := defScope s_law) rfl (fun _ => rfl) (by decide +kernel)) rfl (zbj (E := (fun _ => E)) rfl (r_var 3)) (fun _ _ _ _ _ => zaK) (fun _ _ _ _ _ => (r_call rfl (CA.never rfl) (zcq Z) hr.m rfl (zaa (r_var 2) (zaa (r_var 0) (zaa (r_var 1) (zaa (r_var 3) ra_nil))))))) ra_nil)))))))))
end
end Sk

namespace Sk
open PySem PySem.Spec L2 Sm
abbrev FX (l : PySem.W.OpenLaw) (w : World) (K : PySem.W.Frag) (mg : Str -> Option Value) (fa : Addr) : Prop := ∃ fd : FuncData, (∀ (s : Shared) (v : Value), BindsTo s fd ⟨[v], []⟩ [("script", v)]) /\ ∀ base : Heap, K.In base -> base.Ns mainGlobals mg -> FnOk l.prog w K mg base (CXE l.prog w) 168 fa fd ["script"] (spL K)
theorem all_mk {l : PySem.W.OpenLaw} {w : World} {K : PySem.W.Frag} {h : Heap} {mg : Str -> Option Value} {fa C0 X0 X1 X2 X3 X4 X5 X6 : Addr} {tk_LEAF_SIGNS tk_MOST_PLAIN tk_MOST_SIGNS : Tok} (X : K.In h) (G : h.Ns mainGlobals mg) (hfa : mg "law" = some (.ref fa))
    (aC0 : NA K "Shelf" (some (.ref C0))) (a0 : DN K C0 "__init__" "Shelf.__init__" s_Shelf_init) (a8 : DN K C0 "has_piece" "Shelf.has_piece" s_Shelf_has_piece) (a9 : DN K C0 "check_piece" "Shelf.check_piece" s_Shelf_check_piece) (a10 : DN K C0 "check_text" "Shelf.check_text" s_Shelf_check_text) (a11 : DN K C0 "signs" "Shelf.signs" s_Shelf_signs) (a13 : DN K C0 "last_leaf" "Shelf.last_leaf" s_Shelf_last_leaf) (a14 : DN K C0 "first_leaf" "Shelf.first_leaf" s_Shelf_first_leaf) (a16 : DN K C0 "piece" "Shelf.piece" s_Shelf_piece) (a17 : DN K C0 "check_fork" "Shelf.check_fork" s_Shelf_check_fork) (a18 : DN K C0 "lay" "Shelf.lay" s_Shelf_lay) (a19 : DN K C0 "lay_fork" "Shelf.lay_fork" s_Shelf_lay_fork) (a20 : DN K C0 "fork" "Shelf.fork" s_Shelf_fork) (a22 : DN K C0 "height" "Shelf.height" s_Shelf_height) (a31 : DN K C0 "lay_leaf" "Shelf.lay_leaf" s_Shelf_lay_leaf) (a32 : DN K C0 "leaf" "Shelf.leaf" s_Shelf_leaf) (a44 : DN K C0 "ends" "Shelf.ends" s_Shelf_ends) (a1 : DK K "_law_mixed" s_law_mixed) (a2 : DK K "_law_stream" s_law_stream) (a3 : DK K "_law_own" s_law_own) (a4 : DK K "_law_take" s_law_take) (a5 : DK K "_law_signs" s_law_signs) (a6 : DK K "_law_plain" s_law_plain) (a7 : DK K "is_whole" s_is_whole) (a12 : DK K "check_length" s_check_length) (a15 : DK K "are_close" s_are_close) (a21 : DK K "with_last" s_with_last) (a23 : DK K "turned_left" s_turned_left) (a24 : DK K "without_first" s_without_first) (a25 : DK K "turned_right" s_turned_right) (a26 : DK K "linked" s_linked) (a27 : DK K "is_plain_sign" s_is_plain_sign) (a28 : DK K "is_plain" s_is_plain) (a29 : DK K "is_short" s_is_short) (a30 : DK K "ends_in" s_ends_in) (a33 : DK K "welded" s_welded) (a34 : DK K "joined" s_joined) (a35 : DK K "doubled" s_doubled) (a36 : DK K "repeated" s_repeated) (a37 : DK K "halved" s_halved) (a38 : DK K "built" s_built) (a39 : DK K "_law_fresh" s_law_fresh) (a40 : DK K "_law_length" s_law_length) (a41 : DK K "_law_deed" s_law_deed) (a42 : DK K "_law_look" s_law_look) (a43 : DK K "_law_spots" s_law_spots) (a45 : DK K "_law_sign" s_law_sign) (a46 : DK K "_law_block_sign" s_law_block_sign) (a47 : DK K "_law_reads" s_law_reads) (a48 : DK K "_law_high" s_law_high) (a49 : DK K "law" s_law) (kk0 : Cls K C0) (mk0 : PySem.W.makesIn K C0 = true) (kc0 : PySem.W.keepIn K (.ref C0) = true) (nf0_0 : FA K C0 "pieces") (nf0_1 : FA K C0 "numbers") (nf0_2 : FA K C0 "sign_counts") (nf0_3 : FA K C0 "end_counts") (nf0_4 : FA K C0 "leaf_counts") (nf0_5 : FA K C0 "heights") (nf0_6 : FA K C0 "first_leaves") (nf0_7 : FA K C0 "last_leaves") (z_abs : NA K "abs" none) (z_all : NA K "all" none) (z_bool : NA K "bool" none) (z_enumerate : NA K "enumerate" none) (z_int : NA K "int" none) (z_isinstance : NA K "isinstance" none) (z_len : NA K "len" none) (z_max : NA K "max" none) (z_range : NA K "range" none) (z_str : NA K "str" none) (z_sum : NA K "sum" none) (e_SkeinError : NA K "SkeinError" (some (.ref X0))) (e_NoText : NA K "NoText" (some (.ref X1))) (x_NoText : XI K X1) (e_NoPiece : NA K "NoPiece" (some (.ref X2))) (x_NoPiece : XI K X2) (e_Loose : NA K "Loose" (some (.ref X3))) (x_Loose : XI K X3) (e_Unlevel : NA K "Unlevel" (some (.ref X4))) (x_Unlevel : XI K X4) (e_TooLong : NA K "TooLong" (some (.ref X5))) (x_TooLong : XI K X5) (e_NoPlace : NA K "NoPlace" (some (.ref X6))) (x_NoPlace : XI K X6) (m_LEAF_SIGNS : NA K "LEAF_SIGNS" (some (.int 8 tk_LEAF_SIGNS))) (m_MOST_PLAIN : NA K "MOST_PLAIN" (some (.int 10000 tk_MOST_PLAIN))) (m_MOST_SIGNS : NA K "MOST_SIGNS" (some (.int 1000000000000000000 tk_MOST_SIGNS)))
    : FX l w K mg fa := by
  have Z : ∀ base : Heap, K.In base -> Facts l.prog w K (fun n => [C0][n]?) (fun n => [X0, X1, X2, X3, X4, X5, X6][n]?) mg base := fun base KB => {
      b_abs := PySem.W.mg_none_of X G z_abs,
      b_all := PySem.W.mg_none_of X G z_all,
      b_bool := PySem.W.mg_none_of X G z_bool,
      b_enumerate := PySem.W.mg_none_of X G z_enumerate,
      b_int := PySem.W.mg_none_of X G z_int,
      b_isinstance := PySem.W.mg_none_of X G z_isinstance,
      b_len := PySem.W.mg_none_of X G z_len,
      b_max := PySem.W.mg_none_of X G z_max,
      b_range := PySem.W.mg_none_of X G z_range,
      b_str := PySem.W.mg_none_of X G z_str,
      b_sum := PySem.W.mg_none_of X G z_sum,
      c_LEAF_SIGNS := ⟨_, PySem.W.mg_of X G m_LEAF_SIGNS⟩,
      c_MOST_PLAIN := ⟨_, PySem.W.mg_of X G m_MOST_PLAIN⟩,
      c_MOST_SIGNS := ⟨_, PySem.W.mg_of X G m_MOST_SIGNS⟩,
      cf_Shelf := ⟨C0, rfl, kk0, fun f hf => by
      have hf2 : f ∈ flds 0 := hf
      simp only [flds, List.mem_cons, List.not_mem_nil, or_false] at hf2
      rcases hf2 with rfl | rfl | rfl | rfl | rfl | rfl | rfl | rfl
      . exact nf0_0
      . exact nf0_1
      . exact nf0_2
      . exact nf0_3
      . exact nf0_4
      . exact nf0_5
      . exact nf0_6
      . exact nf0_7⟩,
      x_NoText := gx KB X G rfl e_NoText x_NoText,
      x_NoPiece := gx KB X G rfl e_NoPiece x_NoPiece,
      x_Loose := gx KB X G rfl e_Loose x_Loose,
      x_Unlevel := gx KB X G rfl e_Unlevel x_Unlevel,
      x_TooLong := gx KB X G rfl e_TooLong x_TooLong,
      x_NoPlace := gx KB X G rfl e_NoPlace x_NoPlace,
      d_Shelf_init := di rfl (PySem.W.mg_of X G aC0) mk0 kc0 a0 bl1,
      d_law_mixed := dg X G a1 bl2,
      d_law_stream := dg X G a2 bl2,
      d_law_own := dg X G a3 bl2,
      d_law_take := dg X G a4 bl2,
      d_law_signs := dg X G a5 bl1,
      d_law_plain := dg X G a6 bl2,
      d_is_whole := dg X G a7 bl1,
      d_Shelf_has_piece := dm rfl kk0 a8 bl2,
      d_Shelf_check_piece := dm rfl kk0 a9 bl2,
      d_Shelf_check_text := dm rfl kk0 a10 bl2,
      d_Shelf_signs := dm rfl kk0 a11 bl2,
      d_check_length := dg X G a12 bl1,
      d_Shelf_last_leaf := dm rfl kk0 a13 bl2,
      d_Shelf_first_leaf := dm rfl kk0 a14 bl2,
      d_are_close := dg X G a15 bl3,
      d_Shelf_piece := dm rfl kk0 a16 bl2,
      d_Shelf_check_fork := dm rfl kk0 a17 bl3,
      d_Shelf_lay := dm rfl kk0 a18 bl2,
      d_Shelf_lay_fork := dm rfl kk0 a19 bl2,
      d_Shelf_fork := dm rfl kk0 a20 bl3,
      d_with_last := dg X G a21 bl3,
      d_Shelf_height := dm rfl kk0 a22 bl2,
      d_turned_left := dg X G a23 bl3,
      d_without_first := dg X G a24 bl2,
      d_turned_right := dg X G a25 bl3,
      d_linked := dg X G a26 bl3,
      d_is_plain_sign := dg X G a27 bl1,
      d_is_plain := dg X G a28 bl1,
      d_is_short := dg X G a29 bl1,
      d_ends_in := dg X G a30 bl1,
      d_Shelf_lay_leaf := dm rfl kk0 a31 bl2,
      d_Shelf_leaf := dm rfl kk0 a32 bl2,
      d_welded := dg X G a33 bl3,
      d_joined := dg X G a34 bl3,
      d_doubled := dg X G a35 bl3,
      d_repeated := dg X G a36 bl3,
      d_halved := dg X G a37 bl2,
      d_built := dg X G a38 bl2,
      d_law_fresh := dg X G a39 bl2,
      d_law_length := dg X G a40 bl1,
      d_law_deed := dg X G a41 bl3,
      d_law_look := dg X G a42 bl3,
      d_law_spots := dg X G a43 bl2,
      d_Shelf_ends := dm rfl kk0 a44 bl2,
      d_law_sign := dg X G a45 bl4,
      d_law_block_sign := dg X G a46 bl2,
      d_law_reads := dg X G a47 bl4,
      d_law_high := dg X G a48 bl1,
      d_law := dg X G a49 bl1 }
  obtain ⟨fd, h1, F⟩ := dlaw (p := "script") X G hfa a49 bl1
  exact ⟨fd, h1, fun base KB _ => FnOk.imp (Q_law (Z base KB) F) (zid (T := mkT K (fun n => [C0][n]?) (fun n => [X0, X1, X2, X3, X4, X5, X6][n]?)) law_true)⟩
theorem walk {l : PySem.W.OpenLaw} {q : Program} {loose : List Str} {XP : (Str -> Option Value) -> Heap -> Prop} {YP : World -> Heap -> Prop} {d : DefRec} {K : Params -> PySem.W.Frag} (hn : l.most = some 63) (hdf : d.params.defaults = [])
    (hY : ∀ (w : World) (h : Heap), YP w h -> (K w.params).In h)
    (F : ∀ (w : World) (mg : Str -> Option Value) (fa : Addr) (h : Heap), (K w.params).In h -> h.Ns mainGlobals mg -> mg d.name = some (.ref fa) -> FX l w (K w.params) mg fa) :
    PySem.W.WalkO q loose XP YP l.row.toRowW d [] (fun f vs => PySem.call f vs) :=
  L2.walk_of (n := 63) (k := 168) (x := "script") (CX := fun w => CXE l.prog w) (sp := fun w => spL (K w.params)) hn (by decide) hdf ⟨rfl, by decide, by decide⟩ hY F (fun _ _ a ns hl _ hS => ⟨a, ns, rfl, hS, hl, fun _ => rfl⟩) fun _ _ _ _ _ z => zgp z
end Sk
open PySem PySem.W PyProof.Rows
section
namespace PySem.W.Fast
def tw18402216213277134782 := 0
def tw10668041708974204566 := 0
def tw8084830260681843551 := 0
def tw16737048730277563167 := 0
def tw9823161543884421919 := 0
def tw16968535016579200703 := 0
def tw5684762560218913439 := 0
def tw10481255972488507551 := 0
def tw16879977591570697343 := 0
def tw2901765174661252159 := 0
def tw9644189534417201086 := 0
def tw4102987343525377918 := 0
def tw17451579266877526878 := 0
def tw2557943040277967550 := 0
def tw6390714568855791262 := 0
def tw16924872634236019966 := 0
def tw9058020630705148158 := 0
def tw13388363042915677310 := 0
def tw15289448181329504125 := 0
def tw14606240687908394813 := 0
def tw11713056076651004605 := 0
def tw1667374571368399421 := 0
def tw11119017911251128765 := 0
def tw5180389181238938941 := 0
def tw9813636286771505341 := 0
def tw2510778282388807869 := 0
def tw3269784183677115485 := 0
def tw1062234655837570844 := 0
def tw15959483598754852604 := 0
def tw17383318740437430940 := 0
def tw823295029329672764 := 0
def tw6557894495201785308 := 0
def tw5503103278166708636 := 0
def tw7325364195260549276 := 0
def tw17145108644181936284 := 0
def tw16331722203534176348 := 0
def tw14100076017065586748 := 0
def tw13538660102056937500 := 0
def tw242537071870459899 := 0
def tw13976830992028002107 := 0
def tw8002399543605212987 := 0
def tw4117354167739498075 := 0
def tw8755129618271068603 := 0
def tw14082657591062794299 := 0
def tw11492990540995690394 := 0
def tw1042362233786324762 := 0
def tw15419373382646427354 := 0
def tw2739974610520860186 := 0
def tw1127409171857204762 := 0
def tw3543225561365921114 := 0
def tw14325313135343915354 := 0
def tw9015302107326685498 := 0
def tw17171036317388124378 := 0
def tw7965970164779703482 := 0
def tw1594591050244521945 := 0
def tw16924715435412164537 := 0
def tw14413571027117007705 := 0
def tw16210947761522776857 := 0
def tw5197901619025202809 := 0
def tw17465110213196439033 := 0
def tw16852188159016013305 := 0
def tw11260398945512088953 := 0
def tw1561190850728802649 := 0
def tw3940499435260205401 := 0
def tw4894095499895276729 := 0
def tw1233898699037112441 := 0
def tw14598503901795574841 := 0
def tw12954194128481285145 := 0
def tw13399230175717998488 := 0
def tw5731691132032954136 := 0
def tw14553577944652517112 := 0
def tw7715761537764991736 := 0
def tw9989336477531421400 := 0
def tw1420523776090954392 := 0
def tw14376025622517273976 := 0
def tw12986782288135357464 := 0
def tw15963561485241972695 := 0
def tw10434865781916223191 := 0
def tw493470859377905143 := 0
def tw17304990048319386071 := 0
def tw12276894682689884886 := 0
def tw18251320695868049078 := 0
def tw10632966623330631350 := 0
def tw5008538858389430934 := 0
def tw851035511467048598 := 0
def tw7667075387551524278 := 0
def tw7746447998560971190 := 0
def tw1605448297482096662 := 0
def tw11010627356222881749 := 0
def tw17345326050710722485 := 0
def tw12734983198892618485 := 0
def tw15365451615094870677 := 0
def tw6851722054392870453 := 0
def tw7237515070064643573 := 0
def tw11516550338108643797 := 0
def tw3452450176235172181 := 0
def tw17844255406659338549 := 0
def tw7167401548252968245 := 0
def tw12792770620112183573 := 0
def tw5703435924204326037 := 0
def tw6675708066242989173 := 0
def tw406299986637694037 := 0
def tw16975525127905663828 := 0
def tw2841826580507137844 := 0
def tw4975461397912515284 := 0
def tw12359616117215964788 := 0
def tw14478142364616238708 := 0
def tw2673343615139484212 := 0
def tw9637777953797012948 := 0
def tw3020746071612316980 := 0
def tw2225016992672599348 := 0
def tw12462786091296813268 := 0
def tw1069549352191268052 := 0
def tw8878212498890986708 := 0
def tw2626819230593057844 := 0
def tw1294757578353001395 := 0
def tw8389675204899507027 := 0
def tw13125478537414538003 := 0
def tw15924746427748867859 := 0
def tw6894678463568151315 := 0
def tw5087682192063528659 := 0
def tw3946506555535466163 := 0
def tw60913230175836819 := 0
def tw13405949729910773363 := 0
def tw12222061298209380979 := 0
def tw4310971664898888275 := 0
def tw17261019325022146931 := 0
def tw2963257121216510259 := 0
def tw4433461977627362611 := 0
def tw6086658307303063795 := 0
def tw11764799813499102130 := 0
def tw7610123338825018226 := 0
def tw431954353896268658 := 0
def tw11316471368724241202 := 0
def tw478705806234615506 := 0
def tw3364397100637841042 := 0
def tw1241436485373387282 := 0
def tw6826643279393797618 := 0
def tw16304589290779483602 := 0
def tw17707921806704555378 := 0
def tw15305189781845560626 := 0
def tw7267133677473766610 := 0
def tw6422288142039145457 := 0
def tw2706149440963953489 := 0
def tw9389718583185998481 := 0
def tw5075868072107586097 := 0
def tw10774087875632977297 := 0
def tw15962790890257720689 := 0
def tw3982751534494026001 := 0
def tw2385933747067562033 := 0
def tw17720064759167581136 := 0
def tw14092736776880162768 := 0
def tw6466063461490972592 := 0
def tw3145373857514955696 := 0
def tw18299478522173186960 := 0
def tw6263189029706201840 := 0
def tw11936523713908598512 := 0
def tw4151486672308932272 := 0
def tw9047840476369962448 := 0
def tw8644370408212236720 := 0
def tw1002482572599387440 := 0
def tw610071198645434672 := 0
def tw1727933022920903920 := 0
def tw11731507168478455984 := 0
def tw17571249934649947280 := 0
def tw13926436383329765488 := 0
def tw1218696629940934672 := 0
def tw1910614047780597679 := 0
def tw14265955499427378959 := 0
def tw10339994456423832175 := 0
def tw1053889502880703055 := 0
def tw7021813895173233231 := 0
def tw14693580663563113935 := 0
def tw718022938016143599 := 0
def tw5554608769810277423 := 0
def tw10733821403421422607 := 0
def tw18220074734004882382 := 0
def tw12593152026731301806 := 0
def tw8499324047940336334 := 0
def tw3284363727772404302 := 0
def tw16885352606119861678 := 0
def tw1086856769775736142 := 0
def tw1914044343999578254 := 0
def tw2533184110906817582 := 0
def tw11963631314890314733 := 0
def tw2597715442912827181 := 0
def tw16945134731845026445 := 0
def tw4333507406033561197 := 0
def tw12321439497948858797 := 0
def tw4307579303261747597 := 0
def tw9220766626402408557 := 0
def tw9230143227796385644 := 0
def tw11858808373252501068 := 0
def tw4408327000803067436 := 0
def tw9549323217946872332 := 0
def tw15346435908119235052 := 0
def tw6533371975120825804 := 0
def tw3628959948768420300 := 0
def tw11568603632438044044 := 0
def tw12326780504375374060 := 0
def tw12799185528725860492 := 0
def tw13946799479536143436 := 0
def tw7830664528524397612 := 0
def tw11886590827743386636 := 0
def tw13508706748033814475 := 0
def tw10248295334431304651 := 0
def tw5451447249821505419 := 0
def tw865783147586051819 := 0
def tw7891161440779729483 := 0
def tw16132131609983004171 := 0
def tw4338731979670265291 := 0
def tw16674202643730665835 := 0
def tw11691821997237339499 := 0
def tw6140993239560186155 := 0
def tw8614860567516699626 := 0
def tw9651484859781828490 := 0
def tw402124631280324426 := 0
def tw9964665591292675850 := 0
def tw6026727228954004202 := 0
def tw9497827190804247274 := 0
def tw4214629126663319242 := 0
def tw7432715660012299914 := 0
def tw9642224744200902282 := 0
def tw4396038695692345930 := 0
def tw255617660055566890 := 0
def tw16849302553952643594 := 0
def tw6082228883887316426 := 0
def tw8424468901226681706 := 0
def tw17898947830348199242 := 0
def tw10253483845370298634 := 0
def tw17831234741488667786 := 0
def tw6011668155745645385 := 0
def tw10839241000149512009 := 0
def tw12794384782899726121 := 0
def tw13983283322874747625 := 0
def tw2806762048744311529 := 0
def tw10794847858085238313 := 0
def tw3931746472597113353 := 0
def tw656534829259797993 := 0
def tw4014402095760975273 := 0
def tw2026878456613992713 := 0
def tw892787747408265449 := 0
def tw6375613719615859849 := 0
def tw15816791723312818281 := 0
def tw17489279847911637928 := 0
def tw9523133165438276488 := 0
def tw5407695483674902376 := 0
def tw5283586421145625352 := 0
def tw1748134363881039432 := 0
def tw2027836229201430088 := 0
def tw17323810321823958152 := 0
def tw15476559264977777672 := 0
def tw4910646780815033191 := 0
def tw13740377634888153575 := 0
def tw8349627876558235079 := 0
def tw1199432655341853927 := 0
def tw7586387938305315047 := 0
def tw4245446949860006919 := 0
def tw6155738716874962918 := 0
def tw920576663097738054 := 0
def tw18393618311784920806 := 0
def tw3945751208994710150 := 0
def tw15403724389016612454 := 0
def tw4225797127969700326 := 0
def tw5154495902863456646 := 0
def tw17847640209634804070 := 0
def tw10649275473319277926 := 0
def tw3420835269884688678 := 0
def tw3464058626770832678 := 0
def tw14838440867819326726 := 0
def tw736393938422010853 := 0
def tw14622739146496147333 := 0
def tw1744962441820732197 := 0
def tw2966351913397191397 := 0
def tw3795946446186153509 := 0
def tw1412263416807570917 := 0
def tw9375552909717585349 := 0
def tw14826999285140319621 := 0
def tw3386388622896441669 := 0
def tw3525213113848770853 := 0
def tw4490884677055531237 := 0
def tw11307453524093895813 := 0
def tw13574814943721234565 := 0
def tw3591404563312630628 := 0
def tw7617466446774989636 := 0
def tw5929140835975910180 := 0
def tw17739112170023889668 := 0
def tw15443105105473131268 := 0
def tw15091073436518038180 := 0
def tw5377529808645418564 := 0
def tw17057632484540050980 := 0
def tw5512293458079589924 := 0
def tw4875835789879879172 := 0
def tw12026865522405945796 := 0
def tw14873578672859216324 := 0
def tw4841073472499363268 := 0
def tw5449611849960886660 := 0
def tw4517963938003467588 := 0
def tw7472197061364175972 := 0
def tw2995344874940637284 := 0
def tw16536291152494439363 := 0
def tw13421414054787398531 := 0
def tw14753304787927191395 := 0
def tw655577667776922211 := 0
def tw9744687556318138947 := 0
def tw16030818524171055427 := 0
def tw3150314487826339011 := 0
def tw15858843898210427746 := 0
def tw12284033728216428226 := 0
def tw6253590447659176546 := 0
def tw18319318679455885666 := 0
def tw15251224425157036354 := 0
def tw10855112351483544706 := 0
def tw16821264210729915394 := 0
def tw17146072991184136161 := 0
def tw9651404712041215937 := 0
def tw7491904026588804033 := 0
def tw2066872246079369121 := 0
def tw592579592887349089 := 0
def tw11499572280125012705 := 0
def tw15346538987876994689 := 0
def tw13932431669835455969 := 0
def tw13122551535271983457 := 0
def tw8704918778573906209 := 0
def tw7603662974862171361 := 0
def tw17821049024818936897 := 0
def tw5467039892521923296 := 0
def tw4301062401630233120 := 0
def tw10754260960707005728 := 0
def tw6793399311363867680 := 0
def tw9198640687739961376 := 0
end PySem.W.Fast
end
set_option maxRecDepth 100000 in
set_option maxHeartbeats 0 in
theorem PySem.Challenge.cw_skeinwood_k42_whole_long_joins_holds : PySem.Challenge.rw_skeinwood_k42_whole_long_joins.Holds := by
  w_on; o_law; k_head; (case hw => w_witness2)
  k_fill
  refine Sk.walk (l := PySem.Challenge.rw_skeinwood_k42_whole_long_joins) rfl rfl (fun w h Y => PySem.W.kIn_of Y) ?F
  case F =>
    intro w mg fa h KX G hmg
    refine' Sk.all_mk KX G hmg ?aC0 ?a0 ?a8 ?a9 ?a10 ?a11 ?a13 ?a14 ?a16 ?a17 ?a18 ?a19 ?a20 ?a22 ?a31 ?a32 ?a44 ?a1 ?a2 ?a3 ?a4 ?a5 ?a6 ?a7 ?a12 ?a15 ?a21 ?a23 ?a24 ?a25 ?a26 ?a27 ?a28 ?a29 ?a30 ?a33 ?a34 ?a35 ?a36 ?a37 ?a38 ?a39 ?a40 ?a41 ?a42 ?a43 ?a45 ?a46 ?a47 ?a48 ?a49 ?kk0 ?mk0 ?kc0 ?nf0_0 ?nf0_1 ?nf0_2 ?nf0_3 ?nf0_4 ?nf0_5 ?nf0_6 ?nf0_7 ?z_abs ?z_all ?z_bool ?z_enumerate ?z_int ?z_isinstance ?z_len ?z_max ?z_range ?z_str ?z_sum ?e_SkeinError ?e_NoText ?x_NoText ?e_NoPiece ?x_NoPiece ?e_Loose ?x_Loose ?e_Unlevel ?x_Unlevel ?e_TooLong ?x_TooLong ?e_NoPlace ?x_NoPlace ?m_LEAF_SIGNS ?m_MOST_PLAIN ?m_MOST_SIGNS
    (case aC0 => apply Sm.na;k_is)
    (case a0 => apply Sm.dn<;>k_is)
    (case a8 => apply Sm.dn<;>k_is)
    (case a9 => apply Sm.dn<;>k_is)
    (case a10 => apply Sm.dn<;>k_is)
    (case a11 => apply Sm.dn<;>k_is)
    (case a13 => apply Sm.dn<;>k_is)
    (case a14 => apply Sm.dn<;>k_is)
    (case a16 => apply Sm.dn<;>k_is)
    (case a17 => apply Sm.dn<;>k_is)
    (case a18 => apply Sm.dn<;>k_is)
    (case a19 => apply Sm.dn<;>k_is)
    (case a20 => apply Sm.dn<;>k_is)
    (case a22 => apply Sm.dn<;>k_is)
    (case a31 => apply Sm.dn<;>k_is)
    (case a32 => apply Sm.dn<;>k_is)
    (case a44 => apply Sm.dn<;>k_is)
    (case a1 => apply Sm.dk<;>k_is)
    (case a2 => apply Sm.dk<;>k_is)
    (case a3 => apply Sm.dk<;>k_is)
    (case a4 => apply Sm.dk<;>k_is)
    (case a5 => apply Sm.dk<;>k_is)
    (case a6 => apply Sm.dk<;>k_is)
    (case a7 => apply Sm.dk<;>k_is)
    (case a12 => apply Sm.dk<;>k_is)
    (case a15 => apply Sm.dk<;>k_is)
    (case a21 => apply Sm.dk<;>k_is)
    (case a23 => apply Sm.dk<;>k_is)
    (case a24 => apply Sm.dk<;>k_is)
    (case a25 => apply Sm.dk<;>k_is)
    (case a26 => apply Sm.dk<;>k_is)
    (case a27 => apply Sm.dk<;>k_is)
    (case a28 => apply Sm.dk<;>k_is)
    (case a29 => apply Sm.dk<;>k_is)
    (case a30 => apply Sm.dk<;>k_is)
    (case a33 => apply Sm.dk<;>k_is)
    (case a34 => apply Sm.dk<;>k_is)
    (case a35 => apply Sm.dk<;>k_is)
    (case a36 => apply Sm.dk<;>k_is)
    (case a37 => apply Sm.dk<;>k_is)
    (case a38 => apply Sm.dk<;>k_is)
    (case a39 => apply Sm.dk<;>k_is)
    (case a40 => apply Sm.dk<;>k_is)
    (case a41 => apply Sm.dk<;>k_is)
    (case a42 => apply Sm.dk<;>k_is)
    (case a43 => apply Sm.dk<;>k_is)
    (case a45 => apply Sm.dk<;>k_is)
    (case a46 => apply Sm.dk<;>k_is)
    (case a47 => apply Sm.dk<;>k_is)
    (case a48 => apply Sm.dk<;>k_is)
    (case a49 => apply Sm.dk<;>k_is)
    (case kk0 => constructor<;>k_is)
    (case mk0 => k_is)
    (case kc0 => k_is)
    (case nf0_0 => apply Sm.fatt;k_is)
    (case nf0_1 => apply Sm.fatt;k_is)
    (case nf0_2 => apply Sm.fatt;k_is)
    (case nf0_3 => apply Sm.fatt;k_is)
    (case nf0_4 => apply Sm.fatt;k_is)
    (case nf0_5 => apply Sm.fatt;k_is)
    (case nf0_6 => apply Sm.fatt;k_is)
    (case nf0_7 => apply Sm.fatt;k_is)
    (case z_abs => apply Sm.na;k_is)
    (case z_all => apply Sm.na;k_is)
    (case z_bool => apply Sm.na;k_is)
    (case z_enumerate => apply Sm.na;k_is)
    (case z_int => apply Sm.na;k_is)
    (case z_isinstance => apply Sm.na;k_is)
    (case z_len => apply Sm.na;k_is)
    (case z_max => apply Sm.na;k_is)
    (case z_range => apply Sm.na;k_is)
    (case z_str => apply Sm.na;k_is)
    (case z_sum => apply Sm.na;k_is)
    (case e_SkeinError => apply Sm.na;k_is)
    (case e_NoText => apply Sm.na;k_is)
    (case x_NoText => apply Sm.xi;k_exc)
    (case e_NoPiece => apply Sm.na;k_is)
    (case x_NoPiece => apply Sm.xi;k_exc)
    (case e_Loose => apply Sm.na;k_is)
    (case x_Loose => apply Sm.xi;k_exc)
    (case e_Unlevel => apply Sm.na;k_is)
    (case x_Unlevel => apply Sm.xi;k_exc)
    (case e_TooLong => apply Sm.na;k_is)
    (case x_TooLong => apply Sm.xi;k_exc)
    (case e_NoPlace => apply Sm.na;k_is)
    (case x_NoPlace => apply Sm.xi;k_exc)
    (case m_LEAF_SIGNS => apply Sm.na;k_is)
    (case m_MOST_PLAIN => apply Sm.na;k_is)
    (case m_MOST_SIGNS => apply Sm.na;k_is)
