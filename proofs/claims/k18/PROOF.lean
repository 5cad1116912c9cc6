import PyProof.Rows.All
import Wide.All
import OpenK.AllK
import Wide.FinOn
import Lean
import PyProof.EqAt
import PyProof.EqKinds
import PyProof.TupleCall
import PyProof.StrCalls2
import PyProof.StrBlockI
import PyProof.SliceStr2
import PyProof.IsRules
import PyProof.StrBlock2
import PyProof.DictValues
import PyProof.MinMaxWalk
import PyProof.WalkInts
import PyProof.Rows.CallKwBuiltin
import PyProof.StrLawsIn
import PySem.Challenge.RW_skeinwood_k18_whole_least_of_all_shapes
set_option Elab.async false
set_option linter.all false
set_option maxRecDepth 100000
namespace L2
open PySem PySem.Spec PyProof.Rows
noncomputable abbrev Key := Sum Int Str
noncomputable abbrev b01 (b : Bool) : Int := if b then 1 else 0
noncomputable def keyIs : Key → Value → Bool
  | .inl k, .bool b => decide (k = b01 b)
  | .inl k, v => Value.isInt k v
  | .inr x, v => Value.isStrOf x v
noncomputable def keyH (w : World) : Key → Int
  | .inl k => hashInt k
  | .inr x => hashStr w x
theorem keyIs_shape : ∀ {k : Key} {v : Value}, keyIs k v = true → (∃ i t, k = Sum.inl i ∧ v = Value.int i t) ∨ (∃ b, k = Sum.inl (b01 b) ∧ v = Value.bool b) ∨ (∃ x t, k = Sum.inr x ∧ v = Value.str x t)
  | .inl i, v, h => by
    cases v with
    | bool b => exact .inr (.inl ⟨b, by rw [of_decide_eq_true (show decide (i = b01 b) = true from h)], rfl⟩)
    | int j t =>
      obtain ⟨t, e⟩ := Value.isInt_shape (k := i) (v := .int j t) h
      exact .inl ⟨i, t, rfl, e⟩
    | _ => exact absurd h (by simp [keyIs, Value.isInt])
  | .inr x, v, h => by
    obtain ⟨t, e⟩ := Value.isStrOf_shape (x := x) (v := v) h
    exact .inr (.inr ⟨x, t, rfl, e⟩)
theorem keyIs_int (i : Int) (t : Tok) : keyIs (.inl i) (.int i t) = true := by simp [keyIs, Value.isInt]
theorem keyIs_str (x : Str) (t : Tok) : keyIs (.inr x) (.str x t) = true := by simp [keyIs, Value.isStrOf]
theorem key_ll (a b : Int) : decide ((Sum.inl a : Key) = Sum.inl b) = (a == b) := by
  by_cases e : a = b
  · subst e; simp
  · have h : ¬ (Sum.inl a : Key) = Sum.inl b := fun q => e (Sum.inl.inj q)
    rw [decide_eq_false h]
    exact (beq_eq_false_iff_ne.mpr e).symm
theorem key_rr (a b : Str) : decide ((Sum.inr a : Key) = Sum.inr b) = decide (a = b) := by
  by_cases e : a = b
  · subst e; simp
  · have h : ¬ (Sum.inr a : Key) = Sum.inr b := fun q => e (Sum.inr.inj q)
    rw [decide_eq_false h, decide_eq_false e]
theorem key_lr (a : Int) (b : Str) : decide ((Sum.inl a : Key) = Sum.inr b) = false := decide_eq_false (fun q => nomatch q)
theorem key_rl (a : Str) (b : Int) : decide ((Sum.inr a : Key) = Sum.inl b) = false := decide_eq_false (fun q => nomatch q)
theorem wpAny_pyHash_bool {prog : Program} {w : World} {A : Around} {E : Value → Shared → Prop} {s : Shared} {b : Bool} {Q : Int → Shared → Prop} (h : Q (hashInt (b01 b)) { s with toks := s.toks + 1 }) :
    wpAny (model prog w) A (pyHash (.bool b)) Q E s := by
  unfold pyHash
  unfold pyHashByItsType
  have hv : [Value.bool b].any Value.onHeap = false := rfl
  refine wpAny_bind ?_
  rw [cRoomFor, if_neg (by rw [hv]; exact Bool.false_ne_true)]; refine wpAny_pure ?_
  refine wpAny_bind (wpAny_specialOf (PySem.typeIs_bool s b) PySem.F.slot_bool_hash.lookup ?_)
  show wpAny _ _ (if (some (Value.builtin "int.__hash__") == some Value.none) = true then _ else _) Q E s
  rw [if_neg (by rw [beq_builtin_none]; exact Bool.false_ne_true)]
  refine wpAny_bind (wpAny_specialOf (PySem.typeIs_bool s b) PySem.F.slot_bool_hash.lookup ?_)
  show wpAny _ _ (callSpecialIfBoundUnlessNone? (.bool b) "__hash__" _ >>= _) Q E s
  cases b with
  | false =>
    refine wpAny_bind (wpAny_callSpecialIfBoundUnlessNone?_slot (PySem.typeIs_bool s false) PySem.F.slot_bool_hash
      (wpAny_call_entry PySem.F.slot_bool_hash (PySem.typeIs_bool s false) entry_int_hash
        (show wpAny _ _ (do ret (← mkInt 0)) _ _ s from wpAny_ret_mkInt ?_) (args_int_hash _)))
    exact wpAny_pure h
  | true =>
    refine wpAny_bind (wpAny_callSpecialIfBoundUnlessNone?_slot (PySem.typeIs_bool s true) PySem.F.slot_bool_hash
      (wpAny_call_entry PySem.F.slot_bool_hash (PySem.typeIs_bool s true) entry_int_hash
        (show wpAny _ _ (do ret (← mkInt 1)) _ _ s from wpAny_ret_mkInt ?_) (args_int_hash _)))
    exact wpAny_pure h
theorem b01_inj {a b : Bool} (e : b01 a = b01 b) : a = b := by cases a <;> cases b <;> first | rfl | exact absurd e (by decide)
theorem b01_beq (a b : Bool) : (a == b) = decide ((Sum.inl (b01 a) : Key) = Sum.inl (b01 b)) := by cases a <;> cases b <;> decide
noncomputable def mixKind (prog : Program) (w : World) : PySem.KeyKind prog w Key where
  is := keyIs
  hash := keyH w
  inj := fun v a b ha hb => by
    rcases keyIs_shape ha with ⟨i, t, rfl, rfl⟩ | ⟨c, rfl, rfl⟩ | ⟨x, t, rfl, rfl⟩
    · rcases keyIs_shape hb with ⟨j, u, rfl, e⟩ | ⟨d, rfl, e⟩ | ⟨y, u, rfl, e⟩
      · injection e with e1 _; rw [e1]
      · exact nomatch e
      · exact nomatch e
    · rcases keyIs_shape hb with ⟨j, u, rfl, e⟩ | ⟨d, rfl, e⟩ | ⟨y, u, rfl, e⟩
      · exact nomatch e
      · injection e with e1; rw [e1]
      · exact nomatch e
    · rcases keyIs_shape hb with ⟨j, u, rfl, e⟩ | ⟨d, rfl, e⟩ | ⟨y, u, rfl, e⟩
      · exact nomatch e
      · exact nomatch e
      · injection e with e1 _; rw [e1]
  byValue := fun k v h => by
    rcases keyIs_shape h with ⟨i, t, rfl, rfl⟩ | ⟨c, rfl, rfl⟩ | ⟨x, t, rfl, rfl⟩ <;> rfl
  pyHash := fun hv h => by
    rcases keyIs_shape hv with ⟨i, t, rfl, rfl⟩ | ⟨c, rfl, rfl⟩ | ⟨x, t, rfl, rfl⟩
    · exact wpAny_pyHash_int h
    · exact wpAny_pyHash_bool h
    · exact wpAny_pyHash_str h
  eqBool := fun hu hv h => by
    rcases keyIs_shape hu with ⟨i, t, rfl, rfl⟩ | ⟨c, rfl, rfl⟩ | ⟨x, t, rfl, rfl⟩
    · rcases keyIs_shape hv with ⟨j, u, rfl, rfl⟩ | ⟨d, rfl, rfl⟩ | ⟨y, u, rfl, rfl⟩
      · rw [key_ll] at h; exact wpAny_eqBool_int h
      · rw [key_ll] at h; exact SeqAt.EqAt.int_bool i t d _ _ _ _ h
      · rw [key_lr] at h; exact SeqAt.EqAt.int_str i t y u _ _ _ _ h
    · rcases keyIs_shape hv with ⟨j, u, rfl, rfl⟩ | ⟨d, rfl, rfl⟩ | ⟨y, u, rfl, rfl⟩
      · rw [key_ll] at h; exact SeqAt.EqAt.bool_int c j u _ _ _ _ h
      · rw [← b01_beq] at h; exact SeqAt.EqAt.bool_bool c d _ _ _ _ h
      · rw [key_lr] at h; exact SeqAt.EqAt.bool_str c y u _ _ _ _ h
    · rcases keyIs_shape hv with ⟨j, u, rfl, rfl⟩ | ⟨d, rfl, rfl⟩ | ⟨y, u, rfl, rfl⟩
      · rw [key_rl] at h; exact SeqAt.EqAt.str_int x t j u _ _ _ _ h
      · rw [key_rl] at h; exact SeqAt.EqAt.str_bool x t d _ _ _ _ h
      · rw [key_rr] at h; exact wpAny_eqBool_str h
  «strs» := fun k x t v h => by
    rcases keyIs_shape h with ⟨i, u, rfl, e⟩ | ⟨d, rfl, e⟩ | ⟨y, u, rfl, e⟩
    · exact nomatch e
    · exact nomatch e
    · injection e with e1 _
      subst e1
      cases v <;> rfl
theorem mixKind_int (prog : Program) (w : World) (i : Int) (t : Tok) : (mixKind prog w).is (.inl i) (.int i t) = true := keyIs_int i t
theorem mixKind_str (prog : Program) (w : World) (x : Str) (t : Tok) : (mixKind prog w).is (.inr x) (.str x t) = true := keyIs_str x t
end L2
namespace L2
open PySem PySem.Spec PyProof.Rows
inductive V where
  | non | bl (b : Bool) | int (i : Int) | str (x : Str) | byt (b : Array UInt8) | flt (b : UInt64) | ref (a : Addr) | ty (n : String)
  deriving DecidableEq
noncomputable def RelV : V → Value → Prop
  | .non, u => u = Value.none
  | .bl b, u => u = Value.bool b
  | .int i, u => ∃ t, u = Value.int i t
  | .str x, u => ∃ t, u = Value.str x t
  | .byt b, u => ∃ t, u = Value.bytes b t
  | .flt b, u => ∃ t, u = Value.float b t
  | .ref a, u => u = Value.ref a
  | .ty n, u => u = Value.type n
noncomputable abbrev Vals : List V → List Value → Prop := Paired RelV
theorem Vals.length {xs : List V} {us : List Value} (r : Vals xs us) : xs.length = us.length := Paired.length r
theorem Vals.get : ∀ {xs : List V} {us : List Value} {i : Nat} {x : V}, Vals xs us → xs[i]? = some x → ∃ u, us[i]? = some u ∧ RelV x u
  | _, _, _, _, .nil, e => by simp at e
  | _, _, 0, _, .cons r _, e => by simp at e; subst e; exact ⟨_, rfl, r⟩
  | _, _, i + 1, x, .cons _ t, e => by
    obtain ⟨u, h1, h2⟩ := Vals.get (i := i) (x := x) t (by simpa using e)
    exact ⟨u, by simpa using h1, h2⟩
theorem Vals.set {x : V} {u : Value} (r : RelV x u) : ∀ {xs : List V} {us : List Value} (i : Nat), Vals xs us → Vals (xs.set i x) (us.set i u)
  | _, _, _, .nil => .nil
  | _, _, 0, .cons _ t => .cons r t
  | _, _, i + 1, .cons q t => .cons q (Vals.set r i t)
theorem Vals.append : ∀ {xs ys : List V} {us ws : List Value}, Vals xs us → Vals ys ws → Vals (xs ++ ys) (us ++ ws)
  | _, _, _, _, .nil, s => s
  | _, _, _, _, .cons r t, s => .cons r (Vals.append t s)
noncomputable def RelO : Option V → Option Value → Prop
  | some v, some u => RelV v u
  | none, none => True
  | _, _ => False
noncomputable def KV {κ : Type} : List (κ × V) → List (κ × Value) → Prop := Paired fun (p : κ × V) (q : κ × Value) => p.1 = q.1 ∧ RelV p.2 q.2
noncomputable def kV : Key → V
  | .inl i => .int i
  | .inr x => .str x
noncomputable def kOf : V → Option Key
  | .int i => some (.inl i)
  | .bl b => some (.inl (b01 b))
  | .str x => some (.inr x)
  | _ => none
theorem kOf_kV (k : Key) : kOf (kV k) = some k := by cases k <;> rfl
inductive HO where
  | lst (xs : List V)
  | tup (xs : List V)
  | dK (kvs : List (Key × V)) | dT (xc : Option (List Addr)) (kvs : List (List Key × V))
  | set (S : Int → Bool) (n : Nat)
  | ins (C dx : Addr) (fs : List (Str × V))
  | own (x : Addr)
  | xd (fs : List (Str × V))
  | met (f x : Addr)
  | rng (lo hi : Int)
  | frz (o : Obj) (u : HO)
  | tbl (ps : Array Value)
  | ext (φ : Heap → Prop)
noncomputable abbrev Hp := Addr → Option HO
noncomputable def upd (H : Hp) (a : Addr) (o : HO) : Hp := fun b => if b = a then some o else H b
theorem upd_same {H : Hp} {a : Addr} {o : HO} : upd H a o a = some o := by unfold upd; rw [if_pos rfl]
theorem upd_ne {H : Hp} {a b : Addr} {o : HO} (h : b ≠ a) : upd H a o b = H b := by unfold upd; rw [if_neg h]
theorem ne_of {H : Hp} {a b : Addr} {o u : HO} (h : H a = some o) (h' : H b = some u) (d : o ≠ u) : a ≠ b := by
  intro e; subst e; rw [h] at h'; exact d (Option.some.inj h')
theorem ne_of_none {H : Hp} {a b : Addr} {o : HO} (h : H a = some o) (h' : H b = none) : a ≠ b := by
  intro e; subst e; rw [h] at h'; cases h'
section
variable (P : Program) (w : World)
noncomputable def ObjOk (H : Hp) (h : Heap) (a : Addr) : HO → Prop
  | .lst xs => xs.length ≤ sizeLine ∧ ∃ (its : List Value) (n : Nat), Vals xs its ∧ h.get? a = some { cls := .type "list", data := .seq its.toArray n }
  | .tup xs => xs.length ≤ sizeLine ∧ ∃ its : List Value, Vals xs its ∧ IsTup h a its.toArray
  | .dK kvs => kvs.length ≤ sizeLine ∧ (a == sysModules) = false ∧ ∃ vs, KV kvs vs ∧ h.DictOf (mixKind P w) a vs
  | .dT xc kvs => kvs.length ≤ sizeLine ∧ (a == sysModules) = false ∧ ∃ xs : List (List Key × Addr × Value),
      Paired (fun (p : List Key × V) (q : List Key × Addr × Value) => p.1 = q.1 ∧ (∃ ys, H q.2.1 = some (.tup ys) ∧ ys.map kOf = p.1.map some) ∧ RelV p.2 q.2.2) kvs xs ∧
      ∃ o es ep, h.get? a = some o ∧ o.ExactDict ∧ o.data = .dict es ep ∧ es.toList = xs.map (entryOfKey (tupleKind (mixKind P w))) ∧ (xs.map (·.1)).Nodup ∧ ep = xs.length ∧ ∀ as, xc = some as → xs.map (·.2.1) = as
  | .set S n => h.SetOf (intKind P w) a S n
  | .ins C dx fs => H dx = some (.own a) ∧ fs.length ≤ 1000 ∧ dx ≠ a ∧ h.get? a = some (PySem.W.instObj C dx) ∧
      ∃ mA, h.Ns1 dx mA ∧ (∀ f, RelO (fs.lookup f) (mA f)) ∧ PySem.Within mA (fs.map (·.1))
  | .own _ => ∃ o, h.get? a = some o
  | .xd fs => ∃ mA, h.Ns1 a mA ∧ ∀ f, RelO (fs.lookup f) (mA f)
  | .rng lo hi => ∃ t u v, h.get? a = some { cls := .type "range", data := .fields #[.int lo t, .int hi u, .int 1 v] }
  | .frz o u => h.get? a = some o ∧ ObjOk H h a u
  | .tbl ps => h.get? a = some { cls := .none, data := .fields ps }
  | .met f x => h.get? a = some (PySem.W.methodObj (.ref f) (.ref x))
  | .ext φ => φ h ∧ (∃ o, h.get? a = some o) ∧ ∀ h1 h2 : Heap, φ h1 → (∀ o, h1.get? a = some o → h2.get? a = some o) → φ h2
noncomputable def HOk (H : Hp) (h : Heap) : Prop := ∀ a o, H a = some o → ObjOk P w H h a o
end
section
variable {P : Program} {w : World} {H H' : Hp} {h h' : Heap} {a : Addr} {o : HO}
theorem ObjOk.lt (x : ObjOk P w H h a o) : a < h.objs.size := by
  cases o with
  | lst xs => obtain ⟨_, _, _, _, e⟩ := x; exact Heap.lt_size e
  | tup xs => obtain ⟨_, _, _, p⟩ := x; exact p.lt
  | dK kvs => obtain ⟨_, _, _, _, o, _, _, e, _⟩ := x; exact Heap.lt_size e
  | dT xc kvs => obtain ⟨_, _, _, _, o, _, _, e, _⟩ := x; exact Heap.lt_size e
  | set S n => obtain ⟨o, _, _, _, e, _⟩ := x; exact Heap.lt_size e
  | ins C dx fs => obtain ⟨_, _, _, e, _⟩ := x; exact Heap.lt_size e
  | own y => obtain ⟨_, e⟩ := x; exact Heap.lt_size e
  | xd fs => obtain ⟨_, ⟨_, _, _, e, _⟩, _⟩ := x; exact Heap.lt_size e
  | rng lo hi => obtain ⟨_, _, _, e⟩ := x; exact Heap.lt_size e
  | frz ob u => obtain ⟨e, _⟩ := x; exact Heap.lt_size e
  | tbl ps => exact Heap.lt_size (show h.get? a = some _ from x)
  | met f y => exact Heap.lt_size (show h.get? a = some _ from x)
  | ext φ => obtain ⟨_, ⟨_, e⟩, _⟩ := x; exact Heap.lt_size e
theorem Paired.mapP {α β : Type} {F G : α → β → Prop} : ∀ {l₁ : List α} {l₂ : List β}, Paired F l₁ l₂ → (∀ a b, F a b → G a b) → Paired G l₁ l₂
  | _, _, .nil, _ => .nil
  | _, _, .cons r t, f => .cons (f _ _ r) (Paired.mapP t f)
theorem ObjOk.stay (x : ObjOk P w H h a o) (k : ∀ b u, (b = a ∨ H b = some (.own a)) → h.get? b = some u → h'.get? b = some u)
    (ho : ∀ b, H b = some (.own a) → H' b = some (.own a)) (ht : ∀ b xs, H b = some (.tup xs) → H' b = some (.tup xs)) : ObjOk P w H' h' a o := by
  induction o with
  | lst xs => obtain ⟨z, its, n, r, e⟩ := x; exact ⟨z, its, n, r, k _ _ (.inl rfl) e⟩
  | tup xs => obtain ⟨z, its, r, ob, e, c⟩ := x; exact ⟨z, its, r, ob, k _ _ (.inl rfl) e, c⟩
  | dK kvs => obtain ⟨z, y, vs, r, ob, es, ep, e, c⟩ := x; exact ⟨z, y, vs, r, ob, es, ep, k _ _ (.inl rfl) e, c⟩
  | dT xc kvs =>
    obtain ⟨z, y, xs, r, ob, es, ep, e, c⟩ := x
    exact ⟨z, y, xs, Paired.mapP r fun p q z => ⟨z.1, z.2.1.imp fun _ e => ⟨ht _ _ e.1, e.2⟩, z.2.2⟩, ob, es, ep, k _ _ (.inl rfl) e, c⟩
  | set S n => obtain ⟨ob, es, ep, t, e, c⟩ := x; exact ⟨ob, es, ep, t, k _ _ (.inl rfl) e, c⟩
  | ins C dx fs =>
    obtain ⟨d, z, ne, e, mA, ⟨od, es, ep, e2, c⟩, r⟩ := x
    exact ⟨ho _ d, z, ne, k _ _ (.inl rfl) e, mA, ⟨od, es, ep, k _ _ (.inr d) e2, c⟩, r⟩
  | own y => obtain ⟨ob, e⟩ := x; exact ⟨ob, k _ _ (.inl rfl) e⟩
  | xd fs => obtain ⟨mA, ⟨od, es, ep, e, c⟩, r⟩ := x; exact ⟨mA, ⟨od, es, ep, k _ _ (.inl rfl) e, c⟩, r⟩
  | rng lo hi => obtain ⟨t, u, v, e⟩ := x; exact ⟨t, u, v, k _ _ (.inl rfl) e⟩
  | frz ob u ih => obtain ⟨e, q⟩ := x; exact ⟨k _ _ (.inl rfl) e, ih q⟩
  | tbl ps =>
    have e : h.get? a = some { cls := .none, data := .fields ps } := x
    show h'.get? a = some { cls := .none, data := .fields ps }
    exact k a _ (.inl rfl) e
  | met f y =>
    have e : h.get? a = some (PySem.W.methodObj (.ref f) (.ref y)) := x
    show h'.get? a = some (PySem.W.methodObj (.ref f) (.ref y))
    exact k a _ (.inl rfl) e
  | ext φ => obtain ⟨p, ⟨o, e⟩, st⟩ := x; exact ⟨st _ _ p fun o q => k _ _ (.inl rfl) q, ⟨o, k _ _ (.inl rfl) e⟩, st⟩
theorem HOk.lt (x : HOk P w H h) (e : H a = some o) : a < h.objs.size := (x a o e).lt
theorem HOk.fresh (x : HOk P w H h) (e : h.objs.size ≤ a) : H a = none := by
  cases q : H a with
  | none => rfl
  | some u => exact absurd (Nat.lt_of_lt_of_le (x.lt q) e) (Nat.lt_irrefl _)
theorem HOk.kept (x : HOk P w H h) (k : ∀ b u, h.get? b = some u → h'.get? b = some u) : HOk P w H h' := fun a o e =>
  (x a o e).stay (fun b u _ q => k b u q) (fun _ q => q) fun _ _ q => q
theorem HOk.laid (x : HOk P w H h) (k : ∀ b u, h.get? b = some u → h'.get? b = some u) (hp : h.objs.size ≤ a) (new : ObjOk P w (upd H a o) h' a o) : HOk P w (upd H a o) h' := fun b u e => by
  have hn := x.fresh hp
  by_cases hb : b = a
  · subst hb; rw [upd_same] at e; cases e; exact new
  · rw [upd_ne hb] at e
    exact (x b u e).stay (fun c v _ q => k c v q) (fun c q => by rw [upd_ne (ne_of_none q hn)]; exact q) fun c xs q => by rw [upd_ne (ne_of_none q hn)]; exact q
end
noncomputable def Rd (H : Hp) (a : Addr) (u : HO) : Prop := H a = some u ∨ ∃ o, H a = some (.frz o u)
theorem Rd.ok {P : Program} {w : World} {H : Hp} {h : Heap} {a : Addr} {u : HO} (r : Rd H a u) (x : HOk P w H h) : ObjOk P w H h a u := by
  rcases r with r | ⟨o, r⟩
  · exact x a u r
  · obtain ⟨_, q⟩ := x a _ r
    exact q
noncomputable def Mut : Option HO → Prop
  | some (.lst _) => True
  | some (.dK _) => True
  | some (.dT _ _) => True
  | some (.set _ _) => True
  | some (.ins _ _ _) => True
  | some (.ext _) => True
  | _ => False
section
variable {P : Program} {w : World} {H : Hp} {h h' : Heap} {x e : Addr} {o' : HO}
theorem HOk.write (ok : HOk P w H h) (mu : Mut (H x)) (he : e = x ∨ H e = some (.own x)) (k : ∀ b u, b ≠ e → h.get? b = some u → h'.get? b = some u) (heo : ∃ u, h'.get? e = some u)
    (new : ObjOk P w (upd H x o') h' x o') : HOk P w (upd H x o') h' := fun b u q => by
  have nown : ∀ c y, H c = some (.own y) → c ≠ x := fun c y r z => by subst z; rw [r] at mu; exact mu
  have ntup : ∀ c xs, H c = some (.tup xs) → c ≠ x := fun c xs r z => by subst z; rw [r] at mu; exact mu
  by_cases hb : b = x
  · subst hb; rw [upd_same] at q; cases q; exact new
  · rw [upd_ne hb] at q
    by_cases hbe : b = e
    · have q' : H b = some (.own x) := by
        rcases he with z | z
        · exact absurd (hbe.trans z) hb
        · rw [hbe]; exact z
      rw [q] at q'; cases q'
      obtain ⟨v, hv⟩ := heo
      exact ⟨v, by rw [hbe]; exact hv⟩
    · refine (ok b u q).stay (fun c v hc r => k c v ?_ r) (fun c r => by rw [upd_ne (nown c b r)]; exact r) fun c xs r => by rw [upd_ne (ntup c xs r)]; exact r
      rcases hc with rfl | hc
      · exact hbe
      · rintro rfl
        rcases he with z | z
        · exact nown c b hc z
        · rw [hc] at z; cases z; exact hb rfl
end
structure Un (fs ex : List Addr) (H H' : Hp) (h h' : Heap) : Prop where
  keep : ∀ b o, h.get? b = some o → H b = none → b ∉ fs → b ∉ ex → h'.get? b = some o
  slot : ∀ b o, h.get? b = some o → H b = none → b ∈ fs → b ∉ ex → ∃ sl, h'.get? b = some { o with slots := sl }
  free : ∀ b o, h.get? b = some o → H b = none → b ∉ ex → H' b = none
  there : ∀ b o, h.get? b = some o → b ∉ ex → ∃ o', h'.get? b = some o'
  tups : ∀ b xs, H b = some (.tup xs) → H' b = some (.tup xs)
  frzs : ∀ b o u, H b = some (.frz o u) → H' b = some (.frz o u)
  tbls : ∀ b ps, H b = some (.tbl ps) → ∃ more, H' b = some (.tbl (ps ++ more))
section
variable {fs fs' ex ex' : List Addr} {H H1 H2 : Hp} {h h1 h2 h' : Heap} {a x e : Addr} {o : HO}
theorem Un.any (u : Un fs ex H H1 h h1) {b : Addr} {ob : Obj} (q : h.get? b = some ob) (n : H b = none) (hx : b ∉ ex) : ∃ sl, h1.get? b = some { ob with slots := sl } := by
  by_cases hb : b ∈ fs
  · exact u.slot b ob q n hb hx
  · exact ⟨ob.slots, u.keep b ob q n hb hx⟩
theorem Un.kept (k : ∀ b u, h.get? b = some u → h'.get? b = some u) : Un fs ex H H h h' :=
  ⟨fun b ob q _ _ _ => k b ob q, fun b ob q _ _ _ => ⟨ob.slots, k b ob q⟩, fun _ _ _ n _ => n, fun b ob q _ => ⟨ob, k b ob q⟩, fun _ _ q => q, fun _ _ _ q => q, fun _ ps q => ⟨#[], by rw [q]; simp⟩⟩
theorem Un.refl : Un fs ex H H h h := Un.kept fun _ _ q => q
theorem Un.laid (k : ∀ b u, h.get? b = some u → h'.get? b = some u) (hp : h.objs.size ≤ a) (hn : H a = none) : Un fs ex H (upd H a o) h h' where
  keep := fun b u q _ _ _ => k b u q
  slot := fun b u q _ _ _ => ⟨u.slots, k b u q⟩
  free := fun b u q n _ => by rw [upd_ne (Nat.ne_of_lt (Nat.lt_of_lt_of_le (Heap.lt_size q) hp))]; exact n
  there := fun b u q _ => ⟨u, k b u q⟩
  tups := fun b xs q => by rw [upd_ne (ne_of_none q hn)]; exact q
  frzs := fun b u xs q => by rw [upd_ne (ne_of_none q hn)]; exact q
  tbls := fun b ps q => ⟨#[], by rw [upd_ne (ne_of_none q hn), q]; simp⟩
theorem Un.write (mu : Mut (H x)) (he : e = x ∨ H e = some (.own x)) (k : ∀ b u, b ≠ e → h.get? b = some u → h'.get? b = some u) (heo : ∃ u, h'.get? e = some u) : Un fs ex H (upd H x o) h h' := by
  have hx : ∀ b, H b = none → b ≠ x := fun b n z => by subst z; rw [n] at mu; exact mu
  have hb : ∀ b, H b = none → b ≠ e := fun b n z => by
    subst z
    rcases he with r | r
    · exact hx b n r
    · rw [n] at r; cases r
  have hm : ∀ b u, H b = some u → ¬ Mut (some u) → b ≠ x := fun b u q nm z => by subst z; rw [q] at mu; exact nm mu
  refine ⟨fun b u q n _ _ => k b u (hb b n) q, fun b u q n _ _ => ⟨u.slots, k b u (hb b n) q⟩, fun b u q n _ => by rw [upd_ne (hx b n)]; exact n, fun b u q _ => ?_,
    fun b xs q => by rw [upd_ne (hm b _ q fun z => z)]; exact q, fun b u xs q => by rw [upd_ne (hm b _ q fun z => z)]; exact q, fun b ps q => ⟨#[], by rw [upd_ne (hm b _ q fun z => z), q]; simp⟩⟩
  by_cases hbe : b = e
  · subst hbe; exact heo
  · exact ⟨u, k b u hbe q⟩
end
noncomputable def trk (h : Heap) (H : Hp) : List Addr := (List.range h.objs.size).filter fun a => (H a).isSome
noncomputable def hidT (h : Heap) (H : Hp) : Heap := PySem.W.hideAll h (trk h H)
theorem hidT_size (h : Heap) (H : Hp) : (hidT h H).objs.size = h.objs.size := PySem.W.hideAll_size _ _
theorem hidT_get {h : Heap} {H : Hp} {b : Addr} {o : Obj} (e : h.get? b = some o) (n : H b = none) : (hidT h H).get? b = some o :=
  PySem.W.hideAll_get _ e fun hm => by
    have q : (H b).isSome = true := (List.mem_filter.mp hm).2
    rw [n] at q; simp at q
theorem of_hidT {h : Heap} {H : Hp} {b : Addr} {o : Obj} (e : (hidT h H).get? b = some o) : h.get? b = some o ∧ H b = none := by
  have e' : h.get? b = some o := PySem.W.of_hideAll (trk h H) e
  refine ⟨e', ?_⟩
  cases q : H b with
  | none => rfl
  | some x =>
    have hm : b ∈ trk h H := List.mem_filter.mpr ⟨List.mem_range.mpr (Heap.lt_size e'), by simp [q]⟩
    have z : (hidT h H).get? b = none := PySem.W.hideAll_none (trk h H) hm
    rw [z] at e; cases e
end L2
namespace L2
open PySem PySem.Spec PyProof.Rows
structure Mod (K : PySem.W.Frag) (mg : Str → Option Value) (base : Heap) : Prop where
  kin : K.In base
  glob : base.Ns mainGlobals mg
  blt : ∃ mb, base.Ns builtinsNs mb ∧ ∀ x : Str, x ≠ "__name__" → mb x = bootBuiltins x
  nolimit : base.NoLimit
structure Cx where
  prog : Program
  w : World
  K : PySem.W.Frag
  mg : Str → Option Value
  base : Heap
  A : Around
  N : List Str
  s₀ : Shared
  H₀ : Hp
  env : Env
  outer : List Env
  stack : List Env
  ex : List Addr
  fn : Str → Bool
  calm : Bool
  pn : List (Addr × Obj)
  xe : Value → Shared → Prop
noncomputable def frs (l : List Env) : List Addr := l.filterMap (·.frame)
noncomputable abbrev Cx.fs (X : Cx) : List Addr := frs X.outer
noncomputable def Vis (sc : Scope) (x : Str) : Prop := sc.names.lookup x = some .local ∨ sc.names.lookup x = some .cell ∨ sc.names.lookup x = some .free
noncomputable def Loc (sc : Scope) (x : Str) : Prop := sc.names.lookup x = some .local ∨ sc.names.lookup x = some .cell
noncomputable def Look (env : Env) (h : Heap) (m : Str → Option Value) (x : Str) (u : Value) : Prop :=
  (env.kindOf x = some .local ∧ m x = some u) ∨ ((env.kindOf x = some .cell ∨ env.kindOf x = some .free) ∧ ∃ c, env.cells.lookup x = some c ∧ h.IsCell c (some u))
structure Cx.Ok (X : Cx) : Prop where
  mod : Mod X.K X.mg X.base
  kind : X.env.scope.kind = .function
  glob : X.env.globals = mainGlobals
  blt : X.env.builtins = builtinsNs
  above : X.s₀.heap.objs.size ≤ X.env.locals
  inj : ∀ x y c, X.env.cells.lookup x = some c → X.env.cells.lookup y = some c → x = y
  has : ∀ x, (X.env.kindOf x = some .cell ∨ X.env.kindOf x = some .free) → ∃ c, X.env.cells.lookup x = some c
  cab : ∀ x c, X.fn x = true → X.env.cells.lookup x = some c → X.s₀.heap.objs.size ≤ c
  hd : X.calm = true → X.A.handled = none
  frames : X.A.frames = some X.stack
  stk : X.stack = X.outer ∨ (X.stack = X.env :: X.outer ∧ X.env.frame = some X.env.locals)
  exf : ∀ b ∈ X.ex, b ≠ X.env.locals ∧ ∀ x c, X.env.cells.lookup x = some c → c ≠ b
  bs : ∀ b o, X.base.get? b = some o → X.s₀.heap.get? b = some o ∧ X.H₀ b = none
  bsz : X.base.objs.size ≤ X.s₀.heap.objs.size
  noex : ∀ b o, X.base.get? b = some o → b ∉ X.ex
  exfs : ∀ b ∈ X.ex, b ∉ X.fs
  funs : X.s₀.heap.FunFrames X.base X.outer
  frf : ∀ b ∈ X.fs, X.H₀ b = none
structure Inv (X : Cx) (pins : List (Addr × Obj)) (σ : List (Option V)) (H : Hp) (s : Shared) : Prop where
  ok : X.Ok
  os : s.os = X.s₀.os
  bare : AllBare s.gens
  base : Un X.fs X.ex X.H₀ H X.s₀.heap s.heap
  loc : ∃ m, s.heap.Ns X.env.locals m ∧ ∀ (i : Nat) (x : Str) (v : V), X.N[i]? = some x → σ[i]? = some (some v) → Vis X.env.scope x → ∃ u, RelV v u ∧ Look X.env s.heap m x u
  cell : ∀ x c, X.env.cells.lookup x = some c → ∃ v, s.heap.IsCell c v
  free : H X.env.locals = none
  freeC : ∀ x c, X.env.cells.lookup x = some c → H c = none
  pin : ∀ p ∈ X.pn ++ pins, s.heap.get? p.1 = some p.2 ∧ H p.1 = none ∧ p.1 ≠ X.env.locals ∧ p.1 ∉ X.fs ∧ ∀ v, p.2.data ≠ .cell v
  hok : HOk X.prog X.w H s.heap
  len : σ.length = X.N.length
section
variable {X : Cx} {pins : List (Addr × Obj)} {σ : List (Option V)} {H H' : Hp} {s : Shared} {h' : Heap}
theorem Cx.Ok.nofr (ok : X.Ok) {b : Addr} {o : Obj} (e : X.base.get? b = some o) : b ∉ X.fs := fun hb => by
  have := (ok.funs.mem hb).1
  rw [e] at this; cases this
theorem Inv.bs (I : Inv X pins σ H s) : ∀ b o, X.base.get? b = some o → s.heap.get? b = some o ∧ H b = none := fun b o e =>
  ⟨I.base.keep b o (I.ok.bs b o e).1 (I.ok.bs b o e).2 (I.ok.nofr e) (I.ok.noex b o e), I.base.free b o (I.ok.bs b o e).1 (I.ok.bs b o e).2 (I.ok.noex b o e)⟩
theorem Inv.bk (I : Inv X pins σ H s) : ∀ b o, X.base.get? b = some o → s.heap.get? b = some o := fun b o e => (I.bs b o e).1
theorem Inv.mod (I : Inv X pins σ H s) : Mod X.K X.mg X.base := I.ok.mod
theorem Inv.kIn (I : Inv X pins σ H s) : X.K.In s.heap := I.ok.mod.kin.keeps I.bk
theorem Inv.fr (I : Inv X pins σ H s) : ∃ m, Fr X.base X.env.locals s.heap m :=
  let ⟨m, hn, _⟩ := I.loc
  ⟨m, hn, I.bk, Nat.le_trans I.ok.bsz I.ok.above⟩
theorem Inv.lt (I : Inv X pins σ H s) : X.env.locals < s.heap.objs.size := let ⟨_, hn, _⟩ := I.loc; hn.lt
theorem Inv.sz (I : Inv X pins σ H s) : X.s₀.heap.objs.size ≤ s.heap.objs.size := Nat.le_trans I.ok.above (Nat.le_of_lt I.lt)
theorem Inv.nofs (I : Inv X pins σ H s) {a : Addr} (h : s.heap.objs.size ≤ a) : a ∉ X.fs := fun hb => by
  obtain ⟨_, o, ho, _⟩ := I.ok.funs.mem hb
  exact absurd (Nat.lt_of_lt_of_le (Heap.lt_size ho) (Nat.le_trans I.sz h)) (Nat.lt_irrefl _)
theorem Inv.cne (I : Inv X pins σ H s) : ∀ x c, X.env.cells.lookup x = some c → c ≠ X.env.locals := fun x c e z => by
  obtain ⟨v, o, ho, hd⟩ := I.cell x c e
  obtain ⟨m, ⟨o', es, ep, ho', hd', _⟩, _⟩ := I.loc
  rw [z, ho'] at ho; cases ho; rw [hd'] at hd; cases hd
theorem Inv.funs (I : Inv X pins σ H s) : s.heap.FunFrames X.base X.outer := by
  have all : ∀ (l : List Env), (∀ b ∈ frs l, b ∈ X.fs) → X.s₀.heap.FunFrames X.base l → s.heap.FunFrames X.base l := by
    intro l
    induction l with
    | nil => intro _ _; trivial
    | cons env r ih =>
      intro hs hl
      obtain ⟨hk, ⟨L, o, hf, hn, ho, hd⟩, hr⟩ := hl
      have hL : L ∈ X.fs := hs L (by unfold frs; rw [List.filterMap_cons, hf]; exact List.mem_cons_self)
      obtain ⟨sl, e⟩ := I.base.slot L o ho (I.ok.frf L hL) hL fun z => I.ok.exfs L z hL
      exact ⟨hk, ⟨L, _, hf, hn, e, hd⟩, ih (fun b hb => hs b (by unfold frs; rw [List.filterMap_cons, hf]; exact List.mem_cons_of_mem _ hb)) hr⟩
  exact all X.outer (fun _ hb => hb) I.ok.funs
theorem Inv.stack (I : Inv X pins σ H s) : s.heap.FunFrames X.base X.stack := by
  rcases I.ok.stk with e | ⟨e, hf⟩
  · rw [e]; exact I.funs
  · rw [e]
    obtain ⟨m, hn, _⟩ := I.loc
    refine .cons (by rw [I.ok.kind]; decide) hf hn ?_ I.funs
    exact Heap.get?_none_of_le (Nat.le_trans I.ok.bsz I.ok.above)
theorem Inv.stkSub (I : Inv X pins σ H s) : ∀ b ∈ frs X.stack, b ∈ X.env.locals :: X.fs := fun b hb => by
  rcases I.ok.stk with e | ⟨e, hf⟩
  · rw [e] at hb; exact List.mem_cons_of_mem _ hb
  · rw [e] at hb
    unfold frs at hb
    rw [List.filterMap_cons, hf] at hb
    exact hb
theorem Inv.stkFree (I : Inv X pins σ H s) : ∀ b ∈ frs X.stack, H b = none := fun b hb => by
  rcases List.mem_cons.mp (I.stkSub b hb) with e | hb
  · rw [e]; exact I.free
  · obtain ⟨_, o, ho, _⟩ := I.ok.funs.mem hb
    exact I.base.free b o ho (I.ok.frf b hb) fun z => I.ok.exfs b z hb
theorem Inv.step {g' : Array GenState} {t' : Nat} {d' : Drawn} {ch : List Addr} (I : Inv X pins σ H s)
    (hch : ∀ b ∈ ch, (b ∈ X.ex ∨ X.s₀.heap.objs.size ≤ b) ∧ b ≠ X.env.locals ∧ (∀ x c, X.env.cells.lookup x = some c → c ≠ b) ∧ ∀ p ∈ X.pn ++ pins, p.1 ≠ b)
    (keep : ∀ b o, b ≠ X.env.locals → b ∉ X.fs → b ∉ ch → s.heap.get? b = some o → H b = none → h'.get? b = some o)
    (slot : ∀ b o, b ≠ X.env.locals → b ∈ X.fs → b ∉ ch → s.heap.get? b = some o → H b = none → ∃ sl, h'.get? b = some { o with slots := sl }) (free : ∀ b o, b ∉ ch → s.heap.get? b = some o → H b = none → H' b = none)
    (there : ∀ b o, b ∉ ch → s.heap.get? b = some o → ∃ o', h'.get? b = some o')
    (tups : ∀ b xs, H b = some (.tup xs) → H' b = some (.tup xs)) (frzs : ∀ b o u, H b = some (.frz o u) → H' b = some (.frz o u)) (tbls : ∀ b ps, H b = some (.tbl ps) → ∃ more, H' b = some (.tbl (ps ++ more)))
    (ns : ∀ m, s.heap.Ns X.env.locals m → h'.Ns X.env.locals m) (hok : HOk X.prog X.w H' h') (hg : AllBare g') :
    Inv X pins σ H' { s with heap := h', gens := g', drawn := d', toks := t' } := by
  have neL : ∀ b o, X.s₀.heap.get? b = some o → b ≠ X.env.locals := fun b o e => Nat.ne_of_lt (Nat.lt_of_lt_of_le (Heap.lt_size e) I.ok.above)
  have neC : ∀ b o, X.s₀.heap.get? b = some o → b ∉ X.ex → b ∉ ch := fun b o e hx hb => by
    rcases (hch b hb).1 with z | z
    · exact hx z
    · exact absurd (Nat.lt_of_lt_of_le (Heap.lt_size e) z) (Nat.lt_irrefl _)
  have cellK : ∀ x c, X.env.cells.lookup x = some c → ∀ v, s.heap.IsCell c v → h'.IsCell c v := fun x c e v ⟨o, ho, hd⟩ => by
    have nch : c ∉ ch := fun z => (hch c z).2.2.1 x c e rfl
    by_cases hc : c ∈ X.fs
    · obtain ⟨sl, q⟩ := slot c o (I.cne x c e) hc nch ho (I.freeC x c e)
      exact ⟨_, q, hd⟩
    · exact ⟨o, keep c o (I.cne x c e) hc nch ho (I.freeC x c e), hd⟩
  refine ⟨I.ok, I.os, hg, ⟨fun b o e n hb hx => ?_, fun b o e n hb hx => ?_, fun b o e n hx => ?_, fun b o e hx => ?_, fun b xs e => tups b xs (I.base.tups b xs e), fun b o xs e => frzs b o xs (I.base.frzs b o xs e), fun b ps e => ?_⟩, ?_, fun x c e => ?_, ?_, fun x c e => ?_, fun p hp => ?_, hok, I.len⟩
  · exact keep b o (neL b o e) hb (neC b o e hx) (I.base.keep b o e n hb hx) (I.base.free b o e n hx)
  · obtain ⟨sl, e1⟩ := I.base.slot b o e n hb hx
    obtain ⟨sl', e2⟩ := slot b _ (neL b o e) hb (neC b o e hx) e1 (I.base.free b o e n hx)
    exact ⟨sl', e2⟩
  · obtain ⟨o', e1⟩ := I.base.there b o e hx
    exact free b o' (neC b o e hx) e1 (I.base.free b o e n hx)
  · obtain ⟨o', e1⟩ := I.base.there b o e hx
    exact there b o' (neC b o e hx) e1
  · obtain ⟨m1, e1⟩ := I.base.tbls b ps e
    obtain ⟨m2, e2⟩ := tbls b _ e1
    exact ⟨m1 ++ m2, by rw [e2, Array.append_assoc]⟩
  · obtain ⟨m, hn, hl⟩ := I.loc
    refine ⟨m, ns m hn, fun i x v e1 e2 e3 => ?_⟩
    obtain ⟨u, r, l⟩ := hl i x v e1 e2 e3
    refine ⟨u, r, ?_⟩
    rcases l with l | ⟨k, c, e, z⟩
    · exact .inl l
    · exact .inr ⟨k, c, e, cellK x c e _ z⟩
  · obtain ⟨v, z⟩ := I.cell x c e
    exact ⟨v, cellK x c e v z⟩
  · obtain ⟨m, ⟨o, _, _, ho, _⟩, _⟩ := I.loc
    exact free _ o (fun z => (hch _ z).2.1 rfl) ho I.free
  · obtain ⟨v, o, ho, hd⟩ := I.cell x c e
    exact free c o (fun z => (hch c z).2.2.1 x c e rfl) ho (I.freeC x c e)
  · obtain ⟨e, n, ne, nf, d⟩ := I.pin p hp
    have nch : p.1 ∉ ch := fun z => (hch p.1 z).2.2.2 p hp rfl
    exact ⟨keep p.1 p.2 ne nf nch e n, free p.1 p.2 nch e n, ne, nf, d⟩
theorem Inv.un {t' : Nat} (I : Inv X pins σ H s) (u : Un X.fs [] H H' s.heap h') (hok : HOk X.prog X.w H' h') : Inv X pins σ H' { s with heap := h', toks := t' } := by
  obtain ⟨m, ⟨o, es, ep, ho, r⟩, _⟩ := id I.loc
  obtain ⟨sl, hL⟩ := u.any ho I.free (by simp)
  exact I.step (g' := s.gens) (d' := s.drawn) (ch := []) (fun _ z => nomatch z) (fun b o _ hb _ e n => u.keep b o e n hb (by simp)) (fun b o _ hb _ e n => u.slot b o e n hb (by simp)) (fun b o _ e n => u.free b o e n (by simp)) (fun b o _ e => u.there b o e (by simp)) u.tups u.frzs u.tbls (fun m' hm => by
    obtain ⟨o', es', ep', ho', r'⟩ := hm
    rw [ho] at ho'; cases ho'
    exact ⟨_, es', ep', hL, r'⟩) hok I.bare
theorem Inv.call {g' : Array GenState} {t' : Nat} {d' : Drawn} {ch : List Addr} (I : Inv X pins σ H s) (u : Un (frs X.stack) ch H H' s.heap h') (hok : HOk X.prog X.w H' h') (hg : AllBare g')
    (hch : ∀ b ∈ ch, (b ∈ X.ex ∨ X.s₀.heap.objs.size ≤ b) ∧ b ≠ X.env.locals ∧ (∀ x c, X.env.cells.lookup x = some c → c ≠ b) ∧ ∀ p ∈ X.pn ++ pins, p.1 ≠ b) :
    Inv X pins σ H' { s with heap := h', gens := g', drawn := d', toks := t' } := by
  obtain ⟨m, ⟨o, es, ep, ho, r⟩, _⟩ := id I.loc
  obtain ⟨sl, hL⟩ := u.any ho I.free fun z => (hch _ z).2.1 rfl
  exact I.step (ch := ch) hch (fun b o hL hb hc e n => u.keep b o e n (fun z => (List.mem_cons.mp (I.stkSub b z)).elim hL hb) hc) (fun b o _ _ hc e n => u.any e n hc) (fun b o hc e n => u.free b o e n hc) (fun b o hc e => u.there b o e hc) u.tups u.frzs u.tbls (fun m' hm => by
    obtain ⟨o', es', ep', ho', r'⟩ := hm
    rw [ho] at ho'; cases ho'
    exact ⟨_, es', ep', hL, r'⟩) hok hg
theorem Inv.turned {t' : Nat} {it : Addr} (I : Inv X pins σ H s) (k : ∀ b o, b ≠ it → s.heap.get? b = some o → h'.get? b = some o) (hn : H it = none) (hL : it ≠ X.env.locals)
    (h1 : it ∈ X.ex ∨ X.s₀.heap.objs.size ≤ it) (h2 : ∀ x c, X.env.cells.lookup x = some c → c ≠ it) (h3 : ∀ p ∈ X.pn ++ pins, p.1 ≠ it) : Inv X pins σ H { s with heap := h', toks := t' } := by
  have nit : ∀ b u, H b = some u → b ≠ it := fun b u e z => by rw [z, hn] at e; cases e
  refine I.step (g' := s.gens) (d' := s.drawn) (ch := [it]) (fun b hb => ?_) (fun b o _ _ hc e _ => k b o (fun z => hc (by simp [z])) e) (fun b o _ _ hc e _ => ⟨o.slots, k b o (fun z => hc (by simp [z])) e⟩) (fun _ _ _ _ n => n)
    (fun b o hc e => ⟨o, k b o (fun z => hc (by simp [z])) e⟩) (fun _ _ e => e) (fun _ _ _ e => e) (fun b ps e => ⟨#[], by rw [e]; simp⟩) (fun m hm => ?_) (fun b u e => ?_) I.bare
  · have e : b = it := by simpa using hb
    subst e
    exact ⟨h1, hL, h2, h3⟩
  · obtain ⟨o, es, ep, ho, r⟩ := hm
    exact ⟨o, es, ep, k _ o (Ne.symm hL) ho, r⟩
  · refine (I.hok b u e).stay (fun c v hc q => k c v ?_ q) (fun _ q => q) fun _ _ q => q
    rcases hc with z | z
    · rw [z]; exact nit b u e
    · exact nit c _ z
theorem Inv.tok (I : Inv X pins σ H s) (t : Nat) : Inv X pins σ H { s with toks := t } := I.un (h' := s.heap) (t' := t) Un.refl I.hok
theorem Inv.kept {t' : Nat} (I : Inv X pins σ H s) (k : ∀ b u, s.heap.get? b = some u → h'.get? b = some u) : Inv X pins σ H { s with heap := h', toks := t' } := I.un (Un.kept k) (I.hok.kept k)
theorem Inv.laid {a : Addr} {o : HO} {t' : Nat} (I : Inv X pins σ H s) (k : ∀ b u, s.heap.get? b = some u → h'.get? b = some u) (hp : s.heap.objs.size ≤ a) (new : ObjOk X.prog X.w (upd H a o) h' a o) :
    Inv X pins σ (upd H a o) { s with heap := h', toks := t' } := I.un (Un.laid k hp (I.hok.fresh hp)) (I.hok.laid k hp new)
theorem Inv.write {x e : Addr} {o : HO} {t' : Nat} (I : Inv X pins σ H s) (mu : Mut (H x)) (he : e = x ∨ H e = some (.own x)) (k : ∀ b u, b ≠ e → s.heap.get? b = some u → h'.get? b = some u) (heo : ∃ u, h'.get? e = some u)
    (new : ObjOk X.prog X.w (upd H x o) h' x o) : Inv X pins σ (upd H x o) { s with heap := h', toks := t' } := I.un (Un.write mu he k heo) (I.hok.write mu he k heo new)
theorem Inv.weak {σ' : List (Option V)} (I : Inv X pins σ H s) (hl : σ'.length = σ.length) (w : ∀ (i : Nat) v, σ'[i]? = some (some v) → σ[i]? = some (some v)) : Inv X pins σ' H s :=
  ⟨I.ok, I.os, I.bare, I.base, let ⟨m, hn, hl'⟩ := I.loc; ⟨m, hn, fun i x v e1 e2 e3 => hl' i x v e1 (w i v e2) e3⟩, I.cell, I.free, I.freeC, I.pin, I.hok, hl.trans I.len⟩
theorem Inv.pins_of {pins' : List (Addr × Obj)} (I : Inv X pins σ H s) (h : ∀ p ∈ pins', s.heap.get? p.1 = some p.2 ∧ H p.1 = none ∧ p.1 ≠ X.env.locals ∧ p.1 ∉ X.fs ∧ ∀ v, p.2.data ≠ .cell v) : Inv X pins' σ H s :=
  ⟨I.ok, I.os, I.bare, I.base, I.loc, I.cell, I.free, I.freeC, fun p hp => (List.mem_append.mp hp).elim (fun z => I.pin p (List.mem_append_left _ z)) (h p), I.hok, I.len⟩
theorem nodup_ix {N : List Str} (hN : N.Nodup) {i j : Nat} {x : Str} (a : N[i]? = some x) (b : N[j]? = some x) : i = j := by
  obtain ⟨h1, e1⟩ := List.getElem?_eq_some_iff.mp a
  obtain ⟨h2, e2⟩ := List.getElem?_eq_some_iff.mp b
  exact (List.getElem_inj hN).mp (e1.trans e2.symm)
theorem store_ok2 {M : Model} {A : Around} {E : Value → Shared → Prop} {i : Nat} {x : Str} {v : V} {u : Value} {Q : Unit → Shared → Prop} (I : Inv X pins σ H s) (hN : X.N.Nodup) (hi : X.N[i]? = some x) (hx : Loc X.env.scope x) (r : RelV v u)
    (h : ∀ s', Inv X pins (σ.set i (some v)) H s' → (∃ a, Heap.SameBut a s.heap s'.heap ∧ (a = X.env.locals ∨ X.env.cells.lookup x = some a)) → Q () s') (hf : X.fn x = true ∨ X.env.scope.names.lookup x = some .local := by first | exact .inl rfl | exact .inr rfl | assumption) : wpAny M A (storeName X.env x u) Q E s := by
  obtain ⟨m, hn, hl⟩ := id I.loc
  have hcls : (X.env.scope.kind == .class || (X.env.scope.kind == .module && X.env.locals != X.env.globals)) = false := by rw [I.ok.kind]; rfl
  have hiσ : i < σ.length := by rw [I.len]; exact (List.getElem?_eq_some_iff.mp hi).1
  have cne := I.cne
  have tracked : ∀ {a : Addr} {h' : Heap}, (∃ o, s.heap.get? a = some o ∧ H a = none) → Heap.SameBut a s.heap h' → HOk X.prog X.w H h' := fun {a h'} ha hs b ob e => by
    obtain ⟨_, _, hfree⟩ := ha
    refine (I.hok b ob e).stay (fun c w' hc q => (hs.2 c ?_).trans q) (fun _ q => q) fun _ _ q => q
    rintro rfl
    rcases hc with rfl | hc
    · rw [hfree] at e; cases e
    · rw [hfree] at hc; cases hc
  rcases hx with hk | hk
  · refine wpAny_storeName_local hk hn (fun h' hn' hs => ?_) hcls
    obtain ⟨oL, _, _, hoL, _⟩ := id hn
    refine h _ ⟨I.ok, I.os, I.bare, ⟨fun b o e n hb hx => ?_, fun b o e n hb hx => ?_, I.base.free, fun b o e hx => ?_, I.base.tups, I.base.frzs, I.base.tbls⟩, ⟨_, hn', fun j y v' e1 e2 e3 => ?_⟩, fun y c e => ?_, I.free, I.freeC, fun p hp => ?_, tracked ⟨oL, hoL, I.free⟩ hs, by simpa using I.len⟩ ⟨_, hs, .inl rfl⟩
    · exact (hs.2 b (Nat.ne_of_lt (Nat.lt_of_lt_of_le (Heap.lt_size e) I.ok.above))).trans (I.base.keep b o e n hb hx)
    · obtain ⟨sl, e1⟩ := I.base.slot b o e n hb hx
      exact ⟨sl, (hs.2 b (Nat.ne_of_lt (Nat.lt_of_lt_of_le (Heap.lt_size e) I.ok.above))).trans e1⟩
    · obtain ⟨o', e1⟩ := I.base.there b o e hx
      exact ⟨o', (hs.2 b (Nat.ne_of_lt (Nat.lt_of_lt_of_le (Heap.lt_size e) I.ok.above))).trans e1⟩
    · by_cases hj : j = i
      · subst hj
        rw [hi] at e1; cases e1
        rw [List.getElem?_set_self hiσ] at e2
        cases e2
        exact ⟨u, r, .inl ⟨hk, by simp⟩⟩
      · rw [List.getElem?_set_ne (Ne.symm hj)] at e2
        obtain ⟨u', r', q⟩ := hl j y v' e1 e2 e3
        refine ⟨u', r', ?_⟩
        rcases q with ⟨k, e⟩ | ⟨k, c, e, z⟩
        · refine .inl ⟨k, ?_⟩
          have : y ≠ x := fun e => hj (nodup_ix hN e1 (e ▸ hi))
          simp [this, e]
        · exact .inr ⟨k, c, e, z.sameBut hs (cne y c e)⟩
    · obtain ⟨w', z⟩ := I.cell y c e
      exact ⟨w', z.sameBut hs (cne y c e)⟩
    · obtain ⟨e, n, ne, nf, d⟩ := I.pin p hp
      exact ⟨(hs.2 p.1 ne).trans e, n, ne, nf, d⟩
  · have hfn : X.fn x = true := by
      rcases hf with z | z
      · exact z
      · rw [z] at hk; cases hk
    obtain ⟨c, hc⟩ := I.ok.has x (.inl hk)
    obtain ⟨w', z⟩ := I.cell x c hc
    refine wpAny_storeName_cell I.ok.kind hk hc z (fun h' hc' hs => ?_)
    obtain ⟨oc, hoc, hocd⟩ := id z
    refine h { s with heap := h' } ⟨I.ok, I.os, I.bare, ⟨fun b o e n hb hx => ?_, fun b o e n hb hx => ?_, I.base.free, fun b o e hx => ?_, I.base.tups, I.base.frzs, I.base.tbls⟩, ⟨m, hn.sameBut hs (Ne.symm (cne x c hc)), fun j y v' e1 e2 e3 => ?_⟩, fun y c' e => ?_, I.free, I.freeC, fun p hp => ?_, tracked ⟨oc, hoc, I.freeC x c hc⟩ hs, by simpa using I.len⟩ ⟨c, hs, .inr hc⟩
    · exact (hs.2 b (Nat.ne_of_lt (Nat.lt_of_lt_of_le (Heap.lt_size e) (I.ok.cab x c hfn hc)))).trans (I.base.keep b o e n hb hx)
    · obtain ⟨sl, e1⟩ := I.base.slot b o e n hb hx
      exact ⟨sl, (hs.2 b (Nat.ne_of_lt (Nat.lt_of_lt_of_le (Heap.lt_size e) (I.ok.cab x c hfn hc)))).trans e1⟩
    · obtain ⟨o', e1⟩ := I.base.there b o e hx
      exact ⟨o', (hs.2 b (Nat.ne_of_lt (Nat.lt_of_lt_of_le (Heap.lt_size e) (I.ok.cab x c hfn hc)))).trans e1⟩
    · by_cases hj : j = i
      · subst hj
        rw [hi] at e1; cases e1
        rw [List.getElem?_set_self hiσ] at e2
        cases e2
        exact ⟨u, r, .inr ⟨.inl hk, c, hc, hc'⟩⟩
      · rw [List.getElem?_set_ne (Ne.symm hj)] at e2
        obtain ⟨u', r', q⟩ := hl j y v' e1 e2 e3
        refine ⟨u', r', ?_⟩
        rcases q with q | ⟨k, c', e, z'⟩
        · exact .inl q
        · refine .inr ⟨k, c', e, z'.sameBut hs ?_⟩
          rintro rfl
          exact hj (nodup_ix hN e1 (I.ok.inj _ _ _ e hc ▸ hi))
    · by_cases hcc : c' = c
      · subst hcc; exact ⟨_, hc'⟩
      · obtain ⟨w2, z2⟩ := I.cell y c' e
        exact ⟨w2, z2.sameBut hs hcc⟩
    · obtain ⟨e, n, ne, nf, d⟩ := I.pin p hp
      refine ⟨(hs.2 p.1 ?_).trans e, n, ne, nf, d⟩
      intro q
      rw [q, hoc] at e
      have q' : oc = p.2 := Option.some.inj e
      exact d w' (by rw [← q']; exact hocd)
theorem store_ok {M : Model} {A : Around} {E : Value → Shared → Prop} {i : Nat} {x : Str} {v : V} {u : Value} {Q : Unit → Shared → Prop} (I : Inv X pins σ H s) (hN : X.N.Nodup) (hi : X.N[i]? = some x) (hx : Loc X.env.scope x) (r : RelV v u)
    (h : ∀ s', Inv X pins (σ.set i (some v)) H s' → Q () s') (hf : X.fn x = true ∨ X.env.scope.names.lookup x = some .local := by first | exact .inl rfl | exact .inr rfl | assumption) : wpAny M A (storeName X.env x u) Q E s :=
  store_ok2 I hN hi hx r (fun s' I' _ => h s' I') hf
theorem Inv.call' {s' : Shared} {ch : List Addr} (I : Inv X pins σ H s) (ho : s'.os = s.os) (u : Un (frs X.stack) ch H H' s.heap s'.heap) (hok : HOk X.prog X.w H' s'.heap) (hg : AllBare s'.gens)
    (hch : ∀ b ∈ ch, (b ∈ X.ex ∨ X.s₀.heap.objs.size ≤ b) ∧ b ≠ X.env.locals ∧ (∀ x c, X.env.cells.lookup x = some c → c ≠ b) ∧ ∀ p ∈ X.pn ++ pins, p.1 ≠ b) : Inv X pins σ H' s' := by
  obtain ⟨h', g', d', t', o'⟩ := s'
  have e : o' = s.os := ho
  subst e
  exact I.call (g' := g') (t' := t') (d' := d') u hok hg hch
end
noncomputable abbrev XK := Value → Option Addr → Hp → Prop
noncomputable abbrev St := List (Option V)
noncomputable abbrev VK := V → Hp → Prop
noncomputable abbrev TE := St → Hp → VK → Prop
noncomputable abbrev TT := St → Hp → (Bool → Hp → Prop) → Prop
noncomputable abbrev TA := St → Hp → (List V → Hp → Prop) → Prop
structure Ends where
  nx : St → Hp → Prop
  rt : VK
  bk : St → Hp → Prop := fun _ _ => False
  ct : St → Hp → Prop := fun _ _ => False
noncomputable abbrev TS := Ends → St → Hp → Prop
noncomputable def EP (X : Cx) (pins : List (Addr × Obj)) (σ : St) (Q : VK) (u : Value) (s' : Shared) : Prop := ∃ v H', Inv X pins σ H' s' ∧ RelV v u ∧ Q v H'
noncomputable def TP (X : Cx) (pins : List (Addr × Obj)) (σ : St) (Q : Bool → Hp → Prop) (b : Bool) (s' : Shared) : Prop := ∃ H', Inv X pins σ H' s' ∧ Q b H'
noncomputable def AP (X : Cx) (pins : List (Addr × Obj)) (σ : St) (Q : List V → Hp → Prop) (us : List Value) (s' : Shared) : Prop := ∃ vs H', Inv X pins σ H' s' ∧ Vals vs us ∧ Q vs H'
noncomputable def SP (X : Cx) (pins : List (Addr × Obj)) (D : Ends) (f : Flow) (s' : Shared) : Prop :=
  match f with
  | .next => ∃ σ' H', Inv X pins σ' H' s' ∧ D.nx σ' H'
  | .brk => ∃ σ' H', Inv X pins σ' H' s' ∧ D.bk σ' H'
  | .cont => ∃ σ' H', Inv X pins σ' H' s' ∧ D.ct σ' H'
  | .ret u => ∃ v σ' H', Inv X pins σ' H' s' ∧ RelV v u ∧ D.rt v H'
noncomputable def PE (X : Cx) (e : Expr) (t : TE) : Prop :=
  ∀ (pins : List (Addr × Obj)) (s : Shared) (σ : St) (H : Hp) (Q : VK), Inv X pins σ H s → t σ H Q → wpAny (model X.prog X.w) X.A (eval e X.env) (EP X pins σ Q) X.xe s
noncomputable def PT (X : Cx) (e : Expr) (t : TT) : Prop :=
  ∀ (pins : List (Addr × Obj)) (s : Shared) (σ : St) (H : Hp) (Q : Bool → Hp → Prop), Inv X pins σ H s → t σ H Q → wpAny (model X.prog X.w) X.A (isTrue e X.env (eval e X.env)) (TP X pins σ Q) X.xe s
noncomputable def PA (X : Cx) (es : List Expr) (t : TA) : Prop :=
  ∀ (pos : Pos) (pins : List (Addr × Obj)) (s : Shared) (σ : St) (H : Hp) (Q : List V → Hp → Prop), Inv X pins σ H s → t σ H Q → wpAny (model X.prog X.w) X.A (spliced (backTo pos (starEach es X.env))) (AP X pins σ Q) X.xe s
noncomputable def PS (X : Cx) (st : Stmt) (t : TS) : Prop :=
  ∀ (pins : List (Addr × Obj)) (s : Shared) (σ : St) (H : Hp) (D : Ends), Inv X pins σ H s → t D σ H → wpAny (model X.prog X.w) X.A (exec st X.env) (SP X pins D) X.xe s
noncomputable def PSs (X : Cx) (st : List Stmt) (t : TS) : Prop :=
  ∀ (pins : List (Addr × Obj)) (s : Shared) (σ : St) (H : Hp) (D : Ends), Inv X pins σ H s → t D σ H → wpAny (model X.prog X.w) X.A (execs st X.env) (SP X pins D) X.xe s
theorem thn {α : Type} {t : Sem α} {Q Q' : α → Shared → Prop} {M : Model} {A : Around} {E : Value → Shared → Prop} {s : Shared} (h : wpAny M A t Q E s) (hQ : ∀ a s, Q a s → Q' a s) : wpAny M A t Q' E s := wpAny_mono h hQ fun _ _ x => x
end L2
namespace L2
open PySem PySem.Spec PyProof.Rows
section
variable {X : Cx}
theorem bin {a b : Expr} {ta tb : TE} (ha : PE X a ta) (hb : PE X b tb) {pins : List (Addr × Obj)} {s : Shared} {σ : St} {H : Hp} {R : V → V → Hp → Prop} (I : Inv X pins σ H s) (h : ta σ H fun x H1 => tb σ H1 fun y H2 => R x y H2)
    {α : Type} {Q : α → Shared → Prop} {f : Value → Value → Sem α}
    (hf : ∀ v u s2 x y H2, Inv X pins σ H2 s2 → RelV x v → RelV y u → R x y H2 → wpAny (model X.prog X.w) X.A (f v u) Q X.xe s2) :
    wpAny (model X.prog X.w) X.A (eval a X.env) (fun v s₁ => wpAny (model X.prog X.w) X.A (eval b X.env) (fun u s₂ => wpAny (model X.prog X.w) X.A (f v u) Q X.xe s₂) X.xe s₁) X.xe s := by
  refine thn (ha pins s σ H _ I h) fun v s1 ⟨x, H1, I1, r1, q1⟩ => ?_
  refine thn (hb pins s1 σ H1 _ I1 q1) fun u s2 ⟨y, H2, I2, r2, q2⟩ => ?_
  exact hf v u s2 x y H2 I2 r1 r2 q2
noncomputable def tVar (i : Nat) : TE := fun σ H Q => ∃ v, σ[i]? = some (some v) ∧ Q v H
noncomputable def tC (v : V) : TE := fun _ H Q => Q v H
theorem pe_var {i : Nat} {x : Str} {pos : Pos} (hN : X.N[i]? = some x) (hv : Vis X.env.scope x) (hd : (x == ("__debug__" : Str)) = false := by decide) (hcd : (x == ("__classdict__" : Str)) = false := by decide) : PE X (.Name x pos) (tVar i) := by
  intro pins s σ H Q I h
  obtain ⟨v, e, h⟩ := h
  obtain ⟨m, hn, hl⟩ := I.loc
  obtain ⟨u, r, l⟩ := hl i x v hN e hv
  have fin : EP X pins σ Q u s := ⟨v, H, I, r, h⟩
  rcases l with ⟨hk, hm⟩ | ⟨hk, c, hc, hcell⟩
  · exact wpAny_Name (wpAny_loadName_local I.ok.kind hk hn hm fin) hd
  · rcases hk with hk | hk
    · exact wpAny_Name (wpAny_loadName_cell I.ok.kind hk hc hcell fin) hd
    · exact wpAny_Name (wpAny_loadName_free I.ok.kind hk hc hcell fin hcd) hd
theorem pe_int {i j pos} : PE X (.Constant (.int i) j pos) (tC (.int i)) := fun _ _ _ H _ I h => wpAny_Constant_int ⟨.int i, H, I.tok _, ⟨_, rfl⟩, h⟩
theorem pe_bl {b j pos} : PE X (.Constant (.bool b) j pos) (tC (.bl b)) := fun _ _ _ H _ I h => Constant_bool ⟨.bl b, H, I, rfl, h⟩
theorem pe_str {x j pos} : PE X (.Constant (.str x) j pos) (tC (.str x)) := fun _ _ _ H _ I h => Calls.Constant_str ⟨.str x, H, I.tok _, ⟨_, rfl⟩, h⟩
noncomputable def Gl (X : Cx) (x : Str) : Prop := X.env.kindOf x = some .globalImplicit
theorem ld_glob {E : Value → Shared → Prop} {pins : List (Addr × Obj)} {s : Shared} {σ : St} {H : Hp} {x : Str} {u : Value} {pos : Pos} {Q : Value → Shared → Prop} (I : Inv X pins σ H s) (hg : Gl X x) (hm : X.mg x = some u) (h : Q u s)
    (hd : (x == ("__debug__" : Str)) = false := by decide) : wpAny (model X.prog X.w) X.A (eval (.Name x pos) X.env) Q E s :=
  Calls.Name_function_global I.ok.kind hg (Calls.loadGlobal_global (by rw [I.ok.glob]; exact I.mod.glob.keeps I.bk) hm h) hd
theorem ld_blt {E : Value → Shared → Prop} {pins : List (Addr × Obj)} {s : Shared} {σ : St} {H : Hp} {x : Str} {u : Value} {pos : Pos} {Q : Value → Shared → Prop} (I : Inv X pins σ H s) (hg : Gl X x) (hm : X.mg x = none) (hv : bootBuiltins x = some u) (h : Q u s)
    (hn : x ≠ "__name__" := by decide) (hd : (x == ("__debug__" : Str)) = false := by decide) : wpAny (model X.prog X.w) X.A (eval (.Name x pos) X.env) Q E s := by
  obtain ⟨mb, h1, h2⟩ := I.mod.blt
  exact Calls.Name_function_global I.ok.kind hg (Calls.loadGlobal_builtin (by rw [I.ok.glob]; exact I.mod.glob.keeps I.bk) hm (by rw [I.ok.blt]; exact h1.keeps I.bk) ((h2 x hn).trans hv) h) hd
theorem pe_glob {x : Str} {v : V} {u : Value} {pos : Pos} (hg : Gl X x) (hm : X.mg x = some u) (r : RelV v u) (hd : (x == ("__debug__" : Str)) = false := by decide) : PE X (.Name x pos) (tC v) :=
  fun _ _ _ H _ I h => ld_glob I hg hm ⟨v, H, I, r, h⟩ hd
theorem pe_bltn {x : Str} {v : V} {u : Value} {pos : Pos} (hg : Gl X x) (hm : X.mg x = none) (hv : bootBuiltins x = some u) (r : RelV v u) (hn : x ≠ "__name__" := by decide) (hd : (x == ("__debug__" : Str)) = false := by decide) : PE X (.Name x pos) (tC v) :=
  fun _ _ _ H _ I h => ld_blt I hg hm hv ⟨v, H, I, r, h⟩ hn hd
variable {a b : Expr} {ta tb : TE} {pos : Pos}
variable {tA tB' : TT} {rest : List Expr}
noncomputable def tNot (t : TT) : TT := fun σ H Q => t σ H fun c H1 => Q (!c) H1
theorem pt_not (ha : PT X a tA) : PT X (.UnaryOp .Not a pos) (tNot tA) := by
  intro pins s σ H Q I h
  exact isTrue_not (ha pins s σ H (fun c H1 => Q (!c) H1) I h)
noncomputable def tAndV (ta tb : TE) : TE := fun σ H Q => ta σ H fun x H1 => ∃ c, x = .bl c ∧ if c = true then tb σ H1 Q else Q (.bl false) H1
noncomputable def tOrV (ta tb : TE) : TE := fun σ H Q => ta σ H fun x H1 => ∃ c, x = .bl c ∧ if c = true then Q (.bl true) H1 else tb σ H1 Q
noncomputable def tNotV (ta : TE) : TE := fun σ H Q => ta σ H fun x H1 => ∃ c, x = .bl c ∧ Q (.bl (!c)) H1
theorem pe_one {op} {t : TE} (h : PE X a t) : PE X (.BoolOp op [a] pos) t := fun pins s σ H Q I hw => BoolOp_one (h pins s σ H Q I hw)
theorem pe_and (ha : PE X a ta) (hb : PE X (.BoolOp .And (b :: rest) pos) tb) : PE X (.BoolOp .And (a :: b :: rest) pos) (tAndV ta tb) := by
  intro pins s σ H Q I h
  refine BoolOp_and (thn (ha pins s σ H _ I h) fun v s1 ⟨x, H1, I1, r1, q1⟩ => ?_)
  obtain ⟨c, rfl, q1⟩ := q1
  cases r1
  refine wpAny_truthy_bool ?_
  cases c with
  | true => exact hb pins s1 σ H1 Q I1 q1
  | false => exact ⟨.bl false, H1, I1, rfl, q1⟩
theorem pe_or (ha : PE X a ta) (hb : PE X (.BoolOp .Or (b :: rest) pos) tb) : PE X (.BoolOp .Or (a :: b :: rest) pos) (tOrV ta tb) := by
  intro pins s σ H Q I h
  refine BoolOp_or (thn (ha pins s σ H _ I h) fun v s1 ⟨x, H1, I1, r1, q1⟩ => ?_)
  obtain ⟨c, rfl, q1⟩ := q1
  cases r1
  refine wpAny_truthy_bool ?_
  cases c with
  | false => exact hb pins s1 σ H1 Q I1 q1
  | true => exact ⟨.bl true, H1, I1, rfl, q1⟩
theorem pe_not (ha : PE X a ta) : PE X (.UnaryOp .Not a pos) (tNotV ta) := by
  intro pins s σ H Q I h
  refine UnaryOp_ (thn (ha pins s σ H _ I h) fun v s1 ⟨x, H1, I1, r1, q1⟩ => ?_)
  obtain ⟨c, rfl, q1⟩ := q1
  cases r1
  exact not_of (wpAny_truthy_bool ⟨.bl (!c), H1, I1, rfl, q1⟩)
noncomputable def tIf (t : TT) (ta tb : TE) : TE := fun σ H Q => t σ H fun c H1 => if c = true then ta σ H1 Q else tb σ H1 Q
theorem pe_ifExp {c : Expr} (hc : PT X c tA) (ha : PE X a ta) (hb : PE X b tb) : PE X (.IfExp c a b pos) (tIf tA ta tb) := by
  intro pins s σ H Q I h
  refine wpAny_IfExp (thn (hc pins s σ H _ I h) fun d s1 ⟨H1, I1, q1⟩ => ?_)
  cases d with
  | true => exact ha pins s1 σ H1 Q I1 q1
  | false => exact hb pins s1 σ H1 Q I1 q1
end
end L2
namespace L2
open PySem PySem.Spec PyProof.Rows
noncomputable def SqL (K : PySem.W.Frag) (H : Hp) (a : Addr) (xs : List V) : Prop :=
  Rd H a (.lst xs) ∨
    ∃ (o : Obj) (its : Array Value) (n : Nat), K.lookup a = some o ∧ o.cls = .type "list" ∧ o.dict = none ∧ o.data = .seq its n ∧ its.size ≤ sizeLine ∧ Vals xs its.toList
noncomputable def SqT (K : PySem.W.Frag) (H : Hp) (a : Addr) (xs : List V) : Prop :=
  Rd H a (.tup xs) ∨
    ∃ (o : Obj) (its : Array Value) (n : Nat), K.lookup a = some o ∧ o.cls = .type "tuple" ∧ o.data = .seq its n ∧ its.size ≤ sizeLine ∧ Vals xs its.toList
noncomputable def absV : Value → Option V
  | .none => some .non
  | .bool b => some (.bl b)
  | .int i _ => some (.int i)
  | .str x _ => some (.str x)
  | .bytes b _ => some (.byt b)
  | .float b _ => some (.flt b)
  | .ref a => some (.ref a)
  | .type n => some (.ty n)
  | _ => none
theorem RelV.abs {x : V} {u : Value} (r : RelV x u) : absV u = some x := by
  cases x with
  | non => cases r; rfl
  | bl _ => cases r; rfl
  | int _ => obtain ⟨t, rfl⟩ := r; rfl
  | str _ => obtain ⟨t, rfl⟩ := r; rfl
  | byt _ => obtain ⟨t, rfl⟩ := r; rfl
  | flt _ => obtain ⟨t, rfl⟩ := r; rfl
  | ref _ => cases r; rfl
  | ty _ => cases r; rfl
theorem RelV.inj {x y : V} {u : Value} (r : RelV x u) (q : RelV y u) : x = y := Option.some.inj (r.abs.symm.trans q.abs)
theorem Vals.inj : ∀ {xs ys : List V} {us : List Value}, Vals xs us → Vals ys us → xs = ys
  | _, _, _, .nil, .nil => rfl
  | _, _, _, .cons r t, .cons r' t' => by rw [r.inj r', Vals.inj t t']
section
variable {X : Cx} {pins : List (Addr × Obj)} {σ : St} {H : Hp} {s : Shared} {a : Addr} {xs ys : List V}
theorem SqL.of {K : PySem.W.Frag} (h : H a = some (.lst xs)) : SqL K H a xs := .inl (.inl h)
theorem SqT.of {K : PySem.W.Frag} (h : H a = some (.tup xs)) : SqT K H a xs := .inl (.inl h)
theorem Inv.list (I : Inv X pins σ H s) (h : SqL X.K H a xs) : ∃ its : List Value, Vals xs its ∧ PlainL s.heap a its.toArray ∧ xs.length ≤ sizeLine := by
  rcases h with h | ⟨o, its, n, hk, hc, hd, hs, hz, r⟩
  · obtain ⟨z, its, n, r, e⟩ := h.ok I.hok
    exact ⟨its, r, ⟨_, n, e, rfl, rfl, rfl⟩, z⟩
  · refine ⟨its.toList, r, ⟨o, n, I.kIn a o hk, hc, hd, by simpa using hs⟩, ?_⟩
    have e := r.length
    simp only [Array.length_toList] at e
    omega
theorem Inv.tuple (I : Inv X pins σ H s) (h : SqT X.K H a xs) : ∃ its : List Value, Vals xs its ∧ IsTup s.heap a its.toArray ∧ xs.length ≤ sizeLine := by
  rcases h with h | ⟨o, its, n, hk, hc, hs, hz, r⟩
  · obtain ⟨z, its, r, p⟩ := h.ok I.hok
    exact ⟨its, r, p, z⟩
  · refine ⟨its.toList, r, ⟨o, I.kIn a o hk, hc, n, by simpa using hs⟩, ?_⟩
    have e := r.length
    simp only [Array.length_toList] at e
    omega
theorem Inv.list_inj (I : Inv X pins σ H s) (h : SqL X.K H a xs) (h' : SqL X.K H a ys) : xs = ys := by
  obtain ⟨its, r, ⟨o, n, e, _, _, d⟩, _⟩ := I.list h
  obtain ⟨its', r', ⟨o', n', e', _, _, d'⟩, _⟩ := I.list h'
  rw [e] at e'; cases e'
  rw [d] at d'
  injection d' with d1 _
  have : its = its' := by simpa using congrArg Array.toList d1
  subst this
  exact r.inj r'
theorem Inv.tuple_inj (I : Inv X pins σ H s) (h : SqT X.K H a xs) (h' : SqT X.K H a ys) : xs = ys := by
  obtain ⟨its, r, ⟨o, e, _, n, d⟩, _⟩ := I.tuple h
  obtain ⟨its', r', ⟨o', e', _, n', d'⟩, _⟩ := I.tuple h'
  rw [e] at e'; cases e'
  rw [d] at d'
  injection d' with d1 _
  have : its = its' := by simpa using congrArg Array.toList d1
  subst this
  exact r.inj r'
end
noncomputable abbrev Cx.wish (X : Cx) (E : Value → Shared → Prop) : Cx := { X with xe := E }
noncomputable abbrev Cx.nox (X : Cx) : Cx := X.wish fun _ _ => False
theorem Cx.Ok.wish {X : Cx} (ok : X.Ok) (E : Value → Shared → Prop) : (X.wish E).Ok :=
  ⟨ok.mod, ok.kind, ok.glob, ok.blt, ok.above, ok.inj, ok.has, ok.cab, ok.hd, ok.frames, ok.stk, ok.exf, ok.bs, ok.bsz, ok.noex, ok.exfs, ok.funs, ok.frf⟩
theorem Cx.Ok.unwish {X : Cx} {E : Value → Shared → Prop} (ok : (X.wish E).Ok) : X.Ok :=
  ⟨ok.mod, ok.kind, ok.glob, ok.blt, ok.above, ok.inj, ok.has, ok.cab, ok.hd, ok.frames, ok.stk, ok.exf, ok.bs, ok.bsz, ok.noex, ok.exfs, ok.funs, ok.frf⟩
section
variable {X : Cx} {pins : List (Addr × Obj)} {σ : St} {H : Hp} {s : Shared} {E : Value → Shared → Prop}
theorem Inv.wish (I : Inv X pins σ H s) (E : Value → Shared → Prop) : Inv (X.wish E) pins σ H s := ⟨I.ok.wish E, I.os, I.bare, I.base, I.loc, I.cell, I.free, I.freeC, I.pin, I.hok, I.len⟩
theorem Inv.unwish (I : Inv (X.wish E) pins σ H s) : Inv X pins σ H s := ⟨I.ok.unwish, I.os, I.bare, I.base, I.loc, I.cell, I.free, I.freeC, I.pin, I.hok, I.len⟩
theorem SP.unwish {D : Ends} {f : Flow} {s' : Shared} (h : SP (X.wish E) pins D f s') : SP X pins D f s' := by
  cases f with
  | next => obtain ⟨σ', H', I, q⟩ := h; exact ⟨σ', H', I.unwish, q⟩
  | brk => obtain ⟨σ', H', I, q⟩ := h; exact ⟨σ', H', I.unwish, q⟩
  | cont => obtain ⟨σ', H', I, q⟩ := h; exact ⟨σ', H', I.unwish, q⟩
  | ret u => obtain ⟨v, σ', H', I, r, q⟩ := h; exact ⟨v, σ', H', I.unwish, r, q⟩
end
section
variable {X : Cx} {st : Stmt} {rest : List Stmt} {t u : TS} {e : Expr} {te : TE} {pos : Pos}
noncomputable def tNext : TS := fun D σ H => D.nx σ H
noncomputable def tSeq (t u : TS) : TS := fun D σ H => t { D with nx := u D } σ H
theorem pss_nil : PSs X [] tNext := fun _ _ σ H _ I h => wpAny_execs_nil ⟨σ, H, I, h⟩
theorem pss_cons (h1 : PS X st t) (h2 : PSs X rest u) : PSs X (st :: rest) (tSeq t u) := by
  intro pins s σ H D I h
  refine wpAny_execs_cons (thn (h1 pins s σ H { D with nx := u D } I h) fun f s1 q => ?_)
  cases f with
  | next =>
    obtain ⟨σ', H', I', q⟩ := q
    exact h2 pins s1 σ' H' D I' q
  | ret v => exact q
  | brk => exact q
  | cont => exact q
theorem pss_one (h1 : PS X st t) : PSs X [st] t := by
  intro pins s σ H D I h
  refine wpAny_execs_cons (thn (h1 pins s σ H D I h) fun f s1 q => ?_)
  cases f with
  | next => exact wpAny_execs_nil q
  | ret v => exact q
  | brk => exact q
  | cont => exact q
theorem Inv.quiet {pins : List (Addr × Obj)} {σ : St} {H : Hp} {s : Shared} (I : Inv X pins σ H s) : interactive X.env = false := by simp [interactive, I.ok.kind]
noncomputable def tDrop (te : TE) : TS := fun D σ H => te σ H fun _ H1 => D.nx σ H1
theorem ps_expr (he : PE X e te) (hs : swapsWith e none pos.line X.env = pure false := by rfl) : PS X (.Expr e pos) (tDrop te) := by
  intro pins s σ H D I h
  exact wpAny_Expr_any (thn (he pins s σ H _ I h) fun v s1 ⟨x, H1, I1, r1, q1⟩ => ⟨σ, H1, I1, q1⟩) I.quiet hs
noncomputable def tRet (te : TE) : TS := fun D σ H => te σ H D.rt
theorem ps_ret (he : PE X e te) : PS X (.Return (some e) pos) (tRet te) := by
  intro pins s σ H D I h
  exact wpAny_Return_some (thn (he pins s σ H _ I h) fun v s1 ⟨x, H1, I1, r1, q1⟩ => ⟨x, σ, H1, I1, r1, q1⟩)
noncomputable def tIfS (c : TT) (t u : TS) : TS := fun D σ H => c σ H fun b H1 => if b = true then t D σ H1 else u D σ H1
theorem ps_if {c : Expr} {a b : List Stmt} {tc : TT} (hc : PT X c tc) (ha : PSs X a t) (hb : PSs X b u) : PS X (.If c a b pos) (tIfS tc t u) := by
  intro pins s σ H D I h
  refine wpAny_If (thn (hc pins s σ H _ I h) fun d s1 ⟨H1, I1, q1⟩ => ?_)
  cases d with
  | true => exact ha pins s1 σ H1 D I1 q1
  | false => exact hb pins s1 σ H1 D I1 q1
end
noncomputable abbrev TG := V → St → Hp → (St → Hp → Prop) → Prop
noncomputable abbrev TGs := List V → St → Hp → (St → Hp → Prop) → Prop
noncomputable def PG (X : Cx) (target : Expr) (t : TG) : Prop :=
  ∀ (pins : List (Addr × Obj)) (s : Shared) (σ : St) (H : Hp) (v : V) (u : Value) (Q : St → Hp → Prop), Inv X pins σ H s → RelV v u → t v σ H Q →
    wpAny (model X.prog X.w) X.A (assign target X.env u) (fun _ s' => ∃ σ' H', Inv X pins σ' H' s' ∧ Q σ' H') X.xe s
noncomputable def PGs (X : Cx) (ts : List Expr) (t : TGs) : Prop :=
  ∀ (pins : List (Addr × Obj)) (s : Shared) (σ : St) (H : Hp) (vs : List V) (us : List Value) (Q : St → Hp → Prop), Inv X pins σ H s → Vals vs us → t vs σ H Q →
    wpAny (model X.prog X.w) X.A (assignInOrder ((assignEach ts X.env).map (·.2)) us) (fun _ s' => ∃ σ' H', Inv X pins σ' H' s' ∧ Q σ' H') X.xe s
noncomputable abbrev TSet := V → V → V → Hp → (Hp → Prop) → Prop
noncomputable def PSet (X : Cx) (t : TSet) : Prop :=
  ∀ (pins : List (Addr × Obj)) (s : Shared) (σ : St) (H : Hp) (o i v : V) (ov iv u : Value) (Q : Hp → Prop), Inv X pins σ H s → RelV o ov → RelV i iv → RelV v u → t o i v H Q →
    wpAny (model X.prog X.w) X.A (setItem ov iv u) (fun _ s' => ∃ H', Inv X pins σ H' s' ∧ Q H') X.xe s
section
variable {X : Cx} {pos : Pos}
noncomputable def gName (i : Nat) : TG := fun v σ H Q => Q (σ.set i (some v)) H
theorem pg_name {i : Nat} {x : Str} (hN : X.N.Nodup) (hi : X.N[i]? = some x) (hx : Loc X.env.scope x) (hf : X.fn x = true ∨ X.env.scope.names.lookup x = some .local := by first | exact .inl rfl | exact .inr rfl | assumption) : PG X (.Name x pos) (gName i) := by
  intro pins s σ H v u Q I r h
  exact wpAny_assign_Name (store_ok I hN hi hx r (fun s' I' => ⟨_, H, I', h⟩) hf)
noncomputable def gNil : TGs := fun vs σ H Q => vs = [] ∧ Q σ H
noncomputable def gCons (t : TG) (u : TGs) : TGs := fun vs σ H Q => ∃ v r, vs = v :: r ∧ t v σ H fun σ' H' => u r σ' H' Q
theorem pgs_nil : PGs X [] gNil := by
  intro pins s σ H vs us Q I r h
  obtain ⟨e, h⟩ := h
  subst e
  cases r
  exact assignInOrder_nil ⟨σ, H, I, h⟩
theorem pgs_cons {e : Expr} {es : List Expr} {t : TG} {u : TGs} (h1 : PG X e t) (h2 : PGs X es u)
    (hs : (assignEach (e :: es) X.env).map (·.2) = assign e X.env :: (assignEach es X.env).map (·.2) := by rfl) : PGs X (e :: es) (gCons t u) := by
  intro pins s σ H vs us Q I r h
  obtain ⟨v, vr, e1, h⟩ := h
  subst e1
  cases r with
  | cons r rr =>
    rw [hs]
    refine assignInOrder_cons (thn (h1 pins s σ H _ _ _ I r h) fun _ s1 ⟨σ1, H1, I1, q1⟩ => ?_)
    exact h2 pins s1 σ1 H1 _ _ Q I1 rr q1
noncomputable def gTup (K : PySem.W.Frag) (n : Nat) (t : TGs) : TG := fun v σ H Q => ∃ a xs, v = .ref a ∧ SqT K H a xs ∧ xs.length = n ∧ t xs σ H Q
theorem pg_tup {es : List Expr} {k : Nat} {t : TGs} {n : Nat} (hc : X.calm = true) (h : PGs X es t)
    (hn : (assignEach es X.env).length = n := by rfl) (hst : (assignEach es X.env).findIdx? (·.1) = none := by rfl) : PG X (.Tuple es k pos) (gTup X.K n t) := by
  intro pins s σ H v u Q I r hw
  obtain ⟨a, xs, e1, hq, hl, hw⟩ := hw
  subst e1
  cases r
  obtain ⟨its, rv, ht, hz⟩ := I.tuple hq
  refine assign_Tuple_tuple (I.ok.hd hc) ht (by simp [hn, ← hl, rv.length]) hst fun h' hx => ?_
  have I1 : Inv X pins σ H { s with heap := h' } := I.kept (t' := s.toks) fun b o e => hx b o (Nat.ne_of_lt (Heap.lt_size e)) e
  exact h pins _ σ H xs _ Q I1 (by simpa using rv) hw
noncomputable def gSub (to ti : TE) (t : TSet) : TG := fun v σ H Q => to σ H fun o H1 => ti σ H1 fun i H2 => t o i v H2 fun H3 => Q σ H3
theorem pg_sub {o i : Expr} {to ti : TE} {t : TSet} (ho : PE X o to) (hi : PE X i ti) (hs : PSet X t)
    (ha : ∀ v, assign (.Subscript o i pos) X.env v = (do
      let ov ← holding [v] (eval o X.env)
      let iv ← holding [v, ov] (eval i X.env)
      standAt pos
      holding [v, ov, iv] (setItem ov iv v)
      release [v, ov, iv] []) := by intro _; rfl) : PG X (.Subscript o i pos) (gSub to ti t) := by
  intro pins s σ H v u Q I r h
  rw [ha]
  refine wpAny_bind (wpAny_holding (thn (ho pins s σ H _ I h) fun ov s1 ⟨x, H1, I1, r1, q1⟩ => ?_))
  refine wpAny_bind (wpAny_holding (thn (hi pins s1 σ H1 _ I1 q1) fun iv s2 ⟨y, H2, I2, r2, q2⟩ => ?_))
  refine wpAny_bind (wpAny_standAt (wpAny_bind (wpAny_holding (thn (hs pins s2 σ H2 x y v ov iv u _ I2 r1 r2 r q2) fun _ s3 ⟨H3, I3, q3⟩ => ?_))))
  exact wpAny_release ⟨σ, H3, I3, q3⟩
noncomputable def tAsg (te : TE) (g : TG) : TS := fun D σ H => te σ H fun x H1 => g x σ H1 D.nx
theorem ps_asg {tg e : Expr} {te : TE} {g : TG} (he : PE X e te) (hg : PG X tg g) (hs : swapsWithSole [tg] e pos.line X.env = pure false := by rfl) (hw : swappedStores [tg] e X.env = pure none := by rfl)
    (h1 : (assignEach [tg] X.env).map (·.2) = [assign tg X.env] := by rfl) : PS X (.Assign [tg] e pos) (tAsg te g) := by
  intro pins s σ H D I h
  refine wpAny_Assign_stores (thn (he pins s σ H _ I h) fun v s1 ⟨x, H1, I1, r1, q1⟩ => ?_) hs hw
  rw [h1]
  exact thn (hg pins s1 σ H1 x v _ I1 r1 q1) fun _ s2 q => q
theorem ps_set {i : Nat} {x : Str} {e : Expr} {te : TE} {pos' : Pos} (hN : X.N.Nodup) (hi : X.N[i]? = some x) (hx : Loc X.env.scope x) (he : PE X e te) (hs : swapsWith e (some (.Name x pos')) pos.line X.env = pure false := by rfl) (hf : X.fn x = true ∨ X.env.scope.names.lookup x = some .local := by first | exact .inl rfl | exact .inr rfl | assumption) :
    PS X (.Assign [.Name x pos'] e pos) (tAsg te (gName i)) := by
  intro pins s σ H D I h
  refine wpAny_Assign_Name (thn (he pins s σ H _ I h) fun v s1 ⟨y, H1, I1, r1, q1⟩ => ?_) hs
  exact store_ok I1 hN hi hx r1 (fun s2 I2 => ⟨_, H1, I2, q1⟩) hf
end
section
variable {X : Cx} {pos : Pos}
end
structure It where
  go : Nat → Hp → Prop
  yld : Nat → Hp → V → Hp → Prop
  stop : Nat → Hp → Prop
noncomputable def FpOk (X : Cx) (pins : List (Addr × Obj)) (H : Hp) (b : Addr) : Prop :=
  H b = none ∧ b ≠ X.env.locals ∧ b ∉ X.fs ∧ (b ∈ X.ex ∨ X.s₀.heap.objs.size ≤ b) ∧ (∀ x c, X.env.cells.lookup x = some c → c ≠ b) ∧ ∀ p ∈ X.pn ++ pins, p.1 ≠ b
theorem Inv.fpOk {X : Cx} {pins : List (Addr × Obj)} {σ : St} {H H' : Hp} {s : Shared} {b : Addr} (I : Inv X pins σ H s) (hb : s.heap.objs.size ≤ b) (hn : H' b = none) : FpOk X pins H' b := by
  refine ⟨hn, Nat.ne_of_gt (Nat.lt_of_lt_of_le I.lt hb), I.nofs hb, .inr (Nat.le_trans I.sz hb), fun x c e z => ?_, fun p hp z => ?_⟩
  · obtain ⟨v, q⟩ := I.cell x c e
    exact absurd (Nat.lt_of_lt_of_le q.lt (by rw [z]; exact hb)) (Nat.lt_irrefl _)
  · exact absurd (Nat.lt_of_lt_of_le (Heap.lt_size (I.pin p hp).1) (by rw [z]; exact hb)) (Nat.lt_irrefl _)
structure Turn (P : Program) (w : World) (K : PySem.W.Frag) (tg : Expr) (J : It) (fp : List Addr) (it : Addr) (tn : Nat → Heap → Prop) : Prop where
  mem : it ∈ fp
  obj : ∀ i h, tn i h → ∀ b ∈ fp, ∃ o, h.get? b = some o ∧ ∀ v, o.data ≠ .cell v
  keep : ∀ i h h', tn i h → (∀ b ∈ fp, ∀ o, h.get? b = some o → h'.get? b = some o) → tn i h'
  item : ∀ (X : Cx), X.prog = P → X.w = w → X.K = K → X.calm = true → ∀ (i : Nat) (pins : List (Addr × Obj)) (s : Shared) (σ : St) (H : Hp) (E : Value → Shared → Prop), Inv X pins σ H s → (∀ b ∈ fp, FpOk X pins H b) → tn i s.heap → J.go i H →
    wpAny (model P w) X.A (pyNext (.ref it)) (fun r s1 => ∃ u, r = some u ∧
      wpAny (model P w) X.A (letOwnedTupleGo tg (.ref it) u) (fun _ s2 => ∃ x H', Inv X pins σ H' s2 ∧ RelV x u ∧ J.yld i H x H' ∧ tn (i + 1) s2.heap ∧ ∀ b ∈ fp, H' b = none) E s1) E s
  done : ∀ (X : Cx), X.prog = P → X.w = w → X.K = K → X.calm = true → ∀ (i : Nat) (pins : List (Addr × Obj)) (s : Shared) (σ : St) (H : Hp) (E : Value → Shared → Prop), Inv X pins σ H s → (∀ b ∈ fp, FpOk X pins H b) → tn i s.heap → J.stop i H →
    wpAny (model P w) X.A (pyNext (.ref it)) (fun r s1 => r = none ∧ Inv X pins σ H s1) E s
  self : ∀ (A : Around) (i : Nat) (s : Shared) (Q : Value → Shared → Prop) (E : Value → Shared → Prop), tn i s.heap → Q (.ref it) s → wpAny (model P w) A (pyIter (.ref it)) Q E s
noncomputable abbrev TI := St → Hp → (It → Hp → Prop) → Prop
noncomputable def PIE (X : Cx) (pins : List (Addr × Obj)) (σ : St) (tg : Expr) (R : It → Hp → Prop) (itv : Value) (s2 : Shared) : Prop :=
  ∃ (it : Addr) (fp : List Addr) (tn : Nat → Heap → Prop) (J : It) (H' : Hp), itv = .ref it ∧ Inv X pins σ H' s2 ∧ Turn X.prog X.w X.K tg J fp it tn ∧ tn 0 s2.heap ∧ (∀ b ∈ fp, FpOk X pins H' b) ∧ R J H'
noncomputable def PI (X : Cx) (tg iter : Expr) (wi : TI) : Prop :=
  ∀ (pins : List (Addr × Obj)) (s : Shared) (σ : St) (H : Hp) (R : It → Hp → Prop), Inv X pins σ H s → wi σ H R →
    wpAny (model X.prog X.w) X.A (eval iter X.env) (fun v s1 => wpAny (model X.prog X.w) X.A (pyIter v) (PIE X pins σ tg R) X.xe s1) X.xe s
theorem go_of {M : Model} {A : Around} {E : Value → Shared → Prop} {s : Shared} {tg : Expr} {it : Addr} {u : Value} {o : Obj} {n : String} {vs : Array Value} {Q : Unit → Shared → Prop} (ho : s.heap.get? it = some o) (hc : o.cls = .type n) (hd : o.data = .fields vs)
    (hn : ["enumerate", "zip", "dict_itemiterator", "dict_reverseitemiterator", "odict_iterator", "itertools.zip_longest", "itertools.pairwise"].contains n = false) (hQ : Q () s) : wpAny M A (letOwnedTupleGo tg (.ref it) u) Q E s := by
  unfold letOwnedTupleGo
  cases tg <;> first
    | exact wpAny_pure hQ
    | (cases u <;> first
        | exact wpAny_pure hQ
        | (refine wpAny_bind (wpAny_load ho ?_)
           rw [hc, hd]
           show wpAny M A (if (["enumerate", "zip", "dict_itemiterator", "dict_reverseitemiterator", "odict_iterator", "itertools.zip_longest", "itertools.pairwise"].contains n && vs[0]? == some (rawInt _)) = true then _ else _) Q E s
           rw [if_neg (by intro h; rw [hn, Bool.false_and] at h; cases h)]
           exact wpAny_pure hQ))
noncomputable def Itl (K : PySem.W.Frag) (a : Addr) : It :=
  ⟨fun i H => ∃ xs x, SqL K H a xs ∧ xs[i]? = some x, fun i H x H' => H' = H ∧ ∀ xs, SqL K H a xs → xs[i]? = some x, fun i H => ∃ xs, SqL K H a xs ∧ xs.length ≤ i⟩
noncomputable def Itt (K : PySem.W.Frag) (a : Addr) : It :=
  ⟨fun i H => ∃ xs x, SqT K H a xs ∧ xs[i]? = some x, fun i H x H' => H' = H ∧ ∀ xs, SqT K H a xs → xs[i]? = some x, fun i H => ∃ xs, SqT K H a xs ∧ xs.length ≤ i⟩
noncomputable def Itr (lo : Int) (n : Nat) : It := ⟨fun i _ => i < n, fun i H x H' => H' = H ∧ x = .int (lo + i), fun i _ => n ≤ i⟩
theorem turn_list {P : Program} {w : World} {K : PySem.W.Frag} {tg : Expr} (a it : Addr) : Turn P w K tg (Itl K a) [it] it (fun i h => h.IsListIter it a i) where
  mem := by simp
  obj := fun i h st b hb => by
    have e : b = it := by simpa using hb
    subst e
    obtain ⟨o, e, c, d⟩ := st
    exact ⟨o, e, fun v z => by rw [d] at z; cases z⟩
  keep := fun i h h' st k => st.at fun o e => k it (by simp) o e
  item := by
    intro X hP hw hK hc i pins s σ H E I hf st hg
    subst hP hw hK
    obtain ⟨xs, x, hq, hx⟩ := hg
    obtain ⟨its, rv, p, hz⟩ := I.list hq
    obtain ⟨u, hu, ru⟩ := rv.get hx
    obtain ⟨f0, f1, f2, f3, f4, f5⟩ := hf it (by simp)
    refine wpAny_pyNext_list_item st p.isList (x := u) (by simpa using hu) fun h' st' sb => ?_
    have I1 : Inv X pins σ H { s with heap := h' } := I.turned (t' := s.toks) (fun b o hb e => (sb.2 b hb).trans e) f0 f1 f3 f4 f5
    obtain ⟨o, e, c, d⟩ := id st'
    exact ⟨u, rfl, go_of (s := { s with heap := h' }) e c d (by decide) ⟨x, H, I1, ru, ⟨rfl, fun ys hy => by rw [I.list_inj hy hq]; exact hx⟩, st', fun b hb => (hf b hb).1⟩⟩
  done := by
    intro X hP hw hK hc i pins s σ H E I hf st hg
    subst hP hw hK
    obtain ⟨xs, hq, hx⟩ := hg
    obtain ⟨its, rv, p, hz⟩ := I.list hq
    obtain ⟨f0, f1, f2, f3, f4, f5⟩ := hf it (by simp)
    have hl := rv.length
    exact wpAny_pyNext_list_end (I.ok.hd hc) st p.isList (by simp; omega) fun h' eb => ⟨rfl, I.turned (t' := s.toks) (fun b o hb e => eb b o hb e) f0 f1 f3 f4 f5⟩
  self := fun _ _ _ _ _ st h => wpAny_pyIter_listiter st h
theorem turn_tuple {P : Program} {w : World} {K : PySem.W.Frag} {tg : Expr} (a it : Addr) : Turn P w K tg (Itt K a) [it] it (fun i h => h.IsTupleIter it a i) where
  mem := by simp
  obj := fun i h st b hb => by
    have e : b = it := by simpa using hb
    subst e
    obtain ⟨o, e, c, d⟩ := st
    exact ⟨o, e, fun v z => by rw [d] at z; cases z⟩
  keep := fun i h h' st k => st.at fun o e => k it (by simp) o e
  item := by
    intro X hP hw hK hc i pins s σ H E I hf st hg
    subst hP hw hK
    obtain ⟨xs, x, hq, hx⟩ := hg
    obtain ⟨its, rv, p, hz⟩ := I.tuple hq
    obtain ⟨u, hu, ru⟩ := rv.get hx
    obtain ⟨f0, f1, f2, f3, f4, f5⟩ := hf it (by simp)
    refine wpAny_pyNext_tuple_item st (show s.heap.IsTuple a its.toArray from p) (x := u) (by simpa using hu) fun h' st' sb => ?_
    have I1 : Inv X pins σ H { s with heap := h' } := I.turned (t' := s.toks) (fun b o hb e => (sb.2 b hb).trans e) f0 f1 f3 f4 f5
    obtain ⟨o, e, c, d⟩ := id st'
    exact ⟨u, rfl, go_of (s := { s with heap := h' }) e c d (by decide) ⟨x, H, I1, ru, ⟨rfl, fun ys hy => by rw [I.tuple_inj hy hq]; exact hx⟩, st', fun b hb => (hf b hb).1⟩⟩
  done := by
    intro X hP hw hK hc i pins s σ H E I hf st hg
    subst hP hw hK
    obtain ⟨xs, hq, hx⟩ := hg
    obtain ⟨its, rv, p, hz⟩ := I.tuple hq
    obtain ⟨f0, f1, f2, f3, f4, f5⟩ := hf it (by simp)
    have hl := rv.length
    exact wpAny_pyNext_tuple_end (I.ok.hd hc) st (show s.heap.IsTuple a its.toArray from p) (by simp; omega) fun h' eb => ⟨rfl, I.turned (t' := s.toks) (fun b o hb e => eb b o hb e) f0 f1 f3 f4 f5⟩
  self := fun _ _ _ _ _ st h => wpAny_pyIter_tupleiter st h
theorem turn_range {P : Program} {w : World} {K : PySem.W.Frag} {tg : Expr} (it : Addr) (lo : Int) (n : Nat) : Turn P w K tg (Itr lo n) [it] it (fun i h => IsRangeIter h it (lo + (i : Nat) * 1) ((n : Int) - (i : Nat)) 1) where
  mem := by simp
  obj := fun i h st b hb => by
    have e : b = it := by simpa using hb
    subst e
    exact ⟨_, st, fun v z => by
      have z' : Data.fields _ = Data.cell v := z
      cases z'⟩
  keep := fun i h h' st k => k it (by simp) _ st
  item := by
    intro X hP hw hK hc i pins s σ H E I hf st hg
    subst hP hw hK
    obtain ⟨f0, f1, f2, f3, f4, f5⟩ := hf it (by simp)
    have W := Walks.range (prog := X.prog) (w := X.w) (I.ok.hd hc) it lo 1 n
    refine W.item i s _ _ hg st fun v h' tk hv st' kk => ?_
    obtain ⟨t, rfl⟩ := hv
    have I1 : Inv X pins σ H { s with heap := h', toks := tk } := I.turned (fun b o hb e => kk b o (by simpa using hb) e) f0 f1 f3 f4 f5
    refine ⟨_, rfl, go_of (s := { s with heap := h', toks := tk }) (n := "range_iterator") st' rfl rfl (by decide) ⟨.int (lo + i), H, I1, ⟨t, ?_⟩, ⟨rfl, rfl⟩, st', fun b hb => (hf b hb).1⟩⟩
    rw [Int.mul_one]
  done := by
    intro X hP hw hK hc i pins s σ H E I hf st hg
    subst hP hw hK
    obtain ⟨f0, f1, f2, f3, f4, f5⟩ := hf it (by simp)
    exact wpAny_pyNext_range_end (I.ok.hd hc) st (by have : n ≤ i := hg; omega) fun h' eb => ⟨rfl, I.turned (t' := s.toks) (fun b o hb e => eb b o hb e) f0 f1 f3 f4 f5⟩
  self := fun _ _ _ _ _ st h => wpAny_pyIter_rangeiter st h
end L2
namespace L2
open PySem PySem.Spec PyProof.Rows
section
variable {X : Cx} {tg : Expr}
noncomputable def iList (K : PySem.W.Frag) (tl : TE) : TI := fun σ H R => tl σ H fun x H1 => ∃ a, x = .ref a ∧ (∃ xs, SqL K H1 a xs) ∧ R (Itl K a) H1
noncomputable def iTup (K : PySem.W.Frag) (tl : TE) : TI := fun σ H R => tl σ H fun x H1 => ∃ a, x = .ref a ∧ (∃ xs, SqT K H1 a xs) ∧ R (Itt K a) H1
theorem pi_list {l : Expr} {tl : TE} (hl : PE X l tl) : PI X tg l (iList X.K tl) := by
  intro pins s σ H R I h
  refine thn (hl pins s σ H _ I h) fun v s1 ⟨x, H1, I1, r1, q1⟩ => ?_
  obtain ⟨a, e, ⟨xs, hq⟩, q⟩ := q1
  subst e
  cases r1
  obtain ⟨its, rv, p, hz⟩ := I1.list hq
  refine wpAny_pyIter_list p.isList ?_
  refine ⟨s1.heap.objs.size, [s1.heap.objs.size], _, _, H1, rfl, I1.kept (t' := s1.toks) fun b o e => Heap.get?_push_of_some _ e, turn_list a _, ⟨_, Heap.get?_push_size _ rfl, rfl, rfl⟩, fun b hb => ?_, q⟩
  have e : b = s1.heap.objs.size := by simpa using hb
  subst e
  exact I1.fpOk (Nat.le_refl _) (I1.hok.fresh (Nat.le_refl _))
theorem pi_tup {l : Expr} {tl : TE} (hl : PE X l tl) : PI X tg l (iTup X.K tl) := by
  intro pins s σ H R I h
  refine thn (hl pins s σ H _ I h) fun v s1 ⟨x, H1, I1, r1, q1⟩ => ?_
  obtain ⟨a, e, ⟨xs, hq⟩, q⟩ := q1
  subst e
  cases r1
  obtain ⟨its, rv, p, hz⟩ := I1.tuple hq
  refine wpAny_pyIter_tuple (show s1.heap.IsTuple a its.toArray from p) ?_
  refine ⟨s1.heap.objs.size, [s1.heap.objs.size], _, _, H1, rfl, I1.kept (t' := s1.toks) fun b o e => Heap.get?_push_of_some _ e, turn_tuple a _, ⟨_, Heap.get?_push_size _ rfl, rfl, rfl⟩, fun b hb => ?_, q⟩
  have e : b = s1.heap.objs.size := by simpa using hb
  subst e
  exact I1.fpOk (Nat.le_refl _) (I1.hok.fresh (Nat.le_refl _))
theorem range_it {pins : List (Addr × Obj)} {σ : St} {H : Hp} {s : Shared} {R : It → Hp → Prop} {E : Value → Shared → Prop} {lo hi : Int} {t u v : Tok} {tk : Nat} (I : Inv X pins σ H s) (h1 : -(2 ^ 62) ≤ lo) (h2 : lo < 2 ^ 62) (h3 : -(2 ^ 62) ≤ hi) (h4 : hi < 2 ^ 62)
    (q : R (Itr lo (hi - lo).toNat) H) : wpAny (model X.prog X.w) X.A (pyIter (.ref s.heap.objs.size)) (PIE X pins σ tg R) E { s with heap := s.heap.push { cls := .type "range", data := .fields #[.int lo t, .int hi u, .int 1 v] }, toks := tk } := by
  refine wpAny_pyIter_range (IsRange.new ..) (small_one h1 h2 h3 h4) ?_
  have I1 : Inv X pins σ H { s with heap := s.heap.push { cls := .type "range", data := .fields #[.int lo t, .int hi u, .int 1 v] }, toks := tk } := I.kept fun b o e => Heap.get?_push_of_some _ e
  refine ⟨(s.heap.push { cls := .type "range", data := .fields #[.int lo t, .int hi u, .int 1 v] }).objs.size, [(s.heap.push { cls := .type "range", data := .fields #[.int lo t, .int hi u, .int 1 v] }).objs.size], _, _, H, rfl,
    I1.kept (t' := tk) fun b o e => Heap.get?_push_of_some _ e, turn_range _ lo (hi - lo).toNat, ?_, fun b hb => ?_, q⟩
  · have e1 : lo + ((0 : Nat) : Int) * 1 = lo := by simp
    have e2 : (((hi - lo).toNat : Nat) : Int) - ((0 : Nat) : Int) = Builtin.Range.rangeSize lo hi 1 := by rw [rangeSize_one]; split <;> omega
    show IsRangeIter _ _ (lo + ((0 : Nat) : Int) * 1) ((((hi - lo).toNat : Nat) : Int) - ((0 : Nat) : Int)) 1
    rw [e1, e2]
    exact Heap.get?_push_size _ rfl
  · have e : b = (s.heap.push { cls := .type "range", data := .fields #[.int lo t, .int hi u, .int 1 v] }).objs.size := by simpa using hb
    subst e
    exact I1.fpOk (Nat.le_refl _) (I1.hok.fresh (Nat.le_refl _))
noncomputable def iRng1 (ta : TA) : TI := fun σ H R => ta σ H fun vs H1 => ∃ j : Int, vs = [.int j] ∧ -(2 ^ 62) ≤ j ∧ j < 2 ^ 62 ∧ R (Itr 0 j.toNat) H1
noncomputable def iRng2 (ta : TA) : TI := fun σ H R => ta σ H fun vs H1 => ∃ i j : Int, vs = [.int i, .int j] ∧ (-(2 ^ 62) ≤ i ∧ i < 2 ^ 62 ∧ -(2 ^ 62) ≤ j ∧ j < 2 ^ 62) ∧ R (Itr i (j - i).toNat) H1
theorem pi_range1 {a : Expr} {ta : TA} {p pos : Pos} (hg : Gl X "range") (hm : X.mg "range" = none) (ha : PA X [a] ta) (hs : starEach [a] X.env = [(false, eval a X.env)] := by rfl) : PI X tg (.Call (.Name "range" p) [a] [] pos) (iRng1 ta) := by
  intro pins s σ H R I h
  refine Call_ (ld_blt I hg hm boot_range (PyProof.Rows.callWith_type1 (thn (ha pos pins s σ H _ I h) fun us s1 ⟨vs, H1, I1, r1, q1⟩ => ?_) hs rfl))
  obtain ⟨j, e, q1, q2, q⟩ := q1
  subst e
  cases r1 with
  | cons r rr =>
    cases rr
    obtain ⟨t, rfl⟩ := r
    exact call_range_1 (range_it I1 (by omega) (by omega) q1 q2 (by simpa using q))
theorem pi_range2 {a b : Expr} {ta : TA} {p pos : Pos} (hg : Gl X "range") (hm : X.mg "range" = none) (ha : PA X [a, b] ta) (hs : starEach [a, b] X.env = [(false, eval a X.env), (false, eval b X.env)] := by rfl) (hs2 : starEach [b] X.env = [(false, eval b X.env)] := by rfl) :
    PI X tg (.Call (.Name "range" p) [a, b] [] pos) (iRng2 ta) := by
  intro pins s σ H R I h
  refine Call_ (ld_blt I hg hm boot_range (PyProof.Rows.callWith_type1 (thn (ha pos pins s σ H _ I h) fun us s1 ⟨vs, H1, I1, r1, q1⟩ => ?_) (by rw [hs, hs2]) (by rw [hs2]; rfl)))
  obtain ⟨i, j, e, ⟨q1, q2, q3, q4⟩, q⟩ := q1
  subst e
  cases r1 with
  | cons r rr =>
    cases rr with
    | cons r' rr =>
      cases rr
      obtain ⟨t, rfl⟩ := r
      obtain ⟨t', rfl⟩ := r'
      exact call_range_2 (range_it I1 q1 q2 q3 q4 q)
noncomputable def tFor (wi : TI) (g : TG) (tb : TS) : TS := fun D σ H => wi σ H fun J H1 => ∃ W : Nat → Nat → St → Hp → Prop, (∃ m, W 0 m σ H1) ∧ ∀ i m σ H, W i m σ H →
  (J.stop i H ∧ D.nx σ H) ∨ (J.go i H ∧ ∃ N : St → Hp → Prop, (∀ σ' H', N σ' H' → ∃ m', m' < m ∧ W (i + 1) m' σ' H') ∧ ∀ x H', J.yld i H x H' → g x σ H' fun σ2 H2 => tb { D with nx := N, ct := N, bk := D.nx } σ2 H2)
noncomputable def pinsAt (fp : List Addr) (h : Heap) : List (Addr × Obj) := fp.filterMap fun b => (h.get? b).map fun o => (b, o)
theorem mem_pinsAt {fp : List Addr} {h : Heap} {b : Addr} {o : Obj} (hb : b ∈ fp) (e : h.get? b = some o) : (b, o) ∈ pinsAt fp h := List.mem_filterMap.mpr ⟨b, hb, by rw [e]; rfl⟩
theorem of_pinsAt {fp : List Addr} {h : Heap} {p : Addr × Obj} (hp : p ∈ pinsAt fp h) : p.1 ∈ fp ∧ h.get? p.1 = some p.2 := by
  obtain ⟨b, hb, e⟩ := List.mem_filterMap.mp hp
  cases q : h.get? b with
  | none => rw [q] at e; cases e
  | some o =>
    rw [q] at e
    have e' : (b, o) = p := Option.some.inj e
    subst e'
    exact ⟨hb, q⟩
theorem Inv.pinned {pins : List (Addr × Obj)} {σ : St} {H : Hp} {s : Shared} {fp : List Addr} (I : Inv X pins σ H s) (hf : ∀ b ∈ fp, FpOk X pins H b) (ho : ∀ b ∈ fp, ∃ o, s.heap.get? b = some o ∧ ∀ v, o.data ≠ .cell v) : Inv X (pins ++ pinsAt fp s.heap) σ H s :=
  I.pins_of fun p hp => (List.mem_append.mp hp).elim (fun z => I.pin p (List.mem_append_right _ z)) fun z => by
    obtain ⟨hb, e⟩ := of_pinsAt z
    obtain ⟨f0, f1, f2, _⟩ := hf p.1 hb
    obtain ⟨o, e', d⟩ := ho p.1 hb
    rw [e] at e'; cases e'
    exact ⟨e, f0, f1, f2, d⟩
theorem Inv.unpinned {pins pl : List (Addr × Obj)} {σ : St} {H : Hp} {s : Shared} (I : Inv X (pins ++ pl) σ H s) : Inv X pins σ H s := I.pins_of fun p hp => I.pin p (List.mem_append_right _ (List.mem_append_left _ hp))
theorem ps_for {iter : Expr} {body : List Stmt} {wi : TI} {g : TG} {tb : TS} {pos : Pos} (hp : PassesOwn (model X.prog X.w) X.A X.env X.xe) (hc : X.calm = true) (hi : PI X tg iter wi) (hg : PG X tg g) (hb : PSs X body tb)
    (hs : ∀ x, foldedSetIterable iter X.env x = pure x := by intro _; rfl) : PS X (.For tg iter body [] pos) (tFor wi g tb) := by
  intro pins s σ H D I h
  refine wpAny_For (thn (hi pins s σ H _ I h) fun v s1 h1 => thn h1 fun itv s2 h2 => ?_) hs
  obtain ⟨it, fp, tn, J, H2, e, I2, T, st2, f2, W, ⟨m0, w0⟩, turn⟩ := h2
  subst e
  have stat : ∀ {H' : Hp}, (∀ b ∈ fp, H' b = none) → ∀ b ∈ fp, FpOk X pins H' b := fun hn b hb => ⟨hn b hb, (f2 b hb).2⟩
  refine codeAny_forLoop_any (fun n s' => ∃ i σ' H', Inv X pins σ' H' s' ∧ tn i s'.heap ∧ (∀ b ∈ fp, H' b = none) ∧ W i n σ' H') ?_ m0 ⟨0, σ, H2, I2, st2, fun b hb => (f2 b hb).1, w0⟩
  rintro n s3 ⟨i, σ3, H3, I3, st3, fr3, w3⟩
  rcases turn i n σ3 H3 w3 with ⟨stop, qn⟩ | ⟨go, N, hN, step⟩
  · refine wpAny_passesOwn hp (thn (T.done X rfl rfl rfl hc i pins s3 σ3 H3 X.xe I3 (stat fr3) st3 stop) fun r s4 ⟨hr, I4⟩ => ?_)
    subst hr
    exact wpAny_execs_nil ⟨σ3, H3, I4, qn⟩
  · refine wpAny_passesOwn hp (thn (T.item X rfl rfl rfl hc i pins s3 σ3 H3 X.xe I3 (stat fr3) st3 go) fun r s4 ⟨u, hr, h4⟩ => ?_)
    subst hr
    refine wpAny_passesOwn hp (thn h4 fun _ s5 ⟨x, H5, I5, r5, y5, st5, fr5⟩ => ?_)
    have I5' := I5.pinned (stat fr5) (T.obj _ _ st5)
    refine wpAny_passesOwn hp (thn (hg _ s5 σ3 H5 x u _ I5' r5 (step x H5 y5)) fun _ s6 ⟨σ6, H6, I6, q6⟩ => ?_)
    refine wpAny_passesOwn hp (thn (hb _ s6 σ6 H6 _ I6 q6) fun f s7 q7 => ?_)
    have again : ∀ {σ7 : St} {H7 : Hp}, Inv X (pins ++ pinsAt fp s5.heap) σ7 H7 s7 → N σ7 H7 → ∃ m, m < n ∧ ∃ i σ' H', Inv X pins σ' H' s7 ∧ tn i s7.heap ∧ (∀ b ∈ fp, H' b = none) ∧ W i m σ' H' := fun {σ7 H7} I7 n7 => by
      obtain ⟨m', hm, w7⟩ := hN σ7 H7 n7
      refine ⟨m', hm, i + 1, σ7, H7, I7.unpinned, T.keep _ _ _ st5 fun b hb o e => (I7.pin (b, o) (List.mem_append_right _ (List.mem_append_right _ (mem_pinsAt hb e)))).1, fun b hb => ?_, w7⟩
      obtain ⟨o, e, d⟩ := T.obj _ _ st5 b hb
      exact (I7.pin (b, o) (List.mem_append_right _ (List.mem_append_right _ (mem_pinsAt hb e)))).2.1
    cases f with
    | next => obtain ⟨σ7, H7, I7, n7⟩ := q7; exact again I7 n7
    | cont => obtain ⟨σ7, H7, I7, n7⟩ := q7; exact again I7 n7
    | brk => obtain ⟨σ7, H7, I7, q7⟩ := q7; exact ⟨σ7, H7, I7.unpinned, q7⟩
    | ret v => obtain ⟨x7, σ7, H7, I7, r7, q7⟩ := q7; exact ⟨x7, σ7, H7, I7.unpinned, r7, q7⟩
end
end L2
namespace L2
open PySem PySem.Spec PyProof.Rows
noncomputable abbrev R2 := V → V → Hp → VK → Prop
noncomputable def OpR (X : Cx) (f : Value → Value → Sem Value) (r : R2) : Prop :=
  ∀ (pins : List (Addr × Obj)) (s : Shared) (σ : St) (H : Hp) (x y : V) (v u : Value) (Q : VK), Inv X pins σ H s → RelV x v → RelV y u → r x y H Q →
    wpAny (model X.prog X.w) X.A (f v u) (EP X pins σ Q) X.xe s
noncomputable def UnR (X : Cx) (f : Value → Sem Value) (r : V → Hp → VK → Prop) : Prop :=
  ∀ (pins : List (Addr × Obj)) (s : Shared) (σ : St) (H : Hp) (x : V) (v : Value) (Q : VK), Inv X pins σ H s → RelV x v → r x H Q →
    wpAny (model X.prog X.w) X.A (f v) (EP X pins σ Q) X.xe s
noncomputable def CallR (X : Cx) (f : Value) (r : List V → Hp → VK → Prop) : Prop :=
  ∀ (pins : List (Addr × Obj)) (s : Shared) (σ : St) (H : Hp) (xs : List V) (us : List Value) (Q : VK), Inv X pins σ H s → Vals xs us → r xs H Q →
    wpAny (model X.prog X.w) X.A (call f us) (EP X pins σ Q) X.xe s
noncomputable def TruR (X : Cx) (r : V → Hp → (Bool → Hp → Prop) → Prop) : Prop :=
  ∀ (pins : List (Addr × Obj)) (s : Shared) (σ : St) (H : Hp) (x : V) (v : Value) (Q : Bool → Hp → Prop), Inv X pins σ H s → RelV x v → r x H Q →
    wpAny (model X.prog X.w) X.A (truthy v) (TP X pins σ Q) X.xe s
noncomputable def tOp (r : R2) (ta tb : TE) : TE := fun σ H Q => ta σ H fun x H1 => tb σ H1 fun y H2 => r x y H2 Q
noncomputable def tUn (r : V → Hp → VK → Prop) (ta : TE) : TE := fun σ H Q => ta σ H fun x H1 => r x H1 Q
noncomputable def rI (C : Int → Int → Prop) (g : Int → Int → V) : R2 := fun x y H Q => ∃ i j, x = .int i ∧ y = .int j ∧ C i j ∧ Q (g i j) H
noncomputable def rI0 (g : Int → Int → V) : R2 := fun x y H Q => ∃ i j, x = .int i ∧ y = .int j ∧ Q (g i j) H
noncomputable def rU (g : Int → V) : V → Hp → VK → Prop := fun x H Q => ∃ i, x = .int i ∧ Q (g i) H
section
variable {X : Cx} {a b c : Expr} {ta tb tc : TE} {pos : Pos}
theorem binT (ha : PE X a ta) (hb : PE X b tb) {pins : List (Addr × Obj)} {s : Shared} {σ : St} {H : Hp} {R : V → V → Hp → Prop} (I : Inv X pins σ H s)
    (h : ta σ H fun x H1 => tb σ H1 fun y H2 => R x y H2) {Q : Value → Shared → Prop} {f : Value → Value → Sem Value}
    (hf : ∀ v u s2 x y H2, Inv X pins σ H2 s2 → RelV x v → RelV y u → R x y H2 → wpAny (model X.prog X.w) X.A (f v u) Q X.xe s2) :
    wpAny (model X.prog X.w) X.A (eval a X.env) (fun v s₁ => wpAny (model X.prog X.w) X.A (eval b X.env) (fun u s₂ => wpAny (model X.prog X.w) X.A (f v u) Q X.xe s₂) X.xe s₁) X.xe s := by
  refine thn (ha pins s σ H _ I h) fun v s1 ⟨x, H1, I1, r1, q1⟩ => ?_
  refine thn (hb pins s1 σ H1 _ I1 q1) fun u s2 ⟨y, H2, I2, r2, q2⟩ => ?_
  exact hf v u s2 x y H2 I2 r1 r2 q2
theorem pe_op {op : Operator} {r : R2} (ho : OpR X (binaryOp op) r) (ha : PE X a ta) (hb : PE X b tb) : PE X (.BinOp a op b pos) (tOp r ta tb) := by
  intro pins s σ H Q I h
  exact wpAny_BinOp (binT ha hb I h fun v u s2 x y H2 I2 rx ry q => ho pins s2 σ H2 x y v u Q I2 rx ry q)
theorem pe_un {op : UnaryOp} {r : V → Hp → VK → Prop} (ho : UnR X (unaryOp op) r) (ha : PE X a ta) : PE X (.UnaryOp op a pos) (tUn r ta) := by
  intro pins s σ H Q I h
  exact UnaryOp_ (thn (ha pins s σ H _ I h) fun v s1 ⟨x, H1, I1, r1, q1⟩ => ho pins s1 σ H1 x v Q I1 r1 q1)
theorem opI {f : Value → Value → Sem Value} {C : Int → Int → Prop} {g : Int → Int → Int}
    (rule : ∀ (i j : Int) (t u : Tok) (s : Shared) (Q : Value → Shared → Prop) (E : Value → Shared → Prop), C i j → Q (.int (g i j) s.toks) { s with toks := s.toks + 1 } → wpAny (model X.prog X.w) X.A (f (.int i t) (.int j u)) Q E s) :
    OpR X f (rI C fun i j => .int (g i j)) := by
  intro pins s σ H x y v u Q I rx ry h
  obtain ⟨i, j, rfl, rfl, hc, q⟩ := h
  obtain ⟨t, rfl⟩ := rx
  obtain ⟨t', rfl⟩ := ry
  exact rule i j t t' s _ _ hc ⟨.int (g i j), H, I.tok _, ⟨_, rfl⟩, q⟩
theorem opI0 {f : Value → Value → Sem Value} {g : Int → Int → Int}
    (rule : ∀ (i j : Int) (t u : Tok) (s : Shared) (Q : Value → Shared → Prop) (E : Value → Shared → Prop), Q (.int (g i j) s.toks) { s with toks := s.toks + 1 } → wpAny (model X.prog X.w) X.A (f (.int i t) (.int j u)) Q E s) :
    OpR X f (rI0 fun i j => .int (g i j)) := by
  intro pins s σ H x y v u Q I rx ry h
  obtain ⟨i, j, rfl, rfl, q⟩ := h
  obtain ⟨t, rfl⟩ := rx
  obtain ⟨t', rfl⟩ := ry
  exact rule i j t t' s _ _ ⟨.int (g i j), H, I.tok _, ⟨_, rfl⟩, q⟩
theorem opB0 {f : Value → Value → Sem Value} {g : Int → Int → Bool}
    (rule : ∀ (i j : Int) (t u : Tok) (s : Shared) (Q : Value → Shared → Prop) (E : Value → Shared → Prop), Q (.bool (g i j)) s → wpAny (model X.prog X.w) X.A (f (.int i t) (.int j u)) Q E s) :
    OpR X f (rI0 fun i j => .bl (g i j)) := by
  intro pins s σ H x y v u Q I rx ry h
  obtain ⟨i, j, rfl, rfl, q⟩ := h
  obtain ⟨t, rfl⟩ := rx
  obtain ⟨t', rfl⟩ := ry
  exact rule i j t t' s _ _ ⟨.bl (g i j), H, I, rfl, q⟩
noncomputable def CMul (i j : Int) : Prop := (-(2 ^ 64) < i ∧ i < 2 ^ 64) ∨ (-(2 ^ 64) < j ∧ j < 2 ^ 64)
theorem CMul.ok {i j : Int} (h : CMul i j) : IntMulOk i j := by
  rcases h with ⟨h1, h2⟩ | ⟨h1, h2⟩
  · exact .of_left (intBits_le_64 h1 h2)
  · exact .of_right (intBits_le_64 h1 h2)
theorem op_add : OpR X (binaryOp .Add) (rI0 fun i j => .int (i + j)) := opI0 fun _ _ _ _ _ _ _ q => add_int q
theorem op_sub : OpR X (binaryOp .Sub) (rI0 fun i j => .int (i - j)) := opI0 fun _ _ _ _ _ _ _ q => sub_int q
theorem op_mod : OpR X (binaryOp .Mod) (rI (fun _ j => 0 < j) fun i j => .int (i % j)) := opI fun i j _ _ _ _ _ hc q => by
  have h1 : (0 : Int) < j := hc
  exact mod_int' (by omega) (by rw [Int.fmod_eq_emod_of_nonneg i (by omega)]; exact q)
theorem unI {f : Value → Sem Value} {g : Int → Int}
    (rule : ∀ (i : Int) (t : Tok) (s : Shared) (Q : Value → Shared → Prop) (E : Value → Shared → Prop), Q (.int (g i) s.toks) { s with toks := s.toks + 1 } → wpAny (model X.prog X.w) X.A (f (.int i t)) Q E s) :
    UnR X f (rU fun i => .int (g i)) := by
  intro pins s σ H x v Q I rx h
  obtain ⟨i, rfl, q⟩ := h
  obtain ⟨t, rfl⟩ := rx
  exact rule i t s _ _ ⟨.int (g i), H, I.tok _, ⟨_, rfl⟩, q⟩
theorem un_neg : UnR X (unaryOp .USub) (rU fun i => .int (-i)) := unI fun _ _ _ _ _ q => neg_int q
end
noncomputable def scal : V → V → Bool
  | .non, .non => true | .non, .int _ => true | .int _, .non => true | .non, .bl _ => true | .bl _, .non => true | .non, .str _ => true | .str _, .non => true
  | .int _, .int _ => true | .bl _, .bl _ => true | .str _, .str _ => true | .byt _, .byt _ => true
  | .int _, .str _ => true | .str _, .int _ => true | .bl _, .str _ => true | .str _, .bl _ => true
  | _, _ => false
noncomputable def rEq : R2 := fun x y H Q => scal x y = true ∧ Q (.bl (decide (x = y))) H
noncomputable def rNe : R2 := fun x y H Q => scal x y = true ∧ Q (.bl (!decide (x = y))) H
theorem dec_int {i j : Int} : decide (V.int i = V.int j) = (i == j) := by
  rw [Bool.eq_iff_iff]
  simp
theorem dec_bl {i j : Bool} : decide (V.bl i = V.bl j) = (i == j) := by
  rw [Bool.eq_iff_iff]
  simp
theorem dec_str {i j : Str} : decide (V.str i = V.str j) = (i == j) := by
  rw [Bool.eq_iff_iff]
  simp
theorem dec_byt {i j : Array UInt8} : decide (V.byt i = V.byt j) = (i.toList == j.toList) := by
  rw [Bool.eq_iff_iff]
  cases i
  cases j
  simp
section
variable {X : Cx} {a b c : Expr} {ta tb tc : TE} {pos : Pos}
theorem fin_bl {pins : List (Addr × Obj)} {σ : St} {H : Hp} {s : Shared} {Q : VK} {k k' : Bool} (I : Inv X pins σ H s) (q : Q (.bl k) H) (e : k = k') : EP X pins σ Q (.bool k') s := by
  subst e
  exact ⟨.bl k, H, I, rfl, q⟩
theorem op_eq : OpR X (compareOp .Eq) rEq := by
  intro pins s σ H x y v u Q I rx ry h
  obtain ⟨hs, q⟩ := h
  cases x with
  | non =>
    cases rx
    cases y with
    | non => cases ry; exact PySem.EqNone.eq_none_none (fin_bl I q (by simp))
    | bl j => cases ry; exact PySem.EqNone.eq_none_bool (fin_bl I q (by simp))
    | int j => obtain ⟨t', rfl⟩ := ry; exact PySem.EqNone.eq_none_int (fin_bl I q (by simp))
    | str j => obtain ⟨t', rfl⟩ := ry; exact PySem.EqNone.eq_none_str (fin_bl I q (by simp))
    | _ => exact absurd (show false = true from hs) Bool.false_ne_true
  | bl i =>
    cases rx
    cases y with
    | non => cases ry; exact PySem.EqNone.eq_bool_none (fin_bl I q (by simp))
    | bl j => cases ry; exact eq_bool (fin_bl I q dec_bl)
    | str j => obtain ⟨t', rfl⟩ := ry; exact PySem.EqMixed.eq_bool_str (fin_bl I q (by simp))
    | _ => exact absurd (show false = true from hs) Bool.false_ne_true
  | int i =>
    obtain ⟨t, rfl⟩ := rx
    cases y with
    | non => cases ry; exact PySem.EqNone.eq_int_none (fin_bl I q (by simp))
    | int j => obtain ⟨t', rfl⟩ := ry; exact eq_int (fin_bl I q dec_int)
    | str j => obtain ⟨t', rfl⟩ := ry; exact PySem.EqMixed.eq_int_str (fin_bl I q (by simp))
    | _ => exact absurd (show false = true from hs) Bool.false_ne_true
  | str i =>
    obtain ⟨t, rfl⟩ := rx
    cases y with
    | non => cases ry; exact PySem.EqNone.eq_str_none (fin_bl I q (by simp))
    | bl j => cases ry; exact PySem.EqMixed.eq_str_bool (fin_bl I q (by simp))
    | int j => obtain ⟨t', rfl⟩ := ry; exact PySem.EqMixed.eq_str_int (fin_bl I q (by simp))
    | str j => obtain ⟨t', rfl⟩ := ry; exact eq_str (fin_bl I q dec_str)
    | _ => exact absurd (show false = true from hs) Bool.false_ne_true
  | byt i =>
    obtain ⟨t, rfl⟩ := rx
    cases y with
    | byt j => obtain ⟨t', rfl⟩ := ry; exact PySem.W.eq_bytes (fin_bl I q dec_byt)
    | _ => exact absurd (show false = true from hs) Bool.false_ne_true
  | _ => cases y <;> exact absurd (show false = true from hs) Bool.false_ne_true
theorem op_ne : OpR X (compareOp .NotEq) rNe := by
  intro pins s σ H x y v u Q I rx ry h
  obtain ⟨hs, q⟩ := h
  cases x with
  | non =>
    cases rx
    cases y with
    | non => cases ry; exact PySem.EqNone.ne_none_none (fin_bl I q (by simp))
    | bl j => cases ry; exact PySem.EqNone.ne_none_bool (fin_bl I q (by simp))
    | int j => obtain ⟨t', rfl⟩ := ry; exact PySem.EqNone.ne_none_int (fin_bl I q (by simp))
    | str j => obtain ⟨t', rfl⟩ := ry; exact PySem.EqNone.ne_none_str (fin_bl I q (by simp))
    | _ => exact absurd (show false = true from hs) Bool.false_ne_true
  | bl i =>
    cases rx
    cases y with
    | non => cases ry; exact PySem.EqNone.ne_bool_none (fin_bl I q (by simp))
    | bl j => cases ry; exact ne_bool (fin_bl I q (congrArg not dec_bl))
    | str j => obtain ⟨t', rfl⟩ := ry; exact PySem.EqMixed.ne_bool_str (fin_bl I q (by simp))
    | _ => exact absurd (show false = true from hs) Bool.false_ne_true
  | int i =>
    obtain ⟨t, rfl⟩ := rx
    cases y with
    | non => cases ry; exact PySem.EqNone.ne_int_none (fin_bl I q (by simp))
    | int j => obtain ⟨t', rfl⟩ := ry; exact ne_int (fin_bl I q (congrArg not dec_int))
    | str j => obtain ⟨t', rfl⟩ := ry; exact PySem.EqMixed.ne_int_str (fin_bl I q (by simp))
    | _ => exact absurd (show false = true from hs) Bool.false_ne_true
  | str i =>
    obtain ⟨t, rfl⟩ := rx
    cases y with
    | non => cases ry; exact PySem.EqNone.ne_str_none (fin_bl I q (by simp))
    | bl j => cases ry; exact PySem.EqMixed.ne_str_bool (fin_bl I q (by simp))
    | int j => obtain ⟨t', rfl⟩ := ry; exact PySem.EqMixed.ne_str_int (fin_bl I q (by simp))
    | str j => obtain ⟨t', rfl⟩ := ry; exact ne_str (fin_bl I q (congrArg not dec_str))
    | _ => exact absurd (show false = true from hs) Bool.false_ne_true
  | byt i =>
    obtain ⟨t, rfl⟩ := rx
    cases y with
    | byt j => obtain ⟨t', rfl⟩ := ry; exact PySem.W.ne_bytes (fin_bl I q (congrArg not dec_byt))
    | _ => exact absurd (show false = true from hs) Bool.false_ne_true
  | _ => cases y <;> exact absurd (show false = true from hs) Bool.false_ne_true
theorem op_lt : OpR X (compareOp .Lt) (rI0 fun i j => .bl (decide (i < j))) := opB0 fun _ _ _ _ _ _ _ q => lt_int q
theorem op_le : OpR X (compareOp .LtE) (rI0 fun i j => .bl (decide (i ≤ j))) := opB0 fun _ _ _ _ _ _ _ q => le_int q
theorem op_gt : OpR X (compareOp .Gt) (rI0 fun i j => .bl (decide (j < i))) := opB0 fun _ _ _ _ _ _ _ q => gt_int q
theorem op_lt_str : OpR X (compareOp .Lt) (fun x y H Q => ∃ i j, x = .str i ∧ y = .str j ∧ Q (.bl (decide (i.cps.toList < j.cps.toList))) H) := by
  intro pins s σ H x y v u Q I rx ry h
  obtain ⟨i, j, rfl, rfl, q⟩ := h
  obtain ⟨t, rfl⟩ := rx
  obtain ⟨t', rfl⟩ := ry
  exact lt_str (fin_bl I q rfl)
theorem OpR.or {f : Value → Value → Sem Value} {r r' : R2} (h : OpR X f r) (h' : OpR X f r') : OpR X f (fun x y H Q => r x y H Q ∨ r' x y H Q) := by
  intro pins s σ H x y v u Q I rx ry q
  rcases q with q | q
  · exact h pins s σ H x y v u Q I rx ry q
  · exact h' pins s σ H x y v u Q I rx ry q
theorem nomark (b : Expr) {op : CmpOp} (h : op ≠ .In := by decide) (h2 : op ≠ .NotIn := by decide) : behindInMarks op b = false := by
  have e1 : (op == CmpOp.In) = false := by cases op <;> first | rfl | exact absurd rfl h
  have e2 : (op == CmpOp.NotIn) = false := by cases op <;> first | rfl | exact absurd rfl h2
  cases b <;> simp [behindInMarks, e1, e2]
theorem pe_cmpR {op : CmpOp} {r : R2} (ho : OpR X (compareOp op) r) (ha : PE X a ta) (hb : PE X b tb) (hm : behindInMarks op b = false) : PE X (.Compare a [op] [b] pos) (tOp r ta tb) := by
  intro pins s σ H Q I h
  exact wpAny_Compare1 (binT ha hb I h fun v u s2 x y H2 I2 rx ry q => ho pins s2 σ H2 x y v u Q I2 rx ry q) hm
noncomputable def tTest (t : TE) : TT := fun σ H Q => t σ H fun x H' => ∃ k, x = .bl k ∧ Q k H'
theorem pt_cmpR {op : CmpOp} {r : R2} (ho : OpR X (compareOp op) r) (ha : PE X a ta) (hb : PE X b tb) (hm : behindInMarks op b = false) : PT X (.Compare a [op] [b] pos) (tTest (tOp r ta tb)) := by
  intro pins s σ H Q I h
  refine wpAny_isTrue_Compare1 (thn (ha pins s σ H _ I h) fun v s1 ⟨x, H1, I1, r1, q1⟩ => thn (hb pins s1 σ H1 _ I1 q1) fun u s2 ⟨y, H2, I2, r2, q2⟩ =>
    thn (ho pins s2 σ H2 x y v u _ I2 r1 r2 q2) fun c s3 ⟨z, H3, I3, r3, k, e, q3⟩ => ?_) hm
  subst e
  cases r3
  exact wpAny_truthy_bool ⟨H3, I3, q3⟩
noncomputable def tChain (r r' : R2) (ta tb tc : TE) : TE := fun σ H Q => ta σ H fun x H1 => tb σ H1 fun y H2 => r x y H2 fun z H3 => ∃ k, z = .bl k ∧
  (if k = true then tc σ H3 fun w' H4 => r' y w' H4 Q else Q (.bl false) H3)
theorem pe_chain {op op' : CmpOp} {r r' : R2} (ho : OpR X (compareOp op) r) (ho' : OpR X (compareOp op') r') (ha : PE X a ta) (hb : PE X b tb) (hc : PE X c tc)
    (hm : lastMarks [op, op'] [b, c] = false := by with_unfolding_all rfl) : PE X (.Compare a [op, op'] [b, c] pos) (tChain r r' ta tb tc) := by
  intro pins s σ H Q I h
  refine Compare_chain (thn (ha pins s σ H _ I h) fun v s1 ⟨x, H1, I1, r1, q1⟩ => chain_link (thn (hb pins s1 σ H1 _ I1 q1) fun u s2 ⟨y, H2, I2, r2, q2⟩ =>
    thn (ho pins s2 σ H2 x y v u _ I2 r1 r2 q2) fun d s3 ⟨z, H3, I3, r3, k, e, q3⟩ => ?_)) hm
  subst e
  cases r3
  refine wpAny_truthy_bool ?_
  cases k with
  | false => exact ite_ff ⟨.bl false, H3, I3, rfl, q3⟩
  | true => exact ite_tt (chain_last (thn (hc pins s3 σ H3 _ I3 q3) fun w' s4 ⟨z', H4, I4, r4, q4⟩ => ho' pins s4 σ H4 y z' u w' Q I4 r2 r4 q4))
noncomputable def TruV (K : PySem.W.Frag) (x : V) (H : Hp) (k : Bool) : Prop :=
  match x with
  | .non => k = false
  | .bl b => k = b
  | .int i => k = (i != 0)
  | .str y => y.length ≤ sizeLine ∧ k = ((y.length : Int) != 0)
  | .byt y => y.size ≤ sizeLine ∧ k = ((y.size : Int) != 0)
  | .ref p => (∃ xs, SqL K H p xs ∧ k = !xs.isEmpty) ∨ (∃ xs, SqT K H p xs ∧ k = !xs.isEmpty) ∨ ∃ kvs, H p = some (.dK kvs) ∧ k = !kvs.isEmpty
  | _ => False
theorem isEmpty_kv {κ : Type} {kvs : List (κ × V)} {vs : List (κ × Value)} (r : KV kvs vs) : (!vs.isEmpty) = !kvs.isEmpty := by
  cases r <;> rfl
theorem isEmpty_of {xs : List V} {its : List Value} (r : Vals xs its) : (!its.toArray.isEmpty) = !xs.isEmpty := by
  cases r <;> simp
theorem line63 : (sizeLine : Nat) < 2 ^ 63 := by rw [sizeLine_eq]; decide
theorem tru_ok : TruR X (fun x H Q => ∃ k, TruV X.K x H k ∧ Q k H) := by
  intro pins s σ H x v Q I rx h
  obtain ⟨k, e, q⟩ := h
  have hl := line63
  have hs : sizeLine = 16777216 := sizeLine_eq
  cases x with
  | non =>
    cases rx
    have e' : k = false := e
    subst e'
    exact truthy_none ⟨H, I, q⟩
  | bl b =>
    cases rx
    have e' : k = b := e
    subst e'
    exact wpAny_truthy_bool ⟨H, I, q⟩
  | int i =>
    obtain ⟨t, rfl⟩ := rx
    have e' : k = (i != 0) := e
    subst e'
    exact PySem.P.truthy_int ⟨H, I, q⟩
  | str y =>
    obtain ⟨t, rfl⟩ := rx
    obtain ⟨hy, e'⟩ : y.length ≤ sizeLine ∧ k = ((y.length : Int) != 0) := e
    subst e'
    exact PySem.P.truthy_str (by omega) ⟨H, I.tok _, q⟩
  | byt y =>
    obtain ⟨t, rfl⟩ := rx
    obtain ⟨hy, e'⟩ : y.size ≤ sizeLine ∧ k = ((y.size : Int) != 0) := e
    subst e'
    exact PySem.W.truthy_bytes (by omega) ⟨H, I.tok _, q⟩
  | ref p =>
    cases rx
    have e' : (∃ xs, SqL X.K H p xs ∧ k = !xs.isEmpty) ∨ (∃ xs, SqT X.K H p xs ∧ k = !xs.isEmpty) ∨ ∃ kvs, H p = some (.dK kvs) ∧ k = !kvs.isEmpty := e
    rcases e' with ⟨xs, hx, e'⟩ | ⟨xs, hx, e'⟩ | ⟨kvs, hx, e'⟩
    · subst e'
      obtain ⟨its, r, pl, hz⟩ := I.list hx
      have hlen := r.length
      exact wpAny_truthy_list pl.isList (by simp only [List.size_toArray]; omega) ⟨H, I.tok _, by rw [isEmpty_of r]; exact q⟩
    · subst e'
      obtain ⟨its, r, pl, hz⟩ := I.tuple hx
      have hlen := r.length
      exact truthy_tuple pl (by simp only [List.size_toArray]; omega) ⟨H, I.tok _, by rw [isEmpty_of r]; exact q⟩
    · subst e'
      obtain ⟨hz, hS, vs, r, m⟩ : kvs.length ≤ sizeLine ∧ (p == sysModules) = false ∧ ∃ vs, KV kvs vs ∧ s.heap.DictOf (mixKind X.prog X.w) p vs := I.hok p _ hx
      have hlen : kvs.length = vs.length := Paired.length r
      exact wpAny_truthy_dict hS m (by omega) ⟨H, I.tok _, by rw [isEmpty_kv r]; exact q⟩
  | _ => exact (show False from e).elim
theorem pt_truth (ha : PE X a ta) (he : ∀ whole, isTrue a X.env whole = (do let v ← whole; standAt a.pos; holding [v] (truthy v))) :
    PT X a (fun σ H Q => ta σ H fun x H' => ∃ k, TruV X.K x H' k ∧ Q k H') := by
  intro pins s σ H Q I h
  exact isTrue_plain (thn (ha pins s σ H _ I h) fun v s1 ⟨x, H1, I1, r1, q1⟩ => tru_ok pins s1 σ H1 x v Q I1 r1 q1) (he _)
theorem op_add_str : OpR X (binaryOp .Add) (fun x y H Q => ∃ i j, x = .str i ∧ y = .str j ∧ i.length + j.length ≤ sizeLine ∧ Q (.str (i ++ j)) H) := by
  intro pins s σ H x y v u Q I rx ry h
  obtain ⟨i, j, rfl, rfl, hz, q⟩ := h
  obtain ⟨t, rfl⟩ := rx
  obtain ⟨t', rfl⟩ := ry
  exact add_str (fun t' tk => ⟨.str (i ++ j), H, I.tok _, ⟨_, rfl⟩, q⟩) hz
theorem vals1 {x : V} {us : List Value} (r : Vals [x] us) : ∃ u, us = [u] ∧ RelV x u := by
  cases r with
  | cons r1 r2 => cases r2; exact ⟨_, rfl, r1⟩
theorem vals2 {x y : V} {us : List Value} (r : Vals [x, y] us) : ∃ u w', us = [u, w'] ∧ RelV x u ∧ RelV y w' := by
  cases r with
  | cons r1 r2 =>
    cases r2 with
    | cons r3 r4 => cases r4; exact ⟨_, _, rfl, r1, r3⟩
theorem call_abs : CallR X (.builtin "abs") (fun xs H Q => ∃ i, xs = [.int i] ∧ Q (.int (if i < 0 then -i else i)) H) := by
  intro pins s σ H xs us Q I r h
  obtain ⟨i, rfl, q⟩ := h
  obtain ⟨u, rfl, t, rfl⟩ := vals1 r
  exact call_abs_int fun u tk => ⟨.int (if i < 0 then -i else i), H, I.tok _, ⟨_, rfl⟩, q⟩
theorem call_max2 (hc : X.calm = true) : CallR X (.builtin "max") (fun xs H Q => ∃ i j, xs = [.int i, .int j] ∧ Q (.int (if j > i then j else i)) H) := by
  intro pins s σ H xs us Q I r h
  obtain ⟨i, j, rfl, q⟩ := h
  obtain ⟨u, w', rfl, ⟨t, rfl⟩, ⟨t', rfl⟩⟩ := vals2 r
  refine max_two_ints (I.ok.hd hc) fun h' tk k => ⟨_, H, I.kept k, ?_, q⟩
  by_cases hj : j > i
  · rw [if_pos hj, if_pos hj]; exact ⟨_, rfl⟩
  · rw [if_neg hj, if_neg hj]; exact ⟨_, rfl⟩
theorem call_min2 (hc : X.calm = true) : CallR X (.builtin "min") (fun xs H Q => ∃ i j, xs = [.int i, .int j] ∧ Q (.int (if j < i then j else i)) H) := by
  intro pins s σ H xs us Q I r h
  obtain ⟨i, j, rfl, q⟩ := h
  obtain ⟨u, w', rfl, ⟨t, rfl⟩, ⟨t', rfl⟩⟩ := vals2 r
  refine min_two_ints (I.ok.hd hc) fun h' tk k => ⟨_, H, I.kept k, ?_, q⟩
  by_cases hj : j < i
  · rw [if_pos hj, if_pos hj]; exact ⟨_, rfl⟩
  · rw [if_neg hj, if_neg hj]; exact ⟨_, rfl⟩
end
end L2
namespace L2
open PySem PySem.Spec PyProof.Rows
structure ObjM (h : Heap) (x dx C : Addr) (mA : Str → Option Value) : Prop where
  obj : h.get? x = some (PySem.W.instObj C dx)
  ns : h.Ns1 dx mA
  ne : dx ≠ x
theorem lookIn_ns {h : Heap} {dx : Addr} {mA : Str → Option Value} (n : h.Ns1 dx mA) : ∃ od, h.get? dx = some od ∧ ∀ name, PySem.W.lookIn name od = some (mA name) := by
  obtain ⟨o, es, ep, ho, hd, hk, _, hm⟩ := n
  refine ⟨o, ho, fun name => ?_⟩
  have e := hm name
  unfold nsFind findBy at e
  rw [← Array.find?_toList] at e
  unfold PySem.W.lookIn
  rw [hd]
  dsimp only
  split
  · rename_i y q
    rw [q] at e
    exact congrArg some e
  · rename_i q
    rw [q] at e
    have a : es.toList.any (·.refKey) = false := by
      rw [List.any_eq_false]
      intro y hy
      obtain ⟨z, t, hkey⟩ := hk y (Array.mem_toList_iff.mp hy)
      simp [DictEntry.refKey, hkey]
    have a' : ¬ es.toList.any (·.refKey) = true := by rw [a]; exact Bool.false_ne_true
    rw [if_neg a']
    exact congrArg some e
theorem ObjM.look {h : Heap} {x dx C : Addr} {mA : Str → Option Value} (I : ObjM h x dx C mA) : ∃ od, PySem.W.InstAt h x (PySem.W.instObj C dx) C (some od) ∧ ∀ name, PySem.W.lookIn name od = some (mA name) :=
  let ⟨od, ho, hl⟩ := lookIn_ns I.ns
  ⟨od, ⟨I.obj, rfl, rfl, ho⟩, hl⟩
section
variable {prog : Program} {w : World} {A : Around} {E : Value → Shared → Prop} {s : Shared} {K : PySem.W.Frag} {x dx C f : Addr} {mA : Str → Option Value} {name : Str} {v : Value}
theorem get_map {expr : Bool} {Q : Value → Shared → Prop} (X : K.In s.heap) (I : ObjM s.heap x dx C mA) (hg : PySem.W.plainGet K C name = true) (hh : PySem.W.hasDictIn K C = true)
    (ha : PySem.W.findIn K (.ref C) name = some none) (hv : mA name = some v) (hv' : PySem.W.handedIn v = true) (h : Q v { s with toks := s.toks + 1 }) :
    wpAny (model prog w) A (getAttr (.ref x) name expr) Q E s := by
  obtain ⟨od, J, hl⟩ := I.look
  exact PySem.W.get_value X J (PySem.W.plainGet_of hg).1 (PySem.W.findObj_own hh ha rfl (by rw [hl, hv])) hv' h
theorem get_meth {pl : Sem Bool} {Q : Value × List Value → Shared → Prop} (X : K.In s.heap) (I : ObjM s.heap x dx C mA) (hg : PySem.W.plainGet K C name = true)
    (hf : PySem.W.findIn K (.ref C) name = some (some (.ref f))) (ht : PySem.W.isFn K (.ref f) = true) (hv : mA name = none) (h : Q (.ref f, [.ref x]) s) :
    wpAny (model prog w) A (getMethod (.ref x) name pl) Q E s := by
  obtain ⟨od, J, hl⟩ := I.look
  exact PySem.W.method_fn X J (PySem.W.plainGet_of hg).1 (PySem.W.plainGet_of hg).2 hf (beq_iff_eq.mp ht) (by show (PySem.W.lookIn name od).map (·.isSome) = some false; rw [hl, hv]; rfl) h
theorem set_map {ns : List Str} {Q : Unit → Shared → Prop} (X : K.In s.heap) (I : ObjM s.heap x dx C mA)
    (hs : PySem.W.findIn K (.ref C) "__setattr__" = some (some (.builtin "object.__setattr__"))) (hp : PySem.W.plainOver K C = true) (ht : PySem.W.takerIn K C name = some none) (hh : PySem.W.hasDictIn K C = true)
    (hw : PySem.Within mA ns) (hsz : ns.length ≤ sizeLine)
    (h : ∀ h', ObjM h' x dx C (fun y => if y = name then some v else mA y) → Heap.SameBut dx s.heap h' → Q () { s with heap := h', toks := s.toks + 2 }) :
    wpAny (model prog w) A (setAttr (.ref x) name v) Q E s := by
  obtain ⟨od, J, hl⟩ := I.look
  refine PySem.W.set_plain X J hs (PySem.W.osa_open (s := { s with toks := s.toks + 1 }) (r := none) X J hp ht fun b => ?_)
  obtain ⟨cd, hc, hd'⟩ := PySem.W.any_some hh
  have hx : s.heap.get? x = some ⟨.ref C, some dx, .plain, #[]⟩ := I.obj
  refine wpAny_bind (wpAny_pure (wpAny_bind (wpAny_bind (wpAny_loadPart hx (wpAny_bind (PySem.W.Looks.here (s := { s with toks := s.toks + 1 }) (PySem.W.looks_clsIn X hc) ?_))))))
  rw [hd']
  refine wpAny_pure (a := some dx) (wpAny_bind (wpAny_pure (wpAny_bind ?_)))
  refine wpAny_nsSet1 (s := { s with toks := s.toks + 1 }) I.ns fun h' hn2 hs2 => ?_
  obtain ⟨oD, esD, epD, hoD, hdD, hcD⟩ := hn2.count (PySem.Within.cons name v hw)
  refine wpAny_bind (wpAny_lookBehind hoD (by rw [hdD]; exact pastItsLine_dict (Nat.le_trans hcD (by rw [List.length_cons]; omega))) ?_)
  exact wpAny_pure (h _ ⟨(hs2.2 _ (Ne.symm I.ne)).trans I.obj, hn2, I.ne⟩ hs2)
theorem make_map {R : Result → Shared → Prop} {vs : List Value} {kw : List (Str × Value)} (X : K.In s.heap) (hm : PySem.W.makesIn K C = true)
    (hi : PySem.W.findIn K (.ref C) "__init__" = some (some (.ref f))) (hf : PySem.W.typeIn K (.ref f) = some (.type "function"))
    (h : codeAny (model prog w) (A.under (.builtin "type.__call__" ⟨.ref C :: vs, kw⟩)) (.call (.ref f) ⟨.ref (s.heap.objs.size + 1) :: vs, kw⟩) (PySem.W.InitBack (s.heap.objs.size + 1) R)
      { s with heap := (s.heap.push PySem.W.emptyDict).push (PySem.W.instObj C s.heap.objs.size) }) :
    codeAny (model prog w) A (.call (.ref C) ⟨vs, kw⟩) R s := by
  obtain ⟨hh, g, d, t, os⟩ := s
  exact PySem.W.make_core (PySem.W.makes_of X hm) (PySem.W.looks_findIn X hi) (fun self => PySem.W.bind_fn X self hf) (.inl rfl) h
end
noncomputable def putF (f : Str) (v : V) : List (Str × V) → List (Str × V)
  | [] => [(f, v)]
  | (g, x) :: r => if g = f then (g, v) :: r else (g, x) :: putF f v r
theorem lookup_putF (f g : Str) (v : V) : ∀ fs : List (Str × V), (putF f v fs).lookup g = if g = f then some v else fs.lookup g
  | [] => by
    show List.lookup g [(f, v)] = _
    by_cases h : g = f
    · have hb : (g == f) = true := beq_iff_eq.mpr h
      simp only [List.lookup, hb, if_pos h]
    · have hb : (g == f) = false := beq_eq_false_iff_ne.mpr h
      simp only [List.lookup, hb, if_neg h]
  | (k, x) :: r => by
    have ih := lookup_putF f g v r
    rw [show putF f v ((k, x) :: r) = (if k = f then (k, v) :: r else (k, x) :: putF f v r) from rfl]
    by_cases hk : k = f
    · rw [if_pos hk]
      by_cases h : g = k
      · have hb : (g == k) = true := beq_iff_eq.mpr h
        simp only [List.lookup, hb, if_pos (h.trans hk)]
      · have hb : (g == k) = false := beq_eq_false_iff_ne.mpr h
        simp only [List.lookup, hb, if_neg (fun e : g = f => h (e.trans hk.symm))]
    · rw [if_neg hk]
      by_cases h : g = k
      · have hb : (g == k) = true := beq_iff_eq.mpr h
        simp only [List.lookup, hb, if_neg (fun e : g = f => hk (h.symm.trans e))]
      · have hb : (g == k) = false := beq_eq_false_iff_ne.mpr h
        simp only [List.lookup, hb]
        exact ih
theorem keys_putF (f : Str) (v : V) : ∀ fs : List (Str × V), f ∈ (putF f v fs).map (·.1) ∧ ∀ g, g ∈ fs.map (·.1) → g ∈ (putF f v fs).map (·.1)
  | [] => ⟨by simp [putF], fun g h => by simp at h⟩
  | (k, x) :: r => by
    obtain ⟨i1, i2⟩ := keys_putF f v r
    rw [show putF f v ((k, x) :: r) = (if k = f then (k, v) :: r else (k, x) :: putF f v r) from rfl]
    by_cases hk : k = f
    · rw [if_pos hk]
      subst hk
      exact ⟨by simp, fun g h => by simpa using h⟩
    · rw [if_neg hk]
      refine ⟨?_, fun g h => ?_⟩
      · rw [List.map_cons]
        exact List.mem_cons_of_mem _ i1
      · rw [List.map_cons] at h ⊢
        rcases List.mem_cons.mp h with e | e
        · exact List.mem_cons.mpr (.inl e)
        · exact List.mem_cons_of_mem _ (i2 g e)
theorem length_putF (f : Str) (v : V) : ∀ fs : List (Str × V), (putF f v fs).length ≤ fs.length + 1
  | [] => by simp [putF]
  | (k, x) :: r => by
    have ih := length_putF f v r
    rw [show putF f v ((k, x) :: r) = (if k = f then (k, v) :: r else (k, x) :: putF f v r) from rfl]
    by_cases hk : k = f
    · rw [if_pos hk, List.length_cons, List.length_cons]; omega
    · rw [if_neg hk, List.length_cons, List.length_cons]; omega
theorem RelO.some_of {v : V} {o : Option Value} (r : RelO (some v) o) : ∃ u, o = some u ∧ RelV v u := by
  cases o with
  | none => exact (show False from r).elim
  | some u => exact ⟨u, rfl, r⟩
theorem RelO.none_of {o : Option Value} (r : RelO none o) : o = none := by
  cases o with
  | none => rfl
  | some u => exact (show False from r).elim
theorem handed_of {v : V} {u : Value} (r : RelV v u) : PySem.W.handedIn u = true := by
  cases v with
  | non => cases (show u = Value.none from r); rfl
  | bl b => cases (show u = Value.bool b from r); rfl
  | int i => obtain ⟨t, e⟩ := (show ∃ t, u = Value.int i t from r); cases e; rfl
  | str x => obtain ⟨t, e⟩ := (show ∃ t, u = Value.str x t from r); cases e; rfl
  | byt b => obtain ⟨t, e⟩ := (show ∃ t, u = Value.bytes b t from r); cases e; rfl
  | flt b => obtain ⟨t, e⟩ := (show ∃ t, u = Value.float b t from r); cases e; rfl
  | ref a => cases (show u = Value.ref a from r); rfl
  | ty n => cases (show u = Value.type n from r); rfl
section
variable {P : Program} {w : World} {H H' : Hp} {h h' : Heap} {a C dx : Addr} {fs fs' : List (Str × V)}
theorem ins_get (hok : HOk P w H h) (e : H a = some (.ins C dx fs)) : ∃ mA, ObjM h a dx C mA ∧ (∀ f, RelO (fs.lookup f) (mA f)) ∧ PySem.Within mA (fs.map (·.1)) ∧ fs.length ≤ 1000 ∧ H dx = some (.own a) := by
  obtain ⟨d, z, ne, ob, mA, n, r, q⟩ := (show ObjOk P w H h a (.ins C dx fs) from hok a _ e)
  exact ⟨mA, ⟨ob, n, ne⟩, r, q, z, d⟩
end
structure Cls (K : PySem.W.Frag) (C : Addr) : Prop where
  pg : PySem.W.plainGet K C Str.empty = true
  hd : PySem.W.hasDictIn K C = true
  po : PySem.W.plainOver K C = true
  sa : PySem.W.findIn K (.ref C) "__setattr__" = some (some (.builtin "object.__setattr__"))
theorem Cls.get {K : PySem.W.Frag} {C : Addr} (c : Cls K C) (f : Str) : PySem.W.plainGet K C f = true := c.pg
noncomputable def NoAttr (K : PySem.W.Frag) (C : Addr) (f : Str) : Prop := PySem.W.findIn K (.ref C) f = some none
theorem NoAttr.taker {K : PySem.W.Frag} {C : Addr} {f : Str} (n : NoAttr K C f) : PySem.W.takerIn K C f = some none := by
  unfold PySem.W.takerIn
  rw [show PySem.W.findIn K (.ref C) f = some none from n]
  rfl
structure Meth (K : PySem.W.Frag) (C : Addr) (m : Str) (f : Addr) : Prop where
  at_ : PySem.W.findIn K (.ref C) m = some (some (.ref f))
  fn : PySem.W.isFn K (.ref f) = true
  kp : PySem.W.keepIn K (.ref f) = true
section
variable {X : Cx} {pins : List (Addr × Obj)} {σ : St} {H : Hp} {s : Shared} {a C dx : Addr} {fs : List (Str × V)} {f : Str} {v : V} {A : Around} {E : Value → Shared → Prop}
theorem getattr_ok {b : Bool} {Q : Value → Shared → Prop} (I : Inv X pins σ H s) (e : H a = some (.ins C dx fs)) (c : Cls X.K C) (n : NoAttr X.K C f) (l : fs.lookup f = some v)
    (h : ∀ u s', Inv X pins σ H s' → RelV v u → Q u s') : wpAny (model X.prog X.w) A (getAttr (.ref a) f b) Q E s := by
  obtain ⟨mA, O, r, _, _, _⟩ := ins_get I.hok e
  obtain ⟨u, hu, ru⟩ := RelO.some_of (v := v) (o := mA f) (by rw [← l]; exact r f)
  exact get_map I.kIn O (c.get f) c.hd n hu (handed_of ru) (h u _ (I.tok _) ru)
theorem getmeth_ok {m : Str} {g : Addr} {pl : Sem Bool} {Q : Value × List Value → Shared → Prop} (I : Inv X pins σ H s) (e : H a = some (.ins C dx fs)) (c : Cls X.K C) (k : Meth X.K C m g) (l : fs.lookup m = none)
    (h : Q (.ref g, [.ref a]) s) : wpAny (model X.prog X.w) A (getMethod (.ref a) m pl) Q E s := by
  obtain ⟨mA, O, r, _, _, _⟩ := ins_get I.hok e
  have hn : mA m = none := RelO.none_of (by rw [← l]; exact r m)
  exact get_meth I.kIn O (c.get m) k.at_ k.fn hn h
theorem setattr_ok {y : V} {u : Value} {Q : Unit → Shared → Prop} (I : Inv X pins σ H s) (e : H a = some (.ins C dx fs)) (c : Cls X.K C) (n : NoAttr X.K C f) (hl : fs.length < 1000) (ry : RelV y u)
    (h : ∀ s', Inv X pins σ (upd H a (.ins C dx (putF f y fs))) s' → Q () s') : wpAny (model X.prog X.w) A (setAttr (.ref a) f u) Q E s := by
  obtain ⟨mA, O, r, wi, _, ho⟩ := ins_get I.hok e
  have hz : (fs.map (·.1)).length ≤ sizeLine := by rw [List.length_map, sizeLine_eq]; omega
  refine set_map I.kIn O c.sa c.po n.taker c.hd wi hz fun h' O' sb => h _ ?_
  have hd : ∃ o, h'.get? dx = some o := let ⟨o, _, _, e', _⟩ := O'.ns; ⟨o, e'⟩
  refine I.write (x := a) (e := dx) (by rw [e]; exact True.intro) (.inr ho) (fun b q hb z => (sb.2 b hb).trans z) hd ?_
  refine ⟨by rw [upd_ne O.ne]; exact ho, ?_, O.ne, O'.obj, _, O'.ns, fun g => ?_, fun g hg => ?_⟩
  · have := length_putF f y fs; omega
  · show RelO ((putF f y fs).lookup g) (if g = f then some u else mA g)
    rw [lookup_putF]
    by_cases q : g = f
    · rw [if_pos q, if_pos q]; exact ry
    · rw [if_neg q, if_neg q]; exact r g
  · by_cases q : g = f
    · rw [q]; exact (keys_putF f y fs).1
    · refine (keys_putF f y fs).2 g (wi g fun z => hg ?_)
      show (if g = f then some u else mA g) = none
      rw [if_neg q]; exact z
theorem Inv.made (I : Inv X pins σ H s) : Inv X pins σ (upd (upd H s.heap.objs.size (.own (s.heap.objs.size + 1))) (s.heap.objs.size + 1) (.ins C s.heap.objs.size []))
    { s with heap := (s.heap.push PySem.W.emptyDict).push (PySem.W.instObj C s.heap.objs.size) } := by
  have e1 : (s.heap.push PySem.W.emptyDict).get? s.heap.objs.size = some PySem.W.emptyDict := Heap.get?_push_size s.heap rfl
  have e2 : ((s.heap.push PySem.W.emptyDict).push (PySem.W.instObj C s.heap.objs.size)).get? (s.heap.objs.size + 1) = some (PySem.W.instObj C s.heap.objs.size) := by
    have := Heap.get?_push_size (s.heap.push PySem.W.emptyDict) (o := PySem.W.instObj C s.heap.objs.size) rfl
    rwa [Heap.size_push] at this
  have e3 : (s.heap.push PySem.W.emptyDict).Ns s.heap.objs.size (fun _ => none) := ⟨PySem.W.emptyDict, #[], _, e1, rfl, (fun e he => absurd he (by simp)), fun _ => rfl⟩
  have I1 := I.laid (a := s.heap.objs.size) (o := .own (s.heap.objs.size + 1)) (h' := s.heap.push PySem.W.emptyDict) (t' := s.toks) (fun b u q => Heap.get?_push_of_some _ q) (Nat.le_refl _) ⟨_, e1⟩
  refine I1.laid (a := s.heap.objs.size + 1) (o := .ins C s.heap.objs.size []) (t' := s.toks) (fun b u q => Heap.get?_push_of_some _ q) (Nat.le_of_eq (Heap.size_push _ _)) ?_
  have ne : s.heap.objs.size ≠ s.heap.objs.size + 1 := Nat.ne_of_lt (Nat.lt_succ_self _)
  refine ⟨by rw [upd_ne ne, upd_same], Nat.zero_le _, ne, e2, fun _ => none, (Heap.Ns1.of_empty e3).at fun o q => Heap.get?_push_of_some _ q, fun _ => True.intro, fun y hy => absurd rfl hy⟩
theorem attr_of {prog : Program} {w : World} {env : Env} {e : Expr} {f : Str} {pos : Pos} {s : Shared} {Q : Value → Shared → Prop} (hb : attributeBase e f env (eval e env) = eval e env)
    (h : wpAny (model prog w) A (eval e env) (fun o s₁ => wpAny (model prog w) A (getAttr o f true) Q E s₁) E s) : wpAny (model prog w) A (eval (.Attribute e f pos) env) Q E s :=
  Attribute_any_ h (by rw [arm_eval_Attribute, hb])
end
noncomputable def tFld (K : PySem.W.Frag) (ta : TE) (f : Str) : TE := fun σ H Q => ta σ H fun x H1 => ∃ a C dx fs v, x = .ref a ∧ H1 a = some (.ins C dx fs) ∧ Cls K C ∧ NoAttr K C f ∧ fs.lookup f = some v ∧ Q v H1
noncomputable def sFld (K : PySem.W.Frag) (ta tv : TE) (f : Str) : TS := fun D σ H => tv σ H fun y H1 => ta σ H1 fun x H2 => ∃ a C dx fs, x = .ref a ∧ H2 a = some (.ins C dx fs) ∧ Cls K C ∧ NoAttr K C f ∧ fs.length < 1000 ∧
  D.nx σ (upd H2 a (.ins C dx (putF f y fs)))
section
variable {X : Cx} {o e value : Expr} {f : Str} {pos pos' tpos : Pos} {ta tv : TE}
theorem pe_fld (he : PE X e ta) (hb : attributeBase e f X.env (eval e X.env) = eval e X.env) : PE X (.Attribute e f pos) (tFld X.K ta f) := by
  intro pins s σ H Q I h
  refine attr_of hb (thn (he pins s σ H _ I h) fun u s1 ⟨x, H1, I1, rx, a, C, dx, fs, v, ex, ea, c, n, l, q⟩ => ?_)
  subst ex
  obtain rfl : u = Value.ref a := rx
  exact getattr_ok I1 ea c n l fun u' s2 I2 ru => ⟨v, H1, I2, ru, q⟩
theorem ps_fld (ha : PE X o ta) (hv : PE X value tv) (hs : swapsWith value (some (.Attribute o f pos')) pos.line X.env = pure false) : PS X (.Assign [.Attribute o f pos'] value pos) (sFld X.K ta tv f) := by
  intro pins s σ H D I h
  refine plainObj_wpAny_Assign_Attribute (thn (hv pins s σ H _ I h) fun u s1 ⟨y, H1, I1, ry, q⟩ => thn (ha pins s1 σ H1 _ I1 q) fun ov s2 ⟨x, H2, I2, rx, a, C, dx, fs, ex, ea, c, n, l, q2⟩ => ?_) hs
  subst ex
  obtain rfl : ov = Value.ref a := rx
  exact setattr_ok I2 ea c n l ry fun s3 I3 => ⟨σ, _, I3, q2⟩
end
section
variable {X : Cx} {pins : List (Addr × Obj)} {σ : St} {H : Hp} {s : Shared} {A : Around} {E : Value → Shared → Prop} {Q : Value → Shared → Prop} {c : Value} {b : Bool}
inductive TyOf (K : PySem.W.Frag) (H : Hp) : V → Value → Prop where
  | non : TyOf K H .non (.type "NoneType")
  | bl (x : Bool) : TyOf K H (.bl x) (.type "bool")
  | int (i : Int) : TyOf K H (.int i) (.type "int")
  | str (x : Str) : TyOf K H (.str x) (.type "str")
  | flt (x : UInt64) : TyOf K H (.flt x) (.type "float")
  | lst {a : Addr} {xs : List V} (e : H a = some (.lst xs)) : TyOf K H (.ref a) (.type "list")
  | frz {a : Addr} {o : Obj} {xs : List V} (e : H a = some (.frz o (.lst xs))) : TyOf K H (.ref a) (.type "list")
  | tup {a : Addr} {xs : List V} (e : H a = some (.tup xs)) : TyOf K H (.ref a) (.type "tuple")
  | dK {a : Addr} {kvs : List (Key × V)} (e : H a = some (.dK kvs)) : TyOf K H (.ref a) (.type "dict")
  | dT {a : Addr} {xc : Option (List Addr)} {kvs : List (List Key × V)} (e : H a = some (.dT xc kvs)) : TyOf K H (.ref a) (.type "dict")
  | ins {a C dx : Addr} {fs : List (Str × V)} (e : H a = some (.ins C dx fs)) (cl : Cls K C) (ha : PySem.W.findIn K (.ref C) "__class__" = some (some (.builtin "object.__class__")))
      (hn : PySem.W.specialIn K (.builtin "object.__class__") "__get__" = some (some (.builtin "getset_descriptor.__get__"))) (htk : PySem.W.takesIn K (.builtin "object.__class__") = some true)
      (hm : PySem.W.mroIn K C (.type "object") = some true) : TyOf K H (.ref a) (.ref C)
theorem isinst_ok {x : V} {u t : Value} (I : Inv X pins σ H s) (rx : RelV x u) (ty : TyOf X.K H x t) (e : PySem.W.kitOne X.K t c = some b) (h : ∀ tk, Q (.bool b) { s with toks := tk }) :
    wpAny (model X.prog X.w) A (call (.builtin "isinstance") [u, c]) Q E s := by
  cases ty with
  | non => cases (show u = Value.none from rx); exact PySem.W.kia_one PySem.W.kitx_none I.kIn True.intro e (fun z => nomatch z) h
  | bl y => cases (show u = Value.bool y from rx); exact PySem.W.kia_one PySem.W.kitx_bool I.kIn True.intro e (fun z => nomatch z) h
  | int i => obtain ⟨t, q⟩ := (show ∃ t, u = Value.int i t from rx); cases q; exact PySem.W.kia_one PySem.W.kitx_int I.kIn True.intro e (fun z => nomatch z) h
  | str y => obtain ⟨t, q⟩ := (show ∃ t, u = Value.str y t from rx); cases q; exact PySem.W.kia_one PySem.W.kitx_str I.kIn True.intro e (fun z => nomatch z) h
  | flt y => obtain ⟨t, q⟩ := (show ∃ t, u = Value.float y t from rx); cases q; exact PySem.W.kia_one PySem.W.kitx_float I.kIn True.intro e (fun z => nomatch z) h
  | @lst a xs ea =>
    cases (show u = Value.ref a from rx)
    obtain ⟨_, _, n, _, h1⟩ := (show ObjOk X.prog X.w H s.heap a (.lst xs) from I.hok a _ ea)
    exact PySem.W.kia_one PySem.W.kitx_list I.kIn ⟨_, h1, rfl⟩ e (fun z => nomatch z) h
  | @frz a ob xs ea =>
    cases (show u = Value.ref a from rx)
    obtain ⟨_, _, _, n, _, h1⟩ := (show ObjOk X.prog X.w H s.heap a (.frz ob (.lst xs)) from I.hok a _ ea)
    exact PySem.W.kia_one PySem.W.kitx_list I.kIn ⟨_, h1, rfl⟩ e (fun z => nomatch z) h
  | @tup a xs ea =>
    cases (show u = Value.ref a from rx)
    obtain ⟨_, _, _, p⟩ := (show ObjOk X.prog X.w H s.heap a (.tup xs) from I.hok a _ ea)
    obtain ⟨o, h1, h2, _⟩ := p
    exact PySem.W.kia_one PySem.W.kitx_tuple I.kIn ⟨o, h1, h2⟩ e (fun z => nomatch z) h
  | @dK a kvs ea =>
    cases (show u = Value.ref a from rx)
    obtain ⟨_, _, vs, _, p⟩ := (show ObjOk X.prog X.w H s.heap a (.dK kvs) from I.hok a _ ea)
    obtain ⟨o, es, ep, h1, h2, _⟩ := p
    exact PySem.W.kia_one PySem.W.kitx_dict I.kIn ⟨o, h1, h2.1⟩ e (fun z => nomatch z) h
  | @dT a xc kvs ea =>
    cases (show u = Value.ref a from rx)
    obtain ⟨_, _, xs, _, o, es, ep, h1, h2, _⟩ := (show ObjOk X.prog X.w H s.heap a (.dT xc kvs) from I.hok a _ ea)
    exact PySem.W.kia_one PySem.W.kitx_dict I.kIn ⟨o, h1, h2.1⟩ e (fun z => nomatch z) h
  | @ins a C dx fs ea cl ha hn htk hm =>
    cases (show u = Value.ref a from rx)
    obtain ⟨mA, O, _⟩ := ins_get I.hok ea
    obtain ⟨od, J, _⟩ := O.look
    exact PySem.W.kia_one (PySem.W.kitx_own (cl.get _) cl.hd ha hn htk hm) I.kIn J e (fun z => nomatch z) h
end
end L2
namespace L2
open PySem PySem.Spec PyProof.Rows
structure Room (k : Nat) (A : Around) : Prop where
  hd : A.handled = none
  dp : A.depth + 3 * k + 5 < recursionLimit
  un : A.units + 16 * k + 200 < cLine
theorem Room.mono {j k : Nat} {A : Around} (r : Room k A) (h : j ≤ k) : Room j A := ⟨r.hd, by have := r.dp; omega, by have := r.un; omega⟩
theorem Room.deeper {k : Nat} {A : Around} (r : Room (k + 1) A) (env : Env) : Room k (A.deeper env) :=
  ⟨r.hd, by have := r.dp; show A.depth + 1 + 3 * k + 5 < _; omega, by have := r.un; show A.units + 3 + 16 * k + 200 < _; omega⟩
theorem make_depth {A : Around} {C : Addr} {us : List Value} {kw : List (Str × Value)} : (A.under (.builtin "type.__call__" ⟨.ref C :: us, kw⟩)).depth = A.depth + 1 := by
  first | rfl | simp [Around.under, Code.weight, Code.isCreation, Code.isGuard, Code.isCaller, Code.frames, Code.isFrame, guardIds]
theorem make_units {A : Around} {C : Addr} {us : List Value} {kw : List (Str × Value)} : (A.under (.builtin "type.__call__" ⟨.ref C :: us, kw⟩)).units = A.units + 1 := by
  first | rfl | simp [Around.under, Code.cUnits, Code.frames, Code.isFrame]
theorem Room.make {k : Nat} {A : Around} (r : Room (k + 1) A) (C : Addr) (us : List Value) (kw : List (Str × Value)) : Room k (A.under (.builtin "type.__call__" ⟨.ref C :: us, kw⟩)) :=
  ⟨r.hd, by have := r.dp; rw [make_depth]; omega, by have := r.un; rw [make_units]; omega⟩
theorem Room.depth {k : Nat} {A : Around} (r : Room k A) : A.depth < recursionLimit := by have := r.dp; omega
noncomputable def tNil : TA := fun _ H Q => Q [] H
noncomputable def tCons (ta : TE) (tr : TA) : TA := fun σ H Q => ta σ H fun x H1 => tr σ H1 fun xs H2 => Q (x :: xs) H2
section
variable {X : Cx} {e : Expr} {es : List Expr} {te : TE} {t : TA} {pos : Pos}
theorem pa_nil : PA X [] tNil := fun _ _ _ _ H Q I h => Calls.spliced_nil ⟨[], H, I, .nil, h⟩
theorem pa_cons (ha : PE X e te) (hr : PA X es t) (hs : starEach (e :: es) X.env = (false, eval e X.env) :: starEach es X.env := by rfl) : PA X (e :: es) (tCons te t) := by
  intro pos pins s σ H Q I h
  rw [hs]
  show wpAny _ _ (spliced ((false, eval e X.env) :: backTo pos (starEach es X.env))) _ _ s
  refine Calls.spliced_cons (thn (ha pins s σ H _ I h) fun u s1 ⟨x, H1, I1, r1, q1⟩ => ?_)
  exact thn (hr pos pins s1 σ H1 _ I1 q1) fun us s2 ⟨xs, H2, I2, r2, q2⟩ => ⟨x :: xs, H2, I2, .cons r1 r2, q2⟩
noncomputable def tTup (t : TA) : TE := fun σ H Q => t σ H fun xs H1 => xs.length ≤ sizeLine ∧ ∀ p, H1 p = none → Q (.ref p) (upd H1 p (.tup xs))
noncomputable def tLst (t : TA) : TE := fun σ H Q => t σ H fun xs H1 => xs.length ≤ sizeLine ∧ ∀ p, H1 p = none → Q (.ref p) (upd H1 p (.lst xs))
theorem pe_tup {x1} (h : PA X es t) : PE X (.Tuple es x1 pos) (tTup t) := by
  intro pins s σ H Q I hq
  refine wpAny_Tuple_spliced (thn (h pos pins s σ H _ I hq) fun us s1 ⟨xs, H1, I1, r, z, q⟩ => ⟨by rw [← r.length]; exact z, ?_⟩)
  have hf : H1 s1.heap.objs.size = none := I1.hok.fresh (Nat.le_refl _)
  refine ⟨.ref s1.heap.objs.size, upd H1 s1.heap.objs.size (.tup xs), I1.laid (t' := s1.toks) (fun b u e => Heap.get?_push_of_some _ e) (Nat.le_refl _) ?_, rfl, q _ hf⟩
  exact ⟨z, us, r, ⟨_, Heap.get?_push_size _ rfl, rfl, _, rfl⟩⟩
theorem pe_lst (h : PA X es t) : PE X (.List es pos) (tLst t) := by
  intro pins s σ H Q I hq
  refine wpAny_List_spliced (thn (h pos pins s σ H _ I hq) fun us s1 ⟨xs, H1, I1, r, z, q⟩ => ⟨by rw [← r.length]; exact z, ?_⟩)
  have hf : H1 s1.heap.objs.size = none := I1.hok.fresh (Nat.le_refl _)
  refine ⟨.ref s1.heap.objs.size, upd H1 s1.heap.objs.size (.lst xs), I1.laid (t' := s1.toks) (fun b u e => Heap.get?_push_of_some _ e) (Nat.le_refl _) ?_, rfl, q _ hf⟩
  exact ⟨z, us, 0, r, Heap.get?_push_size _ rfl⟩
end
noncomputable abbrev Sp := List V → Hp → VK → XK → Prop
noncomputable abbrev CXT := List Env → Hp → Shared → XK → Value → Shared → Prop
structure Env0 (P : Program) (w : World) (K : PySem.W.Frag) (mg : Str → Option Value) (base : Heap) (A : Around) (outer : List Env) (s : Shared) (H : Hp) : Prop where
  frames : A.frames = some outer
  mod : Mod K mg base
  bs : ∀ b o, base.get? b = some o → s.heap.get? b = some o ∧ H b = none
  bsz : base.objs.size ≤ s.heap.objs.size
  funs : s.heap.FunFrames base outer
  frf : ∀ b ∈ frs outer, H b = none
  hok : HOk P w H s.heap
  bare : AllBare s.gens
noncomputable def CE (outer : List Env) (P : Program) (w : World) (H : Hp) (s : Shared) (Q : VK) (u : Value) (s' : Shared) : Prop :=
  ∃ v H', s'.os = s.os ∧ AllBare s'.gens ∧ Un (frs outer) [] H H' s.heap s'.heap ∧ HOk P w H' s'.heap ∧ RelV v u ∧ Q v H'
noncomputable def CR (CX : CXT) (outer : List Env) (P : Program) (w : World) (H : Hp) (s : Shared) (Q : VK) (E : XK) (r : Result) (s' : Shared) : Prop :=
  match r with
  | .ok (.ret u) => CE outer P w H s Q u s'
  | .ok _ => False
  | .error e => CX outer H s E e s'
structure FnOk (P : Program) (w : World) (K : PySem.W.Frag) (mg : Str → Option Value) (base : Heap) (CX : CXT) (k : Nat) (f : Addr) (fd : FuncData) (ps : List Str) (sp : Sp) : Prop where
  len : ∀ vs H Q E, sp vs H Q E → vs.length = ps.length
  run : ∀ (A : Around) (outer : List Env) (s : Shared) (H : Hp) (args : Args) (us : List Value) (vs : List V) (Q : VK) (E : XK), Room k A → Env0 P w K mg base A outer s H → BindsTo s fd args (ps.zip us) → Vals vs us → sp vs H Q E →
    codeAny (model P w) A (.call (.ref f) args) (CR CX outer P w H s Q E) s
theorem FnOk.imp {P : Program} {w : World} {K : PySem.W.Frag} {mg : Str → Option Value} {base : Heap} {CX : CXT} {k : Nat} {f : Addr} {fd : FuncData} {ps : List Str} {sp sp' : Sp} (F : FnOk P w K mg base CX k f fd ps sp)
    (h : ∀ vs H Q E, sp' vs H Q E → sp vs H Q E) : FnOk P w K mg base CX k f fd ps sp' :=
  ⟨fun vs H Q E q => F.len vs H Q E (h _ _ _ _ q), fun A outer s H args us vs Q E hr he hb hv hs => F.run A outer s H args us vs Q E hr he hb hv (h _ _ _ _ hs)⟩
theorem Env0.make {P : Program} {w : World} {K : PySem.W.Frag} {mg : Str → Option Value} {base : Heap} {A : Around} {outer : List Env} {s : Shared} {H : Hp} (e : Env0 P w K mg base A outer s H) (C : Addr) (us : List Value) (kw : List (Str × Value)) :
    Env0 P w K mg base (A.under (.builtin "type.__call__" ⟨.ref C :: us, kw⟩)) outer s H := ⟨by first | exact e.frames | (simpa [Around.under, Code.envs, Code.isFrame, pushEnvs] using e.frames), e.mod, e.bs, e.bsz, e.funs, e.frf, e.hok, e.bare⟩
section
variable {X : Cx} {pins : List (Addr × Obj)} {σ : St} {H : Hp} {s s' : Shared}
theorem Inv.env0 (I : Inv X pins σ H s) : Env0 X.prog X.w X.K X.mg X.base X.A X.stack s H :=
  ⟨I.ok.frames, I.ok.mod, I.bs, Nat.le_trans I.ok.bsz I.sz, I.stack, I.stkFree, I.hok, I.bare⟩
theorem Inv.after {Q : VK} {u : Value} (I : Inv X pins σ H s) (h : CE X.stack X.prog X.w H s Q u s') : EP X pins σ Q u s' := by
  obtain ⟨v, H', os, bare, un, hok, r, q⟩ := h
  obtain ⟨hh, g, d, t, os'⟩ := s'
  obtain rfl : os' = s.os := os
  exact ⟨v, H', I.call (h' := hh) (g' := g) (d' := d) (t' := t) (ch := []) un hok bare (fun b z => absurd z (by simp)), r, q⟩
end
noncomputable def Binds (K : PySem.W.Frag) (fd : FuncData) (ps : List Str) (ds : List Value) : Prop :=
  ∀ (s : Shared) (us : List Value), K.In s.heap → (us ++ ds).length = ps.length → BindsTo s fd ⟨us, []⟩ (ps.zip (us ++ ds))
theorem Binds.all {K : PySem.W.Frag} {fd : FuncData} {ps : List Str} (h : ∀ us : List Value, us.length = ps.length → bindArgs fd ⟨us, []⟩ = pure (ps.zip us)) : Binds K fd ps [] := fun s us _ hl => by
  rw [List.append_nil] at hl ⊢
  exact .of_eq (h us hl)
noncomputable def Passes (CX : CXT) (X : Cx) (E : XK) : Prop := ∀ (pins : List (Addr × Obj)) (σ : St) (H : Hp) (s : Shared) (e : Value) (s' : Shared), Inv X pins σ H s → CX X.stack H s E e s' → X.xe e s'
section
variable {X : Cx} {CX : CXT} {k : Nat} {f C : Addr} {fd : FuncData} {ps : List Str} {sp : Sp} {dvs : List V} {ds : List Value} {E : XK} {x m : Str} {p pos apos : Pos} {e o : Expr} {es : List Expr} {ta : TE} {t : TA}
structure Mk (K : PySem.W.Frag) (C f : Addr) : Prop where
  makes : PySem.W.makesIn K C = true
  init : PySem.W.findIn K (.ref C) "__init__" = some (some (.ref f))
  fn : PySem.W.isFn K (.ref f) = true
  kp : PySem.W.keepIn K (.ref C) = true
end
section
variable {X : Cx} {CX : CXT} {k : Nat} {f C : Addr} {fd : FuncData} {ps ks : List Str} {sp : Sp} {E : XK} {x m : Str} {p pos apos kpos : Pos} {e o : Expr} {es : List Expr} {kws : List Keyword} {te ta : TE} {t tk : TA} {nm : Option Str}
variable {g : List Value → List Value → List Value} {gV : List V → List V → List V}
end
structure FnScope (N P : List Str) (sc : Scope) : Prop where
  kind : sc.kind = .function
  co : sc.isCoroutine = false
  gen : sc.isGenerator = false
  nd : N.Nodup
  pre : N.take P.length = P
  par : ∀ x ∈ P, sc.names.lookup x = some .local ∨ sc.names.lookup x = some .cell
  nofree : ∀ y ∈ sc.names, y.2 ≠ .free
theorem bindL_out {kindOf : Str → Option NameKind} {x : Str} : ∀ {binds : List (Str × Value)} {m : Str → Option Value}, (∀ v, (x, v) ∉ binds) → bindL kindOf binds m x = m x
  | [], _, _ => rfl
  | (n, v) :: r, m, h => by
    unfold bindL
    rw [bindL_out fun w hw => h w (List.mem_cons_of_mem _ hw)]
    split
    · have : x ≠ n := by rintro rfl; exact h v List.mem_cons_self
      simp [this]
    · rfl
theorem bindC_out {kindOf : Str → Option NameKind} {x : Str} : ∀ {binds : List (Str × Value)} {m : Str → Option Value}, (∀ v, (x, v) ∉ binds) → bindC kindOf binds m x = m x
  | [], _, _ => rfl
  | (n, v) :: r, m, h => by
    unfold bindC
    rw [bindC_out fun w hw => h w (List.mem_cons_of_mem _ hw)]
    split
    · rfl
    · have : x ≠ n := by rintro rfl; exact h v List.mem_cons_self
      simp [this]
theorem bindL_get {kindOf : Str → Option NameKind} {x : Str} {v : Value} : ∀ {P : List Str} {vs : List Value} {i : Nat} {m : Str → Option Value}, P.Nodup → P[i]? = some x → vs[i]? = some v → kindOf x = some .local →
    bindL kindOf (P.zip vs) m x = some v
  | [], _, _, _, _, h, _, _ => by simp at h
  | _ :: _, [], _, _, _, _, h, _ => by simp at h
  | p :: P, w :: vs, 0, m, nd, h1, h2, hk => by
    simp at h1 h2; subst h1; subst h2
    show bindL kindOf ((p, w) :: P.zip vs) m p = _
    unfold bindL
    rw [bindL_out fun v hv => (List.nodup_cons.mp nd).1 (List.of_mem_zip hv).1, if_pos hk]
    simp
  | p :: P, w :: vs, i + 1, m, nd, h1, h2, hk => by
    show bindL kindOf ((p, w) :: P.zip vs) m x = _
    unfold bindL
    exact bindL_get (i := i) (List.nodup_cons.mp nd).2 (by simpa using h1) (by simpa using h2) hk
theorem bindC_get {kindOf : Str → Option NameKind} {x : Str} {v : Value} : ∀ {P : List Str} {vs : List Value} {i : Nat} {m : Str → Option Value}, P.Nodup → P[i]? = some x → vs[i]? = some v → kindOf x ≠ some .local →
    bindC kindOf (P.zip vs) m x = some v
  | [], _, _, _, _, h, _, _ => by simp at h
  | _ :: _, [], _, _, _, _, h, _ => by simp at h
  | p :: P, w :: vs, 0, m, nd, h1, h2, hk => by
    simp at h1 h2; subst h1; subst h2
    show bindC kindOf ((p, w) :: P.zip vs) m p = _
    unfold bindC
    rw [bindC_out fun v hv => (List.nodup_cons.mp nd).1 (List.of_mem_zip hv).1, if_neg hk]
    simp
  | p :: P, w :: vs, i + 1, m, nd, h1, h2, hk => by
    show bindC kindOf ((p, w) :: P.zip vs) m x = _
    unfold bindC
    exact bindC_get (i := i) (List.nodup_cons.mp nd).2 (by simpa using h1) (by simpa using h2) hk
noncomputable def start (N : List Str) (vs : List V) : St := vs.map some ++ List.replicate (N.length - vs.length) none
noncomputable def cxOf (CX : CXT) (P : Program) (w : World) (K : PySem.W.Frag) (mg : Str → Option Value) (base : Heap) (N : List Str) (qual : Str) (scope : Scope) (f : Addr) (cd : Value) (A : Around) (outer : List Env) (s : Shared) (H : Hp) (E : XK) : Cx where
  prog := P
  w := w
  K := K
  mg := mg
  base := base
  A := A.deeper (envOfC qual scope s.heap.objs.size f cd)
  N := N
  s₀ := s
  H₀ := H
  env := envOfC qual scope s.heap.objs.size f cd
  outer := outer
  stack := envOfC qual scope s.heap.objs.size f cd :: outer
  ex := []
  calm := true
  fn := fun _ => true
  pn := []
  xe := fun e s' => wpAny (model P w) (A.deeper (envOfC qual scope s.heap.objs.size f cd)) (leaving (envOfC qual scope s.heap.objs.size f cd) e) (fun _ s'' => CX outer H s E e s'') (fun e' s'' => CX outer H s E e' s'') s'
theorem cell_has {sc : Scope} {n : Nat} {x : Str} (h : sc.names.lookup x = some .cell) : ∃ c, (cellsFrom n sc.names []).lookup x = some c := by
  have q := PySem.W.cellsFrom_some sc.names n [] (.inl h)
  exact Option.isSome_iff_exists.mp q
theorem inv_start {CX : CXT} {P : Program} {w : World} {K : PySem.W.Frag} {mg : Str → Option Value} {base : Heap} {N ps : List Str} {qual : Str} {scope : Scope} {f : Addr} {cd : Value} {A : Around} {outer : List Env} {s s1 : Shared} {H : Hp} {E : XK} {us : List Value} {vs : List V}
    (S : FnScope N ps scope) (hd : A.handled = none) (e0 : Env0 P w K mg base A outer s H) (hl : vs.length = ps.length) (r : Vals vs us)
    (x : InCallC s s.heap.objs.size (bindL (envOfC qual scope s.heap.objs.size f cd).kindOf (ps.zip us) fun _ => none) (cellsFrom (s.heap.objs.size + 1) scope.names []) (bindC (envOfC qual scope s.heap.objs.size f cd).kindOf (ps.zip us) fun _ => none) s1) :
    Inv (cxOf CX P w K mg base N qual scope f cd A outer s H E) [] (start N vs) H s1 := by
  have hpl : ps.length ≤ N.length := by have := congrArg List.length S.pre; rw [List.length_take] at this; omega
  obtain ⟨h1, tk, rfl, hk⟩ := x.done
  have noA : ∀ b : Addr, b ∉ (cxOf CX P w K mg base N qual scope f cd A outer s H E).ex := fun b z => absurd (show b ∈ ([] : List Addr) from z) (by simp)
  refine ⟨⟨e0.mod, S.kind, rfl, rfl, Nat.le_refl _, fun y z c h1 h2 => ?_, fun y hy => ?_, fun y c _ h => ?_, fun _ => hd, Around.frames_deeper e0.frames, .inr ⟨rfl, rfl⟩, fun b z => absurd z (noA b), e0.bs, e0.bsz, fun b _ _ => noA b, fun b z => absurd z (noA b), e0.funs, e0.frf⟩,
    rfl, e0.bare, Un.kept hk, ⟨_, x.toInCall.ns, fun i y v h1 h2 h3 => ?_⟩, fun y c h => ⟨_, x.cell y c h⟩, e0.hok.fresh (Nat.le_refl _), fun y c h => ?_, fun p hp => absurd (show p ∈ ([] : List (Addr × Obj)) from hp) (by simp), e0.hok.kept hk, ?_⟩
  · exact name_of_addr x.apart (PySem.mem_of_lookup h1) (PySem.mem_of_lookup h2)
  · have hy : scope.names.lookup y = some .cell ∨ scope.names.lookup y = some .free := hy
    rcases hy with hy | hy
    · exact cell_has hy
    · exact absurd rfl (S.nofree _ (PySem.mem_of_lookup hy))
  · exact Nat.le_of_lt (x.above y c (PySem.mem_of_lookup h))
  · have hi : i < vs.length := by
      unfold start at h2
      by_cases hi : i < vs.length
      · exact hi
      · rw [List.getElem?_append_right (by simpa using hi)] at h2
        rw [List.getElem?_replicate] at h2
        split at h2 <;> cases h2
    have ha : vs[i]? = some v := by
      unfold start at h2
      rw [List.getElem?_append_left (by simpa using hi), List.getElem?_map] at h2
      cases e : vs[i]? with
      | none => rw [e] at h2; cases h2
      | some a => rw [e] at h2; cases h2; rfl
    obtain ⟨u, hu, rv⟩ := r.get ha
    have hp : ps[i]? = some y := by
      rw [← S.pre, List.getElem?_take_of_lt (by omega)]; exact h1
    have ndP : ps.Nodup := by rw [← S.pre]; exact S.nd.sublist (List.take_sublist _ _)
    refine ⟨u, rv, ?_⟩
    rcases S.par y (List.mem_of_getElem? hp) with k | k
    · exact .inl ⟨k, bindL_get ndP hp hu k⟩
    · obtain ⟨c, e⟩ := cell_has (n := s.heap.objs.size + 1) k
      refine .inr ⟨.inl k, c, e, ?_⟩
      have q := x.cell y c e
      rw [bindC_get ndP hp hu (by show scope.names.lookup y ≠ _; rw [k]; decide)] at q
      exact q
  · exact e0.hok.fresh (Nat.le_of_lt (x.above y c (PySem.mem_of_lookup h)))
  · unfold start
    show _ = N.length
    rw [List.length_append, List.length_map, List.length_replicate]
    omega
theorem fn_of {CX : CXT} {P : Program} {w : World} {K : PySem.W.Frag} {mg : Str → Option Value} {base : Heap} {k : Nat} {f : Addr} {name qual : Str} {params : Arguments} {body : List Stmt} {scope : Scope} {dV kV doc pm cdv ct oc : Value} {an od : Option Addr}
    {osl : Array (Option Value)} {N ps : List Str} {sp : Sp} (lk : K.lookup f = some ⟨oc, od, .func (PySem.W.fnOf name qual params body scope dV kV doc pm an cdv ct), osl⟩) (hcd : PySem.W.codeIn K cdv qual = true) (S : FnScope N ps scope)
    (len : ∀ vs H Q E, sp vs H Q E → vs.length = ps.length)
    (hbody : ∀ (A : Around) (outer : List Env) (s : Shared) (H : Hp) (vs : List V) (Q : VK) (E : XK), Room k (A.deeper (envOfC qual scope s.heap.objs.size f cdv)) → sp vs H Q E →
      ∃ t, PSs (cxOf CX P w K mg base N qual scope f cdv A outer s H E) body t ∧ t { nx := fun _ H' => Q .non H', rt := Q } (start N vs) H) :
    FnOk P w K mg base CX (k + 1) f (PySem.W.fnOf name qual params body scope dV kV doc pm an cdv ct) ps sp := by
  refine ⟨len, fun A outer s H args us vs Q E hr e0 hb r hsp => ?_⟩
  have hl := len _ _ _ _ hsp
  have KX : K.In s.heap := e0.mod.kin.keeps fun b o e => (e0.bs b o e).1
  have lim : s.heap.NoLimit := e0.mod.nolimit.keeps fun b o e => (e0.bs b o e).1
  have hkind : ∀ y ∈ ps.zip us, scope.names.lookup y.1 = some .local ∨ (scope.names.lookup y.1 = some .cell ∧ ((cellsFrom (s.heap.objs.size + 1) scope.names []).lookup y.1).isSome = true) := fun ⟨n, v⟩ hy => by
    rcases S.par n (List.of_mem_zip hy).1 with q | q
    · exact .inl q
    · exact .inr ⟨q, PySem.W.cellsFrom_some _ _ _ (.inl q)⟩
  refine codeAny_call_function hr.depth (KX _ _ lk) rfl S.co S.gen rfl (PySem.W.codeRec_of KX hcd) (hb _ _ _ _ ?_)
  refine wpAny_newFunctionEnv_cells S.kind hkind fun env he s1 x => ?_
  subst he
  refine ⟨lim.keeps x.toInCall.keep, codeAny_func ?_⟩
  obtain ⟨t, ht, hq⟩ := hbody A outer s H vs Q E (hr.deeper _) hsp
  have I : Inv (cxOf CX P w K mg base N qual scope f cdv A outer s H E) [] (start N vs) H s1 := inv_start S hr.hd e0 hl r x
  refine wpAny_mono (ht [] s1 (start N vs) H _ I hq) (fun fl s' hs => ?_) fun e s' hs => hs
  have fin : ∀ {σ' : St} {H' : Hp} {v : V} {u : Value}, Inv (cxOf CX P w K mg base N qual scope f cdv A outer s H E) [] σ' H' s' → RelV v u → Q v H' → CE outer P w H s Q u s' :=
    fun {σ' H' v u} J rv q => ⟨v, H', J.os, J.bare, J.base, J.hok, rv, q⟩
  cases fl with
  | ret u =>
    obtain ⟨v, σ', H', J, rv, q⟩ := hs
    exact fin J rv q
  | next =>
    obtain ⟨σ', H', J, q⟩ := hs
    exact fin (v := V.non) (u := Value.none) J rfl q
  | brk =>
    obtain ⟨_, _, _, q⟩ := hs
    exact False.elim q
  | cont =>
    obtain ⟨_, _, _, q⟩ := hs
    exact False.elim q
end L2
namespace L2
open PySem PySem.Spec PyProof.Rows
section
variable {X : Cx} {x : Str} {p pos : Pos} {e : Expr} {es : List Expr} {t : TA} {id T : String} {r : List V → Hp → VK → Prop}
noncomputable def tCB (r : List V → Hp → VK → Prop) (t : TA) : TE := fun σ H Q => t σ H fun vs H1 => r vs H1 Q
theorem pe_callB (hc : CallR X (.builtin id) r) (hg : Gl X x) (hm : X.mg x = none) (hv : bootBuiltins x = some (.builtin id)) (ha : PA X (e :: es) t) (hn : x ≠ "__name__" := by decide) (hdb : (x == ("__debug__" : Str)) = false := by decide)
    (he : starEach (e :: es) X.env = (false, eval e X.env) :: starEach es X.env := by rfl) (hpl : (backTo pos (starEach es X.env)).any (·.1) = false := by rfl) : PE X (.Call (.Name x p) (e :: es) [] pos) (tCB r t) := by
  intro pins s σ H Q I h
  refine wpAny_Call_Name_kw (ld_blt I hg hm hv ?_ hn hdb)
  exact PyProof.Rows.callWith_builtin1 (thn (ha pos pins s σ H _ I h) fun us s1 ⟨vs, H1, I1, r1, q1⟩ => hc pins s1 σ H1 vs us Q I1 r1 q1) he hpl
end
end L2
namespace HT
open PySem PyProof.Rows
section
open PySem.SeqAt
open PySem.AutoSeq1 (wpAny_loadPart')
open PySem.MeetsSeq PySem.MeetsSeq2 PySem.MeetsSeq3
end
section
variable {prog : Program} {w : World} {A : Around} {E : Value → Shared → Prop} {s : Shared}
theorem cat_tup {t b : Addr} {vs ws : List Value} {Q : Value → Shared → Prop} (ht : IsTup s.heap t vs.toArray) (hb : IsTup s.heap b ws.toArray) (hv : vs ≠ [])
    (h1 : ws = [] → Q (.ref t) s) (h2 : ws ≠ [] → Q (.ref s.heap.objs.size) { s with heap := s.heap.push { cls := .type "tuple", data := .seq (vs ++ ws).toArray } })
    (hsz : vs.length + ws.length ≤ sizeLine) : wpAny (model prog w) A (binaryOp .Add (.ref t) (.ref b)) Q E s := by
  obtain ⟨⟨cls, dd, data, sl⟩, ho, hc, n, hd⟩ := id ht
  obtain ⟨⟨cls2, dd2, data2, sl2⟩, ho2, hc2, n2, hd2⟩ := id hb
  simp only at hc hd hc2 hd2
  subst hc hd hc2 hd2
  have e : vs.toArray ++ ws.toArray = (vs ++ ws).toArray := by simp
  by_cases hw : ws = []
  · exact concat_meets ⟨_, ho, rfl⟩ ⟨_, ho2, rfl⟩ noFill_tuple_add seq_tuple_add PySem.F.slot_tuple_add PySem.F.entry_tuple_add (PySem.F.args_tuple_add_2 _ _)
      (tuple_addW1 t b vs.toArray ws.toArray n n2 dd dd2 sl sl2 (by simpa using hv) (by simp [hw])) ⟨ho, ho2, h1 hw⟩
  · refine concat_meets ⟨_, ho, rfl⟩ ⟨_, ho2, rfl⟩ noFill_tuple_add seq_tuple_add PySem.F.slot_tuple_add PySem.F.entry_tuple_add (PySem.F.args_tuple_add_2 _ _)
      (tuple_addW2 t b vs.toArray ws.toArray n n2 dd dd2 sl sl2 (by simpa using hv) (by simpa using hw) (by rw [List.size_toArray, List.size_toArray]; exact hsz)) ⟨ho, ho2, ?_⟩
    rw [e]
    exact h2 hw
noncomputable def sIx (n d : Nat) : Option Int → Nat
  | none => d
  | some v => if v < 0 then (v + (n : Int)).toNat else min v.toNat n
theorem sIx_none (n d : Nat) : sIx n d none = d := rfl
end
end HT
namespace L2
open PySem PySem.Spec PyProof.Rows
section
variable {X : Cx} {e : Expr} {te : TE} {lo hi : Option Expr} {tl th : TO} {pos p2 : Pos}
noncomputable def rCatT (K : PySem.W.Frag) : R2 := fun x y H Q => ∃ a b xs ys, x = .ref a ∧ y = .ref b ∧ SqT K H a xs ∧ SqT K H b ys ∧ xs ≠ [] ∧ xs.length + ys.length ≤ sizeLine ∧
  (ys = [] → Q (.ref a) H) ∧ (ys ≠ [] → ∀ p, H p = none → Q (.ref p) (upd H p (.tup (xs ++ ys))))
theorem Vals.nil_iff {xs : List V} {us : List Value} (r : Vals xs us) : us = [] ↔ xs = [] := by
  cases r with
  | nil => simp
  | cons _ _ => simp
theorem op_catT : OpR X (binaryOp .Add) (rCatT X.K) := by
  intro pins s σ H x y v u Q I rx ry h
  obtain ⟨a, b, xs, ys, rfl, rfl, ha, hb, hx, hz, q1, q2⟩ := h
  cases rx
  cases ry
  obtain ⟨its, r1, p1, _⟩ := I.tuple ha
  obtain ⟨its2, r2, p2, _⟩ := I.tuple hb
  refine HT.cat_tup p1 p2 (fun z => hx (r1.nil_iff.mp z)) (fun z => ⟨.ref a, H, I, rfl, q1 (r2.nil_iff.mp z)⟩) (fun z => ?_) (by rw [← r1.length, ← r2.length]; exact hz)
  refine ⟨.ref s.heap.objs.size, _, I.laid (t' := s.toks) (o := .tup (xs ++ ys)) (fun b ob q => Heap.get?_push_of_some _ q) (Nat.le_refl _) ?_, rfl, q2 (fun w => z (r2.nil_iff.mpr w)) _ (I.hok.fresh (Nat.le_refl _))⟩
  exact ⟨by rw [List.length_append]; exact hz, _, r1.append r2, IsTup.new _ _⟩
end
end L2
namespace L2
open PySem PySem.Spec PyProof.Rows
noncomputable def ixN (n : Nat) (i : Int) : Option Nat := if 0 ≤ i then (if i < n then some i.toNat else none) else if -(n : Int) ≤ i then some (i + n).toNat else none
noncomputable def atI {α : Type} (xs : List α) (i : Int) : Option α := (ixN xs.length i).bind fun j => xs[j]?
theorem ixN_seq {n : Nat} {i : Int} {j : Nat} (h : ixN n i = some j) : seqIndex? i n = some j ∧ j < n ∧ -(n : Int) ≤ i ∧ i < n := by
  unfold ixN at h
  by_cases h0 : 0 ≤ i
  · rw [if_pos h0] at h
    by_cases h1 : i < n
    · rw [if_pos h1] at h
      have e : i.toNat = j := Option.some.inj h
      exact ⟨by rw [seqIndex_of h0 h1, e], by omega, by omega, h1⟩
    · rw [if_neg h1] at h; cases h
  · rw [if_neg h0] at h
    by_cases h1 : -(n : Int) ≤ i
    · rw [if_pos h1] at h
      have e : (i + n).toNat = j := Option.some.inj h
      exact ⟨by rw [seqIndex_neg (by omega) h1, e], by omega, h1, by omega⟩
    · rw [if_neg h1] at h; cases h
theorem atI_get {α : Type} {xs : List α} {i : Int} {v : α} (h : atI xs i = some v) : ∃ j, seqIndex? i xs.length = some j ∧ xs[j]? = some v ∧ j < xs.length ∧ -(xs.length : Int) ≤ i ∧ i < xs.length := by
  unfold atI at h
  cases e : ixN xs.length i with
  | none => rw [e] at h; cases h
  | some j =>
    rw [e] at h
    obtain ⟨h1, h2, h3, h4⟩ := ixN_seq e
    exact ⟨j, h1, h, h2, h3, h4⟩
theorem atI_nat {α : Type} {xs : List α} {j : Nat} {v : α} (h : xs[j]? = some v) : atI xs (j : Int) = some v := by
  have hj : j < xs.length := (List.getElem?_eq_some_iff.mp h).1
  have e : ixN xs.length (j : Int) = some j := by
    unfold ixN
    rw [if_pos (by omega), if_pos (by omega)]; simp
  unfold atI; rw [e]; exact h
noncomputable def PlainIx (b : Expr) : Prop := ∀ o i, subscripted b false o i = operate [o, i] (getItem o i)
noncomputable def IxR (X : Cx) (r : R2) : Prop :=
  ∀ (value slice : Expr) (pins : List (Addr × Obj)) (s : Shared) (σ : St) (H : Hp) (x y : V) (v u : Value) (Q : VK), Inv X pins σ H s → RelV x v → RelV y u → r x y H Q →
    subscripted slice false v u = operate [v, u] (getItem v u) → wpAny (model X.prog X.w) X.A (subscriptTail value slice v u) (EP X pins σ Q) X.xe s
noncomputable def MtR (X : Cx) (id : String) (r : V → List V → Hp → VK → Prop) : Prop :=
  ∀ (pins : List (Addr × Obj)) (s : Shared) (σ : St) (H : Hp) (x : V) (xs : List V) (v : Value) (us : List Value) (Q : VK), Inv X pins σ H s → RelV x v → Vals xs us → r x xs H Q →
    wpAny (model X.prog X.w) X.A (call (.builtin id) (v :: us)) (EP X pins σ Q) X.xe s
section
variable {X : Cx} {a b : Expr} {ta tb : TE} {pos : Pos}
theorem IxR.or {r r' : R2} (h : IxR X r) (h' : IxR X r') : IxR X (fun x y H Q => r x y H Q ∨ r' x y H Q) := by
  intro value slice pins s σ H x y v u Q I rx ry q hs
  rcases q with q | q
  · exact h value slice pins s σ H x y v u Q I rx ry q hs
  · exact h' value slice pins s σ H x y v u Q I rx ry q hs
theorem pe_ix {r : R2} (hr : IxR X r) (ha : PE X a ta) (hb : PE X b tb) (hs : PlainIx b) : PE X (.Subscript a b pos) (tOp r ta tb) := by
  intro pins s σ H Q I h
  exact Subscript_ (binT ha hb I h fun v u s2 x y H2 I2 rx ry q => hr a b pins s2 σ H2 x y v u Q I2 rx ry q (hs _ _))
noncomputable def rIxL (K : PySem.W.Frag) : R2 := fun x y H Q => ∃ p xs i v, x = .ref p ∧ y = .int i ∧ SqL K H p xs ∧ atI xs i = some v ∧ Q v H
noncomputable def rIxT (K : PySem.W.Frag) : R2 := fun x y H Q => ∃ p xs i v, x = .ref p ∧ y = .int i ∧ SqT K H p xs ∧ atI xs i = some v ∧ Q v H
noncomputable def rIxS : R2 := fun x y H Q => ∃ z i c, x = .str z ∧ y = .int i ∧ z.length ≤ sizeLine ∧ atI z.cps.toList i = some c ∧ Q (.str ⟨#[c]⟩) H
theorem ix_list : IxR X (rIxL X.K) := by
  intro value slice pins s σ H x y v u Q I rx ry h hs
  obtain ⟨p, xs, i, z, rfl, rfl, hq, he, q⟩ := h
  cases rx
  obtain ⟨t, rfl⟩ := ry
  obtain ⟨its, r, pl, hz⟩ := I.list hq
  obtain ⟨j, h1, h2, h3, h4, h5⟩ := atI_get he
  obtain ⟨w, ew, rw'⟩ := r.get h2
  have hl := r.length
  have hn := line63
  have fin : EP X pins σ Q w s := ⟨z, H, I, rw', q⟩
  by_cases h0 : 0 ≤ i
  · have hj : i.toNat = j := by
      rw [seqIndex_of h0 h5] at h1
      exact Option.some.inj h1
    exact item_listR pl.isList h0 (by omega) (by rw [hj]; simpa using ew) fin hs
  · have hj : (i + (its.toArray.size : Int)).toNat = j := by
      rw [seqIndex_neg (by omega) h4] at h1
      rw [List.size_toArray, ← hl]
      exact Option.some.inj h1
    exact subscriptTail_builtinR (x := w) pl.isList.typeIs slot_list_getitem.lookup
      (wpAny_getItem_list_neg (Q := fun r s' => r = w ∧ EP X pins σ Q r s') pl.isList (by omega) (by rw [List.size_toArray] <;> omega) (by omega) (by rw [hj]; simpa using ew) ⟨rfl, fin⟩) hs
theorem ix_tup : IxR X (rIxT X.K) := by
  intro value slice pins s σ H x y v u Q I rx ry h hs
  obtain ⟨p, xs, i, z, rfl, rfl, hq, he, q⟩ := h
  cases rx
  obtain ⟨t, rfl⟩ := ry
  obtain ⟨its, r, pl, hz⟩ := I.tuple hq
  obtain ⟨j, h1, h2, h3, h4, h5⟩ := atI_get he
  obtain ⟨w, ew, rw'⟩ := r.get h2
  have hl := r.length
  have hn := line63
  have fin : EP X pins σ Q w s := ⟨z, H, I, rw', q⟩
  exact subscriptTail_builtinR (x := w) pl.typeIs slot_tuple_getitem.lookup
    (getItem_tuple (j := j) (Q := fun r s' => r = w ∧ EP X pins σ Q r s') pl (by omega) (by omega) (by rw [List.size_toArray, ← hl]; exact h1) (by simpa using ew) ⟨rfl, fin⟩) hs
theorem ix_str : IxR X rIxS := by
  intro value slice pins s σ H x y v u Q I rx ry h hs
  obtain ⟨z, i, c, rfl, rfl, hz, he, q⟩ := h
  obtain ⟨t, rfl⟩ := rx
  obtain ⟨t', rfl⟩ := ry
  obtain ⟨j, h1, h2, h3, h4, h5⟩ := atI_get he
  have hl : z.cps.toList.length = z.length := by simp [Str.length]
  rw [hl] at h1 h4 h5
  have hn := line63
  exact tail_any (typeIs_str s z t) slot_str_getitem.lookup (getItem_str (c := c) (by
    have e1 : decide (i < -(2 ^ 63 : Int)) = false := decide_eq_false (by omega)
    have e2 : decide (i ≥ 2 ^ 63) = false := decide_eq_false (by omega)
    rw [e1, e2, Bool.or_false]) (by rw [h1]; simpa using h2) ⟨.str ⟨#[c]⟩, H, I.tok _, ⟨_, rfl⟩, q⟩) hs
noncomputable def rIx (K : PySem.W.Frag) : R2 := fun x y H Q => rIxL K x y H Q ∨ rIxT K x y H Q ∨ rIxS x y H Q
theorem ix_seq : IxR X (rIx X.K) := ix_list.or (ix_tup.or ix_str)
theorem mapSeq_set (its : List Value) (n j : Nat) (u : Value) : Obj.mapSeq (·.setIfInBounds j u) { cls := .type "list", data := .seq its.toArray n } = { cls := .type "list", data := .seq (its.set j u).toArray n } := by
  simp [Obj.mapSeq]
theorem Inv.lst {pins : List (Addr × Obj)} {σ : St} {H : Hp} {s : Shared} {p : Addr} {xs : List V} (I : Inv X pins σ H s) (h : H p = some (.lst xs)) :
    ∃ (its : List Value) (n : Nat), Vals xs its ∧ s.heap.get? p = some { cls := .type "list", data := .seq its.toArray n } ∧ xs.length ≤ sizeLine := by
  obtain ⟨z, its, n, r, e⟩ := I.hok p _ h
  exact ⟨its, n, r, e, z⟩
theorem Inv.lstUpd {pins : List (Addr × Obj)} {σ : St} {H : Hp} {s : Shared} {p : Addr} {xs ys : List V} {its its' : List Value} {n n' : Nat} {f : Obj → Obj} (I : Inv X pins σ H s) (h : H p = some (.lst xs))
    (ho : s.heap.get? p = some { cls := .type "list", data := .seq its.toArray n }) (hf : f { cls := .type "list", data := .seq its.toArray n } = { cls := .type "list", data := .seq its'.toArray n' }) (r : Vals ys its') (hz : ys.length ≤ sizeLine) (t : Nat) :
    Inv X pins σ (upd H p (.lst ys)) { s with heap := s.heap.update p f, toks := t } := by
  have e : (s.heap.update p f).get? p = some { cls := .type "list", data := .seq its'.toArray n' } := by
    rw [Heap.get?_update_self f ho (by rw [hf] <;> rfl), hf]
  refine I.write (x := p) (e := p) (by rw [h]; trivial) (.inl rfl) (fun b u hb q => (Heap.get?_update_other _ _ (Ne.symm hb)).trans q) ⟨_, e⟩ ?_
  exact ⟨hz, its', n', r, e⟩
noncomputable def rSetL : V → V → V → Hp → (Hp → Prop) → Prop := fun o i v H Q => ∃ p xs k j, o = .ref p ∧ i = .int k ∧ H p = some (.lst xs) ∧ ixN xs.length k = some j ∧ Q (upd H p (.lst (xs.set j v)))
theorem set_list : PSet X rSetL := by
  intro pins s σ H o i v ov iv u Q I ro ri rv h
  obtain ⟨p, xs, k, j, rfl, rfl, hp, hj, q⟩ := h
  cases ro
  obtain ⟨t, rfl⟩ := ri
  obtain ⟨its, n, r, ho, hz⟩ := I.lst hp
  obtain ⟨h1, h2, h3, h4⟩ := ixN_seq hj
  have hl := r.length
  have hn := line63
  have I' : Inv X pins σ (upd H p (.lst (xs.set j v))) { s with heap := s.heap.update p (Obj.mapSeq (·.setIfInBounds j u)) } :=
    I.lstUpd hp ho (mapSeq_set its n j u) (r.set rv j) (by rw [List.length_set]; exact hz) s.toks
  by_cases h0 : 0 ≤ k
  · have hk : k.toNat = j := by
      rw [seqIndex_of h0 h4] at h1
      exact Option.some.inj h1
    exact PySem.W.ki_setAt ho h0 (by omega) (by rw [List.size_toArray, ← hl]; exact h4) (by rw [hk]; exact ⟨_, I', q⟩)
  · have hk : (k + (its.toArray.size : Int)).toNat = j := by
      rw [seqIndex_neg (by omega) h3] at h1
      rw [List.size_toArray, ← hl]
      exact Option.some.inj h1
    exact PySem.W.ki_setBack ho (by omega) (by rw [List.size_toArray, ← hl]; exact h3) (by omega) (by rw [hk]; exact ⟨_, I', q⟩)
theorem op_notIn_str : OpR X (compareOp .NotIn) (fun x y H Q => ∃ i j, x = .str i ∧ y = .str j ∧ Q (.bl (!(!(Builtin.Str.occurrences j i 0 j.length 1).isEmpty))) H) := by
  intro pins s σ H x y v u Q I rx ry h
  obtain ⟨i, j, rfl, rfl, q⟩ := h
  obtain ⟨t, rfl⟩ := rx
  obtain ⟨t', rfl⟩ := ry
  exact notIn_str ⟨.bl _, H, I, rfl, q⟩
theorem call_len_seq : CallR X (.builtin "len") (fun xs H Q => ∃ p ys, xs = [.ref p] ∧ (SqL X.K H p ys ∨ SqT X.K H p ys) ∧ Q (.int ys.length) H) := by
  intro pins s σ H xs us Q I r h
  obtain ⟨p, ys, rfl, hq, q⟩ := h
  obtain ⟨u, rfl, rx⟩ := vals1 r
  cases rx
  have hn := line63
  rcases hq with hq | hq
  · obtain ⟨its, r', pl, hz⟩ := I.list hq
    have hlen := r'.length
    exact Calls.call_len_list pl.isList (by simp only [List.size_toArray] <;> omega) ⟨.int ys.length, H, I.tok _, ⟨s.toks + 1, by rw [List.size_toArray, hlen]⟩, q⟩
  · obtain ⟨its, r', pl, hz⟩ := I.tuple hq
    have hlen := r'.length
    exact len_tuple pl (by simp only [List.size_toArray] <;> omega) ⟨.int ys.length, H, I.tok _, ⟨s.toks + 1, by rw [List.size_toArray, hlen]⟩, q⟩
theorem call_len_str : CallR X (.builtin "len") (fun xs H Q => ∃ z, xs = [.str z] ∧ z.length ≤ sizeLine ∧ Q (.int z.length) H) := by
  intro pins s σ H xs us Q I r h
  obtain ⟨z, rfl, hz, q⟩ := h
  obtain ⟨u, rfl, t, rfl⟩ := vals1 r
  have hn := line63
  exact len_str (by omega) ⟨.int z.length, H, I.tok _, ⟨_, rfl⟩, q⟩
theorem CallR.or {f : Value} {r r' : List V → Hp → VK → Prop} (h : CallR X f r) (h' : CallR X f r') : CallR X f (fun xs H Q => r xs H Q ∨ r' xs H Q) := by
  intro pins s σ H xs us Q I rs q
  rcases q with q | q
  · exact h pins s σ H xs us Q I rs q
  · exact h' pins s σ H xs us Q I rs q
noncomputable def tyV (K : PySem.W.Frag) (T : String) (x : V) (H : Hp) : Prop := match x with
  | .str _ => T = "str"
  | .int _ => T = "int"
  | .ref p => (T = "list" ∧ ∃ xs, SqL K H p xs) ∨ (T = "tuple" ∧ ∃ o, K.lookup p = some o ∧ o.cls = .type "tuple" ∧ o.dict = none) ∨
      (T = "dict" ∧ ((∃ kvs, H p = some (.dK kvs)) ∨ ∃ xc kvs, H p = some (.dT xc kvs))) ∨ (T = "set" ∧ ∃ S n, H p = some (.set S n))
  | _ => False
theorem tyV_is {pins : List (Addr × Obj)} {σ : St} {H : Hp} {s : Shared} {T : String} {x : V} {v : Value} (I : Inv X pins σ H s) (r : RelV x v) (ty : tyV X.K T x H) :
    s.TypeIs v T ∧ ∀ a, v = .ref a → ∃ ob, s.heap.get? a = some ob ∧ ob.dict = none := by
  cases x with
  | str z =>
    obtain ⟨t, rfl⟩ := r
    cases (show T = "str" from ty)
    exact ⟨typeIs_str s z t, fun _ e => nomatch e⟩
  | int i =>
    obtain ⟨t, rfl⟩ := r
    cases (show T = "int" from ty)
    exact ⟨typeIs_int s i t, fun _ e => nomatch e⟩
  | ref p =>
    cases r
    rcases ty with ⟨rfl, xs, hq⟩ | ⟨rfl, o, hk, hc, hd⟩ | ⟨rfl, hk⟩ | ⟨rfl, S, n, hk⟩
    · obtain ⟨its, _, pl, _⟩ := I.list hq
      refine ⟨pl.isList.typeIs, fun a e => ?_⟩
      cases e
      obtain ⟨o, n, e, c, hd, _⟩ := pl
      exact ⟨o, e, hd⟩
    · refine ⟨⟨o, I.kIn p o hk, hc⟩, fun a e => ?_⟩
      cases e
      exact ⟨o, I.kIn _ o hk, hd⟩
    · have z : ∃ o, s.heap.get? p = some o ∧ o.ExactDict := by
        rcases hk with ⟨kvs, hk⟩ | ⟨xc, kvs, hk⟩
        · obtain ⟨_, _, _, _, o, _, _, e, ex, _⟩ := I.hok p _ hk
          exact ⟨o, e, ex⟩
        · obtain ⟨_, _, _, _, o, _, _, e, ex, _⟩ := I.hok p _ hk
          exact ⟨o, e, ex⟩
      obtain ⟨o, e, ex⟩ := z
      refine ⟨⟨o, e, ex.1⟩, fun a e2 => ?_⟩
      cases e2
      exact ⟨o, e, ex.2.1⟩
    · obtain ⟨o, _, _, _, e, ex, _⟩ := I.hok p _ hk
      refine ⟨⟨o, e, ex.1⟩, fun a e2 => ?_⟩
      cases e2
      exact ⟨o, e, ex.2.1⟩
  | _ => exact False.elim ty
noncomputable def tBM0 (K : PySem.W.Frag) (T : String) (r : V → List V → Hp → VK → Prop) (to : TE) : TE := fun σ H Q => to σ H fun x H1 => tyV K T x H1 ∧ r x [] H1 Q
noncomputable def tBM (K : PySem.W.Frag) (T : String) (r : V → List V → Hp → VK → Prop) (to : TE) (t : TA) : TE := fun σ H Q => to σ H fun x H1 => tyV K T x H1 ∧ t σ H1 fun xs H2 => r x xs H2 Q
variable {o e : Expr} {es : List Expr} {to : TE} {t : TA} {name : Str} {apos cpos : Pos} {T id : String} {r : V → List V → Hp → VK → Prop}
theorem pe_bm0 (pa : PlainAttrs T) (slot : Slot T name id) (hty : typeOf (.builtin id) = pure (.type "method_descriptor")) (hm : MtR X id r) (ho : PE X o to)
    (hbase : attributeBase o name X.env (eval o X.env) = eval o X.env := by rfl) (hline : (apos.endLine == cpos.line) = true := by rfl) : PE X (.Call (.Attribute o name apos) [] [] cpos) (tBM0 X.K T r to) := by
  intro pins s σ H Q I h
  refine wpAny_Call_method0_late hbase hline (thn (ho pins s σ H _ I h) fun v s1 ⟨x, H1, I1, r1, ty, q1⟩ => ?_)
  obtain ⟨h1, h2⟩ := tyV_is I1 r1 ty
  exact ⟨T, id, pa, slot, hty, h1, h2, Calls.callWith_builtin rfl (PySem.evalArgs_none (hm pins s1 σ H1 x [] v [] Q I1 r1 .nil q1))⟩
theorem pe_bm (pa : PlainAttrs T) (slot : Slot T name id) (hty : typeOf (.builtin id) = pure (.type "method_descriptor")) (hm : MtR X id r) (ho : PE X o to) (ha : PA X (e :: es) t)
    (hbase : attributeBase o name X.env (eval o X.env) = eval o X.env := by rfl)
    (hfew : ((backTo cpos (starEach (e :: es) X.env)).all (fun x => !x.1) && (backToKw cpos (keywordEach [] X.env)).all (fun x => x.1.isSome)
      && decide ((e :: es).length + ([] : List Keyword).length + (if ([] : List Keyword).isEmpty then 0 else 1) < 30)) = true := by rfl)
    (hline : (apos.endLine == cpos.line) = true := by rfl) (hs : starEach (e :: es) X.env = (false, eval e X.env) :: starEach es X.env := by rfl) (hplain : (backTo cpos (starEach es X.env)).any (·.1) = false := by rfl) :
    PE X (.Call (.Attribute o name apos) (e :: es) [] cpos) (tBM X.K T r to t) := by
  intro pins s σ H Q I h
  refine wpAny_Call_method_late hbase hfew hline rfl (thn (ho pins s σ H _ I h) fun v s1 ⟨x, H1, I1, r1, ty, q1⟩ => ?_)
  obtain ⟨h1, h2⟩ := tyV_is I1 r1 ty
  refine ⟨T, id, pa, slot, hty, h1, h2, ?_⟩
  have hA := ha cpos pins s1 σ H1 _ I1 q1
  rw [hs] at hA ⊢
  refine Calls.callWith_builtin (by show (false || (backTo cpos (starEach es X.env)).any (·.1)) = false; rw [hplain] <;> rfl) (Calls.evalArgs_plain ?_)
  exact thn hA fun us s2 ⟨vs, H2, I2, r2, q2⟩ => hm pins s2 σ H2 x vs v us Q I2 r1 r2 q2
/- xs.append(e), list.index on a module's tuple .. are MtR facts of 06m -/
end
end L2
namespace L2
open PySem PySem.Spec PyProof.Rows
noncomputable def MtM (X : Cx) (id : String) (r : V → List V → Hp → VK → Prop) : Prop :=
  ∀ (pins : List (Addr × Obj)) (s : Shared) (σ : St) (H : Hp) (x : V) (xs : List V) (v : Value) (us : List Value) (Q : VK), Inv X pins σ H s → RelV x v → Vals xs us → r x xs H Q →
    wpAny (model X.prog X.w) X.A (call (.builtin id) (v :: us)) (EP X pins σ Q) X.xe s
theorem Vals.one : ∀ {x : V} {us : List Value}, Vals [x] us → ∃ u, us = [u] ∧ RelV x u
  | _, _, .cons r .nil => ⟨_, rfl, r⟩
section
variable {X : Cx} {pins : List (Addr × Obj)} {σ : St} {H : Hp} {s : Shared} {l b : Addr} {xs ys zs : List V}
theorem Inv.lset {its its' : List Value} {n : Nat} {f : Array Value → Array Value} {t' : Nat} (I : Inv X pins σ H s) (hH : H l = some (.lst xs))
    (e : s.heap.get? l = some { cls := .type "list", data := .seq its.toArray n }) (hf : f its.toArray = its'.toArray) (hv : Vals ys its') (hz : ys.length ≤ sizeLine) :
    Inv X pins σ (upd H l (.lst ys)) { s with heap := s.heap.update l (Obj.mapSeq f), toks := t' } := by
  have q := PySem.IsL.update e f
  rw [hf] at q
  refine I.write (x := l) (e := l) (by rw [hH]; exact trivial) (.inl rfl) (fun b' u hb hu => (Heap.get?_update_other s.heap (Obj.mapSeq f) (Ne.symm hb)).trans hu) ⟨_, q⟩ ?_
  exact ⟨hz, its', _, hv, q⟩
theorem Inv.lnew {its : List Value} {t' : Nat} (I : Inv X pins σ H s) (hv : Vals ys its) (hz : ys.length ≤ sizeLine) :
    Inv X pins σ (upd H s.heap.objs.size (.lst ys)) { s with heap := s.heap.push { cls := .type "list", data := .seq its.toArray }, toks := t' } :=
  I.laid (fun _ _ q => Heap.get?_push_of_some _ q) (Nat.le_refl _) ⟨hz, its, 0, hv, Heap.get?_push_size _ rfl⟩
theorem Inv.fresh (I : Inv X pins σ H s) : H s.heap.objs.size = none := I.hok.fresh (Nat.le_refl _)
theorem Inv.lstM (I : Inv X pins σ H s) (hH : H l = some (.lst xs)) : xs.length ≤ sizeLine ∧ ∃ (its : List Value) (n : Nat), Vals xs its ∧ xs.length = its.length ∧ s.heap.get? l = some { cls := .type "list", data := .seq its.toArray n } := by
  obtain ⟨z, its, n, r, e⟩ := I.hok l _ hH
  exact ⟨z, its, n, r, r.length, e⟩
end
section
variable {X : Cx}
noncomputable def rAppend : V → List V → Hp → VK → Prop := fun x vs H Q => ∃ l xs y, x = .ref l ∧ vs = [y] ∧ H l = some (.lst xs) ∧ xs.length < sizeLine ∧ Q .non (upd H l (.lst (xs ++ [y])))
theorem mt_append : MtM X "list.append" rAppend := by
  intro pins s σ H x vs v us Q I rx rv h
  obtain ⟨l, xs, y, rfl, rfl, hH, hz, q⟩ := h
  cases rx
  obtain ⟨u, rfl, ru⟩ := rv.one
  obtain ⟨z, its, n, r, hl, e⟩ := I.lstM hH
  refine call_meets F.slot_list_append ⟨_, e, rfl⟩ F.entry_list_append (F.args_list_append_2 _ _) (PySem.list_append l its.toArray n u (by rw [List.size_toArray]; omega)) ⟨e, ?_⟩
  refine ⟨.non, _, I.lset (its' := its ++ [u]) hH e (by simp) (r.append (.cons ru .nil)) ?_, rfl, q⟩
  rw [List.length_append, List.length_singleton]
  omega
end
section
variable {prog : Program} {w : World} {A : Around} {E : Value → Shared → Prop} {s : Shared}
end
section
variable {X : Cx}
end
end L2
namespace L2
open PySem PySem.Spec PyProof.Rows
section
variable {κ : Type} [DecidableEq κ]
noncomputable def valV (kvs : List (κ × V)) (k : κ) : Option V := (kvs.find? fun kv => decide (kv.1 = k)).map (·.2)
noncomputable def putK (kvs : List (κ × V)) (k : κ) (v : V) : List (κ × V) :=
  if (kvs.any fun kv => decide (kv.1 = k)) = true then kvs.map (fun kv => if kv.1 = k then (kv.1, v) else kv) else kvs ++ [(k, v)]
theorem valV_pos {p : κ × V} {r : List (κ × V)} {k : κ} (e : p.1 = k) : valV (p :: r) k = some p.2 := by simp [valV, List.find?_cons, e]
theorem valV_neg {p : κ × V} {r : List (κ × V)} {k : κ} (e : ¬ p.1 = k) : valV (p :: r) k = valV r k := by simp [valV, List.find?_cons, e]
theorem valV_any (k : κ) : ∀ kvs : List (κ × V), (kvs.any fun kv => decide (kv.1 = k)) = (valV kvs k).isSome
  | [] => rfl
  | p :: r => by
    rw [List.any_cons]
    by_cases e : p.1 = k
    · simp only [valV_pos e, decide_eq_true e, Bool.true_or, Option.isSome_some]
    · rw [valV_neg e, decide_eq_false e, Bool.false_or]; exact valV_any k r
theorem length_putK (kvs : List (κ × V)) (k : κ) (v : V) : (putK kvs k v).length ≤ kvs.length + 1 := by
  unfold putK
  split
  · rw [List.length_map]; omega
  · rw [List.length_append, List.length_cons, List.length_nil]; omega
theorem RelO.isSome_eq {o : Option V} {u : Option Value} (r : RelO o u) : o.isSome = u.isSome := by
  cases o with
  | none => cases u with
    | none => rfl
    | some _ => exact (show False from r).elim
  | some _ => cases u with
    | none => exact (show False from r).elim
    | some _ => rfl
theorem RelO.getD {o : Option V} {u : Option Value} {d : V} {d' : Value} (r : RelO o u) (rd : RelV d d') : RelV (o.getD d) (u.getD d') := by
  cases o with
  | none => cases u with
    | none => exact rd
    | some _ => exact (show False from r).elim
  | some _ => cases u with
    | none => exact (show False from r).elim
    | some _ => exact r
theorem KV.val {kvs : List (κ × V)} {vs : List (κ × Value)} (r : KV kvs vs) (k : κ) : RelO (valV kvs k) (valueAt vs k) := by
  unfold KV at r
  induction r with
  | nil => exact True.intro
  | @cons p q ps qs h t ih =>
    obtain ⟨h1, h2⟩ := h
    by_cases e : p.1 = k
    · have e' : q.1 = k := h1.symm.trans e
      have b : valueAt (q :: qs) k = some q.2 := by simp [valueAt, List.find?_cons, e']
      rw [valV_pos e, b]; exact h2
    · have e' : ¬ q.1 = k := fun z => e (h1.trans z)
      have b : valueAt (q :: qs) k = valueAt qs k := by simp [valueAt, List.find?_cons, e']
      rw [valV_neg e, b]; exact ih
theorem KV.any {kvs : List (κ × V)} {vs : List (κ × Value)} (r : KV kvs vs) (k : κ) : (kvs.any fun kv => decide (kv.1 = k)) = vs.any fun kv => decide (kv.1 = k) := by
  unfold KV at r
  induction r with
  | nil => rfl
  | cons h t ih => rw [List.any_cons, List.any_cons, ih, h.1]
theorem KV.repl {kvs : List (κ × V)} {vs : List (κ × Value)} (r : KV kvs vs) (k : κ) {y : V} {u : Value} (ry : RelV y u) :
    KV (kvs.map fun kv => if kv.1 = k then (kv.1, y) else kv) (vs.map fun kv => if kv.1 = k then (kv.1, u) else kv) := by
  unfold KV at r ⊢
  induction r with
  | nil => exact .nil
  | @cons p q ps qs h t ih =>
    rw [List.map_cons, List.map_cons]
    refine .cons ?_ ih
    obtain ⟨h1, h2⟩ := h
    by_cases e : p.1 = k
    · rw [if_pos e, if_pos (h1.symm.trans e)]; exact ⟨h1, ry⟩
    · rw [if_neg e, if_neg (fun z => e (h1.trans z))]; exact ⟨h1, h2⟩
theorem KV.put {kvs : List (κ × V)} {vs : List (κ × Value)} (r : KV kvs vs) (k : κ) {y : V} {u : Value} (ry : RelV y u) : KV (putK kvs k y) (stored vs k u) := by
  unfold putK stored
  rw [r.any k]
  by_cases e : (vs.any fun kv => decide (kv.1 = k)) = true
  · rw [if_pos e, if_pos e]; exact r.repl k ry
  · rw [if_neg e, if_neg e]; exact Paired.snoc r ⟨rfl, ry⟩
theorem KV.length {kvs : List (κ × V)} {vs : List (κ × Value)} (r : KV kvs vs) : kvs.length = vs.length := Paired.length r
end
theorem kV_is {P : Program} {w : World} {k : Key} {u : Value} (r : RelV (kV k) u) : (mixKind P w).is k u = true := by
  cases k with
  | inl i => obtain ⟨t, e⟩ := (show ∃ t, u = Value.int i t from r); subst e; exact mixKind_int P w i t
  | inr x => obtain ⟨t, e⟩ := (show ∃ t, u = Value.str x t from r); subst e; exact mixKind_str P w x t
theorem kOf_is {P : Program} {w : World} {y : V} {k : Key} {u : Value} (e : kOf y = some k) (r : RelV y u) : (mixKind P w).is k u = true := by
  cases y with
  | int i => cases e; obtain ⟨t, e⟩ := (show ∃ t, u = Value.int i t from r); subst e; exact mixKind_int P w i t
  | str x => cases e; obtain ⟨t, e⟩ := (show ∃ t, u = Value.str x t from r); subst e; exact mixKind_str P w x t
  | bl b => cases e; cases (show u = Value.bool b from r); exact decide_eq_true rfl
  | _ => cases e
theorem items_are {P : Program} {w : World} : ∀ {ys : List V} {ks : List Key} {us : List Value}, ys.map kOf = ks.map some → Vals ys us → ItemsAre (mixKind P w) ks us
  | [], [], _, _, r => by cases r; exact .nil
  | [], _ :: _, _, e, _ => by simp at e
  | _ :: _, [], _, e, _ => by simp at e
  | y :: ys, k :: ks, _, e, r => by
    rw [List.map_cons, List.map_cons] at e
    injection e with e1 e2
    cases r with
    | cons h t => exact .cons (kOf_is e1 h) (items_are e2 t)
noncomputable def KTup (H : Hp) (b : Addr) (k : List Key) : Prop := ∃ ys, H b = some (.tup ys) ∧ ys.map kOf = k.map some
theorem KTup.of {H : Hp} {b : Addr} {k : List Key} (e : H b = some (.tup (k.map kV))) : KTup H b k := ⟨_, e, by rw [List.map_map]; exact List.map_congr_left fun x _ => kOf_kV x⟩
noncomputable def DictE {P : Program} {w : World} {K : Type} [DecidableEq K] (h : Heap) (kn : PySem.HeapKind P w K) (d : Addr) (xs : List (K × Addr × Value)) (n : Nat) : Prop :=
  ∃ o es, h.get? d = some o ∧ o.ExactDict ∧ o.data = .dict es n ∧ es.toList = xs.map (entryOfKey kn) ∧ (∀ x ∈ xs, kn.is h x.1 x.2.1) ∧ (xs.map (·.1)).Nodup
theorem DictE.of {P : Program} {w : World} {K : Type} [DecidableEq K] {h : Heap} {kn : PySem.HeapKind P w K} {d : Addr} {xs : List (K × Addr × Value)} {n : Nat} (e : DictE h kn d xs n) : h.DictOfH kn d xs := e.imp fun _ ⟨es, r⟩ => ⟨es, n, r⟩
theorem setE {P : Program} {w : World} {K : Type} [DecidableEq K] {kn : PySem.HeapKind P w K} {d b : Addr} {k : K} {xs : List (K × Addr × Value)} {A : Around} {E : Value → Shared → Prop} {s : Shared} {v : Value} {Q : Unit → Shared → Prop}
    (hu : kn.room A.in1) (hk : kn.is s.heap k b) (hm : DictE s.heap kn d xs xs.length) (hz : xs.length ≤ sizeLine)
    (q : ∀ g, DictE g kn d (storedH xs k b v) (storedH xs k b v).length → Heap.SameBut d s.heap g → Q () { s with heap := g, toks := s.toks + kn.draws k }) :
    wpAny (model P w) A (setItem (.ref d) (.ref b) v) Q E s := by
  have ty := hm.of.typeIs
  obtain ⟨o, es, e1, e2, e3, e4, e5, e6⟩ := hm
  unfold setItem
  try with_reducible refine wpAny_holding ?_
  refine wpAny_bind (wpAny_sequenceKey ty (by decide) (wpAny_bind (wpAny_callSpecial?_slot (name := Str.ofString "__setitem__") ty slot_dict_setitem (wpAny_call_entry slot_dict_setitem ty entry_dict_setitem ?_ (args_dict_setitem _ _ _)))))
  show wpAny _ _ (Builtin.Dict.notOrdered "__setitem__" _ >>= _) _ _ s
  refine wpAny_bind (wpAny_notOrdered_dict ty (show wpAny _ _ (dictSet d (.ref b) v >>= _) _ _ s from wpAny_bind ?_))
  have fin : ∀ g, DictE g kn d (storedH xs k b v) (storedH xs k b v).length → Heap.SameBut d s.heap g → wpAny (model P w) A.in1 (pure Unit.unit) (fun _ s' => Q () s') (fun _ _ => False) { s with heap := g, toks := s.toks + kn.draws k } := fun g a c => wpAny_pure (q g a c)
  unfold dictSet
  try with_reducible refine wpAny_holding ?_
  refine wpAny_bind (kn.pyHash hu hk ?_)
  unfold dictSetHashed
  try with_reducible refine wpAny_holding ?_
  refine wpAny_bind (wpAny_dictFind_heap (s := { s with toks := s.toks + kn.draws k }) hu hk e1 e3 e4 e5 e6 (fun no => ?_) fun j p hj => ?_)
  · have st := storedH_new (a := b) (v := v) (atKey_none_of_get no)
    refine wpAny_bind (wpAny_rule (wpAny_updateDictKeys (hz := by have z := size_of_entries e4; omega) (s := { s with toks := s.toks + kn.draws k }) e1 e3 (wpAny_pure ⟨.none, rfl, wpAny_pure (q _ ?_ (Heap.SameBut.update ..))⟩)))
    have ln : (xs ++ [(k, b, v)]).length = xs.length + 1 := by simp
    rw [st, ln]
    refine ⟨_, _, Heap.get?_update_self _ e1 (Obj.isFreed_of_dict (Obj.data_mapDictKeys e3 _)), e2.mapDictKeys _, Obj.data_mapDictKeys e3 _, ?_, fun x hx => ?_, ?_⟩
    · simp [e4, entryOfKey]
    · rcases List.mem_append.mp hx with hx | hx
      · exact kn.keeps (e5 x hx) e1 e3 (Heap.SameBut.update ..)
      · have z : x = (k, b, v) := by simpa using hx
        rw [z]; exact kn.keeps hk e1 e3 (Heap.SameBut.update ..)
    · rw [List.map_append, List.nodup_append]
      exact ⟨e6, by simp, fun x hx y hy z => not_mem_keys_of_get no (by
        have e : y = k := by simpa using hy
        rw [← e, ← z]; exact hx)⟩
  · have st := storedH_old (a := b) (v := v) (atKey_of_get e6 hj)
    refine wpAny_bind (wpAny_rule (wpAny_bind (wpAny_updateDict (s := { s with toks := s.toks + kn.draws k }) e1 e3 (wpAny_point (wpAny_pure ⟨.none, rfl, wpAny_pure (q _ ?_ (Heap.SameBut.update ..))⟩)))))
    rw [st, List.length_map]
    refine ⟨_, _, Heap.get?_update_self _ e1 (Obj.isFreed_of_dict (Obj.data_mapDict e3 _)), e2.mapDict _, Obj.data_mapDict e3 _, ?_, fun x hx => ?_, ?_⟩
    · have z := modify_map_putAt (entryOfKey kn) (fun e : DictEntry => { e with val := v }) k v (fun _ _ => rfl) e6 hj
      rw [← e4] at z
      obtain ⟨l⟩ := es
      simpa using z
    · obtain ⟨y, hy, rfl⟩ := List.mem_map.mp hx
      unfold putAt
      split <;> exact kn.keeps (e5 y hy) e1 e3 (Heap.SameBut.update ..)
    · rw [keys_map_putAt]; exact e6
noncomputable def adX (xc : Option (List Addr)) (old : Bool) (b : Addr) : Option (List Addr) := xc.map fun as => if old then as else as ++ [b]
theorem adX_of {xs : List (List Key × Addr × Value)} {k : List Key} {b : Addr} {u : Value} {xc : Option (List Addr)} (h : ∀ as, xc = some as → xs.map (·.2.1) = as) : ∀ as, adX xc (atKey xs k).isSome b = some as → (storedH xs k b u).map (·.2.1) = as := by
  intro as e
  obtain ⟨bs, e1, e2⟩ := Option.map_eq_some_iff.mp e
  subst e2
  unfold storedH
  by_cases q : (atKey xs k).isSome = true
  · rw [if_pos q, if_pos q, List.map_map, ← h bs e1]
    exact List.map_congr_left fun x _ => by show (putAt k u x).2.1 = x.2.1; unfold putAt; split <;> rfl
  · rw [if_neg q, if_neg q, List.map_append, h bs e1]; rfl
noncomputable abbrev KT (H : Hp) : List (List Key × V) → List (List Key × Addr × Value) → Prop := Paired fun p q => p.1 = q.1 ∧ (∃ ys, H q.2.1 = some (.tup ys) ∧ ys.map kOf = p.1.map some) ∧ RelV p.2 q.2.2
theorem KT.val {H : Hp} {kvs : List (List Key × V)} {xs : List (List Key × Addr × Value)} (r : KT H kvs xs) (k : List Key) : RelO (valV kvs k) ((atKey xs k).map (·.2)) := by
  induction r with
  | nil => exact True.intro
  | @cons p q ps qs h t ih =>
    obtain ⟨h1, _, h2⟩ := h
    by_cases e : p.1 = k
    · have e' : q.1 = k := h1.symm.trans e
      have b : atKey (q :: qs) k = some q.2 := by simp [atKey, List.find?_cons, e']
      rw [valV_pos e, b]; exact h2
    · have e' : ¬ q.1 = k := fun z => e (h1.trans z)
      have b : atKey (q :: qs) k = atKey qs k := by simp [atKey, List.find?_cons, e']
      rw [valV_neg e, b]; exact ih
theorem KT.repl {H : Hp} {kvs : List (List Key × V)} {xs : List (List Key × Addr × Value)} (r : KT H kvs xs) (k : List Key) {y : V} {u : Value} (ry : RelV y u) :
    KT H (kvs.map fun kv => if kv.1 = k then (kv.1, y) else kv) (xs.map (putAt k u)) := by
  induction r with
  | nil => exact .nil
  | @cons p q ps qs h t ih =>
    rw [List.map_cons, List.map_cons]
    refine .cons ?_ ih
    obtain ⟨h1, h2, h3⟩ := h
    unfold putAt
    by_cases e : p.1 = k
    · rw [if_pos e, if_pos (h1.symm.trans e)]; exact ⟨h1, h2, ry⟩
    · rw [if_neg e, if_neg (fun z => e (h1.trans z))]; exact ⟨h1, h2, h3⟩
theorem KT.put {H : Hp} {kvs : List (List Key × V)} {xs : List (List Key × Addr × Value)} (r : KT H kvs xs) (k : List Key) {b : Addr} {y : V} {u : Value} (hb : KTup H b k) (ry : RelV y u) :
    KT H (putK kvs k y) (storedH xs k b u) := by
  have e : (kvs.any fun kv => decide (kv.1 = k)) = (atKey xs k).isSome := by
    rw [valV_any, (r.val k).isSome_eq, Option.isSome_map]
  unfold putK storedH
  rw [e]
  by_cases q : (atKey xs k).isSome = true
  · rw [if_pos q, if_pos q]; exact r.repl k ry
  · rw [if_neg q, if_neg q]; exact Paired.snoc r ⟨rfl, hb, ry⟩
theorem KT.keeps {H H' : Hp} {kvs : List (List Key × V)} {xs : List (List Key × Addr × Value)} (r : KT H kvs xs) (ht : ∀ b ys, H b = some (.tup ys) → H' b = some (.tup ys)) : KT H' kvs xs :=
  Paired.mapP r fun _ _ z => ⟨z.1, z.2.1.imp fun _ e => ⟨ht _ _ e.1, e.2⟩, z.2.2⟩
section
variable {P : Program} {w : World} {H : Hp} {h : Heap} {a : Addr}
theorem rd_of {u : HO} (ok : HOk P w H h) (e : Rd H a u) : ObjOk P w H h a u := e.ok ok
theorem dk_rd {kvs : List (Key × V)} (ok : HOk P w H h) (e : Rd H a (.dK kvs)) : kvs.length ≤ sizeLine ∧ (a == sysModules) = false ∧ ∃ vs, KV kvs vs ∧ h.DictOf (mixKind P w) a vs :=
  show ObjOk P w H h a (.dK kvs) from rd_of ok e
theorem dk_of {kvs : List (Key × V)} (ok : HOk P w H h) (e : H a = some (.dK kvs)) : kvs.length ≤ sizeLine ∧ (a == sysModules) = false ∧ ∃ vs, KV kvs vs ∧ h.DictOf (mixKind P w) a vs := dk_rd ok (.inl e)
theorem key_of {ks : List Key} (ok : HOk P w H h) (e : KTup H a ks) : (tupleKind (mixKind P w)).is h ks a := by
  obtain ⟨ys, e, ek⟩ := e
  obtain ⟨_, its, r, o, h1, h2, n, h3⟩ := (show ObjOk P w H h a (.tup ys) from ok a _ e)
  exact ⟨o, its.toArray, n, h1, h2, h3, by simpa using items_are ek r⟩
theorem dt_rd {xc : Option (List Addr)} {kvs : List (List Key × V)} (ok : HOk P w H h) (e : Rd H a (.dT xc kvs)) : kvs.length ≤ sizeLine ∧ (a == sysModules) = false ∧
    ∃ xs, KT H kvs xs ∧ (∀ as, xc = some as → xs.map (·.2.1) = as) ∧ DictE h (tupleKind (mixKind P w)) a xs xs.length := by
  obtain ⟨z, y, xs, r, o, es, ep, h1, h2, h3, h4, h5⟩ := (show ObjOk P w H h a (.dT xc kvs) from rd_of ok e)
  obtain ⟨h5, h6, h7⟩ := h5
  subst h6
  refine ⟨z, y, xs, r, h7, o, es, h1, h2, h3, h4, fun x hx => ?_, h5⟩
  have all : ∀ {l : List (List Key × V)} {m : List (List Key × Addr × Value)}, KT H l m → ∀ x ∈ m, (tupleKind (mixKind P w)).is h x.1 x.2.1 := by
    intro l m q
    induction q with
    | nil => intro x hx; exact nomatch hx
    | @cons p q ps qs hq t ih =>
      intro x hx
      rcases List.mem_cons.mp hx with e | hx
      · subst e
        exact key_of ok (by rw [← hq.1]; exact hq.2.1)
      · exact ih x hx
  exact all r x hx
theorem dt_of {xc : Option (List Addr)} {kvs : List (List Key × V)} (ok : HOk P w H h) (e : H a = some (.dT xc kvs)) : kvs.length ≤ sizeLine ∧ (a == sysModules) = false ∧
    ∃ xs, KT H kvs xs ∧ (∀ as, xc = some as → xs.map (·.2.1) = as) ∧ DictE h (tupleKind (mixKind P w)) a xs xs.length := dt_rd ok (.inl e)
end
noncomputable def DGet (H : Hp) (a : Addr) (y : V) (r : Option V) : Prop :=
  (∃ kvs k, Rd H a (.dK kvs) ∧ y = kV k ∧ r = valV kvs k) ∨ ∃ xc kvs k b, Rd H a (.dT xc kvs) ∧ y = .ref b ∧ KTup H b k ∧ r = valV kvs k
noncomputable def DPut (H : Hp) (a : Addr) (y v : V) (H' : Hp) : Prop :=
  (∃ kvs k, H a = some (.dK kvs) ∧ y = kV k ∧ kvs.length < sizeLine ∧ H' = upd H a (.dK (putK kvs k v))) ∨
  ∃ xc kvs k b, H a = some (.dT xc kvs) ∧ y = .ref b ∧ KTup H b k ∧ kvs.length < sizeLine ∧ H' = upd H a (.dT (adX xc (kvs.any fun kv => decide (kv.1 = k)) b) (putK kvs k v))
theorem DGet.k {H : Hp} {a : Addr} {kvs : List (Key × V)} {k : Key} (e : H a = some (.dK kvs)) : DGet H a (kV k) (valV kvs k) := .inl ⟨kvs, k, .inl e, rfl, rfl⟩
theorem DGet.t {H : Hp} {a b : Addr} {kvs : List (List Key × V)} {k : List Key} {xc : Option (List Addr)} (e : H a = some (.dT xc kvs)) (eb : KTup H b k) : DGet H a (.ref b) (valV kvs k) := .inr ⟨xc, kvs, k, b, .inl e, rfl, eb, rfl⟩
theorem DPut.k {H : Hp} {a : Addr} {kvs : List (Key × V)} {k : Key} {v : V} (e : H a = some (.dK kvs)) (hl : kvs.length < sizeLine) : DPut H a (kV k) v (upd H a (.dK (putK kvs k v))) := .inl ⟨kvs, k, e, rfl, hl, rfl⟩
theorem DPut.t {H : Hp} {a b : Addr} {kvs : List (List Key × V)} {k : List Key} {v : V} (e : H a = some (.dT none kvs)) (eb : KTup H b k) (hl : kvs.length < sizeLine) :
    DPut H a (.ref b) v (upd H a (.dT none (putK kvs k v))) := .inr ⟨none, kvs, k, b, e, rfl, eb, hl, rfl⟩
section
variable {X : Cx} {pins : List (Addr × Obj)} {σ : St} {H : Hp} {s : Shared} {a : Addr} {y v : V} {u r : Value} {o : Option V} {A : Around} {E : Value → Shared → Prop}
theorem Inv.big (I : Inv X pins σ H s) : sysModules < s.heap.objs.size := by
  have h : mainGlobals < s.heap.objs.size := (I.mod.glob.keeps I.bk).lt
  exact Nat.lt_trans (by decide) h
theorem d_getItem {Q : Value → Shared → Prop} (hu : A.units + 1 < cLine) (I : Inv X pins σ H s) (g : DGet H a y (some v)) (ry : RelV y u) (h : ∀ w' s', Inv X pins σ H s' → RelV v w' → Q w' s') :
    wpAny (model X.prog X.w) A (getItem (.ref a) u) Q E s := by
  rcases g with ⟨kvs, k, e, ey, l⟩ | ⟨xc, kvs, k, b, e, ey, eb, l⟩
  · subst ey
    obtain ⟨z, hd, vs, rel, dd⟩ := dk_rd I.hok e
    obtain ⟨w', hw, rw'⟩ := RelO.some_of (v := v) (o := valueAt vs k) (by rw [l]; exact rel.val k)
    exact wpAny_getItem_of (kV_is ry) dd.mapOf hw (h w' _ (I.tok _) rw')
  · subst ey
    cases (show u = Value.ref b from ry)
    obtain ⟨z, hd, xs, rel, _, dd⟩ := dt_rd I.hok e
    replace dd := dd.of
    obtain ⟨w', hw, rw'⟩ := RelO.some_of (v := v) (o := (atKey xs k).map (·.2)) (by rw [l]; exact rel.val k)
    obtain ⟨p, hp, hp2⟩ := Option.map_eq_some_iff.mp hw
    refine wpAny_getItem_heap (tupleKind_room_in1 hu) (key_of I.hok eb) dd hp ?_
    rw [hp2]
    exact h w' _ (I.tok _) rw'
theorem d_notIn {Q : Value → Shared → Prop} (hu : A.units + 1 < cLine) (I : Inv X pins σ H s) (g : DGet H a y o) (ry : RelV y u) (h : ∀ s', Inv X pins σ H s' → Q (.bool (!o.isSome)) s') :
    wpAny (model X.prog X.w) A (compareOp .NotIn u (.ref a)) Q E s := by
  rcases g with ⟨kvs, k, e, ey, l⟩ | ⟨xc, kvs, k, b, e, ey, eb, l⟩
  · subst ey
    obtain ⟨z, hd, vs, rel, dd⟩ := dk_rd I.hok e
    refine wpAny_notIn_of (kV_is ry) hd dd.mapOf ?_
    rw [← (rel.val k).isSome_eq, ← l]
    exact h _ (I.tok _)
  · subst ey
    cases (show u = Value.ref b from ry)
    obtain ⟨z, hd, xs, rel, _, dd⟩ := dt_rd I.hok e
    replace dd := dd.of
    refine wpAny_notIn_heap (tupleKind_room_in1 hu) (key_of I.hok eb) hd dd ?_
    have q := (rel.val k).isSome_eq
    rw [Option.isSome_map] at q
    rw [← q, ← l]
    exact h _ (I.tok _)
theorem d_write {h' : Heap} {t' : Nat} {ob : HO} (I : Inv X pins σ H s) (mu : Mut (H a)) (hs : Heap.SameBut a s.heap h') (he : ∃ q, h'.get? a = some q) (new : ObjOk X.prog X.w (upd H a ob) h' a ob) :
    Inv X pins σ (upd H a ob) { s with heap := h', toks := t' } :=
  I.write (x := a) (e := a) mu (.inl rfl) (fun b q hb z => (hs.2 b hb).trans z) he new
theorem dk_new {P : Program} {w : World} {H' : Hp} {h' : Heap} {kvs : List (Key × V)} {vs : List (Key × Value)} (z : kvs.length ≤ sizeLine) (hd : (a == sysModules) = false) (rel : KV kvs vs) (dd : h'.DictOf (mixKind P w) a vs) :
    ObjOk P w H' h' a (.dK kvs) := ⟨z, hd, vs, rel, dd⟩
theorem d_setItem {H' : Hp} {Q : Unit → Shared → Prop} (hu : A.units + 1 < cLine) (I : Inv X pins σ H s) (g : DPut H a y v H') (ry : RelV y u) (rv : RelV v r) (h : ∀ s', Inv X pins σ H' s' → Q () s') :
    wpAny (model X.prog X.w) A (setItem (.ref a) u r) Q E s := by
  rcases g with ⟨kvs, k, e, ey, l, eH⟩ | ⟨xc, kvs, k, b, e, ey, eb, l, eH⟩
  · subst ey eH
    obtain ⟨z, hd, vs, rel, dd⟩ := dk_of I.hok e
    have hz : vs.length ≤ sizeLine := by rw [← rel.length]; exact z
    have hl : (putK kvs k v).length ≤ sizeLine := by have := length_putK kvs k v; omega
    refine wpAny_setItem_pairs (hsz := hz) (kV_is ry) dd fun h' dd' hs => h _ ?_
    have he : ∃ q, h'.get? a = some q := let ⟨q, _, _, hq, _⟩ := dd'; ⟨q, hq⟩
    exact d_write I (by rw [e]; exact True.intro) hs he (dk_new hl hd (rel.put k rv) dd')
  · subst ey eH
    cases (show u = Value.ref b from ry)
    obtain ⟨z, hd, xs, rel, ha, dd⟩ := dt_of I.hok e
    have hz : xs.length ≤ sizeLine := by rw [← Paired.length rel]; exact z
    have hl : (putK kvs k v).length ≤ sizeLine := by have := length_putK kvs k v; omega
    have eo : (kvs.any fun kv => decide (kv.1 = k)) = (atKey xs k).isSome := by rw [valV_any, (rel.val k).isSome_eq, Option.isSome_map]
    refine setE (tupleKind_room_in1 hu) (key_of I.hok eb) dd hz fun h' dd' hs => h _ ?_
    obtain ⟨q, es, hq, h2, h3, h4, _, h5⟩ := dd'
    refine d_write I (by rw [e]; exact True.intro) hs ⟨q, hq⟩ ⟨hl, hd, _, (rel.put k eb rv).keeps fun c ys ec => ?_, q, es, _, hq, h2, h3, h4, h5, rfl, by rw [eo]; exact adX_of ha⟩
    rw [upd_ne (ne_of ec e (fun z => nomatch z))]
    exact ec
end
section
variable {X : Cx} {pins : List (Addr × Obj)} {σ : St} {H : Hp} {s : Shared} {a : Addr} {kvs : List (Key × V)} {k : Key} {u : Value} {A : Around} {E : Value → Shared → Prop}
theorem d_len {Q : Value → Shared → Prop} (I : Inv X pins σ H s) (e : Rd H a (.dK kvs)) (h : ∀ t s', Inv X pins σ H s' → Q (.int kvs.length t) s') : wpAny (model X.prog X.w) A (call (.builtin "len") [.ref a]) Q E s := by
  obtain ⟨z, hd, vs, rel, dd⟩ := dk_rd I.hok e
  refine call_len_dict hd dd (by rw [← rel.length]; rw [sizeLine_eq] at z; omega) ?_
  rw [← rel.length]
  exact h _ _ (I.tok _)
end
noncomputable def NoSl (i : Expr) : Prop := ∀ ov iv, subscripted i false ov iv = operate [ov, iv] (getItem ov iv)
theorem subD_of {prog : Program} {w : World} {A : Around} {E : Value → Shared → Prop} {s : Shared} {env : Env} {value slice : Expr} {pos : Pos} {T id : String} {Q : Value → Shared → Prop}
    (hl : typeLookup (.type T) "__getitem__" = pure (some (.builtin id))) (hs : NoSl slice)
    (h : wpAny (model prog w) A (eval value env) (fun o s₁ => wpAny (model prog w) A (eval slice env) (fun i s₂ => s₂.TypeIs o T ∧ wpAny (model prog w) A (getItem o i) Q E s₂) E s₁) E s) :
    wpAny (model prog w) A (eval (.Subscript value slice pos) env) Q E s := by
  refine Subscript_ (wpAny_mono h (fun o s₁ h₁ => wpAny_mono h₁ (fun i s₂ h₂ => ?_) fun _ _ x => x) fun _ _ x => x)
  obtain ⟨hT, h₂⟩ := h₂
  unfold subscriptTail
  refine wpAny_bind ?_
  rw [getitemInPython_of_ne hT.not_modules]
  refine wpAny_bind (wpAny_specialOf hT hl ?_)
  have fin : wpAny (model prog w) A (subscripted slice false o i) (fun r s₃ => wpAny (model prog w) A (letTemporaryGo value o r >>= fun _ => pure r) Q E s₃) E s₂ := by
    rw [hs o i]
    exact wpAny_operating (wpAny_mono h₂ (fun r s₃ h₃ => wpAny_bind (wpAny_letTemporaryGo (wpAny_pure h₃))) fun _ _ x => x)
  first
    | exact wpAny_pure (wpAny_bind fin)
    | exact wpAny_bind (wpAny_pure (wpAny_bind fin))
    | exact wpAny_bind fin
theorem dict_typeIs {X : Cx} {pins : List (Addr × Obj)} {σ : St} {H : Hp} {s : Shared} {a : Addr} {y : V} {o : Option V} (I : Inv X pins σ H s) (g : DGet H a y o) : s.TypeIs (.ref a) "dict" := by
  rcases g with ⟨kvs, k, e, _, _⟩ | ⟨xc, kvs, k, b, e, _, _, _⟩
  · obtain ⟨_, _, vs, _, dd⟩ := dk_rd I.hok e
    exact dd.typeIs
  · obtain ⟨_, _, xs, _, _, dd⟩ := dt_rd I.hok e
    replace dd := dd.of
    exact dd.typeIs
noncomputable def tDGet (td ty : TE) : TE := fun σ H Q => td σ H fun x H1 => ty σ H1 fun y H2 => ∃ a v, x = .ref a ∧ DGet H2 a y (some v) ∧ Q v H2
noncomputable def sDPut (td ty tv : TE) : TS := fun D σ H => tv σ H fun v H1 => td σ H1 fun x H2 => ty σ H2 fun y H3 => ∃ a H4, x = .ref a ∧ DPut H3 a y v H4 ∧ D.nx σ H4
section
variable {X : Cx} {o i e value : Expr} {pos pos' tpos : Pos} {td ty tv : TE}
theorem pe_dget (hu : X.A.units + 1 < cLine) (ho : PE X o td) (hi : PE X i ty) (hs : NoSl i) : PE X (.Subscript o i pos) (tDGet td ty) := by
  intro pins s σ H Q I h
  refine subD_of PySem.F.slot_dict_getitem.lookup hs (thn (ho pins s σ H _ I h) fun u s1 ⟨x, H1, I1, rx, q1⟩ => thn (hi pins s1 σ H1 _ I1 q1) fun iv s2 ⟨y, H2, I2, ry, a, v, ex, g, q2⟩ => ?_)
  subst ex
  obtain rfl : u = Value.ref a := rx
  exact ⟨dict_typeIs I2 g, d_getItem hu I2 g ry fun w' s3 I3 rw' => ⟨v, H2, I3, rw', q2⟩⟩
theorem ps_dput (hu : X.A.units + 1 < cLine) (ho : PE X o td) (hi : PE X i ty) (hv : PE X value tv) (hs : swapsWith value (some (.Subscript o i pos')) pos.line X.env = pure false) :
    PS X (.Assign [.Subscript o i pos'] value pos) (sDPut td ty tv) := by
  intro pins s σ H D I h
  refine wpAny_Assign_Subscript (thn (hv pins s σ H _ I h) fun r s1 ⟨v, H1, I1, rv, q1⟩ => thn (ho pins s1 σ H1 _ I1 q1) fun u s2 ⟨x, H2, I2, rx, q2⟩ => thn (hi pins s2 σ H2 _ I2 q2) fun iv s3 ⟨y, H3, I3, ry, a, H4, ex, g, q3⟩ => ?_) hs
  subst ex
  obtain rfl : u = Value.ref a := rx
  exact d_setItem hu I3 g ry rv fun s4 I4 => ⟨σ, H4, I4, q3⟩
end
theorem dt_empty {P : Program} {w : World} {H : Hp} {xc : Option (List Addr)} (hx : xc = none ∨ xc = some []) (h : Heap) (hb : sysModules < h.objs.size) : ObjOk P w H (h.push { cls := .type "dict", data := .dict #[] }) h.objs.size (.dT xc []) :=
  ⟨Nat.zero_le _, beq_eq_false_iff_ne.mpr (Ne.symm (Nat.ne_of_lt hb)), [], .nil, _, #[], 0, Heap.get?_push_size _ rfl, ⟨rfl, rfl, rfl⟩, rfl, rfl, List.nodup_nil, rfl, fun as e => by
    rcases hx with rfl | rfl
    · cases e
    · injection e⟩
noncomputable def tDNewT : TE := fun _ H Q => ∀ p, H p = none → Q (.ref p) (upd H p (.dT none []))
noncomputable def tDNewX : TE := fun _ H Q => ∀ p, H p = none → Q (.ref p) (upd H p (.dT (some []) []))
section
variable {X : Cx} {pos : Pos}
theorem pe_dnewT : PE X (.Dict [] [] pos) tDNewT := fun pins s σ H Q I h =>
  wpAny_Dict_empty ⟨.ref s.heap.objs.size, _, I.laid (a := s.heap.objs.size) (o := .dT none []) (t' := s.toks) (fun _ _ q => Heap.get?_push_of_some _ q) (Nat.le_refl _) (dt_empty (.inl rfl) s.heap I.big), rfl, h _ (I.hok.fresh (Nat.le_refl _))⟩
theorem pe_dnewX : PE X (.Dict [] [] pos) tDNewX := fun pins s σ H Q I h =>
  wpAny_Dict_empty ⟨.ref s.heap.objs.size, _, I.laid (a := s.heap.objs.size) (o := .dT (some []) []) (t' := s.toks) (fun _ _ q => Heap.get?_push_of_some _ q) (Nat.le_refl _) (dt_empty (.inr rfl) s.heap I.big), rfl, h _ (I.hok.fresh (Nat.le_refl _))⟩
end
structure M2 (X : Cx) (o : Expr) (m : Str) (apos : Pos) (e f : Expr) (cpos : Pos) : Prop where
  base : attributeBase o m X.env (eval o X.env) = eval o X.env
  few : ((backTo cpos (starEach [e, f] X.env)).all (fun x => !x.1) && (backToKw cpos (keywordEach [] X.env)).all (fun x => x.1.isSome)
    && decide (([e, f] : List Expr).length + ([] : List Keyword).length + (if ([] : List Keyword).isEmpty then 0 else 1) < 30)) = true
  line : (apos.endLine == cpos.line) = true
  trees : backTo cpos (starEach [e, f] X.env) = [(false, eval e X.env), (false, eval f X.env)]
noncomputable def IsD (H : Hp) (a : Addr) : Prop := (∃ kvs, Rd H a (.dK kvs)) ∨ ∃ xc kvs, Rd H a (.dT xc kvs)
theorem isD_at {X : Cx} {pins : List (Addr × Obj)} {σ : St} {H : Hp} {s : Shared} {a : Addr} (I : Inv X pins σ H s) (d : IsD H a) :
    s.TypeIs (.ref a) "dict" ∧ (∀ b, Value.ref a = .ref b → ∃ ob, s.heap.get? b = some ob ∧ ob.dict = none) ∧ (a == sysModules) = false := by
  rcases d with ⟨kvs, e⟩ | ⟨xc, kvs, e⟩
  · obtain ⟨_, hd, vs, _, dd⟩ := dk_rd I.hok e
    refine ⟨dd.typeIs, fun b q => ?_, hd⟩
    cases q
    obtain ⟨ob, _, _, h1, h2, _⟩ := dd
    exact ⟨ob, h1, h2.2.1⟩
  · obtain ⟨_, hd, xs, _, _, dd⟩ := dt_rd I.hok e
    replace dd := dd.of
    refine ⟨dd.typeIs, fun b q => ?_, hd⟩
    cases q
    obtain ⟨ob, _, _, h1, h2, _⟩ := dd
    exact ⟨ob, h1, h2.2.1⟩
section
variable {X : Cx} {pins : List (Addr × Obj)} {σ : St} {H : Hp} {s : Shared} {a : Addr} {y d : V} {u r : Value} {o : Option V} {A : Around} {E : Value → Shared → Prop}
theorem d_get2 {Q : Value → Shared → Prop} (hu : A.units + 1 < cLine) (I : Inv X pins σ H s) (g : DGet H a y o) (ry : RelV y u) (rd : RelV d r) (h : ∀ w' s', Inv X pins σ H s' → RelV (o.getD d) w' → Q w' s') :
    wpAny (model X.prog X.w) A (call (.builtin "dict.get") [.ref a, u, r]) Q E s := by
  rcases g with ⟨kvs, k, e, ey, l⟩ | ⟨xc, kvs, k, b, e, ey, eb, l⟩
  · subst ey
    obtain ⟨z, hd, vs, rel, dd⟩ := dk_rd I.hok e
    refine call_meetsIn PySem.F.slot_dict_get dd.typeIs PySem.F.entry_dict_get (PySem.F.args_dict_get_3 _ _ _) (meets_dict_get_default (mixKind X.prog X.w) a (kV_is ry) hd r) ⟨_, dd.mapOf, h _ _ (I.tok _) ?_⟩
    rw [l]
    exact (rel.val k).getD rd
  · subst ey
    cases (show u = Value.ref b from ry)
    obtain ⟨z, hd, xs, rel, _, dd⟩ := dt_rd I.hok e
    replace dd := dd.of
    refine call_meetsIn PySem.F.slot_dict_get dd.typeIs PySem.F.entry_dict_get (PySem.F.args_dict_get_3 _ _ _) (meetsH_dict_get_default (tupleKind (mixKind X.prog X.w)) a b hd r) ⟨tupleKind_room_in1 hu, k, xs, key_of I.hok eb, dd, h _ _ (I.tok _) ?_⟩
    rw [l]
    exact (rel.val k).getD rd
end
noncomputable def tDGet2 (td ty tx : TE) : TE := fun σ H Q => td σ H fun x H1 => ∃ a, x = .ref a ∧ IsD H1 a ∧ ty σ H1 fun y H2 => tx σ H2 fun z H3 => ∃ o, DGet H3 a y o ∧ Q (o.getD z) H3
section
variable {X : Cx} {o e f : Expr} {apos cpos : Pos} {td ty tx : TE}
theorem pe_dget2 (hu : X.A.units + 1 < cLine) (ho : PE X o td) (he : PE X e ty) (hf : PE X f tx) (m : M2 X o "get" apos e f cpos) : PE X (.Call (.Attribute o "get" apos) [e, f] [] cpos) (tDGet2 td ty tx) := by
  intro pins s σ H Q I h
  refine wpAny_Call_method m.base m.few m.line PySem.F.plainAttrs_dict PySem.F.slot_dict_get PySem.F.type_dict_get (thn (ho pins s σ H _ I h) fun u s1 ⟨x, H1, I1, rx, a, ex, d, q1⟩ => ?_)
  subst ex
  obtain rfl : u = Value.ref a := rx
  obtain ⟨t1, t2, _⟩ := isD_at I1 d
  refine ⟨t1, t2, ?_⟩
  rw [m.trees]
  refine Calls.callWith_builtin rfl (Calls.evalArgs_plain (Calls.spliced_cons (thn (he pins s1 σ H1 _ I1 q1) fun iv s2 ⟨y, H2, I2, ry, q2⟩ =>
    Calls.spliced_cons (thn (hf pins s2 σ H2 _ I2 q2) fun fv s3 ⟨z, H3, I3, rz, ov, g, q3⟩ => Calls.spliced_nil ?_))))
  exact d_get2 hu I3 g ry rz fun w' s4 I4 rw' => ⟨_, H3, I4, rw', q3⟩
end
section
variable {X : Cx} {pins : List (Addr × Obj)} {σ : St} {H : Hp} {s : Shared} {a : Addr} {kvs : List (Key × V)} {A : Around} {E : Value → Shared → Prop}
end
section
variable {X : Cx} {pins : List (Addr × Obj)} {σ : St} {H : Hp} {s : Shared} {a : Addr} {y : V} {u : Value} {A : Around} {E : Value → Shared → Prop}
end
end L2
namespace Att
open PySem PySem.W PySem.Calls PyProof.Rows
theorem ints_of_wellAll {P : Params} {h : Heap} : ∀ (ns : List Int) (vs : List Value), WellAll P h vs (ns.map WData.int) → IntsAre vs ns := by
  intro ns
  induction ns with
  | nil =>
    intro vs w
    rw [List.map_nil] at w
    cases w
    exact .nil
  | cons n ns ih =>
    intro vs w
    rw [List.map_cons] at w
    cases w with
    | cons a b =>
      cases a
      exact .cons _ _ (ih _ b)
theorem script_of {l : OpenLaw} {n : Nat} (hn : l.most = some n) {P : Params} {h : Heap} {args : List WData} {vals : List Value}
    (hpre : l.row.toRowW.claim.pre args = true) (hwl : WellAll P h vals args) :
    ∃ a vs ns, vals = [Value.ref a] ∧ args = [WData.list (ns.map WData.int)] ∧ h.get? a = some { cls := .type "list", data := .seq vs.toArray } ∧ IntsAre vs ns ∧ ns.length ≤ n := by
  have hsh : WShape.hasAll [] args [.list .int] = true := (pre_splitW hpre).1
  have hc : l.pre.holds [] { args := args } = true := (pre_splitW hpre).2
  obtain ⟨d, r, rfl, h1, h2⟩ := hasAllW_cons hsh
  obtain rfl := hasAllW_nil h2
  obtain ⟨xs, rfl, h3⟩ := hasW_list h1
  obtain ⟨ns, rfl⟩ := items_int h3
  have hlen : ns.length ≤ n := by
    unfold OpenLaw.pre at hc
    have h4 : (WTm.not (.lt (.lit (.int (n : Int))) (.len (.arg 0)))).holds [] { args := [.list (ns.map .int)] } = true := by
      have h4 := (holds_andW hc).1
      rw [hn] at h4
      exact h4
    have h5 := condW_of h4 (w_not (w_lt w_lit (w_len_list (w_arg rfl))))
    rw [List.length_map] at h5
    refine Nat.le_of_not_lt fun q => ?_
    have q' : (n : Int) < ((ns.length : Nat) : Int) := by omega
    first
      | (rw [decide_eq_true q'] at h5; exact absurd h5 (by decide))
      | (simp at h5; omega)
  cases hwl with
  | cons w1 w2 =>
    cases w2
    cases w1 with
    | list ho hall => exact ⟨_, _, ns, rfl, rfl, ho, ints_of_wellAll ns _ hall, hlen⟩
theorem post_true (l : OpenLaw) (args : List WData) : l.row.toRowW.claim.post args (.bool true) args = true :=
  postW_of (r := l.row.toRowW) (X := (true == true))
    (show WShape.has [] (.bool true) .bool = true by first | rfl | decide | simp [WShape.has, WShape.arms, WShape.armsAll])
    (show (WTm.eq .res (.lit (.bool true))).value [] { args := args, res := some (.bool true), after := args } = some (.bool (true == true)) from w_eq_bool (w_res rfl) w_lit) rfl
theorem attach_call {l : OpenLaw} {n : Nat} {q : Program} {loose : List Str} {XP : (Str → Option Value) → Heap → Prop} {YP : World → Heap → Prop} {d : DefRec}
    (hn : l.most = some n) (hdf : d.params.defaults = [])
    (call : ∀ (w : World) (s₀ s₁ : Shared) (mg mb : Str → Option Value) (fa : Addr) (o : Obj) (pm cd doc : Value) (a : Addr) (vs : List Value) (ns : List Int),
      Ground q loose [] XP w s₀ mg mb s₁.heap → YP w s₁.heap →
      s₁.heap.get? fa = some o → o.data = .func (docDef d.name d.params d.body d.scope pm cd doc) → s₁.heap.CodeRec cd d.name → mg d.name = some (.ref fa) →
      s₁.heap.get? a = some { cls := .type "list", data := .seq vs.toArray } → IntsAre vs ns → ns.length ≤ n → s₁.gens = #[] →
      codeAny (model l.prog w) callerA (.call (.ref fa) ⟨[.ref a], []⟩) (fun r s' => r = .ok (.ret (.bool true)) ∧ OldK s₁.heap s'.heap ∧ s'.os = s₁.os ∧ AllBare s'.gens) s₁) :
    WalkO q loose XP YP l.row.toRowW d [] (fun f vs => PySem.call f vs) := by
  intro w s₀ s₁ mg mb G Y fa o pm cd doc dV kV ho hd hcd hD hmg hg args vals as hpre hlay hrd hwl hlo
  obtain rfl : dV = .none := Dflts.none hD hdf
  obtain rfl : kV = .none := Dflts.noKw hD
  obtain ⟨a, vs, ns, rfl, rfl, hobj, hints, hlen⟩ := script_of hn hpre hwl
  refine enter_call (codeAny_mono (call w s₀ s₁ mg mb fa o pm cd doc a vs ns G Y ho (fd_plain hd) hcd hmg hobj hints hlen hg) fun r s' hq => ?_)
  obtain ⟨rfl, h2, h3, h4⟩ := hq
  exact ⟨.inl ⟨.bool true, .bool true, [], rfl, fun _ => rfl, .bool true, post_true l _, fun _ => ⟨List.Pairwise.nil, fun _ hm => (nomatch hm)⟩⟩, h2, h3, h4⟩
section
variable {prog : Program} {w : World} {A : Around} {E : Value → Shared → Prop} {s : Shared} {K : Frag}
end
end Att
namespace L2
open PySem PySem.Spec PyProof.Rows
theorem vals_ints : ∀ {vs : List Value} {ns : List Int}, IntsAre vs ns → Vals (ns.map V.int) vs
  | _, _, .nil => .nil
  | _, _, .cons n t h => .cons ⟨t, rfl⟩ (vals_ints h)
noncomputable def Only (H : Hp) : Prop := ∀ b, H b = none ∨ ∃ o xs, H b = some (.frz o (.lst xs))
theorem law_call {P : Program} {w : World} {K : PySem.W.Frag} {mg mb : Str → Option Value} {CX : CXT} {k : Nat} {fa a : Addr} {fd : FuncData} {x : Str} {sp : Sp} {s₁ : Shared} {vs : List Value} {ns : List Int}
    (KX : K.In s₁.heap) (hns : s₁.heap.Ns mainGlobals mg) (hb : s₁.heap.Ns builtinsNs mb) (hbb : ∀ x : Str, x ≠ "__name__" → mb x = bootBuiltins x) (hlim : s₁.heap.NoLimit) (hg : s₁.gens = #[])
    (ha : s₁.heap.get? a = some { cls := .type "list", data := .seq vs.toArray }) (hi : IntsAre vs ns) (hl : ns.length ≤ sizeLine) (hr : Room k callerA)
    (F : ∀ base : Heap, K.In base → base.Ns mainGlobals mg → FnOk P w K mg base CX k fa fd [x] sp) (hbind : ∀ (s : Shared) (u : Value), BindsTo s fd ⟨[u], []⟩ [(x, u)])
    (hsp : ∀ H : Hp, Only H → SqL K H a (ns.map V.int) → sp [.ref a] H (fun v _ => v = .bl true) fun _ _ _ => False)
    (hCX : ∀ H e s', CX [] H s₁ (fun _ _ _ => False) e s' → False) :
    codeAny (model P w) callerA (.call (.ref fa) ⟨[.ref a], []⟩) (fun r s' => r = .ok (.ret (.bool true)) ∧ OldK s₁.heap s'.heap ∧ s'.os = s₁.os ∧ AllBare s'.gens) s₁ := by
  have rv := vals_ints hi
  have lenV := hi.length
  have core : ∀ H : Hp, Only H → SqL K H a (ns.map V.int) → HOk P w H s₁.heap → (∀ b, H b ≠ none → b = a) → (H a ≠ none → K.lookup a = none) →
      codeAny (model P w) callerA (.call (.ref fa) ⟨[.ref a], []⟩) (fun r s' => r = .ok (.ret (.bool true)) ∧ OldK s₁.heap s'.heap ∧ s'.os = s₁.os ∧ AllBare s'.gens) s₁ := by
    intro H hO hS hok hA hK
    have base_of : ∀ {b : Addr} {o : Obj}, s₁.heap.get? b = some o → H b = none → (hidT s₁.heap H).get? b = some o := fun e n => hidT_get e n
    have noA : ∀ {b : Addr} {o : Obj} {es : Array DictEntry} {ep : Nat}, s₁.heap.get? b = some o → o.data = .dict es ep → H b = none := fun {b o es ep} e d => by
      cases q : H b with
      | none => rfl
      | some u =>
        have e' : b = a := hA b (by rw [q]; simp)
        subst e'
        rw [ha] at e; cases e
        have d' : Data.seq vs.toArray _ = Data.dict es ep := d
        cases d'
    have nsK : ∀ {b : Addr} {m : Str → Option Value}, s₁.heap.Ns b m → (hidT s₁.heap H).Ns b m := fun {b m} ⟨o, es, ep, e, d, r⟩ => ⟨o, es, ep, base_of e (noA e d), d, r⟩
    have hKb : K.In (hidT s₁.heap H) := fun b o e => base_of (KX b o e) (by
      cases q : H b with
      | none => rfl
      | some u =>
        have e' : b = a := hA b (by rw [q]; simp)
        subst e'
        rw [hK (by rw [q]; simp)] at e; cases e)
    have hM : Mod K mg (hidT s₁.heap H) := ⟨hKb, nsK hns, ⟨mb, nsK hb, hbb⟩, let ⟨mc, h1, h2⟩ := hlim; ⟨mc, nsK h1, h2⟩⟩
    have e0 : Env0 P w K mg (hidT s₁.heap H) callerA [] s₁ H := ⟨rfl, hM, fun b o e => of_hidT e, Nat.le_of_eq (hidT_size _ _), trivial, fun b hb => absurd (show b ∈ ([] : List Addr) from hb) (by simp), hok, .of_eq hg⟩
    refine codeAny_mono ((F _ hKb (nsK hns)).run callerA [] s₁ H ⟨[.ref a], []⟩ [.ref a] [.ref a] _ _ hr e0 (hbind s₁ (.ref a)) (.cons rfl .nil) (hsp H hO hS)) fun r s' h => ?_
    cases r with
    | error e => exact (hCX H e s' h).elim
    | ok fl =>
      cases fl with
      | next => exact False.elim h
      | brk => exact False.elim h
      | cont => exact False.elim h
      | ret u =>
        obtain ⟨v, H', os, bare, un, hok', r', q⟩ := h
        have q' : v = .bl true := q
        subst q'
        obtain rfl : u = Value.bool true := r'
        refine ⟨rfl, OldK.of_keep fun b o e => ?_, os, bare⟩
        cases q : H b with
        | none => exact un.keep b o e q (by intro z; exact absurd (show b ∈ ([] : List Addr) from z) (by simp)) (by simp)
        | some u =>
          rcases hO b with z | ⟨ob, xs, z⟩
          · rw [q] at z; cases z
          · have z2 := un.frzs b ob _ z
            obtain ⟨e1, _⟩ := hok b _ z
            obtain ⟨e2, _⟩ := hok' b _ z2
            rw [e] at e1; cases e1
            exact e2
  cases hk : K.lookup a with
  | some o =>
    have e := KX a o hk
    rw [ha] at e
    cases e
    refine core (fun _ => none) (fun _ => .inl rfl) (.inr ⟨_, vs.toArray, _, hk, rfl, rfl, rfl, by rw [List.size_toArray, lenV]; exact hl, by simpa using rv⟩) (fun b u z => by have z' : (none : Option HO) = some u := z; cases z') (fun b z => absurd rfl z) fun z => absurd rfl z
  | none =>
    refine core (fun b => if b = a then some (.frz { cls := .type "list", data := .seq vs.toArray } (.lst (ns.map V.int))) else none) (fun b => ?_) (.inl (.inr ⟨{ cls := .type "list", data := .seq vs.toArray }, if_pos rfl⟩)) (fun b u z => ?_) (fun b z => ?_) fun _ => hk
    · by_cases hb : b = a
      · exact .inr ⟨_, _, if_pos hb⟩
      · exact .inl (if_neg hb)
    · by_cases hb : b = a
      · have z' := (if_pos hb).symm.trans z
        cases z'
        subst hb
        exact ⟨ha, by rw [List.length_map]; exact hl, vs, _, rv, ha⟩
      · have z' := (if_neg hb).symm.trans z
        cases z'
    · by_cases hb : b = a
      · exact hb
      · exact absurd (if_neg hb) z
end L2
namespace L2
open PySem PySem.Spec PyProof.Rows
theorem walk_of {l : PySem.W.OpenLaw} {n k : Nat} {q : Program} {loose : List Str} {XP : (Str → Option Value) → Heap → Prop} {YP : World → Heap → Prop} {d : DefRec} {K : Params → PySem.W.Frag} {CX : World → CXT} {sp : World → Sp} {x : Str}
    (hn : l.most = some n) (hn2 : n ≤ sizeLine) (hdf : d.params.defaults = []) (hr : Room k callerA)
    (hY : ∀ (w : World) (h : Heap), YP w h → (K w.params).In h)
    (F : ∀ (w : World) (mg : Str → Option Value) (fa : Addr) (h : Heap), (K w.params).In h → h.Ns mainGlobals mg → mg d.name = some (.ref fa) →
      ∃ fd : FuncData, (∀ (s : Shared) (u : Value), BindsTo s fd ⟨[u], []⟩ [(x, u)]) ∧
        ∀ base : Heap, (K w.params).In base → base.Ns mainGlobals mg → FnOk l.prog w (K w.params) mg base (CX w) k fa fd [x] (sp w))
    (hsp : ∀ (w : World) (H : Hp) (a : Addr) (ns : List Int), ns.length ≤ n → Only H → SqL (K w.params) H a (ns.map V.int) → sp w [.ref a] H (fun v _ => v = .bl true) fun _ _ _ => False)
    (hCX : ∀ (w : World) (H : Hp) (s : Shared) (e : Value) (s' : Shared), CX w [] H s (fun _ _ _ => False) e s' → False) :
    PySem.W.WalkO q loose XP YP l.row.toRowW d [] (fun f vs => PySem.call f vs) := by
  refine Att.attach_call hn hdf fun w s₀ s₁ mg mb fa o pm cd doc a vs ns G Y ho hd hcd hmg hobj hints hlen hg => ?_
  have KX := hY w _ Y
  obtain ⟨fd, hb, hF⟩ := F w mg fa _ KX G.T.g hmg
  exact law_call KX G.T.g G.T.b G.T.builtins G.T.nolimit hg hobj hints (Nat.le_trans hlen hn2) hr hF hb (fun H hO hS => hsp w H a ns hlen hO hS) fun H e s' => hCX w H s₁ e s'
end L2
/- THE LAST THEOREM (shape; LID, My.* are yours):
   My.Adr: a structure of the addresses that your layer names (classes, functions); My.Txt K t: a structure (Prop) of the equations over K;
   My.txt_mk : {K} {implicit addresses ..} (e1 : nsIn K mainGlobals "law" = some (some (.ref f))) (e2 : K.lookup f = some ⟨oc, od, .func (fnOf "law" "law" params body scope dV kV doc pm an cdv ct), sl⟩) (e3 : codeIn K cdv "law" = true) .. : ∃ t, My.Txt K t
(the tactic k_is has no namespace: write k_is) -/
namespace L2
open PySem PySem.Spec PyProof.Rows
noncomputable def inClass (s : Stmt) (j : Nat) : Stmt := match s with
  | .ClassDef _ _ _ body _ _ _ _ _ _ _ => body.getD j (.Pass ⟨0, 0, 0, 0⟩)
  | _ => .Pass ⟨0, 0, 0, 0⟩
noncomputable def defArgs (s : Stmt) : Arguments := match s with
  | .FunctionDef _ a _ _ _ _ _ _ _ _ => a
  | _ => { posonlyargs := [], args := [], vararg := none, kwonlyargs := [], kw_defaults := [], kwarg := none, defaults := [] }
noncomputable def defBody (s : Stmt) : List Stmt := match s with
  | .FunctionDef _ _ b _ _ _ _ _ _ _ => b
  | _ => []
noncomputable def defScope (s : Stmt) : Scope := match s with
  | .FunctionDef _ _ _ _ _ _ sc _ _ _ => sc
  | _ => { kind := .function, names := [], isGenerator := false, isCoroutine := false }
noncomputable abbrev E0 : XK := fun _ _ _ => False
structure Fun (K : PySem.W.Frag) (x qual : Str) (st : Stmt) (f : Addr) (fd : FuncData) : Prop where
  ex : ∃ (oc : Value) (od : Option Addr) (kV doc pm : Value) (an : Option Addr) (cdv ct : Value) (osl : Array (Option Value)),
    fd = PySem.W.fnOf x qual (defArgs st) (defBody st) (defScope st) .none kV doc pm an cdv ct ∧ K.lookup f = some ⟨oc, od, .func fd, osl⟩ ∧ PySem.W.codeIn K cdv qual = true
  kp : PySem.W.keepIn K (.ref f) = true
section
variable {P : Program} {w : World} {K : PySem.W.Frag} {mg : Str → Option Value} {base : Heap}
theorem Fun.binds {x qual : Str} {st : Stmt} {f : Addr} {fd : FuncData} {ps : List Str} (F : Fun K x qual st f fd)
    (h : ∀ (kV doc pm : Value) (an : Option Addr) (cdv ct : Value) (us : List Value), us.length = ps.length → bindArgs (PySem.W.fnOf x qual (defArgs st) (defBody st) (defScope st) .none kV doc pm an cdv ct) ⟨us, []⟩ = pure (ps.zip us)) : Binds K fd ps [] := by
  obtain ⟨oc, od, kV, doc, pm, an, cdv, ct, osl, rfl, lk, hcd⟩ := F.ex
  exact .all (h kV doc pm an cdv ct)
theorem fun_mk {x qual : Str} {st : Stmt} {f : Addr} {oc : Value} {od an : Option Addr} {osl : Array (Option Value)} {kV doc pm cdv ct : Value} (l : K.lookup f = some ⟨oc, od, .func (PySem.W.fnOf x qual (defArgs st) (defBody st) (defScope st) .none kV doc pm an cdv ct), osl⟩)
    (c : PySem.W.codeIn K cdv qual = true) (k : PySem.W.keepIn K (.ref f) = true) : Fun K x qual st f (PySem.W.fnOf x qual (defArgs st) (defBody st) (defScope st) .none kV doc pm an cdv ct) := ⟨⟨oc, od, kV, doc, pm, an, cdv, ct, osl, rfl, l, c⟩, k⟩
end
section
variable {X : Cx}
theorem pv (i : Nat) {x : Str} {pos : Pos} (hN : X.N[i]? = some x := by rfl) (hv : Vis X.env.scope x := by first | exact Or.inl rfl | exact Or.inr (Or.inl rfl) | exact Or.inr (Or.inr rfl)) (hd : (x == ("__debug__" : Str)) = false := by decide)
    (hcd : (x == ("__classdict__" : Str)) = false := by decide) : PE X (.Name x pos) (tVar i) := pe_var hN hv hd hcd
theorem call_lenD : CallR X (.builtin "len") (fun xs H Q => ∃ a kvs, xs = [V.ref a] ∧ H a = some (.dK kvs) ∧ Q (.int kvs.length) H) := by
  intro pins s σ H xs us Q I r h
  obtain ⟨a, kvs, rfl, ha, q⟩ := h
  obtain ⟨u, rfl, ru⟩ := vals1 r
  cases ru
  exact d_len I (.inl ha) fun t s' I' => ⟨.int kvs.length, H, I', ⟨t, rfl⟩, q⟩
end
section
variable {κ : Type} [DecidableEq κ]
end
end L2

set_option maxHeartbeats 4000000
namespace L2
open PySem PySem.Spec PyProof.Rows
section
variable {X : Cx} {pins : List (Addr × Obj)} {σ : St} {H : Hp} {s : Shared} {h' : Heap}
theorem Inv.turnedL {t' : Nat} {fp : List Addr} (I : Inv X pins σ H s) (k : ∀ b o, b ∉ fp → s.heap.get? b = some o → h'.get? b = some o) (hf : ∀ b ∈ fp, FpOk X pins H b) :
    Inv X pins σ H { s with heap := h', toks := t' } := by
  have nit : ∀ b u, H b = some u → b ∉ fp := fun b u e z => by
    have q := (hf b z).1
    rw [q] at e
    cases e
  refine I.step (g' := s.gens) (d' := s.drawn) (ch := fp) (fun b hb => ?_) (fun b o _ _ hc e _ => k b o hc e) (fun b o _ _ hc e _ => ⟨o.slots, k b o hc e⟩) (fun _ _ _ _ n => n)
    (fun b o hc e => ⟨o, k b o hc e⟩) (fun _ _ e => e) (fun _ _ _ e => e) (fun b ps e => ⟨#[], by rw [e]; simp⟩) (fun m hm => ?_) (fun b u e => ?_) I.bare
  · obtain ⟨_, f1, _, f3, f4, f5⟩ := hf b hb
    exact ⟨f3, f1, f4, f5⟩
  · obtain ⟨o, es, ep, ho, r⟩ := hm
    exact ⟨o, es, ep, k _ o (fun z => (hf _ z).2.1 rfl) ho, r⟩
  · refine (I.hok b u e).stay (fun c v hc q => k c v ?_ q) (fun _ q => q) fun _ _ q => q
    rcases hc with z | z
    · rw [z]; exact nit b u e
    · exact nit c _ z
end
section
variable {X : Cx}
end
noncomputable def Its (x : Str) : It := ⟨fun i _ => i < x.cps.size, fun i H v H' => H' = H ∧ ∃ c, x.cps[i]? = some c ∧ v = .str ⟨#[c]⟩, fun i _ => x.cps.size ≤ i⟩
theorem walks_str {P : Program} {w : World} {A : Around} (hh : A.handled = none) (it : Addr) (x : Str) (t : Tok) :
    Walks P w A it [it] [it] x.cps.size (SignAt x) (fun i h => h.IsStrIter it (strIterType x) x t i) := by
  cases ha : x.cps.all (· < 128) with
  | false =>
    have e : strIterType x = "str_iterator" := by simp [strIterType, ha]
    rw [e]
    exact Walks.strWide hh it x t
  | true =>
    have e : strIterType x = "str_ascii_iterator" := by simp [strIterType, ha]
    rw [e]
    exact Walks.strAscii hh it x t
theorem turn_str {P : Program} {w : World} {K : PySem.W.Frag} {y : Str} {py : Pos} (it : Addr) (x : Str) (t : Tok) : Turn P w K (.Name y py) (Its x) [it] it (fun i h => h.IsStrIter it (strIterType x) x t i) where
  mem := by simp
  obj := fun i h st b hb => by
    have e : b = it := by simpa using hb
    subst e
    obtain ⟨o, e, c, d⟩ := st
    exact ⟨o, e, fun v z => by rw [d] at z; cases z⟩
  keep := fun i h h' st k => by
    obtain ⟨o, e, r⟩ := st
    exact ⟨o, k it (by simp) o e, r⟩
  item := by
    intro X hP hw hK hc i pins s σ H E I hf st hg
    subst hP hw hK
    refine (walks_str (I.ok.hd hc) it x t).item i s _ _ hg st fun v h1 tk hv st1 kk => ?_
    obtain ⟨c, u, hcp, rfl⟩ := hv
    have I1 : Inv X pins σ H { s with heap := h1, toks := tk } := I.turnedL (fp := [it]) kk hf
    exact ⟨_, rfl, wpAny_pure ⟨.str ⟨#[c]⟩, H, I1, ⟨u, rfl⟩, ⟨rfl, c, hcp, rfl⟩, st1, fun b hb => (hf b hb).1⟩⟩
  done := by
    intro X hP hw hK hc i pins s σ H E I hf st hg
    subst hP hw hK
    have hx : x.cps[i]? = none := Array.getElem?_eq_none hg
    cases ha : x.cps.all (· < 128) with
    | false =>
      have e : strIterType x = "str_iterator" := by simp [strIterType, ha]
      rw [e] at st
      exact wpAny_pyNext_wide_end (I.ok.hd hc) st hx fun h' eb => ⟨rfl, I.turnedL (fp := [it]) (t' := s.toks) (fun b o hb q => eb b o (fun z => hb (by simp [z])) q) hf⟩
    | true =>
      have e : strIterType x = "str_ascii_iterator" := by simp [strIterType, ha]
      rw [e] at st
      exact wpAny_pyNext_ascii_end (I.ok.hd hc) st hx fun h' eb => ⟨rfl, I.turnedL (fp := [it]) (t' := s.toks) (fun b o hb q => eb b o (fun z => hb (by simp [z])) q) hf⟩
  self := fun A i s Q E st h => by
    cases ha : x.cps.all (· < 128) with
    | false =>
      have e : strIterType x = "str_iterator" := by simp [strIterType, ha]
      rw [e] at st
      exact wpAny_pyIter_striter_wide st h
    | true =>
      have e : strIterType x = "str_ascii_iterator" := by simp [strIterType, ha]
      rw [e] at st
      exact wpAny_pyIter_striter_ascii st h
section
variable {X : Cx}
noncomputable def iStr (tl : TE) : TI := fun σ H R => tl σ H fun x H1 => ∃ t, x = .str t ∧ R (Its t) H1
theorem pi_str {l : Expr} {tl : TE} {y : Str} {py : Pos} (hl : PE X l tl) : PI X (.Name y py) l (iStr tl) := by
  intro pins s σ H R I h
  refine thn (hl pins s σ H _ I h) fun v s1 ⟨x, H1, I1, r1, q1⟩ => ?_
  obtain ⟨t, e, q⟩ := q1
  subst e
  obtain ⟨tk, rfl⟩ := r1
  refine wpAny_pyIter_strU ?_
  refine ⟨s1.heap.objs.size, [s1.heap.objs.size], _, _, H1, rfl, I1.kept (t' := s1.toks) fun b o e => Heap.get?_push_of_some _ e, turn_str _ t tk, ⟨_, Heap.get?_push_size _ rfl, rfl, rfl⟩, fun b hb => ?_, q⟩
  have e : b = s1.heap.objs.size := by simpa using hb
  subst e
  exact I1.fpOk (Nat.le_refl _) (I1.hok.fresh (Nat.le_refl _))
end
noncomputable def closNames (env : Env) : List (Str × NameKind) → List (Str × Addr) → List (Str × Addr)
  | [], acc => acc
  | (n, k) :: r, acc => closNames env r (if k = .free then (n, (env.cells.lookup n).getD 0) :: acc else acc)
theorem closFor_eq {env : Env} {scope : Scope} (h : ∀ y ∈ scope.names, y.2 = .free → (env.cells.lookup y.1).isSome = true) : closureFor scope env = pure (closNames env scope.names []) := by
  have all : ∀ (l : List (Str × NameKind)) (acc : List (Str × Addr)), (∀ y ∈ l, y.2 = .free → (env.cells.lookup y.1).isSome = true) →
      (forIn l acc fun (x : Str × NameKind) (cs : List (Str × Addr)) => if (x.2 == NameKind.free) = true then (do let a ← cellOf env x.1; pure (ForInStep.yield ((x.1, a) :: cs))) else (pure (ForInStep.yield cs) : Sem _)) = pure (closNames env l acc) := by
    intro l
    induction l with
    | nil => intro acc _; rfl
    | cons y r ih =>
      intro acc hl
      obtain ⟨n, k⟩ := y
      rw [List.forIn_cons]
      have hr := fun z hz => hl z (List.mem_cons_of_mem _ hz)
      by_cases hk : k = .free
      · subst hk
        obtain ⟨c, hc⟩ := Option.isSome_iff_exists.mp (hl (n, .free) List.mem_cons_self rfl)
        have e1 : cellOf env n = pure c := by
          simp only [cellOf]
          have hc' : env.cells.lookup n = some c := hc
          rw [hc']
        simp only [beq_self_eq_true, if_true, e1, pure_bind, closNames]
        have hc' : env.cells.lookup n = some c := hc
        rw [hc']
        exact ih _ hr
      · have hb : (k == NameKind.free) = false := by simpa using hk
        simp only [hb, Bool.false_eq_true, if_false, pure_bind, closNames, hk]
        exact ih _ hr
  unfold closureFor
  have q := all scope.names [] h
  first
    | exact q
    | (simp only [bind_pure]; exact q)
    | (rw [← q]; simp)
theorem clos_sub {env : Env} : ∀ {l : List (Str × NameKind)} {acc : List (Str × Addr)}, (∀ y ∈ l, y.2 = .free → (env.cells.lookup y.1).isSome = true) → (∀ y c, acc.lookup y = some c → env.cells.lookup y = some c) →
    ∀ y c, (closNames env l acc).lookup y = some c → env.cells.lookup y = some c
  | [], _, _, h, y, c, e => h y c e
  | (n, k) :: r, acc, hl, h, y, c, e => by
    refine clos_sub (l := r) (fun z hz => hl z (List.mem_cons_of_mem _ hz)) ?_ y c e
    intro y c e
    by_cases hk : k = .free
    · rw [if_pos hk] at e
      rw [List.lookup_cons] at e
      cases hy : y == n with
      | true =>
        rw [hy] at e
        have e' : y = n := by simpa using hy
        obtain ⟨c', hc'⟩ := Option.isSome_iff_exists.mp (hl (n, k) List.mem_cons_self hk)
        have hc'' : env.cells.lookup n = some c' := hc'
        rw [hc''] at e
        rw [e', hc'']
        exact e
      | false =>
        rw [hy] at e
        exact h y c e
    · rw [if_neg hk] at e
      exact h y c e
theorem clos_has {env : Env} : ∀ {l : List (Str × NameKind)} {acc : List (Str × Addr)} {y : Str}, (y, NameKind.free) ∈ l ∨ (acc.lookup y).isSome = true → ((closNames env l acc).lookup y).isSome = true
  | [], _, _, h => by
    rcases h with h | h
    · cases h
    · exact h
  | (n, k) :: r, acc, y, h => by
    refine clos_has (l := r) ?_
    rcases h with h | h
    · rcases List.mem_cons.mp h with e | e
      · right
        cases e
        rw [if_pos rfl, List.lookup_cons]
        simp
      · exact .inl e
    · right
      by_cases hk : k = .free
      · rw [if_pos hk, List.lookup_cons]
        cases hy : y == n with
        | true => rfl
        | false => exact h
      · rw [if_neg hk]; exact h
theorem lookup_mem_kind {names : List (Str × NameKind)} {x : Str} {k : NameKind} (h : names.lookup x = some k) : (x, k) ∈ names := PySem.mem_of_lookup h
theorem relabel_lookup {env : Env} {x : Str} {k : NameKind} : ∀ {names : List (Str × NameKind)}, (names.map fun (n, k) => if (k == NameKind.free && env.scope.kind == .function && env.kindOf n == some .cell) then (n, NameKind.cell) else (n, k)).lookup x = some k →
    names.lookup x = some k ∨ (k = .cell ∧ names.lookup x = some .free)
  | [], h => by simp at h
  | (n, kk) :: r, h => by
    have ih := @relabel_lookup env x k r
    by_cases hc : (kk == NameKind.free && env.scope.kind == .function && env.kindOf n == some .cell) = true
    · have hf : kk = .free := by
        have q := (Bool.and_eq_true _ _).mp ((Bool.and_eq_true _ _).mp hc).1
        simpa using q.1
      subst hf
      have h' : List.lookup x ((n, NameKind.cell) :: (r.map fun (n, k) => if (k == NameKind.free && env.scope.kind == .function && env.kindOf n == some .cell) then (n, NameKind.cell) else (n, k))) = some k := by
        have e : (fun (p : Str × NameKind) => match p with | (n, k) => if (k == NameKind.free && env.scope.kind == .function && env.kindOf n == some .cell) = true then (n, NameKind.cell) else (n, k)) (n, NameKind.free) = (n, NameKind.cell) := by
          show (if _ then _ else _) = _
          rw [if_pos hc]
        rw [List.map_cons] at h
        rw [← e]
        exact h
      rw [List.lookup_cons] at h' ⊢
      cases hx : x == n with
      | true =>
        rw [hx] at h'
        right
        exact ⟨(Option.some.inj h').symm, rfl⟩
      | false =>
        rw [hx] at h'
        exact ih h'
    · have h' : List.lookup x ((n, kk) :: (r.map fun (n, k) => if (k == NameKind.free && env.scope.kind == .function && env.kindOf n == some .cell) then (n, NameKind.cell) else (n, k))) = some k := by
        have e : (fun (p : Str × NameKind) => match p with | (n, k) => if (k == NameKind.free && env.scope.kind == .function && env.kindOf n == some .cell) = true then (n, NameKind.cell) else (n, k)) (n, kk) = (n, kk) := by
          show (if _ then _ else _) = _
          rw [if_neg hc]
        rw [List.map_cons] at h
        rw [← e]
        exact h
      rw [List.lookup_cons] at h' ⊢
      cases hx : x == n with
      | true =>
        rw [hx] at h'
        exact .inl h'
      | false =>
        rw [hx] at h'
        exact ih h'
noncomputable def cxComp (X : Cx) (pins : List (Addr × Obj)) (x₁ : Str) (jf : List (Nat × Str)) (scope : Scope) (cl : List (Str × Addr)) (s : Shared) (H : Hp) (fp : List Addr) : Cx where
  prog := X.prog
  w := X.w
  K := X.K
  mg := X.mg
  base := X.base
  A := X.A
  N := x₁ :: jf.map (·.2)
  s₀ := s
  H₀ := H
  env := compEnvC scope cl s.heap.objs.size X.env
  outer := X.stack
  stack := X.stack
  ex := fp
  fn := fun _ => false
  calm := X.calm
  pn := X.pn ++ pins
  xe := fun _ _ => False
noncomputable def compSt (v : Option V) (js : List (Nat × Str)) (σ : St) : St := v :: js.map fun j => (σ[j.1]?).join
noncomputable def PTs (X : Cx) (ifs : List Expr) (t : TT) : Prop :=
  ∀ (pins : List (Addr × Obj)) (s : Shared) (σ : St) (H : Hp) (Q : Bool → Hp → Prop), Inv X pins σ H s → t σ H Q →
    wpAny (model X.prog X.w) X.A (forIn ifs true fun c r => if r = true then do let ok ← isTrue c X.env (eval c X.env); pure (ForInStep.yield ok) else pure (ForInStep.yield r)) (TP X pins σ Q) X.xe s
noncomputable def tYes : TT := fun _ H Q => Q true H
theorem pts_nil {X : Cx} : PTs X [] tYes := fun pins s σ H Q I h => wpAny_tests_nil ⟨H, I, h⟩
noncomputable def tComp (jf : List (Nat × Str)) (wi : TI) (tc : TT) (te : TE) : TE := fun σ H Q => wi σ H fun J H1 => ∀ D, H1 D = none → ∃ W : Nat → Nat → List V → Hp → Prop, (∃ m, W 0 m [] (upd H1 D (.lst []))) ∧
  ∀ i m ys H2, W i m ys H2 → H2 D = some (.lst ys) ∧ ((J.stop i H2 ∧ Q (.ref D) H2) ∨ (J.go i H2 ∧ ys.length < sizeLine ∧ ∀ x H3, J.yld i H2 x H3 → tc (compSt (some x) jf σ) H3 fun b H5 =>
    if b = true then te (compSt (some x) jf σ) H5 fun v H6 => H6 D = some (.lst ys) ∧ ∃ m', m' < m ∧ W (i + 1) m' (ys ++ [v]) (upd H6 D (.lst (ys ++ [v]))) else ∃ m', m' < m ∧ W (i + 1) m' ys H5))
section
variable {X : Cx} {pins : List (Addr × Obj)} {σ : St} {H : Hp} {s : Shared} {x₁ : Str} {jf : List (Nat × Str)} {scope : Scope} {fp : List Addr}
theorem Inv.block {h1 : Heap} {tk : Nat} (I : Inv X pins σ H s) (hf : ∀ b ∈ fp, FpOk X pins H b) (hlt : ∀ b ∈ fp, b < s.heap.objs.size) (hjf : ∀ p ∈ jf, X.N[p.1]? = some p.2) (hjl : ∀ p ∈ jf, scope.names.lookup p.2 = some .free) (hkind : scope.kind = .function)
    (hcell : ∀ y ∈ scope.names, y.2 ≠ .cell) (hfr : ∀ y ∈ scope.names, y.2 = .free → X.env.kindOf y.1 = some .cell ∨ X.env.kindOf y.1 = some .free)
    (hn : h1.Ns s.heap.objs.size (fun _ => none)) (hk : ∀ b o, s.heap.get? b = some o → h1.get? b = some o) :
    Inv (cxComp X pins x₁ jf scope (closNames X.env scope.names []) s H fp) [] (compSt none jf σ) H { s with heap := h1, toks := tk } := by
  have hsome : ∀ y ∈ scope.names, y.2 = .free → (X.env.cells.lookup y.1).isSome = true := fun y hy hyf => Option.isSome_iff_exists.mpr (I.ok.has y.1 (hfr y hy hyf))
  have sub : ∀ y c, (closNames X.env scope.names []).lookup y = some c → X.env.cells.lookup y = some c := clos_sub hsome (fun y c e => by simp at e)
  have hsz := I.sz
  have inE : ∀ b, b ∈ (cxComp X pins x₁ jf scope (closNames X.env scope.names []) s H fp).ex → b ∈ fp := fun b z => z
  have stk : ∀ b ∈ frs X.stack, b < s.heap.objs.size := fun b hb => by
    obtain ⟨_, o, ho, _⟩ := I.stack.mem hb
    exact Heap.lt_size ho
  refine ⟨⟨I.ok.mod, hkind, I.ok.glob, I.ok.blt, Nat.le_refl _, fun y z c e1 e2 => I.ok.inj y z c (sub y c e1) (sub z c e2), fun y hy => ?_, fun y c hfn _ => (by cases hfn), I.ok.hd, I.ok.frames, .inl rfl, fun b hb => ?_, fun b o e => I.bs b o e, Nat.le_trans I.ok.bsz hsz, fun b o e z => ?_, fun b hb z => ?_, I.stack, I.stkFree⟩,
    rfl, I.bare, Un.kept hk, ⟨_, hn, fun i y v e1 e2 e3 => ?_⟩, fun y c e => ?_, I.hok.fresh (Nat.le_refl _), fun y c e => I.freeC y c (sub y c e), fun p hp => ?_, I.hok.kept hk, ?_⟩
  · have hy' : (relabel scope X.env).names.lookup y = some .cell ∨ (relabel scope X.env).names.lookup y = some .free := hy
    have mem : (y, NameKind.free) ∈ scope.names := by
      rcases hy' with q | q
      · rcases relabel_lookup (env := X.env) q with z | z
        · exact absurd rfl (hcell _ (lookup_mem_kind z))
        · exact lookup_mem_kind z.2
      · rcases relabel_lookup (env := X.env) q with z | z
        · exact lookup_mem_kind z
        · exact lookup_mem_kind z.2
    exact Option.isSome_iff_exists.mp (clos_has (.inl mem))
  · exact ⟨Nat.ne_of_lt (hlt b hb), fun y c e => (hf b hb).2.2.2.2.1 y c (sub y c e)⟩
  · rcases (hf b z).2.2.2.1 with q | q
    · exact I.ok.noex b o e q
    · exact absurd (Nat.lt_of_lt_of_le (Heap.lt_size e) (Nat.le_trans I.ok.bsz q)) (Nat.lt_irrefl _)
  · rcases List.mem_cons.mp (I.stkSub b z) with q | q
    · exact (hf b hb).2.1 q
    · exact (hf b hb).2.2.1 q
  · have e1' : (x₁ :: jf.map (·.2))[i]? = some y := e1
    unfold compSt at e2
    cases i with
    | zero => cases e2
    | succ i =>
      rw [List.getElem?_cons_succ, List.getElem?_map] at e1' e2
      cases q : jf[i]? with
      | none => rw [q] at e2; cases e2
      | some p =>
        rw [q] at e1' e2
        have ey : p.2 = y := Option.some.inj e1'
        have ev : (σ[p.1]?).join = some v := Option.some.inj e2
        have hp : p ∈ jf := List.mem_of_getElem? q
        have eσ : σ[p.1]? = some (some v) := by
          cases z : σ[p.1]? with
          | none => rw [z] at ev; cases ev
          | some r => rw [z] at ev; rw [show r = some v from ev]
        have hfree : scope.names.lookup y = some .free := by rw [← ey]; exact hjl p hp
        have mem := lookup_mem_kind hfree
        have kX := hfr _ mem rfl
        obtain ⟨m, hnX, hl⟩ := I.loc
        obtain ⟨u, ru, lk⟩ := hl p.1 y v (by rw [← ey]; exact hjf p hp) eσ (by
          rcases kX with z | z
          · exact .inr (.inl z)
          · exact .inr (.inr z))
        refine ⟨u, ru, .inr ⟨?_, ?_⟩⟩
        · have e3' : Vis (relabel scope X.env) y := e3
          rcases e3' with z | z | z
          · exfalso
            rcases relabel_lookup (env := X.env) z with q | q
            · rw [hfree] at q; cases q
            · cases q.1
          · exact .inl z
          · exact .inr z
        · rcases lk with ⟨z, _⟩ | ⟨_, c, hc, hcell'⟩
          · exfalso
            rcases kX with q | q
            · rw [show X.env.kindOf y = some .cell from q] at z; cases z
            · rw [show X.env.kindOf y = some .free from q] at z; cases z
          · obtain ⟨c', hc'⟩ := Option.isSome_iff_exists.mp (clos_has (env := X.env) (acc := []) (.inl mem))
            have e := sub y c' hc'
            rw [hc] at e
            cases e
            obtain ⟨o, ho, hd⟩ := hcell'
            exact ⟨c, hc', o, hk c o ho, hd⟩
  · obtain ⟨v, o, ho, hd⟩ := I.cell y c (sub y c e)
    exact ⟨v, o, hk c o ho, hd⟩
  · have hp' : p ∈ X.pn ++ pins := by simpa [cxComp] using hp
    obtain ⟨e, n, ne, nf, d⟩ := I.pin p hp'
    refine ⟨hk _ _ e, n, Nat.ne_of_lt (Heap.lt_size e), fun z => ?_, d⟩
    rcases List.mem_cons.mp (I.stkSub p.1 z) with q | q
    · exact ne q
    · exact nf q
  · unfold compSt
    show _ = (x₁ :: jf.map (·.2)).length
    rw [List.length_cons, List.length_cons, List.length_map, List.length_map]
end
theorem compLoop_any {prog : Program} {w : World} {A : Around} {R : Result → Shared → Prop} {s : Shared} {elt target iter : Expr} {ifs : List Expr} {scope : Scope} {pos : Pos} {it acc : Value} {env : Env} (I : Nat → Shared → Prop)
    (turn : ∀ n s, I n s → wpAny (model prog w) A (pyNext it) (fun r s₁ => match r with
      | none => R (.ok .next) s₁
      | some v => wpAny (model prog w) A (letOwnedTupleGo target it v) (fun _ s₂ => wpAny (model prog w) A (assign target env v) (fun _ s₃ =>
          wpAny (model prog w) A (forIn ifs true fun c r => if r = true then do let ok ← isTrue c env (eval c env); pure (ForInStep.yield ok) else pure (ForInStep.yield r)) (fun ok s₄ =>
            if ok = true then wpAny (model prog w) A (eval elt env) (fun x s₅ => wpAny (model prog w) A (call (.builtin "list.append") [acc, x]) (fun _ s₆ => ∃ m, m < n ∧ I m s₆) (fun _ _ => False) s₅) (fun _ _ => False) s₄
            else ∃ m, m < n ∧ I m s₄) (fun _ _ => False) s₃) (fun _ _ => False) s₂) (fun _ _ => False) s₁) (fun _ _ => False) s)
    (n : Nat) (h : I n s) : codeAny (model prog w) A (.compLoop (.ListComp elt [⟨target, iter, ifs, 0⟩] scope pos) 0 it acc env) R s := by
  refine codeAny_loop rfl I (fun n s hI => ?_) n h
  show wpAny _ A ((compTurn (.ListComp elt [⟨target, iter, ifs, 0⟩] scope pos) 0 it acc env).onRaise (fun x => do noteFrame x env; theTreesLotGoes x)) _ _ s
  refine wpAny_noted ?_
  rw [compTurn_list]
  refine wpAny_bind (wpAny_standAt (wpAny_bind (wpAny_mono (turn n s hI) (fun r s₁ h₁ => ?_) fun _ _ z => z.elim)))
  cases r with
  | none => exact wpAny_pure h₁
  | some v =>
    refine wpAny_bind (wpAny_mono h₁ (fun _ s₂ h₂ => ?_) fun _ _ z => z.elim)
    refine wpAny_bind (wpAny_mono h₂ (fun _ s₃ h₃ => wpAny_bind (wpAny_mono h₃ (fun ok s₄ h₄ => ?_) fun _ _ z => z.elim)) fun _ _ z => z.elim)
    cases ok with
    | false => exact wpAny_pure ⟨rfl, h₄⟩
    | true =>
      exact wpAny_bind (wpAny_bind (wpAny_mono h₄ (fun x s₅ h₅ => wpAny_bind (wpAny_mono h₅ (fun _ s₆ h₆ => wpAny_pure (wpAny_pure ⟨rfl, h₆⟩)) fun _ _ z => z.elim)) fun _ _ z => z.elim))
section
variable {X : Cx} {x₁ : Str} {px : Pos} {jf : List (Nat × Str)} {scope : Scope} {iter elt : Expr} {ifs : List Expr} {pos : Pos} {wi : TI} {tc : TT} {te : TE}
theorem comp_any (hcalm : X.calm = true) (hi : PI X (.Name x₁ px) iter wi) (hc : ∀ pins cl s H fp, PTs (cxComp X pins x₁ jf scope cl s H fp) ifs tc) (he : ∀ pins cl s H fp, PE (cxComp X pins x₁ jf scope cl s H fp) elt te)
    (hN : (x₁ :: jf.map (·.2)).Nodup) (hx : scope.names.lookup x₁ = some .local) (hjf : ∀ p ∈ jf, X.N[p.1]? = some p.2) (hjl : ∀ p ∈ jf, scope.names.lookup p.2 = some .free) (hkind : scope.kind = .function)
    (hcell : ∀ y ∈ scope.names, y.2 ≠ .cell) (hfr : ∀ y ∈ scope.names, y.2 = .free → X.env.kindOf y.1 = some .cell ∨ X.env.kindOf y.1 = some .free)
    (hnames : ∀ y ∈ scope.names, y.2 = .local → scope.names.lookup y.1 = some .local) {use : Option (Value → Sem Unit)} {Qf : Value → Shared → Prop} {cpos : Pos}
    {pins : List (Addr × Obj)} {σ : St} {H : Hp} {s : Shared} {Q : VK} (I : Inv X pins σ H s) (h : tComp jf wi tc te σ H Q)
    (fin : ∀ D C s6 H6 m6, Inv X pins σ H6 s6 → Q (.ref D) H6 → FpOk X pins H6 C → s6.heap.Ns C m6 → compPost (model X.prog X.w) X.A X.xe use Qf (.ref D) C (.ok .next) s6) (hs : ∀ x, foldedSetIterable iter X.env x = pure x) :
    wpAny (model X.prog X.w) X.A (comprehension (.ListComp elt [⟨.Name x₁ px, iter, ifs, 0⟩] scope pos) scope X.env cpos (newList []) false (eval iter X.env) use) Qf X.xe s := by
  have hsome : ∀ y ∈ scope.names, y.2 = .free → (X.env.cells.lookup y.1).isSome = true := fun y hy hyf => Option.isSome_iff_exists.mpr (I.ok.has y.1 (hfr y hy hyf))
  refine wpAny_comprehension_free (use := use) rfl hs (closFor_eq hsome) hkind hnames (thn (hi pins s σ H _ I h) fun xv s1 h1 => thn h1 fun itv s2 h2 => ?_)
  obtain ⟨it, fp, tn, J, H2, e, I2, T, st2, f2, h⟩ := h2
  subst e
  refine wpAny_newObj_type (wpAny_newFunctionEnv hcell (by intro y hy; simp at hy) (fun h₁ hns₁ hsb₁ => ?_) hkind)
  have hD0 : H2 s2.heap.objs.size = none := I2.hok.fresh (Nat.le_refl _)
  obtain ⟨W, ⟨m0, w0⟩, step⟩ := h s2.heap.objs.size hD0
  dsimp only at hns₁ hsb₁ ⊢
  have I3 : Inv X pins σ (upd H2 s2.heap.objs.size (.lst [])) { s2 with heap := s2.heap.push { cls := .type "list", dict := none, data := .seq ([] : List Value).toArray } } :=
    I2.laid (t' := s2.toks) (fun b u q => Heap.get?_push_of_some _ q) (Nat.le_refl _) ⟨Nat.zero_le _, [], 0, .nil, Heap.get?_push_size _ rfl⟩
  generalize hH3 : s2.heap.push { cls := .type "list", dict := none, data := .seq ([] : List Value).toArray } = hp3 at hns₁ hsb₁ I3 ⊢
  have hsz3 : hp3.objs.size = s2.heap.objs.size + 1 := by rw [← hH3, Heap.size_push]
  have k23 : ∀ b o, s2.heap.get? b = some o → hp3.get? b = some o := fun b o q => by rw [← hH3]; exact Heap.get?_push_of_some _ q
  have flt : ∀ b ∈ fp, b < s2.heap.objs.size := fun b hb => by
    obtain ⟨o, q, _⟩ := T.obj 0 _ st2 b hb
    exact Heap.lt_size q
  have f3 : ∀ b ∈ fp, FpOk X pins (upd H2 s2.heap.objs.size (.lst [])) b := fun b hb => by
    obtain ⟨g0, g⟩ := f2 b hb
    exact ⟨by rw [upd_ne (Nat.ne_of_lt (flt b hb))]; exact g0, g⟩
  have kC : ∀ b o, hp3.get? b = some o → h₁.get? b = some o := fun b o q => (hsb₁.2 b (Nat.ne_of_lt (Heap.lt_size q))).trans (Heap.get?_push_of_some _ q)
  have B0 := I3.block (x₁ := x₁) (jf := jf) (scope := scope) (fp := fp) (h1 := h₁) (tk := s2.toks + ([] : List (Str × Value)).length) f3 (fun b hb => by show b < hp3.objs.size; rw [hsz3]; exact Nat.lt_succ_of_lt (flt b hb)) hjf hjl hkind hcell hfr (by simpa using hns₁) kC
  have st4 : tn 0 h₁ := T.keep _ _ _ st2 fun b _ o q => kC b o (k23 b o q)
  have w0' := w0
  have stat : ∀ {H' : Hp}, (∀ b ∈ fp, H' b = none) → ∀ b ∈ fp, FpOk (cxComp X pins x₁ jf scope (closNames X.env scope.names []) { s2 with heap := hp3 } (upd H2 s2.heap.objs.size (.lst [])) fp) [] H' b := fun hn b hb => by
    obtain ⟨_, g1, g2, g3, g4, g5⟩ := f2 b hb
    refine ⟨hn b hb, Nat.ne_of_lt (by show b < hp3.objs.size; rw [hsz3]; exact Nat.lt_succ_of_lt (flt b hb)), fun z => ?_, .inl hb, fun y c q => g4 y c (clos_sub hsome (fun y c e => by simp at e) y c q), fun p hp => g5 p (by simpa [cxComp] using hp)⟩
    rcases List.mem_cons.mp (I2.stkSub b z) with q | q
    · exact g1 q
    · exact g2 q
  have loop : codeAny (model X.prog X.w) X.A (.compLoop (.ListComp elt [⟨.Name x₁ px, iter, ifs, 0⟩] scope pos) 0 (.ref it) (.ref s2.heap.objs.size) (compEnvC scope (closNames X.env scope.names []) hp3.objs.size X.env))
      (compPost (model X.prog X.w) X.A X.xe use Qf (.ref s2.heap.objs.size) hp3.objs.size) { s2 with heap := h₁, toks := s2.toks + ([] : List (Str × Value)).length } := by
    refine compLoop_any (fun n s' => ∃ i ys H', Inv (cxComp X pins x₁ jf scope (closNames X.env scope.names []) { s2 with heap := hp3 } (upd H2 s2.heap.objs.size (.lst [])) fp) [] (compSt none jf σ) H' s' ∧ tn i s'.heap ∧ (∀ b ∈ fp, H' b = none) ∧ W i n ys H') ?_ m0
      ⟨0, [], _, B0, st4, fun b hb => (f3 b hb).1, w0⟩
    rintro n s5 ⟨i, ys, H5, I5, st5, fr5, w5⟩
    obtain ⟨hD5, alt⟩ := step i n ys H5 w5
    rcases alt with ⟨stop, q5⟩ | ⟨go, hlen, next⟩
    · refine wpAny_mono (T.done (cxComp X pins x₁ jf scope (closNames X.env scope.names []) { s2 with heap := hp3 } (upd H2 s2.heap.objs.size (.lst [])) fp) rfl rfl rfl hcalm i [] s5 _ H5 (fun _ _ => False) I5 (stat fr5) st5 stop) (fun r s6 ⟨hr, I6⟩ => ?_) fun _ _ z => z
      subst hr
      obtain ⟨m6, hn6, _⟩ := id I6.loc
      refine fin _ _ s6 H5 m6 ?_ q5 (I3.fpOk (Nat.le_refl _) I6.free) hn6
      refine I3.call' (ch := fp) I6.os I6.base I6.hok I6.bare (fun b hb => ?_)
      obtain ⟨_, g1, g2, g3, g4, g5⟩ := f2 b hb
      exact ⟨g3, g1, g4, g5⟩
    · refine wpAny_mono (T.item (cxComp X pins x₁ jf scope (closNames X.env scope.names []) { s2 with heap := hp3 } (upd H2 s2.heap.objs.size (.lst [])) fp) rfl rfl rfl hcalm i [] s5 _ H5 (fun _ _ => False) I5 (stat fr5) st5 go) (fun r s6 ⟨u, hr, h6⟩ => ?_) fun _ _ z => z
      subst hr
      refine wpAny_mono h6 (fun _ s7 ⟨x, H7, I7, r7, y7, st7, fr7⟩ => ?_) fun _ _ z => z
      have I7' := I7.pinned (stat fr7) (T.obj _ _ st7)
      have hloc : Loc (cxComp X pins x₁ jf scope (closNames X.env scope.names []) { s2 with heap := hp3 } (upd H2 s2.heap.objs.size (.lst [])) fp).env.scope x₁ := .inl (lookup_relabel_local hx)
      refine wpAny_assign_Name (store_ok (i := 0) I7' hN rfl hloc r7 (fun s8 I8 => ?_) (.inr (lookup_relabel_local hx)))
      have q8 := next x H7 y7
      have I8' : Inv (cxComp X pins x₁ jf scope (closNames X.env scope.names []) { s2 with heap := hp3 } (upd H2 s2.heap.objs.size (.lst [])) fp) ([] ++ pinsAt fp s7.heap) (compSt (some x) jf σ) H7 s8 := I8
      have again : ∀ {s9 : Shared} {H9 : Hp} {zs : List V} {m' : Nat}, Inv (cxComp X pins x₁ jf scope (closNames X.env scope.names []) { s2 with heap := hp3 } (upd H2 s2.heap.objs.size (.lst [])) fp) ([] ++ pinsAt fp s7.heap) (compSt (some x) jf σ) H9 s9 → m' < n → W (i + 1) m' zs H9 →
          ∃ m, m < n ∧ ∃ i ys H', Inv (cxComp X pins x₁ jf scope (closNames X.env scope.names []) { s2 with heap := hp3 } (upd H2 s2.heap.objs.size (.lst [])) fp) [] (compSt none jf σ) H' s9 ∧ tn i s9.heap ∧ (∀ b ∈ fp, H' b = none) ∧ W i m ys H' := fun {s9 H9 zs m'} I9 hm w9 => by
        refine ⟨m', hm, i + 1, zs, H9, I9.unpinned.weak (by simp [compSt]) (fun j v e => ?_), T.keep _ _ _ st7 fun b hb o e => (I9.pin (b, o) (List.mem_append_right _ (List.mem_append_right _ (mem_pinsAt hb e)))).1, fun b hb => ?_, w9⟩
        · cases j with
          | zero => simp [compSt] at e
          | succ j => simpa [compSt] using e
        · obtain ⟨o, e, d⟩ := T.obj _ _ st7 b hb
          exact (I9.pin (b, o) (List.mem_append_right _ (List.mem_append_right _ (mem_pinsAt hb e)))).2.1
      refine wpAny_mono (hc pins _ _ _ fp ([] ++ pinsAt fp s7.heap) s8 _ H7 _ I8' q8) (fun ok s9 ⟨H9, I9, q9⟩ => ?_) fun _ _ z => z
      cases ok with
      | false =>
        rw [if_neg Bool.false_ne_true] at q9 ⊢
        obtain ⟨m', hm, w9⟩ := q9
        exact again I9 hm w9
      | true =>
        rw [if_pos rfl] at q9 ⊢
        refine wpAny_mono (he pins _ _ _ fp ([] ++ pinsAt fp s7.heap) s9 _ H9 _ I9 q9) (fun y s10 ⟨v, H10, I10, r10, hD10, m', hm, w10⟩ => ?_) fun _ _ z => z
        refine wpAny_mono (mt_append (X := (cxComp X pins x₁ jf scope (closNames X.env scope.names []) { s2 with heap := hp3 } (upd H2 s2.heap.objs.size (.lst [])) fp)) ([] ++ pinsAt fp s7.heap) s10 (compSt (some x) jf σ) H10 (.ref s2.heap.objs.size) [v] (.ref s2.heap.objs.size) [y] (fun _ H' => H' = upd H10 s2.heap.objs.size (.lst (ys ++ [v]))) I10 rfl (.cons r10 .nil) ⟨_, ys, v, rfl, rfl, hD10, hlen, rfl⟩)
          (fun _ s11 ⟨_, H11, I11, _, e11⟩ => ?_) fun _ _ z => z
        subst e11
        exact again I11 hm w10
  exact codeAny_compStart_list loop (T.self _ 0 _ _ _ st4 loop)
theorem pe_comp (hcalm : X.calm = true) (hi : PI X (.Name x₁ px) iter wi) (hc : ∀ pins cl s H fp, PTs (cxComp X pins x₁ jf scope cl s H fp) ifs tc) (he : ∀ pins cl s H fp, PE (cxComp X pins x₁ jf scope cl s H fp) elt te)
    (hN : (x₁ :: jf.map (·.2)).Nodup) (hx : scope.names.lookup x₁ = some .local) (hjf : ∀ p ∈ jf, X.N[p.1]? = some p.2) (hjl : ∀ p ∈ jf, scope.names.lookup p.2 = some .free) (hkind : scope.kind = .function)
    (hcell : ∀ y ∈ scope.names, y.2 ≠ .cell) (hfr : ∀ y ∈ scope.names, y.2 = .free → X.env.kindOf y.1 = some .cell ∨ X.env.kindOf y.1 = some .free)
    (hnames : ∀ y ∈ scope.names, y.2 = .local → scope.names.lookup y.1 = some .local) (hs : ∀ x, foldedSetIterable iter X.env x = pure x := by intro _; rfl) :
    PE X (.ListComp elt [⟨.Name x₁ px, iter, ifs, 0⟩] scope pos) (tComp jf wi tc te) := by
  intro pins s σ H Q I h
  rw [eval_ListComp]
  refine comp_any hcalm hi hc he hN hx hjf hjl hkind hcell hfr hnames (use := none) (Qf := EP X pins σ Q) I h (fun D C s6 H6 m6 I6 q6 f6 n6 => ?_) hs
  refine ⟨m6, n6, fun h' hs' => ⟨.ref D, H6, ?_, rfl, q6⟩⟩
  exact I6.turnedL (fp := [C]) (t' := s6.toks) (fun b o hb q => (hs'.2 b (fun z => hb (by simp [z]))).trans q) (fun b hb => by
    have e : b = C := by simpa using hb
    subst e
    exact f6)
end
end L2

namespace L2
open PySem PySem.Spec PyProof.Rows
section
variable {X : Cx} {a b e : Expr} {ta tb : TE} {p p2 pos : Pos}
theorem call_isi {c : V} {cv : Value} (rc : ∀ u, RelV c u → u = cv) :
    CallR X (.builtin "isinstance") (fun xs H Q => ∃ x t r, xs = [x, c] ∧ TyOf X.K H x t ∧ PySem.W.kitOne X.K t cv = some r ∧ Q (.bl r) H) := by
  intro pins s σ H xs us Q I r h
  obtain ⟨x, t, k, rfl, ty, hk, q⟩ := h
  obtain ⟨u, w', rfl, rx, ry⟩ := vals2 r
  obtain rfl := rc _ ry
  exact isinst_ok I rx ty hk fun tk => ⟨.bl k, H, I.tok _, rfl, q⟩
theorem rc_ty (n : String) : ∀ u, RelV (.ty n) u → u = Value.type n := fun _ r => r
theorem op_le_str : OpR X (compareOp .LtE) (fun x y H Q => ∃ i j, x = .str i ∧ y = .str j ∧ Q (.bl (!decide (j.cps.toList < i.cps.toList))) H) := by
  intro pins s σ H x y v u Q I rx ry h
  obtain ⟨i, j, rfl, rfl, q⟩ := h
  obtain ⟨t, rfl⟩ := rx
  obtain ⟨t', rfl⟩ := ry
  exact PySem.P.le_str (fin_bl I q rfl)
theorem mt_str_count : MtR X "str.count" (fun x vs H Q => ∃ z y, x = .str z ∧ vs = [.str y] ∧ Q (.int ((Builtin.Str.occurrences z y 0 z.length (z.length + 1)).length : Nat)) H) := by
  intro pins s σ H x vs v us Q I rx rv h
  obtain ⟨z, y, rfl, rfl, q⟩ := h
  obtain ⟨t, rfl⟩ := rx
  obtain ⟨u, rfl, t', rfl⟩ := vals1 rv
  exact call_gives F.slot_str_count (typeIs_str s z t) F.entry_str_count (F.args_str_count_2 _ _) (gives_str_count z y t t') ⟨.int _, H, I.tok _, ⟨_, rfl⟩, q⟩
theorem call_all (hc : X.calm = true) : CallR X (.builtin "all") (fun xs H Q => ∃ (a : Addr) (bs : List Bool), xs = [.ref a] ∧ SqL X.K H a (bs.map V.bl) ∧ Q (.bl (bs.all id)) H) := by
  intro pins s σ H xs us Q I r h
  obtain ⟨l, bs, rfl, hq, q⟩ := h
  obtain ⟨u, rfl, rx⟩ := vals1 r
  cases rx
  obtain ⟨its, rv, pl, hz⟩ := I.list hq
  have hlt : l < s.heap.objs.size := by obtain ⟨_, _, e, _⟩ := pl; exact Heap.lt_size e
  have hlen : its.length = bs.length := by rw [← rv.length, List.length_map]
  refine call_all_walk (wpAny_pyIter_list pl.isList ?_)
  refine ⟨s.heap.objs.size, [s.heap.objs.size, l], [s.heap.objs.size], its.toArray.size, _, _, fun i => (bs[i]?).getD true, rfl, Walks.list (A := X.A.in1) (I.ok.hd hc) _ l (Nat.ne_of_lt hlt) its.toArray,
    ⟨⟨_, Heap.get?_push_size _ rfl, rfl, rfl⟩, pl.isList.push _⟩, fun i v s' Q' E' hP hQ => ?_, fun h' tk hk => ?_⟩
  · have hP' : its[i]? = some v := by simpa using hP
    have hi : i < its.length := (List.getElem?_eq_some_iff.mp hP').1
    have hb : (bs.map V.bl)[i]? = some (V.bl (bs[i]'(by omega))) := by rw [List.getElem?_map, List.getElem?_eq_getElem (by omega)]; rfl
    obtain ⟨u, hu, ru⟩ := rv.get hb
    rw [hP'] at hu
    cases hu
    cases ru
    have e : (bs[i]?).getD true = bs[i]'(by omega) := by rw [List.getElem?_eq_getElem (by omega)]; rfl
    have hQ2 : Q' ((bs[i]?).getD true) s' := hQ
    rw [e] at hQ2
    exact wpAny_truthy_bool hQ2
  · have e : ((List.range its.toArray.size).all fun i => (bs[i]?).getD true) = bs.all id := by
      rw [List.size_toArray, hlen, Bool.eq_iff_iff, List.all_eq_true, List.all_eq_true]
      constructor
      · intro z c hc'
        obtain ⟨i, hi, rfl⟩ := List.getElem_of_mem hc'
        have := z i (List.mem_range.mpr hi)
        rw [List.getElem?_eq_getElem hi] at this
        exact this
      · intro z i hi
        have hi' := List.mem_range.mp hi
        rw [List.getElem?_eq_getElem hi']
        exact z _ (List.getElem_mem hi')
    rw [e]
    refine ⟨.bl _, H, I.kept (t' := tk) fun b o q => ?_, rfl, q⟩
    exact hk b o (fun hm => by rw [List.mem_singleton.mp hm] at q; exact Nat.lt_irrefl _ (Heap.lt_size q)) (Heap.get?_push_of_some _ q)
end
end L2
namespace L2
open PySem PySem.Spec PyProof.Rows
section
variable {X : Cx}
theorem op_fdivB : OpR X (binaryOp .FloorDiv) (rI (fun _ j => 0 < j ∧ j < 2 ^ 200) fun i j => .int (i / j)) := opI fun i j _ _ _ _ _ hc q => by
  obtain ⟨h1, h2⟩ := hc
  refine floordiv_int (by omega) (by rw [Int.fdiv_eq_ediv_of_nonneg i (by omega)]; exact q) (.inl (PyProof.noPylong_of_log2 ?_))
  have h3 : j.natAbs < 2 ^ 200 := by omega
  have h4 : j.natAbs.log2 < 200 := (Nat.log2_lt (by omega)).mpr h3
  omega
theorem op_mulOk : OpR X (binaryOp .Mult) (rI IntMulOk fun i j => .int (i * j)) := opI fun _ _ _ _ _ _ _ hc q => mul_int q hc
end
end L2
namespace L2
open PySem PySem.Spec PyProof.Rows
theorem bt_int : bootBuiltins "int" = some (.type "int") := by decide +kernel
theorem bt_bool : bootBuiltins "bool" = some (.type "bool") := by decide +kernel
theorem bt_str : bootBuiltins "str" = some (.type "str") := by decide +kernel
end L2

namespace L2
open PySem PySem.Spec PyProof.Rows
theorem ObjOk.some {P : Program} {w : World} {H : Hp} {h : Heap} {a : Addr} {o : HO} (x : ObjOk P w H h a o) : ∃ ob, h.get? a = Option.some ob := by
  cases o with
  | lst xs => obtain ⟨_, _, _, _, e⟩ := x; exact ⟨_, e⟩
  | tup xs => obtain ⟨_, _, _, o, e, _⟩ := x; exact ⟨o, e⟩
  | dK kvs => obtain ⟨_, _, _, _, o, _, _, e, _⟩ := x; exact ⟨_, e⟩
  | dT xc kvs => obtain ⟨_, _, _, _, o, _, _, e, _⟩ := x; exact ⟨_, e⟩
  | set S n => obtain ⟨o, _, _, _, e, _⟩ := x; exact ⟨_, e⟩
  | ins C dx fs => obtain ⟨_, _, _, e, _⟩ := x; exact ⟨_, e⟩
  | own y => obtain ⟨_, e⟩ := x; exact ⟨_, e⟩
  | xd fs => obtain ⟨_, ⟨_, _, _, e, _⟩, _⟩ := x; exact ⟨_, e⟩
  | rng lo hi => obtain ⟨_, _, _, e⟩ := x; exact ⟨_, e⟩
  | frz ob u => obtain ⟨e, _⟩ := x; exact ⟨_, e⟩
  | tbl ps => exact ⟨_, (show h.get? a = Option.some _ from x)⟩
  | met f y => exact ⟨_, (show h.get? a = Option.some _ from x)⟩
  | ext φ => obtain ⟨_, ⟨_, e⟩, _⟩ := x; exact ⟨_, e⟩
noncomputable def Firm (X : Cx) (pins : List (Addr × Obj)) (H : Hp) (h B : Heap) : Prop :=
  ∀ b o, h.get? b = some o → b ∉ frs X.stack → ((∃ u, H b = some u) ∨ (∃ o', X.s₀.heap.get? b = some o') ∨ ∃ p ∈ X.pn ++ pins, p.1 = b) → B.get? b = some o
section
variable {X : Cx} {pins : List (Addr × Obj)} {σ : St} {H : Hp} {s : Shared}
theorem Inv.nofr (I : Inv X pins σ H s) {b : Addr} {o : Obj} (e : X.s₀.heap.get? b = some o) (hb : b ∉ X.fs) : b ∉ frs X.stack := fun z => by
  rcases List.mem_cons.mp (I.stkSub b z) with q | q
  · exact Nat.ne_of_lt (Nat.lt_of_lt_of_le (Heap.lt_size e) I.ok.above) q
  · exact hb q
theorem Inv.nofrT (I : Inv X pins σ H s) {b : Addr} {u : HO} (e : H b = some u) : b ∉ frs X.stack := fun z => by
  have q := I.stkFree b z
  rw [q] at e
  cases e
theorem Inv.nofrP (I : Inv X pins σ H s) {p : Addr × Obj} (hp : p ∈ X.pn ++ pins) : p.1 ∉ frs X.stack := fun z => by
  obtain ⟨_, _, ne, nf, _⟩ := I.pin p hp
  rcases List.mem_cons.mp (I.stkSub p.1 z) with q | q
  · exact ne q
  · exact nf q
theorem Inv.flown {B h' : Heap} {t' : Nat} (I : Inv X pins σ H s) (hex : X.ex = []) (F : Firm X pins H s.heap B) (st : B.StaysIn h') (sm : s.heap.UpToSlots h') : Inv X pins σ H { s with heap := h', toks := t' } := by
  have nx : ∀ b, b ∉ X.ex := fun b z => by rw [hex] at z; cases z
  refine ⟨I.ok, I.os, I.bare, ⟨fun b o e n hb hx => ?_, fun b o e n hb hx => ?_, I.base.free, fun b o e hx => ?_, I.base.tups, I.base.frzs, I.base.tbls⟩, ?_, fun x c e => ?_, I.free, I.freeC, fun p hp => ?_, fun b u e => ?_, I.len⟩
  · exact st b o (F b o (I.base.keep b o e n hb hx) (I.nofr e hb) (.inr (.inl ⟨o, e⟩)))
  · obtain ⟨sl, q⟩ := I.base.slot b o e n hb hx
    obtain ⟨_, o', ho', hd⟩ := I.funs.mem hb
    rw [q] at ho'
    cases ho'
    obtain ⟨sl', q'⟩ := sm b _ q hd
    exact ⟨sl', q'⟩
  · obtain ⟨o', q⟩ := I.base.there b o e hx
    by_cases hb : b ∈ X.fs
    · obtain ⟨_, o'', ho'', hd⟩ := I.funs.mem hb
      rw [q] at ho''
      cases ho''
      obtain ⟨sl', q'⟩ := sm b _ q hd
      exact ⟨_, q'⟩
    · exact ⟨o', st b o' (F b o' q (I.nofr e hb) (.inr (.inl ⟨o, e⟩)))⟩
  · obtain ⟨m, hn, hl⟩ := I.loc
    refine ⟨m, sm.ns hn, fun i x v e1 e2 e3 => ?_⟩
    obtain ⟨u, r, l⟩ := hl i x v e1 e2 e3
    refine ⟨u, r, ?_⟩
    rcases l with l | ⟨k, c, e, o, ho, hd⟩
    · exact .inl l
    · obtain ⟨sl, q⟩ := sm c o ho fun vs z => by rw [hd] at z; cases z
      exact .inr ⟨k, c, e, _, q, hd⟩
  · obtain ⟨v, o, ho, hd⟩ := I.cell x c e
    obtain ⟨sl, q⟩ := sm c o ho fun vs z => by rw [hd] at z; cases z
    exact ⟨v, _, q, hd⟩
  · obtain ⟨e, n, ne, nf, d⟩ := I.pin p hp
    exact ⟨st _ _ (F _ _ e (I.nofrP hp) (.inr (.inr ⟨p, hp, rfl⟩))), n, ne, nf, d⟩
  · refine (I.hok b u e).stay (fun c v hc q => ?_) (fun _ q => q) fun _ _ q => q
    rcases hc with z | z
    · subst z
      exact st _ _ (F _ _ q (I.nofrT e) (.inl ⟨_, e⟩))
    · exact st _ _ (F _ _ q (I.nofrT z) (.inl ⟨_, z⟩))
end
structure Arr (X : Cx) (pins : List (Addr × Obj)) (σ : St) (H : Hp) (a : Addr) (cls : Value) (s : Shared) : Prop where
  inv : Inv X pins σ H s
  un : H a = none
  new : X.s₀.heap.get? a = none
  nl : a ≠ X.env.locals
  nc : ∀ x c, X.env.cells.lookup x = some c → c ≠ a
  np : ∀ p ∈ X.pn ++ pins, p.1 ≠ a
  fly : ∃ B a0, Firm X pins H s.heap B ∧ B.StaysIn s.heap ∧ B.get? a = none ∧ s.heap.FunFrames B X.stack ∧
    ((∃ oe vs, s.heap.get? a = some oe ∧ oe.cls = cls ∧ oe.data = .fields vs ∧ vs[0]? = some a0 ∧ vs[1]? = some .none) ∨ s.heap.TracedW B a cls a0)
noncomputable def CXE (P : Program) (w : World) : CXT := fun outer H s E e s' => ∃ (a : Addr) (cls a0 : Value) (H' : Hp) (B : Heap), e = .ref a ∧ s'.os = s.os ∧ AllBare s'.gens ∧ Un (frs outer) [] H H' s.heap s'.heap ∧ HOk P w H' s'.heap ∧
  Heap.FlyingW B outer a cls a0 s'.heap ∧ (∀ b o, s'.heap.get? b = some o → b ∉ frs outer → ((∃ u, H' b = some u) ∨ ∃ o', s.heap.get? b = some o') → B.get? b = some o) ∧ H' a = none ∧ s.heap.get? a = none ∧ E cls none H'
section
variable {X : Cx} {pins : List (Addr × Obj)} {σ : St} {H : Hp} {s : Shared}
theorem arr_made {h' : Heap} {e : Addr} {cls : Value} {args : List Value} {t' : Nat} (I : Inv X pins σ H s) (hex : X.ex = []) (hx : Heap.MadeExcOf s.heap h' e cls args) : Arr X pins σ H e cls { s with heap := h', toks := t' } := by
  have nx : ∀ b, b ∉ X.ex := fun b z => by rw [hex] at z; cases z
  have none_of : ∀ b o, s.heap.get? b = some o → b ≠ e := fun b o q z => by rw [z, hx.new] at q; cases q
  have eq_of : ∀ b o o1, h'.get? b = some o → s.heap.get? b = some o1 → o1 = o := fun b o o1 q q1 => by
    have z := hx.keeps b o1 q1
    rw [q] at z
    exact (Option.some.inj z).symm
  obtain ⟨t, he, _, _⟩ := hx.there
  refine ⟨I.kept hx.keeps, ?_, ?_, fun z => ?_, fun x c q z => ?_, fun p hp z => ?_, PySem.W.hideAll s.heap (frs X.stack), .ref t, fun b o q nb alt => ?_, fun b o q => hx.keeps b o (PySem.W.of_hideAll _ q), ?_, ?_, .inl ⟨_, _, he, rfl, rfl, rfl, rfl⟩⟩
  · cases q : H e with
    | none => rfl
    | some u =>
      obtain ⟨ob, z⟩ := (I.hok e u q).some
      exact absurd rfl (none_of e ob z)
  · cases q : X.s₀.heap.get? e with
    | none => rfl
    | some o =>
      obtain ⟨ob, z⟩ := I.base.there e o q (nx e)
      exact absurd rfl (none_of e ob z)
  · obtain ⟨m, ⟨o, _, _, ho, _⟩, _⟩ := I.loc
    exact none_of _ o ho z.symm
  · obtain ⟨v, o, ho, _⟩ := I.cell x c q
    exact none_of _ o ho z
  · exact none_of _ _ (I.pin p hp).1 z
  · have there : ∃ o1, s.heap.get? b = some o1 := by
      rcases alt with ⟨u, q'⟩ | ⟨o', q'⟩ | ⟨p, hp, rfl⟩
      · exact (I.hok b u q').some
      · exact I.base.there b o' q' (nx b)
      · exact ⟨_, (I.pin p hp).1⟩
    obtain ⟨o1, q1⟩ := there
    rw [← eq_of b o o1 q q1]
    exact PySem.W.hideAll_get _ q1 nb
  · cases q : (PySem.W.hideAll s.heap (frs X.stack)).get? e with
    | none => rfl
    | some o => exact absurd rfl (none_of e o (PySem.W.of_hideAll _ q))
  · refine (PySem.W.funFrames_hide I.stack fun env henv b hb => List.mem_filterMap.mpr ⟨env, henv, hb⟩).of_keeps fun b o q _ => ⟨o, hx.keeps b o q, rfl⟩
theorem arr_call {E : XK} {e : Value} {s' : Shared} (I : Inv X pins σ H s) (hex : X.ex = []) (h : CXE X.prog X.w X.stack H s E e s') : ∃ a cls H', e = .ref a ∧ Arr X pins σ H' a cls s' ∧ E cls none H' := by
  obtain ⟨a, cls, a0, H', B, rfl, os, bare, un, hok, ⟨f1, f2, f3, f4⟩, ext, na, ns, q⟩ := h
  have nx : ∀ b, b ∉ X.ex := fun b z => by rw [hex] at z; cases z
  have none_of : ∀ b o, s.heap.get? b = some o → b ≠ a := fun b o q z => by rw [z, ns] at q; cases q
  refine ⟨a, cls, H', rfl, ⟨I.call' (ch := []) os un hok bare (fun b z => absurd z (by simp)), na, ?_, fun z => ?_, fun x c q z => ?_, fun p hp z => ?_, B, a0, fun b o q nb alt => ?_, f1, f2, f3, .inr f4⟩, q⟩
  · cases q : X.s₀.heap.get? a with
    | none => rfl
    | some o =>
      obtain ⟨ob, z⟩ := I.base.there a o q (nx a)
      exact absurd rfl (none_of a ob z)
  · obtain ⟨m, ⟨o, _, _, ho, _⟩, _⟩ := I.loc
    exact none_of _ o ho z.symm
  · obtain ⟨v, o, ho, _⟩ := I.cell x c q
    exact none_of _ o ho z
  · exact none_of _ _ (I.pin p hp).1 z
  · refine ext b o q nb ?_
    rcases alt with ⟨u, q'⟩ | ⟨o', q'⟩ | ⟨p, hp, rfl⟩
    · exact .inl ⟨u, q'⟩
    · exact .inr (I.base.there b o' q' (nx b))
    · exact .inr ⟨_, (I.pin p hp).1⟩
theorem Arr.land {a : Addr} {cls : Value} {Q : Unit → Shared → Prop} {E : Value → Shared → Prop} {M : Model} {A : Around} (R : Arr X pins σ H a cls s) (hex : X.ex = []) (hfr : A.frames = some X.stack) {outer : List Env} (hst : X.stack = X.env :: outer) (hf : X.env.frame = some X.env.locals)
    (hQ : ∀ h' B a0, Firm X pins H s.heap B → Heap.FlyingW B X.stack a cls a0 h' → s.heap.UpToSlots h' → Inv X pins σ H { s with heap := h' } → Q () { s with heap := h' }) :
    wpAny M A (noteFrame (.ref a) X.env) (fun _ s₂ => wpAny M A (setFlight (.ref a) none) Q E s₂) E s := by
  obtain ⟨B, a0, fm, st, hb, ff, alt⟩ := R.fly
  have after : ∀ h4, Heap.HeldW B X.stack a cls a0 X.env.locals h4 → s.heap.UpToSlots h4 → wpAny M A (setFlight (.ref a) none) Q E { s with heap := h4 } := fun h4 hh sm => by
    refine wpAny_landsW (s := { s with heap := h4 }) hh fun h5 fl sm5 => ?_
    have sm' : s.heap.UpToSlots h5 := sm.trans sm5
    exact hQ h5 B a0 fm fl sm' (R.inv.flown (t' := s.toks) hex fm fl.1 sm')
  rw [hst] at hfr
  rw [hst] at ff
  rcases alt with ⟨oe, vs, he, hc, hd, h0, h1⟩ | tr
  · subst hc
    have hsz : 1 < vs.size := (Array.getElem?_eq_some_iff.mp h1).1
    unfold noteFrame
    simp only [hf]
    refine wpAny_bind (wpAny_field he hd h1 ?_)
    rw [if_neg (by decide)]
    refine wpAny_entryW hfr ff hf he st hb hd hsz h0 fun h4 hN => ?_
    obtain ⟨k1, k2, k3, k4⟩ := hN
    exact after h4 (by rw [hst]; exact ⟨k1, hb, k2, k3⟩) k4
  · exact wpAny_looks_onW hfr hf ⟨st, hb, ff, tr⟩ fun h4 hh sm => after h4 (by rw [hst]; exact hh) sm
theorem arr_leave {P : Program} {w : World} {K : PySem.W.Frag} {mg : Str → Option Value} {base : Heap} {N : List Str} {qual : Str} {scope : Scope} {f : Addr} {cd : Value} {A : Around} {outer : List Env} {s0 : Shared} {H0 : Hp} {E : XK} {a : Addr} {cls : Value}
    (R : Arr (cxOf (CXE P w) P w K mg base N qual scope f cd A outer s0 H0 E) pins σ H a cls s) (q : E cls none H) : (cxOf (CXE P w) P w K mg base N qual scope f cd A outer s0 H0 E).xe (.ref a) s := by
  show wpAny _ _ (leaving _ _) _ _ s
  unfold leaving
  refine wpAny_bind (R.land (E := fun e' s'' => CXE P w outer H0 s0 E e' s'') rfl R.inv.ok.frames rfl rfl fun h' B a0 fm fl sm I' => ?_)
  have I := R.inv
  obtain ⟨k1, k2, ⟨_, _, k3⟩, k4⟩ := fl
  refine ⟨a, cls, a0, H, B, rfl, I'.os, I'.bare, I'.base, I'.hok, ⟨k1, k2, k3, k4⟩, fun b o e nb alt => ?_, R.un, R.new, q⟩
  have nstk : b ∉ frs (cxOf (CXE P w) P w K mg base N qual scope f cd A outer s0 H0 E).stack := by
    rcases alt with ⟨u, z⟩ | ⟨o', z⟩
    · exact I.nofrT z
    · exact I.nofr z nb
  have there : ∃ o1, s.heap.get? b = some o1 := by
    rcases alt with ⟨u, z⟩ | ⟨o', z⟩
    · exact (I.hok b u z).some
    · exact I.base.there b o' z (fun z => absurd (show b ∈ ([] : List Addr) from z) (by simp))
  obtain ⟨o1, q1⟩ := there
  have z : B.get? b = some o1 := fm b o1 q1 nstk (by
    rcases alt with ⟨u, z⟩ | ⟨o', z⟩
    · exact .inl ⟨u, z⟩
    · exact .inr (.inl ⟨o', z⟩))
  have z2 := k1 b o1 z
  rw [show (Heap.get? h' b) = some o from e] at z2
  cases z2
  exact z
end
noncomputable def RaisesS (X : Cx) (Ex : St → XK) : Prop := ∀ (pins : List (Addr × Obj)) (σ : St) (H : Hp) (s : Shared) (a : Addr) (cls : Value), Arr X pins σ H a cls s → Ex σ cls none H → X.xe (.ref a) s
noncomputable def PassesS (CX : CXT) (X : Cx) (Ex : St → XK) : Prop := ∀ (pins : List (Addr × Obj)) (σ : St) (H : Hp) (s : Shared) (e : Value) (s' : Shared), Inv X pins σ H s → CX X.stack H s (Ex σ) e s' → X.xe e s'
section
variable {P : Program} {w : World} {K : PySem.W.Frag} {mg : Str → Option Value} {base : Heap} {N : List Str} {qual : Str} {scope : Scope} {f : Addr} {cd : Value} {A : Around} {outer : List Env} {s0 : Shared} {H0 : Hp} {E : XK}
theorem raisesE : RaisesS (cxOf (CXE P w) P w K mg base N qual scope f cd A outer s0 H0 E) (fun _ => E) := fun _ _ _ _ _ _ R q => arr_leave R q
theorem passesE : Passes (CXE P w) (cxOf (CXE P w) P w K mg base N qual scope f cd A outer s0 H0 E) E := fun pins σ H s e s' I h => by
  obtain ⟨a, cls, H', rfl, R, q⟩ := arr_call (X := cxOf (CXE P w) P w K mg base N qual scope f cd A outer s0 H0 E) I rfl h
  exact arr_leave R q
end
section
variable {X : Cx} {x : Str} {C : Addr} {bm : List Value} {B newId initId : String} {np cpos pos : Pos} {e : Expr} {es : List Expr} {t : TA} {Ex : St → XK}
noncomputable def tRaise (cls : Value) (Ex : St → XK) (t : TA) : TS := fun _ σ H => t σ H fun vs H1 => vs.length ≤ 1000 ∧ Ex σ cls none H1
theorem ps_raise (O : OwnCls x C bm newId X.mg X.base) (FB : ExcBaseFacts B newId initId bm) (hc : X.calm = true) (hex : X.ex = []) (hr : RaisesS X Ex) (hg : Gl X x) (ha : PA X (e :: es) t)
    (hdb : (x == ("__debug__" : Str)) = false := by decide) (he : starEach (e :: es) X.env = (false, eval e X.env) :: starEach es X.env := by rfl) (hpl : (backTo cpos (starEach es X.env)).any (·.1) = false := by rfl) :
    PS X (.Raise (some (.Call (.Name x np) (e :: es) [] cpos)) none pos) (tRaise (.ref C) Ex t) := by
  intro pins s σ H D I h
  obtain ⟨tl, NN, nm, q, bs, hdct, sn, sub, ab, col, dd, k0, k1, k2, k3, k5, mN, hC, hN, hni, T⟩ := O.obj
  refine wpAny_Raise_call_subT (C := C) (nm := nm) (q := q) (N := NN) (bs := bs) (bm := tl) (hdct := hdct) (sn := sn) (sub := sub) (ab := ab) (col := col) (dd := dd) (k0 := k0) (k1 := k1) (k2 := k2) (k3 := k3) (k5 := k5) FB (mN := mN)
    (T.hasType FB.hasBase) (I.ok.hd hc) (by rw [he]; show (false || (backTo cpos (starEach es X.env)).any (·.1)) = false; rw [hpl]; rfl) hni (ld_glob I hg O.bound ⟨rfl, ?_⟩ hdb)
  have hA := ha cpos pins s σ H _ I h
  rw [he] at hA ⊢
  refine Calls.evalArgs_plain (thn hA fun us s2 ⟨vs, H1, I1, r1, hl, q1⟩ => ⟨rfl, ?_, I1.bk _ _ hC, hN.keeps I1.bk, T.keeps I1.bk, fun h' a hm => hr pins σ H1 _ a _ (arr_made (t' := s2.toks) I1 hex hm) q1⟩)
  show us.length ≤ sizeLine
  rw [← r1.length]
  exact Nat.le_trans hl (by decide)
end
section
variable {X : Cx} {CX : CXT} {k : Nat} {f C : Addr} {fd : FuncData} {ps : List Str} {sp : Sp} {dvs : List V} {ds : List Value} {Ex : St → XK} {x m : Str} {p pos apos : Pos} {e o : Expr} {es : List Expr} {ta : TE} {t : TA}
theorem run_fnS {pins : List (Addr × Obj)} {σ : St} {H : Hp} {s : Shared} {Q : VK} {us : List Value} {vs : List V} (F : FnOk X.prog X.w X.K X.mg X.base CX k f fd ps sp) (hr : Room k X.A) (hb : Binds X.K fd ps ds) (hd : Vals dvs ds) (hx : PassesS CX X Ex)
    (I : Inv X pins σ H s) (r : Vals vs us) (h : sp (vs ++ dvs) H Q (Ex σ)) : wpAny (model X.prog X.w) X.A (call (.ref f) us) (EP X pins σ Q) X.xe s := by
  have r2 : Vals (vs ++ dvs) (us ++ ds) := r.append hd
  have hl : (us ++ ds).length = ps.length := by rw [← r2.length]; exact F.len _ _ _ _ h
  refine wpAny_call (codeAny_mono (F.run X.A X.stack s H ⟨us, []⟩ (us ++ ds) (vs ++ dvs) Q (Ex σ) hr I.env0 (hb s us I.kIn hl) r2 h) fun r s' hq => ?_)
  cases r with
  | error e => exact hx pins σ H s e s' I hq
  | ok fl =>
    cases fl with
    | ret u => exact I.after hq
    | next => exact False.elim hq
    | brk => exact False.elim hq
    | cont => exact False.elim hq
noncomputable def tCallS (sp : Sp) (dvs : List V) (Ex : St → XK) (t : TA) : TE := fun σ H Q => t σ H fun vs H1 => sp (vs ++ dvs) H1 Q (Ex σ)
theorem pe_callS (F : FnOk X.prog X.w X.K X.mg X.base CX k f fd ps sp) (hr : Room k X.A) (hg : Gl X x) (hm : X.mg x = some (.ref f)) (hk : PySem.W.keepIn X.K (.ref f) = true) (hb : Binds X.K fd ps ds) (hd : Vals dvs ds) (hx : PassesS CX X Ex)
    (ha : PA X (e :: es) t) (hdb : (x == ("__debug__" : Str)) = false := by decide) (he : starEach (e :: es) X.env = (false, eval e X.env) :: starEach es X.env := by rfl) (hpl : (backTo pos (starEach es X.env)).any (·.1) = false := by rfl) :
    PE X (.Call (.Name x p) (e :: es) [] pos) (tCallS sp dvs Ex t) := by
  intro pins s σ H Q I h
  refine wpAny_Call_Name_kw (ld_glob I hg hm ?_ hdb)
  refine PySem.W.callWith_K (h₀ := X.base) I.ok.mod.kin hk (thn (ha pos pins s σ H _ I h) fun us s1 ⟨vs, H1, I1, r, q⟩ => ⟨I1.kIn, ?_⟩) he hpl
  exact run_fnS F hr hb hd hx I1 r q
noncomputable def tMethS (C : Addr) (m : Str) (sp : Sp) (dvs : List V) (Ex : St → XK) (ta : TE) (t : TA) : TE := fun σ H Q => ta σ H fun x H1 => ∃ a dx fs, x = .ref a ∧ H1 a = some (.ins C dx fs) ∧ fs.lookup m = none ∧
  t σ H1 fun vs H2 => sp (x :: (vs ++ dvs)) H2 Q (Ex σ)
theorem pe_methS {pl : Sem Bool} (he : PE X o ta) (c : Cls X.K C) (hm : Meth X.K C m f) (F : FnOk X.prog X.w X.K X.mg X.base CX k f fd ps sp) (hr : Room k X.A) (hb : Binds X.K fd ps ds) (hd : Vals dvs ds) (hx : PassesS CX X Ex) (ha : PA X (e :: es) t)
    (hst : starEach (e :: es) X.env = (false, eval e X.env) :: starEach es X.env := by rfl) (hpl : (backTo pos (starEach es X.env)).any (·.1) = false := by rfl)
    (ht : eval (.Call (.Attribute o m apos) (e :: es) [] pos) X.env = (do
      let ov ← eval o X.env
      standAt apos.atName
      let (f, first) ← holding [ov] (getMethod ov m pl)
      callWith pos f first (backTo pos (starEach (e :: es) X.env)) (backToKw pos (keywordEach [] X.env))) := by rfl) :
    PE X (.Call (.Attribute o m apos) (e :: es) [] pos) (tMethS C m sp dvs Ex ta t) := by
  intro pins s σ H Q I h
  refine PySem.W.methodCall_KW (pl := pl) (thn (he pins s σ H _ I h) fun u s1 ⟨x, H1, I1, rx, a, dx, fs, ex, ea, l, q⟩ => ?_) ht
  subst ex
  obtain rfl : u = Value.ref a := rx
  refine getmeth_ok I1 ea c hm l ?_
  refine PySem.W.callWith_K (first := [.ref a]) (h₀ := X.base) I.ok.mod.kin hm.kp (thn (ha pos pins s1 σ H1 _ I1 q) fun us s2 ⟨vs, H2, I2, r, q2⟩ => ⟨I2.kIn, ?_⟩) hst hpl
  exact run_fnS (us := .ref a :: us) (vs := .ref a :: vs) F hr hb hd hx I2 (.cons rfl r) q2
end
noncomputable def excO (a : Addr) (cls : Value) : HO := .ext fun h => ∃ ob vs, h.get? a = some ob ∧ ob.cls = cls ∧ ob.data = .fields vs
section
variable {X : Cx} {pins pins' : List (Addr × Obj)} {σ : St} {H : Hp} {s : Shared} {xe : Value → Shared → Prop}
end
section
variable {X : Cx} {xc n : Str} {C : Addr} {i : Nat} {body suite : List Stmt} {b0 : Stmt} {np hpos pos : Pos} {tb : (St → XK) → TS} {th : TS} {outer : List Env}
end
section
variable {P : Program} {w : World} {K : PySem.W.Frag} {mg : Str → Option Value} {base : Heap}
theorem Fun.okE {x qual : Str} {st : Stmt} {f : Addr} {fd : FuncData} {N ps : List Str} {k : Nat} {sp : Sp} (F : Fun K x qual st f fd) (S : FnScope N ps (defScope st)) (len : ∀ vs H Q E, sp vs H Q E → vs.length = ps.length)
    (hbody : ∀ (cdv : Value) (A : Around) (outer : List Env) (s : Shared) (H : Hp) (vs : List V) (Q : VK) (E : XK), Room k (A.deeper (envOfC qual (defScope st) s.heap.objs.size f cdv)) → sp vs H Q E →
      ∃ t, PSs (cxOf (CXE P w) P w K mg base N qual (defScope st) f cdv A outer s H E) (defBody st) t ∧ t { nx := fun _ H' => Q .non H', rt := Q } (start N vs) H) : FnOk P w K mg base (CXE P w) (k + 1) f fd ps sp := by
  obtain ⟨oc, od, kV, doc, pm, an, cdv, ct, osl, rfl, lk, hcd⟩ := F.ex
  exact fn_of lk hcd S len fun A outer s H vs Q E hr hsp => hbody cdv A outer s H vs Q E hr hsp
end
end L2


namespace L2
open PySem PySem.Spec PyProof.Rows
theorem own_frag {K : PySem.W.Frag} {hp : Heap} {g : Str → Option Value} {nm : Str} {Ca : Addr} {bb : List Value} {nid : String} (Z : K.In hp) (hb : g nm = some (.ref Ca)) (ok : PySem.W.excIn K Ca bb nid = true) : OwnCls nm Ca bb nid g hp := by
  refine ⟨hb, ?_⟩
  unfold PySem.W.excIn at ok
  split at ok
  · rename_i dA cA sA hA
    split at ok
    · rename_i D' tl w0 w1 w2 w3 bn w5 eM eS
      simp only [Bool.and_eq_true, beq_iff_eq, Bool.not_eq_true'] at ok
      obtain ⟨⟨⟨⟨⟨rfl, rfl⟩, e1⟩, e2⟩, e3⟩, e4⟩ := ok
      obtain ⟨f1, f2, f3, f4, f5, f6, f7, f8, f9, f10, f11⟩ := cA
      dsimp only at eM e1 e3 e4
      subst eM e1
      have eA : sA = #[w0, w1, w2, w3, some (.builtin bn), w5] := by
        obtain ⟨ll⟩ := sA
        simp only at eS
        rw [eS]
      subst eA
      refine ⟨tl, f4, f1, f5, f2, f6, f7, f8, f9, f10, dA, w0, w1, w2, w3, w5, _, Z _ _ hA, .of_isNs (PySem.W.isNs_of_in Z e3), ?_, PySem.W.tail_of_in Z e2⟩
      exact PySem.W.nsMap_none_of_in Z e3 e4
    · cases ok
  · cases ok
mutual
inductive DaV (K : PySem.W.Frag) (H : Hp) : V → PyData → Prop
  | non : DaV K H .non .none
  | bl (b) : DaV K H (.bl b) (.bool b)
  | int (i) : DaV K H (.int i) (.int i)
  | str (x) : DaV K H (.str x) (.str x)
  | lst {a xs ds} : SqL K H a xs → DaVs K H xs ds → DaV K H (.ref a) (.list ds)
  | tup {a xs ds} : SqT K H a xs → DaVs K H xs ds → DaV K H (.ref a) (.tuple ds)
inductive DaVs (K : PySem.W.Frag) (H : Hp) : List V → List PyData → Prop
  | nil : DaVs K H [] []
  | cons {x xs d ds} : DaV K H x d → DaVs K H xs ds → DaVs K H (x :: xs) (d :: ds)
end
section
variable {X : Cx} {pins : List (Addr × Obj)} {σ : St} {H : Hp} {s : Shared}
mutual
theorem DaV.reads (I : Inv X pins σ H s) : ∀ {x : V} {d : PyData} {u : Value}, DaV X.K H x d → RelV x u → ∃ as, Reads s.heap u d as
  | _, _, _, .non, r => by cases r; exact ⟨_, .none⟩
  | _, _, _, .bl b, r => by cases r; exact ⟨_, .bool b⟩
  | _, _, _, .int i, r => by obtain ⟨t, rfl⟩ := r; exact ⟨_, .int i t⟩
  | _, _, _, .str x, r => by obtain ⟨t, rfl⟩ := r; exact ⟨_, .str x t⟩
  | _, _, _, .lst (a := a) h1 h2, r => by
    cases r
    obtain ⟨its, rv, ⟨o, n, e1, e2, e3⟩, _⟩ := I.list h1
    obtain ⟨as, q⟩ := DaVs.reads I h2 rv
    exact ⟨_, .list (vs := its.toArray) (n := n) e1 (by first | exact e2.1 | exact e2) (by first | exact e2.2.2 | exact e2.2 | exact e3 | exact e3.2) (by simpa using q)⟩
  | _, _, _, .tup (a := a) h1 h2, r => by
    cases r
    obtain ⟨its, rv, ⟨o, e1, e2, n, e3⟩, _⟩ := I.tuple h1
    obtain ⟨as, q⟩ := DaVs.reads I h2 rv
    exact ⟨_, .tuple (vs := its.toArray) (n := n) e1 e2 e3 (by simpa using q)⟩
theorem DaVs.reads (I : Inv X pins σ H s) : ∀ {xs : List V} {ds : List PyData} {us : List Value}, DaVs X.K H xs ds → Vals xs us → ∃ as, ReadsAll s.heap us ds as
  | _, _, _, .nil, r => by cases r; exact ⟨_, .nil⟩
  | _, _, _, .cons h1 h2, r => by
    cases r with
    | cons r1 r2 =>
      obtain ⟨as, q1⟩ := DaV.reads I h1 r1
      obtain ⟨bs, q2⟩ := DaVs.reads I h2 r2
      exact ⟨_, .cons q1 q2⟩
end
noncomputable def rEqD (K : PySem.W.Frag) : R2 := fun x y H Q => ∃ d e, DaV K H x d ∧ DaV K H y e ∧ d.canLay0 = true ∧ e.canLay0 = true ∧ d.depth ≤ 60 ∧ Q (.bl (PyData.eqv d e)) H
noncomputable def rNeD (K : PySem.W.Frag) : R2 := fun x y H Q => ∃ d e, DaV K H x d ∧ DaV K H y e ∧ d.canLay0 = true ∧ e.canLay0 = true ∧ d.depth ≤ 60 ∧ Q (.bl (!PyData.eqv d e)) H
theorem op_eqD (hu : X.A.units + 64 < cLine) : OpR X (compareOp .Eq) (rEqD X.K) := by
  intro pins s σ H x y v u Q I rx ry h
  obtain ⟨d, e, h1, h2, c1, c2, dp, q⟩ := h
  obtain ⟨as, r1⟩ := h1.reads I rx
  obtain ⟨bs, r2⟩ := h2.reads I ry
  exact SeqAt.compareEq_reads r1 r2 c1 c2 (by have := Nat.min_le_left d.depth e.depth; omega) ⟨.bl _, H, I, rfl, q⟩
theorem op_neD (hu : X.A.units + 64 < cLine) : OpR X (compareOp .NotEq) (rNeD X.K) := by
  intro pins s σ H x y v u Q I rx ry h
  obtain ⟨d, e, h1, h2, c1, c2, dp, q⟩ := h
  obtain ⟨as, r1⟩ := h1.reads I rx
  obtain ⟨bs, r2⟩ := h2.reads I ry
  exact SeqAt.compareNe_reads r1 r2 c1 c2 (by have := Nat.min_le_left d.depth e.depth; omega) ⟨.bl _, H, I, rfl, q⟩
end
theorem hu64 {A : Around} {k : Nat} (hr : Room k A) : A.units + 64 < cLine := by
  have := hr.un
  omega
noncomputable def rCatS (K : PySem.W.Frag) : R2 := fun x y H Q => ∃ l b xs zs, x = .ref l ∧ y = .ref b ∧ SqL K H l xs ∧ SqL K H b zs ∧ xs.length + zs.length ≤ sizeLine ∧ ∀ p, H p = none → Q (.ref p) (upd H p (.lst (xs ++ zs)))
theorem op_catS {X : Cx} : OpR X (binaryOp .Add) (rCatS X.K) := by
  intro pins s σ H x y v u Q I rx ry h
  obtain ⟨l, b, xs, zs, rfl, rfl, hH, hB, hz, q⟩ := h
  cases rx
  cases ry
  obtain ⟨its, r, ⟨o, n, e1, e2, e3, e4⟩, z⟩ := I.list hH
  obtain ⟨its2, r2, ⟨o2, n2, g1, g2, g3, g4⟩, z2⟩ := I.list hB
  obtain ⟨oc, od, oda, osl⟩ := o
  obtain ⟨oc2, od2, oda2, osl2⟩ := o2
  dsimp only at e2 e3 e4 g2 g3 g4
  subst e2 e3 e4 g2 g3 g4
  have l1 := r.length
  have l2 := r2.length
  refine concat_meets ⟨_, e1, rfl⟩ ⟨_, g1, rfl⟩ noFill_list_add seq_list_add PySem.F.slot_list_add PySem.F.entry_list_add (PySem.F.args_list_add_2 _ _) (list_addW l b its.toArray its2.toArray n n2 none none osl osl2 (by rw [List.size_toArray, List.size_toArray]; omega)) ⟨e1, g1, ?_⟩
  have ea : its.toArray ++ its2.toArray = (its ++ its2).toArray := by simp
  rw [ea]
  exact ⟨.ref s.heap.objs.size, _, I.lnew (t' := s.toks) (r.append r2) (by rw [List.length_append]; exact hz), rfl, q _ I.fresh⟩
end L2

namespace L2
open PySem PySem.Spec PyProof.Rows
section
variable {X : Cx} {pins : List (Addr × Obj)} {σ : St} {H : Hp} {s : Shared}
open Classical in
noncomputable def isD (h : Heap) (d : PyData) (v : Value) : Bool := if q : ∃ e as, e.canLay0 = true ∧ Reads h v e as then PyData.eqv q.choose d else false
theorem isD_of {h : Heap} {d e : PyData} {v : Value} {as : List Addr} (c : e.canLay0 = true) (r : Reads h v e as) : isD h d v = PyData.eqv e d := by
  have q : ∃ e as, e.canLay0 = true ∧ Reads h v e as := ⟨e, as, c, r⟩
  unfold isD
  rw [dif_pos q]
  obtain ⟨as', c', r'⟩ := q.choose_spec
  have z : q.choose = e := by first | exact (Reads.unique _ _ r' r).1 | exact (Reads.unique r' r).1 | exact Reads.unique _ _ _ _ _ c' r' r | exact PySem.SeqAt.Reads.unique _ _ _ _ _ c' r' r | exact PySem.Reads.unique _ _ _ _ _ c' r' r
  rw [z]
theorem daVs_at (I : Inv X pins σ H s) : ∀ {xs : List V} {ds : List PyData} {us : List Value}, DaVs X.K H xs ds → Vals xs us → us.length = ds.length ∧ ∀ (j : Nat) u d, us[j]? = some u → ds[j]? = some d → ∃ as, Reads s.heap u d as
  | _, _, _, .nil, r => by cases r; exact ⟨rfl, fun j u d e => by cases e⟩
  | _, _, _, .cons h1 h2, r => by
    cases r with
    | cons r1 r2 =>
      obtain ⟨l, q⟩ := daVs_at I h2 r2
      refine ⟨by rw [List.length_cons, List.length_cons, l], fun j u d e1 e2 => ?_⟩
      cases j with
      | zero => cases e1; cases e2; exact h1.reads I r1
      | succ j => exact q j u d e1 e2
theorem any_isD {h : Heap} {d : PyData} : ∀ {us : List Value} {ds : List PyData}, us.length = ds.length → (∀ (j : Nat) u e, us[j]? = some u → ds[j]? = some e → isD h d u = PyData.eqv e d) → us.any (isD h d) = ds.any fun e => PyData.eqv e d
  | [], [], _, _ => rfl
  | u :: us, e :: ds, hl, hh => by
    rw [List.any_cons, List.any_cons, hh 0 u e rfl rfl, any_isD (us := us) (ds := ds) (Nat.succ.inj hl) fun j u' e' a b => hh (j + 1) u' e' a b]
end
end L2


namespace L2
open PySem PySem.Spec PyProof.Rows
open PySem.Builtin PySem.Builtin.Str
section
variable {X : Cx}
noncomputable def cutS (z : Str) (lo hi : Option Int) : Str := ⟨((z.cps.toList.drop (HT.sIx z.cps.toList.length 0 lo)).take (HT.sIx z.cps.toList.length z.cps.toList.length hi - HT.sIx z.cps.toList.length 0 lo)).toArray⟩
end
end L2





namespace Sm
open PySem L2
inductive AV where
  | non | bl (b : Bool) | int (i : Int) | str (x : Str)
  | tup (xs : List AV)
  | fl (xs : List AV)
  | ref (n : Nat)
  | exc (c : Nat)
  deriving Inhabited
inductive AO where
  | lst (xs : List AV)
  | dct (t : Bool) (kvs : List (AV × AV))
  | dcx (kvs : List (AV × AV))
  | ins (c : Nat) (fs : List (Option AV))
noncomputable abbrev AH := List AO
noncomputable abbrev En := List (Option AV)
inductive Out (α : Type) where
  | ok (a : α) (h : AH)
  | ex (c : Nat) (h : AH)
  | bad
@[simp] noncomputable def Out.bind {α β : Type} (o : Out α) (f : α → AH → Out β) : Out β :=
  match o with
  | .ok a h => f a h
  | .ex c h => .ex c h
  | .bad => .bad
inductive OutS where
  | nx (e : En) (h : AH)
  | rt (v : AV) (h : AH)
  | bk (e : En) (h : AH)
  | ct (e : En) (h : AH)
  | ex (c : Nat) (e : En) (h : AH)
  | bad
noncomputable abbrev SE := En → AH → Out AV
noncomputable abbrev SB := En → AH → Out Bool
noncomputable abbrev SL := En → AH → Out (List AV)
noncomputable abbrev SS := En → AH → OutS
noncomputable abbrev Fn := List AV → AH → Out AV
@[simp] noncomputable def Out.go {α : Type} (o : Out α) (e : En) (f : α → AH → OutS) : OutS :=
  match o with
  | .ok a h => f a h
  | .ex c h => .ex c e h
  | .bad => .bad
structure Tb where
  K : PySem.W.Frag
  cls : Nat → Option Addr
  exc : Nat → Option Addr
  fields : Nat → List Str
  nd : ∀ c, (fields c).Nodup
  few : ∀ c, (fields c).length ≤ 500
noncomputable def KL (K : PySem.W.Frag) (a : Addr) (xs : List V) : Prop := ∃ (o : Obj) (its : Array Value) (n : Nat), K.lookup a = some o ∧ o.cls = .type "list" ∧ o.dict = none ∧ o.data = .seq its n ∧ its.size ≤ sizeLine ∧ Vals xs its.toList
structure Ix where
  refs : List Addr
  priv : List Addr
noncomputable def Ix.all (ι : Ix) : List Addr := ι.refs ++ ι.priv
mutual
inductive RV (T : Tb) (ι : Ix) (H : Hp) : AV → V → Prop
  | non : RV T ι H .non .non
  | bl (b : Bool) : RV T ι H (.bl b) (.bl b)
  | int (i : Int) : RV T ι H (.int i) (.int i)
  | str {x : Str} (n : x.length ≤ sizeLine) (o : x.cps.all (· < 0x110000) = true) : RV T ι H (.str x) (.str x)
  | tup {xs : List AV} {us : List V} {a : Addr} (n : a ∉ ι.all) (h : H a = some (.tup us)) (r : RVs T ι H xs us) : RV T ι H (.tup xs) (.ref a)
  | fl {xs : List AV} {us : List V} {a : Addr} (n : a ∉ ι.all) (h : Rd H a (.lst us)) (r : RVs T ι H xs us) : RV T ι H (.fl xs) (.ref a)
  | kfl {xs : List AV} {us : List V} {a : Addr} (h : KL T.K a us) (r : RVs T ι H xs us) : RV T ι H (.fl xs) (.ref a)
  | ref {k : Nat} {a : Addr} (h : ι.refs[k]? = some a) : RV T ι H (.ref k) (.ref a)
  | exc {c : Nat} {C a : Addr} (n : a ∉ ι.all) (h : T.exc c = some C) (q : H a = some (excO a (.ref C))) : RV T ι H (.exc c) (.ref a)
inductive RVs (T : Tb) (ι : Ix) (H : Hp) : List AV → List V → Prop
  | nil : RVs T ι H [] []
  | cons {x : AV} {u : V} {xs : List AV} {us : List V} (r : RV T ι H x u) (rs : RVs T ι H xs us) : RVs T ι H (x :: xs) (u :: us)
end
structure Grow (ι : Ix) (H : Hp) (ι' : Ix) (H' : Hp) : Prop where
  pre : ∃ n, ι'.refs = ι.refs ++ n ∧ ∀ a ∈ n, H a = none
  priv : ι'.priv = ι.priv
  keep : ∀ a o, a ∉ ι.refs → H a = some o → H' a = some o
  live : ∀ a ∈ ι.all, H' a ≠ none
theorem nodup_at : ∀ {l : List Addr} {i j : Nat} {a : Addr}, l.Nodup → l[i]? = some a → l[j]? = some a → i = j
  | [], _, _, _, _, e, _ => by simp at e
  | x :: l, 0, 0, _, _, _, _ => rfl
  | x :: l, 0, j + 1, a, n, e, f => by
    simp at e f; subst e
    exact absurd (List.mem_of_getElem? f) (List.nodup_cons.mp n).1
  | x :: l, i + 1, 0, a, n, e, f => by
    simp at e f; subst f
    exact absurd (List.mem_of_getElem? e) (List.nodup_cons.mp n).1
  | x :: l, i + 1, j + 1, a, n, e, f => by
    simp at e f
    rw [nodup_at (List.nodup_cons.mp n).2 e f]
theorem Ix.nr {ι : Ix} {a : Addr} (h : a ∉ ι.all) : a ∉ ι.refs := fun z => h (List.mem_append_left _ z)
theorem Ix.np {ι : Ix} {a : Addr} (h : a ∉ ι.all) : a ∉ ι.priv := fun z => h (List.mem_append_right _ z)
theorem Grow.refl {ι : Ix} {H : Hp} (l : ∀ a ∈ ι.all, H a ≠ none) : Grow ι H ι H := ⟨⟨[], by simp, by simp⟩, rfl, fun _ _ _ e => e, l⟩
theorem Grow.at {ι ι' : Ix} {H H' : Hp} (g : Grow ι H ι' H') {k : Nat} {a : Addr} (h : ι.refs[k]? = some a) : ι'.refs[k]? = some a := by
  obtain ⟨n, e, _⟩ := g.pre
  rw [e, List.getElem?_append_left (List.getElem?_eq_some_iff.mp h).1]
  exact h
theorem Grow.outR {ι ι' : Ix} {H H' : Hp} (g : Grow ι H ι' H') {a : Addr} {o : HO} (n : a ∉ ι.refs) (e : H a = some o) : a ∉ ι'.refs := fun z => by
  obtain ⟨m, e', hm⟩ := g.pre
  rw [e'] at z
  rcases List.mem_append.mp z with z | z
  · exact n z
  · rw [hm a z] at e; cases e
theorem Grow.out {ι ι' : Ix} {H H' : Hp} (g : Grow ι H ι' H') {a : Addr} {o : HO} (n : a ∉ ι.all) (e : H a = some o) : a ∉ ι'.all := fun z => by
  rcases List.mem_append.mp z with z | z
  · exact g.outR (Ix.nr n) e z
  · rw [g.priv] at z; exact Ix.np n z
theorem Grow.trans {ι ι' ι'' : Ix} {H H' H'' : Hp} (g : Grow ι H ι' H') (k : Grow ι' H' ι'' H'') : Grow ι H ι'' H'' := by
  obtain ⟨n, e1, hn⟩ := g.pre
  obtain ⟨m, e2, hm⟩ := k.pre
  refine ⟨⟨n ++ m, by rw [e2, e1]; simp, fun a ha => ?_⟩, k.priv.trans g.priv, fun a o na e => k.keep a o (g.outR na e) (g.keep a o na e), fun a ha => k.live a ?_⟩
  · rcases List.mem_append.mp ha with z | z
    · exact hn a z
    · have q := hm a z
      by_cases hi : a ∈ ι.refs
      · exact absurd q (g.live a (List.mem_append_left _ hi))
      · cases e : H a with
        | none => rfl
        | some o => rw [g.keep a o hi e] at q; cases q
  · rcases List.mem_append.mp ha with z | z
    · exact List.mem_append_left _ (by rw [e1]; exact List.mem_append_left _ z)
    · exact List.mem_append_right _ (by rw [g.priv]; exact z)
structure Ext (ι : Ix) (H : Hp) (ι' : Ix) (H' : Hp) : Prop where
  at_ : ∀ {k : Nat} {a : Addr}, ι.refs[k]? = some a → ι'.refs[k]? = some a
  keep : ∀ a o, a ∉ ι.all → H a = some o → H' a = some o
  out : ∀ a o, a ∉ ι.all → H a = some o → a ∉ ι'.all
theorem Grow.ext {ι ι' : Ix} {H H' : Hp} (g : Grow ι H ι' H') : Ext ι H ι' H' := ⟨g.at, fun a o n e => g.keep a o (Ix.nr n) e, fun a o n e => g.out n e⟩
theorem Ext.trans {ι ι' ι'' : Ix} {H H' H'' : Hp} (g : Ext ι H ι' H') (k : Ext ι' H' ι'' H'') : Ext ι H ι'' H'' :=
  ⟨fun e => k.at_ (g.at_ e), fun a o n e => k.keep a o (g.out a o n e) (g.keep a o n e), fun a o n e => k.out a o (g.out a o n e) (g.keep a o n e)⟩
theorem rd_keep {ι ι' : Ix} {H H' : Hp} (g : Ext ι H ι' H') {a : Addr} {u : HO} (n : a ∉ ι.all) (r : Rd H a u) : Rd H' a u := by
  rcases r with r | ⟨o, r⟩
  · exact .inl (g.keep a _ n r)
  · exact .inr ⟨o, g.keep a _ n r⟩
theorem rd_out {ι ι' : Ix} {H H' : Hp} (g : Ext ι H ι' H') {a : Addr} {u : HO} (n : a ∉ ι.all) (r : Rd H a u) : a ∉ ι'.all := by
  rcases r with r | ⟨o, r⟩
  · exact g.out _ _ n r
  · exact g.out _ _ n r
mutual
theorem RV.ext {T : Tb} {ι ι' : Ix} {H H' : Hp} (g : Ext ι H ι' H') : ∀ {x : AV} {u : V}, RV T ι H x u → RV T ι' H' x u
  | _, _, .non => .non
  | _, _, .bl b => .bl b
  | _, _, .int i => .int i
  | _, _, .str n o => .str n o
  | _, _, .tup n h r => .tup (g.out _ _ n h) (g.keep _ _ n h) (RVs.ext g r)
  | _, _, .fl n h r => .fl (rd_out g n h) (rd_keep g n h) (RVs.ext g r)
  | _, _, .kfl h r => .kfl h (RVs.ext g r)
  | _, _, .ref h => .ref (g.at_ h)
  | _, _, .exc n h q => .exc (g.out _ _ n q) h (g.keep _ _ n q)
theorem RVs.ext {T : Tb} {ι ι' : Ix} {H H' : Hp} (g : Ext ι H ι' H') : ∀ {xs : List AV} {us : List V}, RVs T ι H xs us → RVs T ι' H' xs us
  | _, _, .nil => .nil
  | _, _, .cons r rs => .cons (RV.ext g r) (RVs.ext g rs)
end
theorem RV.mono {T : Tb} {ι ι' : Ix} {H H' : Hp} (g : Grow ι H ι' H') {x : AV} {u : V} (r : RV T ι H x u) : RV T ι' H' x u := r.ext g.ext
theorem RVs.mono {T : Tb} {ι ι' : Ix} {H H' : Hp} (g : Grow ι H ι' H') {xs : List AV} {us : List V} (r : RVs T ι H xs us) : RVs T ι' H' xs us := r.ext g.ext
section
variable {T : Tb} {ι : Ix} {H : Hp}
theorem RVs.length : ∀ {xs : List AV} {us : List V}, RVs T ι H xs us → xs.length = us.length
  | _, _, .nil => rfl
  | _, _, .cons _ rs => by simp [RVs.length rs]
theorem RVs.get : ∀ {xs : List AV} {us : List V} {i : Nat} {x : AV}, RVs T ι H xs us → xs[i]? = some x → ∃ u, us[i]? = some u ∧ RV T ι H x u
  | _, _, _, _, .nil, e => by simp at e
  | _, _, 0, _, .cons r _, e => by simp at e; subst e; exact ⟨_, rfl, r⟩
  | _, _, i + 1, x, .cons _ t, e => by
    obtain ⟨u, h1, h2⟩ := RVs.get (i := i) (x := x) t (by simpa using e)
    exact ⟨u, by simpa using h1, h2⟩
theorem RVs.append : ∀ {xs ys : List AV} {us ws : List V}, RVs T ι H xs us → RVs T ι H ys ws → RVs T ι H (xs ++ ys) (us ++ ws)
  | _, _, _, _, .nil, s => s
  | _, _, _, _, .cons r t, s => .cons r (RVs.append t s)
theorem RVs.set {x : AV} {u : V} (r : RV T ι H x u) : ∀ {xs : List AV} {us : List V} (i : Nat), RVs T ι H xs us → RVs T ι H (xs.set i x) (us.set i u)
  | _, _, _, .nil => .nil
  | _, _, 0, .cons _ t => .cons r t
  | _, _, i + 1, .cons q t => .cons q (RVs.set r i t)
end
noncomputable def kA : Key → AV
  | .inl i => .int i
  | .inr x => .str x
noncomputable def OR (T : Tb) (ι : Ix) (H : Hp) : AO → HO → Prop
  | .lst xs, o => ∃ us, o = .lst us ∧ RVs T ι H xs us
  | .dct false kvs, o => ∃ kus : List (Key × V), o = .dK kus ∧ Paired (fun (p : AV × AV) (q : Key × V) => p.1 = kA q.1 ∧ RV T ι H p.2 q.2) kvs kus
  | .dct true kvs, o => ∃ kus : List (List Key × V), o = .dT none kus ∧ Paired (fun (p : AV × AV) (q : List Key × V) => p.1 = .tup (q.1.map kA) ∧ RV T ι H p.2 q.2) kvs kus
  | .dcx kvs, o => ∃ (ads : List Addr) (kus : List (List Key × V)), o = .dT (some ads) kus ∧ ads.length = kus.length ∧ Paired (fun (p : AV × AV) (q : Addr × List Key × V) => p.1 = .tup (q.2.1.map kA) ∧ RV T ι H p.1 (.ref q.1) ∧ RV T ι H p.2 q.2.2) kvs (ads.zip kus)
  | .ins c fs, o => ∃ C dx fus, T.cls c = some C ∧ o = .ins C dx fus ∧ (fus.map (·.1)).Nodup ∧ (∀ p ∈ fus, p.1 ∈ T.fields c) ∧ fs.length = (T.fields c).length ∧
      ∀ (i : Nat) (v : AV), fs[i]? = some (some v) → ∃ f u, (T.fields c)[i]? = some f ∧ fus.lookup f = some u ∧ RV T ι H v u
theorem OR.mono {T : Tb} {ι ι' : Ix} {H H' : Hp} (g : Grow ι H ι' H') {o : AO} {u : HO} (h : OR T ι H o u) : OR T ι' H' o u := by
  cases o with
  | lst xs => obtain ⟨us, e, r⟩ := h; exact ⟨us, e, r.mono g⟩
  | dct t kvs =>
    cases t with
    | false => obtain ⟨us, e, r⟩ := h; exact ⟨us, e, Paired.mapP r fun _ _ ⟨a, b⟩ => ⟨a, b.mono g⟩⟩
    | true => obtain ⟨us, e, r⟩ := h; exact ⟨us, e, Paired.mapP r fun _ _ ⟨a, b⟩ => ⟨a, b.mono g⟩⟩
  | dcx kvs => obtain ⟨ads, us, e, l, r⟩ := h; exact ⟨ads, us, e, l, Paired.mapP r fun _ _ ⟨a, b, c⟩ => ⟨a, b.mono g, c.mono g⟩⟩
  | ins c fs =>
    obtain ⟨C, dx, fus, a, b, n, w, l, r⟩ := h
    refine ⟨C, dx, fus, a, b, n, w, l, fun i v e => ?_⟩
    obtain ⟨f, u, e1, e2, q⟩ := r i v e
    exact ⟨f, u, e1, e2, q.mono g⟩
structure Sim (T : Tb) (ι : Ix) (h : AH) (H : Hp) : Prop where
  len : ι.refs.length = h.length
  nd : ι.refs.Nodup
  plive : ∀ a ∈ ι.priv, H a ≠ none
  obj : ∀ (i : Nat) (o : AO) (a : Addr), h[i]? = some o → ι.refs[i]? = some a → ∃ u, H a = some u ∧ OR T ι H o u
section
variable {T : Tb} {ι : Ix} {h : AH} {H : Hp}
theorem Sim.live (S : Sim T ι h H) : ∀ a ∈ ι.all, H a ≠ none := fun a ha z => by
  rcases List.mem_append.mp ha with ha | ha
  · obtain ⟨i, hi⟩ := List.mem_iff_getElem?.mp ha
    have hl : i < h.length := by rw [← S.len]; exact (List.getElem?_eq_some_iff.mp hi).1
    obtain ⟨u, e, _⟩ := S.obj i h[i] a (by simp [hl]) hi
    rw [z] at e; cases e
  · exact S.plive a ha z
theorem Sim.refl (S : Sim T ι h H) : Grow ι H ι H := .refl S.live
theorem Sim.fresh (S : Sim T ι h H) {p : Addr} (n : H p = none) : p ∉ ι.all := fun z => S.live p z n
theorem Sim.still (S : Sim T ι h H) {H' : Hp} (g : Grow ι H ι H') (k : ∀ a ∈ ι.refs, H' a = H a) : Sim T ι h H' :=
  ⟨S.len, S.nd, fun a ha => g.live a (List.mem_append_right _ ha), fun i o a e1 e2 => by
    obtain ⟨u, e, r⟩ := S.obj i o a e1 e2
    exact ⟨u, by rw [k a (List.mem_of_getElem? e2)]; exact e, r.mono g⟩⟩
theorem Sim.growNew (S : Sim T ι h H) {p : Addr} {o : HO} (n : H p = none) : Grow ι H ι (upd H p o) :=
  ⟨⟨[], by simp, by simp⟩, rfl, fun a u _ e => by rw [upd_ne (ne_of_none e n)]; exact e, fun a ha => by
    rw [upd_ne (show a ≠ p from fun z => S.fresh n (z ▸ ha))]; exact S.live a ha⟩
theorem Sim.new (S : Sim T ι h H) {p : Addr} {o : HO} (n : H p = none) : Sim T ι h (upd H p o) :=
  S.still (S.growNew n) fun a ha => upd_ne fun z => S.fresh n (z ▸ List.mem_append_left _ ha)
noncomputable def Ix.add (ι : Ix) (p : Addr) : Ix := ⟨ι.refs ++ [p], ι.priv⟩
theorem Sim.growAdd (S : Sim T ι h H) {p : Addr} {u : HO} (n : H p = none) : Grow ι H (ι.add p) (upd H p u) :=
  ⟨⟨[p], rfl, fun a ha => by have e : a = p := by simpa using ha
                             rw [e]; exact n⟩, rfl, (S.growNew n).keep, (S.growNew n).live⟩
theorem Sim.add (S : Sim T ι h H) {p : Addr} {u : HO} {o : AO} (n : H p = none) (r : OR T (ι.add p) (upd H p u) o u) : Sim T (ι.add p) (h ++ [o]) (upd H p u) := by
  refine ⟨by simp [Ix.add, S.len], ?_, fun a ha => (S.growNew n).live a (List.mem_append_right _ ha), fun i o' a e1 e2 => ?_⟩
  · show (ι.refs ++ [p]).Nodup
    rw [List.nodup_append]
    exact ⟨S.nd, by simp, fun a ha b hb z => by have e : b = p := by simpa using hb
                                                subst e; subst z; exact S.fresh n (List.mem_append_left _ ha)⟩
  · replace e2 : (ι.refs ++ [p])[i]? = some a := e2
    by_cases hi : i < h.length
    · rw [List.getElem?_append_left hi] at e1
      rw [List.getElem?_append_left (by rw [S.len]; exact hi)] at e2
      obtain ⟨v, e, q⟩ := S.obj i o' a e1 e2
      exact ⟨v, by rw [upd_ne (ne_of_none e n)]; exact e, q.mono (S.growAdd n)⟩
    · have e3 : i = h.length := by
        have := (List.getElem?_eq_some_iff.mp e1).1
        simp at this; omega
      subst e3
      rw [List.getElem?_append_right (Nat.le_refl _)] at e1
      rw [List.getElem?_append_right (by rw [S.len]; exact Nat.le_refl _), S.len] at e2
      simp at e1 e2
      subst e1 e2
      exact ⟨u, upd_same, r⟩
theorem Sim.addAt (S : Sim T ι h H) {p : Addr} : (ι.add p).refs[h.length]? = some p := by
  show (ι.refs ++ [p])[h.length]? = some p
  rw [← S.len]; simp
theorem Sim.growSet (S : Sim T ι h H) {i : Nat} {a : Addr} {u : HO} (e : ι.refs[i]? = some a) : Grow ι H ι (upd H a u) :=
  ⟨⟨[], by simp, by simp⟩, rfl, fun b o nb q => by rw [upd_ne (show b ≠ a from fun z => nb (by rw [z]; exact List.mem_of_getElem? e))]; exact q, fun b hb => by
    by_cases z : b = a
    · subst z; rw [upd_same]; simp
    · rw [upd_ne z]; exact S.live b hb⟩
theorem Sim.set (S : Sim T ι h H) {i : Nat} {a : Addr} {u : HO} {o : AO} (e : ι.refs[i]? = some a) (r : OR T ι (upd H a u) o u) : Sim T ι (h.set i o) (upd H a u) := by
  refine ⟨by simp [S.len], S.nd, fun b hb => (S.growSet e).live b (List.mem_append_right _ hb), fun j o' b e1 e2 => ?_⟩
  by_cases hj : j = i
  · subst hj
    rw [e] at e2; cases e2
    have hl : j < h.length := by rw [← S.len]; exact (List.getElem?_eq_some_iff.mp e).1
    rw [List.getElem?_set_self hl] at e1; cases e1
    exact ⟨u, upd_same, r⟩
  · rw [List.getElem?_set_ne (Ne.symm hj)] at e1
    obtain ⟨v, q, r'⟩ := S.obj j o' b e1 e2
    have ne : b ≠ a := fun z => hj (by
      subst z
      exact nodup_at S.nd e2 e)
    exact ⟨v, by rw [upd_ne ne]; exact q, r'.mono (S.growSet e)⟩
end
noncomputable def Ix.hide (ι : Ix) (D : Addr) : Ix := ⟨ι.refs, D :: ι.priv⟩
theorem Ix.hide_all {ι : Ix} {D a : Addr} : a ∉ (ι.hide D).all ↔ a ∉ ι.all ∧ a ≠ D := by
  unfold Ix.all Ix.hide
  simp only [List.mem_append, List.mem_cons]
  constructor
  · intro h; exact ⟨fun z => h (z.elim .inl fun z => .inr (.inr z)), fun z => h (.inr (.inl z))⟩
  · rintro ⟨h1, h2⟩ (z | z | z)
    · exact h1 (.inl z)
    · exact h2 z
    · exact h1 (.inr z)
section
variable {T : Tb} {ι : Ix} {H : Hp} {D : Addr}
theorem Ext.hide {o : HO} (hn : H D = none) : Ext ι H (ι.hide D) (upd H D o) := ⟨fun e => e, fun a u n e => by rw [upd_ne (ne_of_none e hn)]; exact e, fun a u n e => Ix.hide_all.mpr ⟨n, ne_of_none e hn⟩⟩
theorem Ext.poke {o : HO} : Ext (ι.hide D) H (ι.hide D) (upd H D o) := ⟨fun e => e, fun a u n e => by rw [upd_ne (Ix.hide_all.mp n).2]; exact e, fun a u n e => n⟩
theorem Ext.show : Ext (ι.hide D) H ι H := ⟨fun e => e, fun a u n e => e, fun a u n e => (Ix.hide_all.mp n).1⟩
theorem OR.ext {ι ι' : Ix} {H H' : Hp} (g : Ext ι H ι' H') {o : AO} {u : HO} (h : OR T ι H o u) : OR T ι' H' o u := by
  cases o with
  | lst xs => obtain ⟨us, e, r⟩ := h; exact ⟨us, e, r.ext g⟩
  | dct t kvs =>
    cases t with
    | false => obtain ⟨us, e, r⟩ := h; exact ⟨us, e, Paired.mapP r fun _ _ ⟨a, b⟩ => ⟨a, b.ext g⟩⟩
    | true => obtain ⟨us, e, r⟩ := h; exact ⟨us, e, Paired.mapP r fun _ _ ⟨a, b⟩ => ⟨a, b.ext g⟩⟩
  | dcx kvs => obtain ⟨ads, us, e, l, r⟩ := h; exact ⟨ads, us, e, l, Paired.mapP r fun _ _ ⟨a, b, c⟩ => ⟨a, b.ext g, c.ext g⟩⟩
  | ins c fs =>
    obtain ⟨C, dx, fus, a, b, n, w, l, r⟩ := h
    refine ⟨C, dx, fus, a, b, n, w, l, fun i v e => ?_⟩
    obtain ⟨f, u, e1, e2, q⟩ := r i v e
    exact ⟨f, u, e1, e2, q.ext g⟩
theorem Sim.hide {h : AH} {o : HO} (S : Sim T ι h H) (hn : H D = none) : Sim T (ι.hide D) h (upd H D o) :=
  ⟨S.len, S.nd, fun a ha => by
    rcases List.mem_cons.mp ha with rfl | ha
    · rw [upd_same]; simp
    · rw [upd_ne (show a ≠ D from fun z => S.plive a ha (z ▸ hn))]; exact S.plive a ha, fun i o' a e1 e2 => by
    obtain ⟨u, e, r⟩ := S.obj i o' a e1 e2
    exact ⟨u, by rw [upd_ne (ne_of_none e hn)]; exact e, r.ext (Ext.hide hn)⟩⟩
theorem Sim.poke {h : AH} {o : HO} (S : Sim T (ι.hide D) h H) (hr : D ∉ ι.refs) : Sim T (ι.hide D) h (upd H D o) :=
  ⟨S.len, S.nd, fun a ha => by
    by_cases z : a = D
    · subst z; rw [upd_same]; simp
    · rw [upd_ne z]; exact S.plive a ha, fun i o' a e1 e2 => by
    obtain ⟨u, e, r⟩ := S.obj i o' a e1 e2
    have ne : a ≠ D := fun z => hr (z ▸ List.mem_of_getElem? e2)
    exact ⟨u, by rw [upd_ne ne]; exact e, r.ext Ext.poke⟩⟩
theorem Sim.show {h : AH} (S : Sim T (ι.hide D) h H) : Sim T ι h H :=
  ⟨S.len, S.nd, fun a ha => S.plive a (List.mem_cons_of_mem _ ha), fun i o' a e1 e2 => by
    obtain ⟨u, e, r⟩ := S.obj i o' a e1 e2
    exact ⟨u, e, r.ext Ext.show⟩⟩
end
noncomputable def ER (T : Tb) (ι : Ix) (H : Hp) (e : En) (σ : St) : Prop := e.length = σ.length ∧ ∀ (i : Nat) (v : AV), e[i]? = some (some v) → ∃ u, σ[i]? = some (some u) ∧ RV T ι H v u
theorem ER.mono {T : Tb} {ι ι' : Ix} {H H' : Hp} {e : En} {σ : St} (r : ER T ι H e σ) (g : Grow ι H ι' H') : ER T ι' H' e σ :=
  ⟨r.1, fun i v q => let ⟨u, a, b⟩ := r.2 i v q; ⟨u, a, b.mono g⟩⟩
theorem ER.ext {T : Tb} {ι ι' : Ix} {H H' : Hp} {e : En} {σ : St} (r : ER T ι H e σ) (g : Ext ι H ι' H') : ER T ι' H' e σ :=
  ⟨r.1, fun i v q => let ⟨u, a, b⟩ := r.2 i v q; ⟨u, a, b.ext g⟩⟩
theorem ER.set {T : Tb} {ι : Ix} {H : Hp} {e : En} {σ : St} (r : ER T ι H e σ) {v : AV} {u : V} (q : RV T ι H v u) (i : Nat) : ER T ι H (e.set i (some v)) (σ.set i (some u)) := by
  refine ⟨by simp [r.1], fun j w z => ?_⟩
  by_cases hj : j = i
  · subst hj
    by_cases hl : j < e.length
    · rw [List.getElem?_set_self hl] at z; cases z
      exact ⟨u, by rw [List.getElem?_set_self (by rw [← r.1]; exact hl)], q⟩
    · rw [List.getElem?_eq_none (by simpa using hl)] at z; cases z
  · rw [List.getElem?_set_ne (Ne.symm hj)] at z ⊢
    exact r.2 j w z
noncomputable def Post {α β : Type} (T : Tb) (ι : Ix) (H : Hp) (E : XK) (R : Ix → Hp → α → β → Prop) (o : Out α) (Q : β → Hp → Prop) : Prop :=
  match o with
  | .ok v h' => ∀ ι' H' u, Grow ι H ι' H' → Sim T ι' h' H' → R ι' H' v u → Q u H'
  | .ex c h' => ∀ ι' H' C, Grow ι H ι' H' → Sim T ι' h' H' → T.exc c = some C → E (.ref C) none H'
  | .bad => False
noncomputable def PostS (T : Tb) (ι : Ix) (H : Hp) (E : St → XK) (o : OutS) (D : Ends) : Prop :=
  match o with
  | .nx e h' => ∀ ι' H' σ', Grow ι H ι' H' → Sim T ι' h' H' → ER T ι' H' e σ' → D.nx σ' H'
  | .bk e h' => ∀ ι' H' σ', Grow ι H ι' H' → Sim T ι' h' H' → ER T ι' H' e σ' → D.bk σ' H'
  | .ct e h' => ∀ ι' H' σ', Grow ι H ι' H' → Sim T ι' h' H' → ER T ι' H' e σ' → D.ct σ' H'
  | .rt v h' => ∀ ι' H' u, Grow ι H ι' H' → Sim T ι' h' H' → RV T ι' H' v u → D.rt u H'
  | .ex c e h' => ∀ ι' H' σ' C, Grow ι H ι' H' → Sim T ι' h' H' → ER T ι' H' e σ' → T.exc c = some C → E σ' (.ref C) none H'
  | .bad => False
noncomputable abbrev REq {α : Type} : Ix → Hp → α → α → Prop := fun _ _ a b => a = b
section
variable {T : Tb} {ι ι' : Ix} {h : AH} {H H' : Hp} {α β γ δ : Type} {E : XK} {R : Ix → Hp → α → β → Prop} {R' : Ix → Hp → γ → δ → Prop}
theorem Post.shift {o : Out α} {Q : β → Hp → Prop} (p : Post T ι H E R o Q) (g : Grow ι H ι' H') : Post T ι' H' E R o Q := by
  cases o with
  | ok v h' => exact fun i2 H2 u g2 => p i2 H2 u (g.trans g2)
  | ex c h' => exact fun i2 H2 C g2 => p i2 H2 C (g.trans g2)
  | bad => exact p
theorem Post.bind {o : Out α} {f : α → AH → Out γ} {Q : δ → Hp → Prop} {Q1 : β → Hp → Prop} (p : Post T ι H E R' (o.bind f) Q)
    (k : ∀ v h' ι' H' u, Grow ι H ι' H' → Sim T ι' h' H' → R ι' H' v u → Post T ι' H' E R' (f v h') Q → Q1 u H') : Post T ι H E R o Q1 := by
  cases o with
  | ok v h' => exact fun i2 H2 u g S r => k v h' i2 H2 u g S r (Post.shift p g)
  | ex c h' => exact p
  | bad => exact p
theorem Post.now {v : α} {u : β} {Q : β → Hp → Prop} (p : Post T ι H E R (.ok v h) Q) (S : Sim T ι h H) (r : R ι H v u) : Q u H := p ι H u S.refl S r
theorem PostS.shift {E : St → XK} {o : OutS} {D : Ends} (p : PostS T ι H E o D) (g : Grow ι H ι' H') : PostS T ι' H' E o D := by
  cases o with
  | nx e h' => exact fun i2 H2 u g2 => p i2 H2 u (g.trans g2)
  | bk e h' => exact fun i2 H2 u g2 => p i2 H2 u (g.trans g2)
  | ct e h' => exact fun i2 H2 u g2 => p i2 H2 u (g.trans g2)
  | rt v h' => exact fun i2 H2 u g2 => p i2 H2 u (g.trans g2)
  | ex c e h' => exact fun i2 H2 u C g2 => p i2 H2 u C (g.trans g2)
  | bad => exact p
theorem PostS.go {E : St → XK} {o : Out α} {en : En} {σ : St} {f : α → AH → OutS} {D : Ends} {Q1 : β → Hp → Prop} (p : PostS T ι H E (o.go en f) D) (er : ER T ι H en σ)
    (k : ∀ v h' ι' H' u, Grow ι H ι' H' → Sim T ι' h' H' → R ι' H' v u → PostS T ι' H' E (f v h') D → Q1 u H') : Post T ι H (E σ) R o Q1 := by
  cases o with
  | ok v h' => exact fun i2 H2 u g S r => k v h' i2 H2 u g S r (PostS.shift p g)
  | ex c h' => exact fun i2 H2 C g S e => p i2 H2 σ C g S (er.mono g) e
  | bad => exact p
end
noncomputable def tE (T : Tb) (E : St → XK) (a : SE) : TE := fun σ H Q => ∃ ι h en, Sim T ι h H ∧ ER T ι H en σ ∧ Post T ι H (E σ) (RV T) (a en h) Q
noncomputable def tT (T : Tb) (E : St → XK) (a : SB) : TT := fun σ H Q => ∃ ι h en, Sim T ι h H ∧ ER T ι H en σ ∧ Post T ι H (E σ) REq (a en h) Q
noncomputable def tA (T : Tb) (E : St → XK) (a : SL) : TA := fun σ H Q => ∃ ι h en, Sim T ι h H ∧ ER T ι H en σ ∧ Post T ι H (E σ) (RVs T) (a en h) Q
noncomputable def tS (T : Tb) (E : St → XK) (b : SS) : TS := fun D σ H => ∃ ι h en, Sim T ι h H ∧ ER T ι H en σ ∧ PostS T ι H E (b en h) D
noncomputable abbrev PEA (T : Tb) (E : St → XK) (X : Cx) (e : Expr) (a : SE) : Prop := PE X e (tE T E a)
noncomputable abbrev PTA (T : Tb) (E : St → XK) (X : Cx) (e : Expr) (a : SB) : Prop := PT X e (tT T E a)
noncomputable abbrev PAA (T : Tb) (E : St → XK) (X : Cx) (es : List Expr) (a : SL) : Prop := PA X es (tA T E a)
noncomputable abbrev PSA (T : Tb) (E : St → XK) (X : Cx) (st : Stmt) (b : SS) : Prop := PS X st (tS T E b)
noncomputable abbrev PSsA (T : Tb) (E : St → XK) (X : Cx) (sts : List Stmt) (b : SS) : Prop := PSs X sts (tS T E b)
theorem PE_imp {X : Cx} {e : Expr} {t t' : TE} (h : PE X e t) (k : ∀ σ H Q, t' σ H Q → t σ H Q) : PE X e t' := fun pins s σ H Q I q => h pins s σ H Q I (k σ H Q q)
theorem PT_imp {X : Cx} {e : Expr} {t t' : TT} (h : PT X e t) (k : ∀ σ H Q, t' σ H Q → t σ H Q) : PT X e t' := fun pins s σ H Q I q => h pins s σ H Q I (k σ H Q q)
theorem PA_imp {X : Cx} {e : List Expr} {t t' : TA} (h : PA X e t) (k : ∀ σ H Q, t' σ H Q → t σ H Q) : PA X e t' := fun p pins s σ H Q I q => h p pins s σ H Q I (k σ H Q q)
theorem PS_imp {X : Cx} {e : Stmt} {t t' : TS} (h : PS X e t) (k : ∀ D σ H, t' D σ H → t D σ H) : PS X e t' := fun pins s σ H D I q => h pins s σ H D I (k D σ H q)
theorem PSs_imp {X : Cx} {e : List Stmt} {t t' : TS} (h : PSs X e t) (k : ∀ D σ H, t' D σ H → t D σ H) : PSs X e t' := fun pins s σ H D I q => h pins s σ H D I (k D σ H q)
theorem PS_nox {X : Cx} {st : Stmt} {t : TS} (h : PS X.nox st t) : PS X st t := fun pins s σ H D I hw => by
  refine wpAny_mono (h pins s σ H D (I.wish _) hw) (fun f s' q => SP.unwish q) fun _ _ z => z.elim
end Sm

namespace Sm
open PySem L2
noncomputable instance : DecidableEq AV := fun _ _ => Classical.propDecidable _
@[simp] noncomputable def sVar (i : Nat) : SE := fun en h => match en[i]? with
  | some (some v) => .ok v h
  | _ => .bad
@[simp] noncomputable def sLit (v : AV) : SE := fun _ h => .ok v h
noncomputable abbrev F1 := AV → AH → Out AV
noncomputable abbrev F2 := AV → AV → AH → Out AV
@[simp] noncomputable def sOp1 (f : F1) (a : SE) : SE := fun en h => (a en h).bind f
@[simp] noncomputable def sOp2 (f : F2) (a b : SE) : SE := fun en h => (a en h).bind fun x h1 => (b en h1).bind fun y h2 => f x y h2
@[simp] noncomputable def sNil : SL := fun _ h => .ok [] h
@[simp] noncomputable def sCons (a : SE) (r : SL) : SL := fun en h => (a en h).bind fun x h1 => (r en h1).bind fun xs h2 => .ok (x :: xs) h2
@[simp] noncomputable def sAppl (F : Fn) (as : SL) : SE := fun en h => (as en h).bind F
@[simp] noncomputable def sTup (as : SL) : SE := fun en h => (as en h).bind fun xs h1 => if xs.length ≤ 1000 then .ok (.tup xs) h1 else .bad
@[simp] noncomputable def sLstM (as : SL) : SE := fun en h => (as en h).bind fun xs h1 => if xs.length ≤ 1000 then .ok (.ref h1.length) (h1 ++ [.lst xs]) else .bad
@[simp] noncomputable def sDict (t : Bool) : SE := fun _ h => .ok (.ref h.length) (h ++ [.dct t []])
@[simp] noncomputable def seqOf (v : AV) (h : AH) : Option (List AV) := match v with
  | .tup xs => some xs
  | .fl xs => some xs
  | .ref n => match h[n]? with
    | some (.lst xs) => some xs
    | _ => none
  | _ => none
@[simp] noncomputable def lstOf (v : AV) (h : AH) : Option (List AV) := match v with
  | .fl xs => some xs
  | .ref n => match h[n]? with
    | some (.lst xs) => some xs
    | _ => none
  | _ => none
@[simp] noncomputable def fAdd : F2 := fun x y h => match x, y with
  | .int i, .int j => .ok (.int (i + j)) h
  | .str i, .str j => if i.length + j.length ≤ sizeLine then .ok (.str (i ++ j)) h else .bad
  | .tup xs, .tup ys => if xs ≠ [] ∧ xs.length + ys.length ≤ sizeLine then .ok (.tup (xs ++ ys)) h else .bad
  | x, y => match lstOf x h, lstOf y h with
    | some xs, some ys => if xs.length + ys.length ≤ sizeLine then .ok (.fl (xs ++ ys)) h else .bad
    | _, _ => .bad
@[simp] noncomputable def fSub : F2 := fun x y h => match x, y with
  | .int i, .int j => .ok (.int (i - j)) h
  | _, _ => .bad
@[simp] noncomputable def fMul : F2 := fun x y h => match x, y with
  | .int i, .int j => if (i.natAbs < 2 ^ 64 ∨ j.natAbs < 2 ^ 64) ∨ (i.natAbs < 2 ^ 4000 ∧ j.natAbs < 2 ^ 4000) then .ok (.int (i * j)) h else .bad
  | _, _ => .bad
@[simp] noncomputable def fDiv : F2 := fun x y h => match x, y with
  | .int i, .int j => if 0 < j ∧ j.natAbs < 2 ^ 200 then .ok (.int (i / j)) h else .bad
  | _, _ => .bad
@[simp] noncomputable def fMod : F2 := fun x y h => match x, y with
  | .int i, .int j => if 0 < j then .ok (.int (i % j)) h else .bad
  | _, _ => .bad
@[simp] noncomputable def fNeg : F1 := fun x h => match x with
  | .int i => .ok (.int (-i)) h
  | _ => .bad
noncomputable def toDs (f : AV → Option PyData) : List AV → Option (List PyData)
  | [] => some []
  | x :: xs => match f x, toDs f xs with
    | some d, some ds => some (d :: ds)
    | _, _ => none
noncomputable def toD : Nat → AH → AV → Option PyData
  | 0, _, v => match v with
    | .non => some .none
    | .bl b => some (.bool b)
    | .int i => some (.int i)
    | .str x => some (.str x)
    | _ => none
  | n + 1, h, v => match v with
    | .non => some .none
    | .bl b => some (.bool b)
    | .int i => some (.int i)
    | .str x => some (.str x)
    | .tup xs => (toDs (toD n h) xs).map .tuple
    | .fl xs => (toDs (toD n h) xs).map .list
    | .ref k => match h[k]? with
      | some (.lst xs) => (toDs (toD n h) xs).map .list
      | _ => none
    | .exc _ => none
@[simp] noncomputable def eqA (x y : AV) (h : AH) : Option Bool := match x, y with
  | .int i, .int j => some (decide (i = j))
  | .str i, .str j => some (decide (i = j))
  | .bl i, .bl j => some (decide (i = j))
  | .non, .non => some true
  | x, y => match toD 8 h x, toD 8 h y with
    | some d, some e => some (PyData.eqv d e)
    | _, _ => none
@[simp] noncomputable def fEq : F2 := fun x y h => match eqA x y h with
  | some b => .ok (.bl b) h
  | none => .bad
@[simp] noncomputable def fNe : F2 := fun x y h => match eqA x y h with
  | some b => .ok (.bl (!b)) h
  | none => .bad
@[simp] noncomputable def fLt : F2 := fun x y h => match x, y with
  | .int i, .int j => .ok (.bl (decide (i < j))) h
  | .str i, .str j => .ok (.bl (decide (i.cps.toList < j.cps.toList))) h
  | _, _ => .bad
@[simp] noncomputable def fLe : F2 := fun x y h => match x, y with
  | .int i, .int j => .ok (.bl (decide (i ≤ j))) h
  | .str i, .str j => .ok (.bl (!decide (j.cps.toList < i.cps.toList))) h
  | _, _ => .bad
@[simp] noncomputable def fGt : F2 := fun x y h => match x, y with
  | .int i, .int j => .ok (.bl (decide (j < i))) h
  | _, _ => .bad
@[simp] noncomputable def truA (v : AV) (h : AH) : Option Bool := match v with
  | .non => some false
  | .bl b => some b
  | .int i => some (i != 0)
  | .str y => some ((y.length : Int) != 0)
  | .tup xs => some (!xs.isEmpty)
  | .fl xs => some (!xs.isEmpty)
  | .ref n => match h[n]? with
    | some (.lst xs) => some (!xs.isEmpty)
    | some (.dct false kvs) => some (!kvs.isEmpty)
    | _ => none
  | _ => none
@[simp] noncomputable def sTest (a : SE) : SB := fun en h => (a en h).bind fun v h1 => match truA v h1 with
  | some b => .ok b h1
  | none => .bad
@[simp] noncomputable def sBool (a : SE) : SB := fun en h => (a en h).bind fun v h1 => match v with
  | .bl b => .ok b h1
  | _ => .bad
@[simp] noncomputable def sNot (a : SB) : SB := fun en h => (a en h).bind fun x h1 => .ok (!x) h1
@[simp] noncomputable def sAndV (a b : SE) : SE := fun en h => (a en h).bind fun v h1 => match v with
  | .bl k => if k = true then b en h1 else .ok (.bl false) h1
  | _ => .bad
@[simp] noncomputable def sOrV (a b : SE) : SE := fun en h => (a en h).bind fun v h1 => match v with
  | .bl k => if k = true then .ok (.bl true) h1 else b en h1
  | _ => .bad
@[simp] noncomputable def sNotV (a : SE) : SE := fun en h => (a en h).bind fun v h1 => match v with
  | .bl b => .ok (.bl (!b)) h1
  | _ => .bad
@[simp] noncomputable def sIfE (c : SB) (a b : SE) : SE := fun en h => (c en h).bind fun x h1 => if x = true then a en h1 else b en h1
@[simp] noncomputable def sChain (f f' : F2) (a b c : SE) : SE := fun en h => (a en h).bind fun x h1 => (b en h1).bind fun y h2 => (f x y h2).bind fun z h3 => match z with
  | .bl k => if k = true then (c en h3).bind fun w h4 => f' y w h4 else .ok (.bl false) h3
  | _ => .bad
@[simp] noncomputable def sNext : SS := fun en h => .nx en h
@[simp] noncomputable def sSeq (a b : SS) : SS := fun en h => match a en h with
  | .nx e h' => b e h'
  | o => o
@[simp] noncomputable def sExpr (a : SE) : SS := fun en h => (a en h).go en fun _ h' => .nx en h'
@[simp] noncomputable def sRet (a : SE) : SS := fun en h => (a en h).go en fun v h' => .rt v h'
@[simp] noncomputable def sIf (c : SB) (a b : SS) : SS := fun en h => (c en h).go en fun x h' => if x = true then a en h' else b en h'
@[simp] noncomputable def sSet (i : Nat) (a : SE) : SS := fun en h => (a en h).go en fun v h' => .nx (en.set i (some v)) h'
noncomputable def sWhile (c : SB) (b : SS) : Nat → SS
  | 0 => fun _ _ => .bad
  | n + 1 => fun en h => match c en h with
    | .ok true h1 => (match b en h1 with
      | .nx e2 h2 => sWhile c b n e2 h2
      | .ct e2 h2 => sWhile c b n e2 h2
      | .bk e2 h2 => .nx e2 h2
      | .rt v h2 => .rt v h2
      | _ => .bad)
    | .ok false h1 => .nx en h1
    | _ => .bad
noncomputable abbrev SI := En → AH → Out (List AV × Option Nat)
@[simp] noncomputable def liveB (w : Option Nat) (xs : List AV) (h : AH) : Bool := match w with
  | none => true
  | some n => match h[n]? with
    | some (.lst ys) => decide (ys = xs)
    | _ => false
inductive Tg where
  | nm (i : Nat)
  | tup (is : List Nat)
  | nst (i : Nat) (is : List Nat)
@[simp] noncomputable def setAll : List Nat → List AV → En → Option En
  | [], [], en => some en
  | i :: is, x :: xs, en => setAll is xs (en.set i (some x))
  | _, _, _ => none
@[simp] noncomputable def setT (t : Tg) (v : AV) (en : En) : Option En := match t, v with
  | .nm i, v => some (en.set i (some v))
  | .tup is, .tup xs => setAll is xs en
  | .nst i is, .tup [y, .tup xs] => setAll is xs (en.set i (some y))
  | _, _ => none
noncomputable def sForGo (w : Option Nat) (all : List AV) (t : Tg) (b : SS) : List AV → SS
  | [] => fun en h => if liveB w all h = true then .nx en h else .bad
  | x :: xs => fun en h => if liveB w all h = true then
      (match setT t x en with
      | some e1 => (match b e1 h with
        | .nx e2 h2 => sForGo w all t b xs e2 h2
        | .ct e2 h2 => sForGo w all t b xs e2 h2
        | .bk e2 h2 => .nx e2 h2
        | .rt v h2 => .rt v h2
        | _ => .bad)
      | none => .bad) else .bad
@[simp] noncomputable def sFor (it : SI) (t : Tg) (b : SS) : SS := fun en h => match it en h with
  | .ok (xs, w) h1 => sForGo w xs t b xs en h1
  | _ => .bad
@[simp] noncomputable def iVal (a : SE) : SI := fun en h => (a en h).bind fun v h1 => match v with
  | .fl xs => .ok (xs, none) h1
  | .tup xs => .ok (xs, none) h1
  | .str z => .ok (z.cps.toList.map (fun c => .str ⟨#[c]⟩), none) h1
  | .ref n => match h1[n]? with
    | some (.lst xs) => .ok (xs, some n) h1
    | _ => .bad
  | _ => .bad
noncomputable def rangeA (lo : Int) : Nat → List AV
  | 0 => []
  | n + 1 => .int lo :: rangeA (lo + 1) n
@[simp] noncomputable def iRange1 (a : SE) : SI := fun en h => (a en h).bind fun v h1 => match v with
  | .int j => if j.natAbs < 2 ^ 62 then .ok (rangeA 0 j.toNat, none) h1 else .bad
  | _ => .bad
@[simp] noncomputable def iRange2 (a b : SE) : SI := fun en h => (a en h).bind fun v h1 => (b en h1).bind fun w h2 => match v, w with
  | .int i, .int j => if i.natAbs < 2 ^ 62 ∧ j.natAbs < 2 ^ 62 then .ok (rangeA i (j - i).toNat, none) h2 else .bad
  | _, _ => .bad
noncomputable def numbered (k : Nat) : List AV → List AV
  | [] => []
  | x :: xs => .tup [.int k, x] :: numbered (k + 1) xs
@[simp] noncomputable def iEnum (a : SE) : SI := fun en h => (a en h).bind fun v h1 => match v with
  | .fl xs => .ok (numbered 0 xs, none) h1
  | _ => .bad
noncomputable def sCompGo (js : List Nat) (en : En) (w : Option Nat) (all : List AV) (c : SB) (e : SE) : List AV → List AV → AH → Out (List AV)
  | [], ys, h => if liveB w all h = true then .ok ys h else .bad
  | x :: xs, ys, h => if liveB w all h = true ∧ ys.length < sizeLine then
      (match c (some x :: js.map fun j => (en[j]?).join) h with
      | .ok true h1 => (match e (some x :: js.map fun j => (en[j]?).join) h1 with
        | .ok v h2 => sCompGo js en w all c e xs (ys ++ [v]) h2
        | _ => .bad)
      | .ok false h1 => sCompGo js en w all c e xs ys h1
      | _ => .bad) else .bad
@[simp] noncomputable def sYes : SB := fun _ h => .ok true h
@[simp] noncomputable def sComp (js : List Nat) (it : SI) (c : SB) (e : SE) : SE := fun en h => match it en h with
  | .ok (xs, w) h1 => (match sCompGo js en w xs c e xs [] h1 with
    | .ok ys h2 => .ok (.fl ys) h2
    | _ => .bad)
  | _ => .bad
@[simp] noncomputable def mkFn (n m : Nat) (b : SS) : Fn := fun args h =>
  if args.length = n then
    match b (args.map some ++ List.replicate (m - n) none) h with
    | .nx _ h' => .ok .non h'
    | .rt v h' => .ok v h'
    | .ex c _ h' => .ex c h'
    | _ => .bad
  else .bad
@[simp] noncomputable def sMeth (c : Nat) (F : Fn) (o : SE) (as : SL) : SE := fun en h => (o en h).bind fun x h1 => match x with
  | .ref n => match h1[n]? with
    | some (.ins c' _) => if c' = c then (as en h1).bind fun xs h2 => F (x :: xs) h2 else .bad
    | _ => .bad
  | _ => .bad
@[simp] noncomputable def sMake (c k : Nat) (F : Fn) (as : SL) : SE := fun en h => (as en h).bind fun xs h1 => match F (.ref h1.length :: xs) (h1 ++ [.ins c (List.replicate k none)]) with
  | .ok .non h2 => .ok (.ref h1.length) h2
  | .ex c h2 => .ex c h2
  | _ => .bad
@[simp] noncomputable def sFld (c i : Nat) (o : SE) : SE := fun en h => (o en h).bind fun x h1 => match x with
  | .ref n => match h1[n]? with
    | some (.ins c' fs) => if c' = c then (match fs[i]? with | some (some v) => .ok v h1 | _ => .bad) else .bad
    | _ => .bad
  | _ => .bad
@[simp] noncomputable def sSetFld (c i : Nat) (o v : SE) : SS := fun en h => (v en h).go en fun y h1 => (o en h1).go en fun x h2 => match x with
  | .ref n => match h2[n]? with
    | some (.ins c' fs) => if c' = c then .nx en (h2.set n (.ins c (fs.set i (some y)))) else .bad
    | _ => .bad
  | _ => .bad
@[simp] noncomputable def sRaise (c : Nat) (as : SL) : SS := fun en h => (as en h).go en fun xs h1 => if xs.length ≤ 1000 then .ex c en h1 else .bad
@[simp] noncomputable def keyOf? (v : AV) : Option Key := match v with
  | .int i => some (.inl i)
  | .str x => some (.inr x)
  | _ => none
@[simp] noncomputable def keysOf? : List AV → Option (List Key)
  | [] => some []
  | v :: r => match keyOf? v, keysOf? r with
    | some k, some ks => some (k :: ks)
    | _, _ => none
@[simp] noncomputable def isKey (t : Bool) (v : AV) : Bool := match t, v with
  | false, v => (keyOf? v).isSome
  | true, .tup xs => (keysOf? xs).isSome
  | true, _ => false
noncomputable def valA (kvs : List (AV × AV)) (k : AV) : Option AV := (kvs.find? fun p => decide (p.1 = k)).map (·.2)
noncomputable def putA (kvs : List (AV × AV)) (k v : AV) : List (AV × AV) :=
  if kvs.any (fun p => decide (p.1 = k)) then kvs.map fun p => if p.1 = k then (p.1, v) else p else kvs ++ [(k, v)]
@[simp] noncomputable def fIx : F2 := fun x y h => match x, y with
  | .str z, .int i => match atI z.cps.toList i with
    | some c => .ok (.str ⟨#[c]⟩) h
    | none => .bad
  | .tup xs, .int i => match atI xs i with
    | some v => .ok v h
    | none => .bad
  | .fl xs, .int i => match atI xs i with
    | some v => .ok v h
    | none => .bad
  | .ref n, y => match h[n]? with
    | some (.lst xs) => match y with
      | .int i => match atI xs i with
        | some v => .ok v h
        | none => .bad
      | _ => .bad
    | some (.dct t kvs) => if isKey t y then (match valA kvs y with | some v => .ok v h | none => .bad) else .bad
    | _ => .bad
  | _, _ => .bad
@[simp] noncomputable def sSetIx (o i v : SE) : SS := fun en h => (v en h).go en fun z h1 => (o en h1).go en fun x h2 => (i en h2).go en fun y h3 => match x with
  | .ref n => match h3[n]? with
    | some (.lst xs) => match y with
      | .int k => match ixN xs.length k with
        | some j => .nx en (h3.set n (.lst (xs.set j z)))
        | none => .bad
      | _ => .bad
    | some (.dct t kvs) => if isKey t y = true ∧ kvs.length < sizeLine then .nx en (h3.set n (.dct t (putA kvs y z))) else .bad
    | _ => .bad
  | _ => .bad
@[simp] noncomputable def inA (x y : AV) (h : AH) : Option Bool := match x, y with
  | .str i, .str j => some (!(Builtin.Str.occurrences j i 0 j.length 1).isEmpty)
  | x, .ref n => match h[n]? with
    | some (.dct t kvs) => if isKey t x then some (valA kvs x).isSome else none
    | some (.lst xs) => match toD 8 h x, toDs (toD 8 h) xs with
      | some d, some ds => some (ds.any fun e => PyData.eqv e d)
      | _, _ => none
    | _ => none
  | x, .fl xs => match toD 8 h x, toDs (toD 8 h) xs with
    | some d, some ds => some (ds.any fun e => PyData.eqv e d)
    | _, _ => none
  | x, .tup xs => match toD 8 h x, toDs (toD 8 h) xs with
    | some d, some ds => some (ds.any fun e => PyData.eqv e d)
    | _, _ => none
  | _, _ => none
@[simp] noncomputable def fNotIn : F2 := fun x y h => match inA x y h with
  | some b => .ok (.bl (!b)) h
  | none => .bad
@[simp] noncomputable def fLen : Fn := fun args h => match args with
  | [.str x] => .ok (.int x.length) h
  | [.tup xs] => .ok (.int xs.length) h
  | [.fl xs] => .ok (.int xs.length) h
  | [.ref n] => match h[n]? with
    | some (.lst xs) => .ok (.int xs.length) h
    | some (.dct false kvs) => .ok (.int kvs.length) h
    | _ => .bad
  | _ => .bad
@[simp] noncomputable def fAbs : Fn := fun args h => match args with
  | [.int i] => .ok (.int (if i < 0 then -i else i)) h
  | _ => .bad
@[simp] noncomputable def fMax2 : Fn := fun args h => match args with
  | [.int i, .int j] => .ok (.int (if j > i then j else i)) h
  | _ => .bad
@[simp] noncomputable def fMin2 : Fn := fun args h => match args with
  | [.int i, .int j] => .ok (.int (if j < i then j else i)) h
  | _ => .bad
@[simp] noncomputable def boolsOf : List AV → Option (List Bool)
  | [] => some []
  | .bl b :: r => (boolsOf r).map (b :: ·)
  | _ :: _ => none
@[simp] noncomputable def fAll : Fn := fun args h => match args with
  | [.fl xs] => match boolsOf xs with
    | some bs => .ok (.bl (bs.all id)) h
    | none => .bad
  | _ => .bad
@[simp] noncomputable def tyN (v : AV) (h : AH) : Option String := match v with
  | .non => some "NoneType"
  | .bl _ => some "bool"
  | .int _ => some "int"
  | .str _ => some "str"
  | .tup _ => some "tuple"
  | .fl _ => some "list"
  | .ref n => match h[n]? with
    | some (.lst _) => some "list"
    | some (.dct _ _) => some "dict"
    | _ => none
  | .exc _ => none
@[simp] noncomputable def sIsB (t : String) (a : SE) : SE := fun en h => (a en h).bind fun v h1 => match tyN v h1 with
  | some n => .ok (.bl (n == t || (t == "int" && n == "bool"))) h1
  | none => .bad
noncomputable abbrev FM := AV → List AV → AH → Out AV
@[simp] noncomputable def isLst (v : AV) (h : AH) : Bool := (lstOf v h).isSome
@[simp] noncomputable def isStr (v : AV) (_ : AH) : Bool := match v with
  | .str _ => true
  | _ => false
@[simp] noncomputable def sBM (chk : AV → AH → Bool) (f : FM) (o : SE) (as : SL) : SE := fun en h => (o en h).bind fun x h1 => if chk x h1 = true then (as en h1).bind fun xs h2 => f x xs h2 else .bad
@[simp] noncomputable def mAppend : FM := fun x vs h => match x, vs with
  | .ref n, [y] => match h[n]? with
    | some (.lst xs) => if xs.length < sizeLine then .ok .non (h.set n (.lst (xs ++ [y]))) else .bad
    | _ => .bad
  | _, _ => .bad
@[simp] noncomputable def mCountS : FM := fun x vs h => match x, vs with
  | .str z, [.str y] => .ok (.int ((Builtin.Str.occurrences z y 0 z.length (z.length + 1)).length : Nat)) h
  | _, _ => .bad
end Sm

namespace Sm
open PySem L2
structure CA (T : Tb) (E : St → XK) (X : Cx) : Prop where
  hK : X.K = T.K
  pass : PassesS (CXE X.prog X.w) X E
noncomputable abbrev EN : St → XK := fun _ => E0
theorem CA.nox {T : Tb} {E : St → XK} {X : Cx} (c : CA T E X) : CA T EN X.nox := ⟨c.hK, fun _ _ _ _ _ _ _ h => by
  obtain ⟨_, _, _, _, _, _, _, _, _, _, _, _, _, _, q⟩ := h
  exact q.elim⟩
theorem CA.never {T : Tb} {X : Cx} (hK : X.K = T.K) : CA T EN X := ⟨hK, fun _ _ _ _ _ _ _ h => by
  obtain ⟨_, _, _, _, _, _, _, _, _, _, _, _, _, _, q⟩ := h
  exact q.elim⟩
section
variable {T : Tb} {ι : Ix} {h : AH} {H : Hp}
theorem lst_rd {x : AV} {u : V} {xs : List AV} (S : Sim T ι h H) (r : RV T ι H x u) (e : lstOf x h = some xs) : ∃ a us, u = .ref a ∧ SqL T.K H a us ∧ RVs T ι H xs us := by
  unfold lstOf at e
  cases r with
  | fl n q r => cases e; exact ⟨_, _, rfl, .inl q, r⟩
  | kfl q r => cases e; exact ⟨_, _, rfl, .inr q, r⟩
  | @ref k a q =>
    dsimp only at e
    split at e
    · rename_i ys hk
      cases e
      obtain ⟨u, e1, us, rfl, r⟩ := S.obj k _ a hk q
      exact ⟨a, us, rfl, .inl (.inl e1), r⟩
    · cases e
  | _ => cases e
theorem tup_rd {u : V} {xs : List AV} (r : RV T ι H (.tup xs) u) : ∃ a us, u = .ref a ∧ SqT T.K H a us ∧ RVs T ι H xs us := by
  cases r with
  | tup n q r => exact ⟨_, _, rfl, .of q, r⟩
theorem str_rd {u : V} {x : Str} (r : RV T ι H (.str x) u) : u = .str x ∧ x.length ≤ sizeLine ∧ x.cps.all (· < 0x110000) = true := by
  cases r with
  | str n o => exact ⟨rfl, n, o⟩
theorem int_rd {u : V} {i : Int} (r : RV T ι H (.int i) u) : u = .int i := by cases r; rfl
theorem bl_rd {u : V} {i : Bool} (r : RV T ι H (.bl i) u) : u = .bl i := by cases r; rfl
theorem non_rd {u : V} (r : RV T ι H .non u) : u = .non := by cases r; rfl
theorem new_fl {us : List V} {xs : List AV} {p : Addr} {E : XK} {Q : VK} (S : Sim T ι h H) (r : RVs T ι H xs us) (n : H p = none) (q : Post T ι H E (RV T) (.ok (.fl xs) h) Q) : Q (.ref p) (upd H p (.lst us)) :=
  q ι _ _ (S.growNew n) (S.new n) (.fl (S.fresh n) (.inl upd_same) (r.mono (S.growNew n)))
theorem new_tup {us : List V} {xs : List AV} {p : Addr} {E : XK} {Q : VK} (S : Sim T ι h H) (r : RVs T ι H xs us) (n : H p = none) (q : Post T ι H E (RV T) (.ok (.tup xs) h) Q) : Q (.ref p) (upd H p (.tup us)) :=
  q ι _ _ (S.growNew n) (S.new n) (.tup (S.fresh n) upd_same (r.mono (S.growNew n)))
theorem new_lst {us : List V} {xs : List AV} {p : Addr} {E : XK} {Q : VK} (S : Sim T ι h H) (r : RVs T ι H xs us) (n : H p = none) (q : Post T ι H E (RV T) (.ok (.ref h.length) (h ++ [.lst xs])) Q) : Q (.ref p) (upd H p (.lst us)) :=
  q _ _ _ (S.growAdd n) (S.add n ⟨us, rfl, r.mono (S.growAdd n)⟩) (.ref S.addAt)
end
section
variable {T : Tb} {E : St → XK} {X : Cx} {pos : Pos}
theorem r_var (i : Nat) {x : Str} {p : Pos} (hN : X.N[i]? = some x := by rfl) (hv : Vis X.env.scope x := by first | exact Or.inl rfl | exact Or.inr (Or.inl rfl) | exact Or.inr (Or.inr rfl)) (hd : (x == ("__debug__" : Str)) = false := by decide)
    (hcd : (x == ("__classdict__" : Str)) = false := by decide) : PEA T E X (.Name x p) (sVar i) :=
  PE_imp (pv i hN hv hd hcd) fun σ H Q ⟨ι, h, en, S, er, q⟩ => by
    unfold sVar at q
    split at q
    · rename_i v hv
      obtain ⟨u, e, r⟩ := er.2 i v hv
      exact ⟨u, e, q.now S r⟩
    · exact q.elim
theorem r_int {i j p} : PEA T E X (.Constant (.int i) j p) (sLit (.int i)) := PE_imp pe_int fun σ H Q ⟨ι, h, en, S, er, q⟩ => q.now S (.int i)
theorem r_bl {i j p} : PEA T E X (.Constant (.bool i) j p) (sLit (.bl i)) := PE_imp pe_bl fun σ H Q ⟨ι, h, en, S, er, q⟩ => q.now S (.bl i)
theorem r_str {x j p} (n : x.length ≤ sizeLine := by decide +kernel) (o : x.cps.all (· < 0x110000) = true := by decide +kernel) : PEA T E X (.Constant (.str x) j p) (sLit (.str x)) := PE_imp pe_str fun σ H Q ⟨ι, h, en, S, er, q⟩ => q.now S (.str n o)
theorem r_globI {x : Str} {i : Int} {t : Tok} {p : Pos} (hg : Gl X x) (hm : X.mg x = some (.int i t)) (hd : (x == ("__debug__" : Str)) = false := by decide) : PEA T E X (.Name x p) (sLit (.int i)) :=
  PE_imp (pe_glob (v := .int i) hg hm ⟨t, rfl⟩ hd) fun σ H Q ⟨ι, h, en, S, er, q⟩ => q.now S (.int i)
theorem r_globS {x z : Str} {t : Tok} {p : Pos} (hg : Gl X x) (hm : X.mg x = some (.str z t)) (n : z.length ≤ sizeLine := by decide +kernel) (o : z.cps.all (· < 0x110000) = true := by decide +kernel) (hd : (x == ("__debug__" : Str)) = false := by decide) : PEA T E X (.Name x p) (sLit (.str z)) :=
  PE_imp (pe_glob (v := .str z) hg hm ⟨t, rfl⟩ hd) fun σ H Q ⟨ι, h, en, S, er, q⟩ => q.now S (.str n o)
noncomputable def OpS (T : Tb) (f : F2) (r : R2) : Prop := ∀ (ι : Ix) (h : AH) (H : Hp) (x y : AV) (u w : V) (E : XK) (Q : VK), Sim T ι h H → RV T ι H x u → RV T ι H y w → Post T ι H E (RV T) (f x y h) Q → r u w H Q
noncomputable def Op (T : Tb) (X : Cx) (g : Value → Value → Sem Value) (f : F2) : Prop := ∃ r, OpR X g r ∧ OpS T f r
variable {a b c : Expr} {sa sb sc : SE}
theorem two {f : F2} {r : R2} (hs : OpS T f r) {σ : St} {H : Hp} {Q : VK} (q : tE T E (sOp2 f sa sb) σ H Q) : tOp r (tE T E sa) (tE T E sb) σ H Q := by
  obtain ⟨ι, h, en, S, er, q⟩ := q
  refine ⟨ι, h, en, S, er, q.bind fun x h1 ι1 H1 u g1 S1 r1 q1 => ⟨ι1, h1, en, S1, er.mono g1, q1.bind fun y h2 ι2 H2 w g2 S2 r2 q2 => ?_⟩⟩
  exact hs ι2 h2 H2 x y u w _ Q S2 (r1.mono g2) r2 q2
theorem r_bin {op : Operator} {f : F2} (ho : Op T X (binaryOp op) f) (ha : PEA T E X a sa) (hb : PEA T E X b sb) : PEA T E X (.BinOp a op b pos) (sOp2 f sa sb) := by
  obtain ⟨r, h1, h2⟩ := ho
  exact PE_imp (pe_op h1 ha hb) fun σ H Q q => two h2 q
theorem str_app {i j : Str} (hi : i.cps.all (· < 0x110000) = true) (hj : j.cps.all (· < 0x110000) = true) : (i ++ j).cps.all (· < 0x110000) = true := by
  show (i.cps ++ j.cps).all _ = true
  rw [Array.all_append, hi, hj]; rfl
theorem str_app_len (i j : Str) : (i ++ j).length = i.length + j.length := by
  show (i.cps ++ j.cps).size = _
  rw [Array.size_append]; rfl
theorem o_add (hK : X.K = T.K) : Op T X (binaryOp .Add) fAdd := by
  refine ⟨_, op_add.or (op_add_str.or (op_catT.or op_catS)), fun ι h H x y u w E Q S rx ry p => ?_⟩
  unfold fAdd at p
  split at p
  · rw [int_rd rx, int_rd ry]
    exact .inl ⟨_, _, rfl, rfl, p.now S (.int _)⟩
  · split at p
    · rename_i hz
      obtain ⟨rfl, _, o1⟩ := str_rd rx
      obtain ⟨rfl, _, o2⟩ := str_rd ry
      exact .inr (.inl ⟨_, _, rfl, rfl, hz, p.now S (.str (by rw [str_app_len]; exact hz) (str_app o1 o2))⟩)
    · exact p.elim
  · split at p
    · rename_i hz
      obtain ⟨a, us, rfl, q1, r1⟩ := tup_rd rx
      obtain ⟨b, ws, rfl, q2, r2⟩ := tup_rd ry
      refine .inr (.inr (.inl ⟨a, b, us, ws, rfl, rfl, hK ▸ q1, hK ▸ q2, fun z => hz.1 ?_, by rw [← r1.length, ← r2.length]; exact hz.2, fun z => ?_, fun _ l n => new_tup S (r1.append r2) n p⟩))
      · subst z; cases r1; rfl
      · subst z; cases r2
        rw [List.append_nil] at p
        exact p.now S rx
    · exact p.elim
  · split at p
    · split at p
      · rename_i e1 e2 hz
        obtain ⟨a, us, rfl, q1, r1⟩ := lst_rd S rx e1
        obtain ⟨b, ws, rfl, q2, r2⟩ := lst_rd S ry e2
        exact .inr (.inr (.inr ⟨a, b, us, ws, rfl, rfl, hK ▸ q1, hK ▸ q2, by rw [← r1.length, ← r2.length]; exact hz, fun l n => new_fl S (r1.append r2) n p⟩))
      · exact p.elim
    · exact p.elim
theorem o_sub : Op T X (binaryOp .Sub) fSub := by
  refine ⟨_, op_sub, fun ι h H x y u w E Q S rx ry p => ?_⟩
  unfold fSub at p
  split at p
  · rw [int_rd rx, int_rd ry]
    exact ⟨_, _, rfl, rfl, p.now S (.int _)⟩
  · exact p.elim
theorem bits_of {i : Int} (h : i.natAbs < 2 ^ 4000) : Builtin.Int.intBits i ≤ 2 ^ 20 := by
  unfold Builtin.Int.intBits
  split
  · exact Nat.zero_le _
  · rename_i hz
    have h0 : i.natAbs ≠ 0 := fun z => hz (by simpa using z)
    have : i.natAbs.log2 < 4000 := (Nat.log2_lt h0).mpr h
    exact Nat.le_trans (by omega : i.natAbs.log2 + 1 ≤ 4001) (by decide)
theorem o_mul : Op T X (binaryOp .Mult) fMul := by
  refine ⟨_, op_mulOk, fun ι h H x y u w E Q S rx ry p => ?_⟩
  unfold fMul at p
  split at p
  · split at p
    · rename_i hz
      rw [int_rd rx, int_rd ry]
      exact ⟨_, _, rfl, rfl, hz.elim (fun z => CMul.ok (z.elim (fun z => .inl ⟨by omega, by omega⟩) (fun z => .inr ⟨by omega, by omega⟩))) (fun z => .of_bits (bits_of z.1) (bits_of z.2)), p.now S (.int _)⟩
    · exact p.elim
  · exact p.elim
theorem o_div : Op T X (binaryOp .FloorDiv) fDiv := by
  refine ⟨_, op_fdivB, fun ι h H x y u w E Q S rx ry p => ?_⟩
  unfold fDiv at p
  split at p
  · split at p
    · rename_i hz
      rw [int_rd rx, int_rd ry]
      exact ⟨_, _, rfl, rfl, ⟨hz.1, by omega⟩, p.now S (.int _)⟩
    · exact p.elim
  · exact p.elim
theorem o_mod : Op T X (binaryOp .Mod) fMod := by
  refine ⟨_, op_mod, fun ι h H x y u w E Q S rx ry p => ?_⟩
  unfold fMod at p
  split at p
  · split at p
    · rename_i hz
      rw [int_rd rx, int_rd ry]
      exact ⟨_, _, rfl, rfl, hz, p.now S (.int _)⟩
    · exact p.elim
  · exact p.elim
theorem r_neg (ha : PEA T E X a sa) : PEA T E X (.UnaryOp .USub a pos) (sOp1 fNeg sa) :=
  PE_imp (pe_un un_neg ha) fun σ H Q ⟨ι, h, en, S, er, q⟩ => ⟨ι, h, en, S, er, q.bind fun x h1 ι1 H1 u g1 S1 r1 q1 => by
    unfold fNeg at q1
    split at q1
    · rw [int_rd r1]
      exact ⟨_, rfl, q1.now S1 (.int _)⟩
    · exact q1.elim⟩
theorem canAll_of {ds : List PyData} (h : ∀ d ∈ ds, d.canLay0 = true) : PyData.canLayAll0 ds = true := by
  induction ds with
  | nil => rfl
  | cons d r ih => show (d.canLay0 && PyData.canLayAll0 r) = true; rw [h d (by simp), ih fun e he => h e (by simp [he])]; rfl
theorem depthAll_le {n : Nat} {ds : List PyData} (h : ∀ d ∈ ds, d.depth ≤ n) : PyData.depthAll ds ≤ n := by
  induction ds with
  | nil => exact Nat.zero_le _
  | cons d r ih => show max d.depth (PyData.depthAll r) ≤ n; have := h d (by simp); have := ih fun e he => h e (by simp [he]); omega
section
variable {ι : Ix} {h : AH} {H : Hp}
theorem daVs_of {f : AV → Option PyData} {n : Nat} (hf : ∀ {x : AV} {u : V} {d : PyData}, RV T ι H x u → f x = some d → DaV T.K H u d ∧ d.canLay0 = true ∧ d.depth ≤ n) :
    ∀ {xs : List AV} {us : List V} {ds : List PyData}, RVs T ι H xs us → toDs f xs = some ds → DaVs T.K H us ds ∧ ∀ d ∈ ds, d.canLay0 = true ∧ d.depth ≤ n
  | _, _, ds, .nil, e => by cases e; exact ⟨.nil, by simp⟩
  | _, _, ds, .cons (x := x) (xs := xs) r rs, e => by
    unfold toDs at e
    split at e
    · rename_i d ds' e1 e2
      cases e
      obtain ⟨q1, q2⟩ := hf r e1
      obtain ⟨q3, q4⟩ := daVs_of hf rs e2
      refine ⟨.cons q1 q3, fun d hd => ?_⟩
      rcases List.mem_cons.mp hd with rfl | hd
      · exact q2
      · exact q4 d hd
    · cases e
theorem daV_of (S : Sim T ι h H) : ∀ (n : Nat) {x : AV} {u : V} {d : PyData}, RV T ι H x u → toD n h x = some d → DaV T.K H u d ∧ d.canLay0 = true ∧ d.depth ≤ n
  | 0, x, u, d, r, e => by
    unfold toD at e
    cases r with
    | non => cases e; exact ⟨.non, rfl, Nat.le_refl _⟩
    | bl b => cases e; exact ⟨.bl b, rfl, Nat.le_refl _⟩
    | int b => cases e; exact ⟨.int b, rfl, Nat.le_refl _⟩
    | str a b => cases e; exact ⟨.str _, b, Nat.le_refl _⟩
    | _ => cases e
  | n + 1, x, u, d, r, e => by
    unfold toD at e
    have many : ∀ {xs : List AV} {us : List V} {ds : List PyData}, RVs T ι H xs us → toDs (toD n h) xs = some ds → DaVs T.K H us ds ∧ ∀ d ∈ ds, d.canLay0 = true ∧ d.depth ≤ n := fun r e => daVs_of (fun r e => daV_of S n r e) r e
    have fin : ∀ {ds : List PyData}, (∀ d ∈ ds, d.canLay0 = true ∧ d.depth ≤ n) → PyData.canLayAll0 ds = true ∧ PyData.depthAll ds + 1 ≤ n + 1 := fun q => ⟨canAll_of fun d hd => (q d hd).1, Nat.succ_le_succ (depthAll_le fun d hd => (q d hd).2)⟩
    cases r with
    | non => cases e; exact ⟨.non, rfl, Nat.zero_le _⟩
    | bl b => cases e; exact ⟨.bl b, rfl, Nat.zero_le _⟩
    | int b => cases e; exact ⟨.int b, rfl, Nat.zero_le _⟩
    | str a b => cases e; exact ⟨.str _, b, Nat.zero_le _⟩
    | tup k q r =>
      obtain ⟨ds, e1, rfl⟩ := Option.map_eq_some_iff.mp e
      obtain ⟨q1, q2⟩ := many r e1
      exact ⟨.tup (.of q) q1, fin q2⟩
    | fl k q r =>
      obtain ⟨ds, e1, rfl⟩ := Option.map_eq_some_iff.mp e
      obtain ⟨q1, q2⟩ := many r e1
      exact ⟨.lst (.inl q) q1, fin q2⟩
    | kfl q r =>
      obtain ⟨ds, e1, rfl⟩ := Option.map_eq_some_iff.mp e
      obtain ⟨q1, q2⟩ := many r e1
      exact ⟨.lst (.inr q) q1, fin q2⟩
    | @ref k a q =>
      dsimp only at e
      split at e
      · rename_i ys hk
        obtain ⟨ds, e1, rfl⟩ := Option.map_eq_some_iff.mp e
        obtain ⟨u, e2, us, rfl, r⟩ := S.obj k _ a hk q
        obtain ⟨q1, q2⟩ := many r e1
        exact ⟨.lst (.inl (.inl e2)) q1, fin q2⟩
      · cases e
    | exc _ _ _ => cases e
end
theorem dq_int {i j : Int} : decide (V.int i = V.int j) = decide (i = j) := by rw [Bool.eq_iff_iff]; simp
theorem dq_str {i j : Str} : decide (V.str i = V.str j) = decide (i = j) := by rw [Bool.eq_iff_iff]; simp
theorem dq_bl {i j : Bool} : decide (V.bl i = V.bl j) = decide (i = j) := by rw [Bool.eq_iff_iff]; simp
theorem eq_core {r : R2} {neg : Bool} (ho : OpR X g r) (h1 : ∀ x y H Q, (scal x y = true ∧ Q (.bl (if neg then !decide (x = y) else decide (x = y))) H) → r x y H Q)
    (h2 : ∀ x y H Q, (∃ d e, DaV T.K H x d ∧ DaV T.K H y e ∧ d.canLay0 = true ∧ e.canLay0 = true ∧ d.depth ≤ 60 ∧ Q (.bl (if neg then !PyData.eqv d e else PyData.eqv d e)) H) → r x y H Q) :
    OpS T (fun x y h => match eqA x y h with | some b => .ok (.bl (if neg then !b else b)) h | none => .bad) r := by
  intro ι h H x y u w E Q S rx ry p
  dsimp only at p
  cases hb : eqA x y h with
  | none => rw [hb] at p; exact p.elim
  | some b =>
    rw [hb] at p
    dsimp only at p
    unfold eqA at hb
    split at hb
    · cases hb
      rw [int_rd rx, int_rd ry]
      exact h1 _ _ _ _ ⟨rfl, by rw [dq_int]; exact p.now S (.bl _)⟩
    · cases hb
      obtain ⟨rfl, _⟩ := str_rd rx
      obtain ⟨rfl, _⟩ := str_rd ry
      exact h1 _ _ _ _ ⟨rfl, by rw [dq_str]; exact p.now S (.bl _)⟩
    · cases hb
      rw [bl_rd rx, bl_rd ry]
      exact h1 _ _ _ _ ⟨rfl, by rw [dq_bl]; exact p.now S (.bl _)⟩
    · cases hb
      rw [non_rd rx, non_rd ry]
      exact h1 _ _ _ _ ⟨rfl, by rw [show decide (V.non = V.non) = true from rfl]; exact p.now S (.bl _)⟩
    · split at hb
      · rename_i d e e1 e2
        cases hb
        obtain ⟨q1, q2, q3⟩ := daV_of S 8 rx e1
        obtain ⟨q4, q5, q6⟩ := daV_of S 8 ry e2
        exact h2 _ _ _ _ ⟨d, e, q1, q4, q2, q5, by omega, p.now S (.bl _)⟩
      · cases hb
theorem o_eq (hK : X.K = T.K) (hu : X.A.units + 64 < cLine) : Op T X (compareOp .Eq) fEq :=
  ⟨_, op_eq.or (op_eqD hu), eq_core (neg := false) (op_eq.or (op_eqD hu)) (fun _ _ _ _ q => .inl q) fun _ _ _ _ q => .inr (hK ▸ q)⟩
theorem o_ne (hK : X.K = T.K) (hu : X.A.units + 64 < cLine) : Op T X (compareOp .NotEq) fNe :=
  ⟨_, op_ne.or (op_neD hu), eq_core (neg := true) (op_ne.or (op_neD hu)) (fun _ _ _ _ q => .inl q) fun _ _ _ _ q => .inr (hK ▸ q)⟩
theorem o_lt : Op T X (compareOp .Lt) fLt := by
  refine ⟨_, op_lt.or op_lt_str, fun ι h H x y u w E Q S rx ry p => ?_⟩
  unfold fLt at p
  split at p
  · rw [int_rd rx, int_rd ry]
    exact .inl ⟨_, _, rfl, rfl, p.now S (.bl _)⟩
  · obtain ⟨rfl, _⟩ := str_rd rx
    obtain ⟨rfl, _⟩ := str_rd ry
    exact .inr ⟨_, _, rfl, rfl, p.now S (.bl _)⟩
  · exact p.elim
theorem o_le : Op T X (compareOp .LtE) fLe := by
  refine ⟨_, op_le.or op_le_str, fun ι h H x y u w E Q S rx ry p => ?_⟩
  unfold fLe at p
  split at p
  · rw [int_rd rx, int_rd ry]
    exact .inl ⟨_, _, rfl, rfl, p.now S (.bl _)⟩
  · obtain ⟨rfl, _⟩ := str_rd rx
    obtain ⟨rfl, _⟩ := str_rd ry
    exact .inr ⟨_, _, rfl, rfl, p.now S (.bl _)⟩
  · exact p.elim
theorem o_gt : Op T X (compareOp .Gt) fGt := by
  refine ⟨_, op_gt, fun ι h H x y u w E Q S rx ry p => ?_⟩
  unfold fGt at p
  split at p
  · rw [int_rd rx, int_rd ry]
    exact ⟨_, _, rfl, rfl, p.now S (.bl _)⟩
  · exact p.elim
theorem r_cmp {op : CmpOp} {f : F2} (ho : Op T X (compareOp op) f) (ha : PEA T E X a sa) (hb : PEA T E X b sb) (hm : behindInMarks op b = false) : PEA T E X (.Compare a [op] [b] pos) (sOp2 f sa sb) := by
  obtain ⟨r, h1, h2⟩ := ho
  exact PE_imp (pe_cmpR h1 ha hb hm) fun σ H Q q => two h2 q
theorem rt_cmp {op : CmpOp} {f : F2} (ho : Op T X (compareOp op) f) (ha : PEA T E X a sa) (hb : PEA T E X b sb) (hm : behindInMarks op b = false) : PTA T E X (.Compare a [op] [b] pos) (sBool (sOp2 f sa sb)) := by
  obtain ⟨r, h1, h2⟩ := ho
  refine PT_imp (pt_cmpR h1 ha hb hm) fun σ H Q q => two (E := E) (Q := fun x H' => ∃ k, x = V.bl k ∧ Q k H') h2 ?_
  obtain ⟨ι, h, en, S, er, q⟩ := q
  refine ⟨ι, h, en, S, er, q.bind fun x h1 ι1 H1 u g1 S1 r1 q1 => ?_⟩
  split at q1
  · rw [bl_rd r1]
    exact ⟨_, rfl, q1.now S1 rfl⟩
  · exact q1.elim
theorem three {f f' : F2} {r r' : R2} (hs : OpS T f r) (hs' : OpS T f' r') {σ : St} {H : Hp} {Q : VK} (q : tE T E (sChain f f' sa sb sc) σ H Q) : tChain r r' (tE T E sa) (tE T E sb) (tE T E sc) σ H Q := by
  obtain ⟨ι, h, en, S, er, q⟩ := q
  refine ⟨ι, h, en, S, er, q.bind fun x h1 ι1 H1 u g1 S1 r1 q1 => ⟨ι1, h1, en, S1, er.mono g1, q1.bind fun y h2 ι2 H2 w g2 S2 r2 q2 => ?_⟩⟩
  refine hs ι2 h2 H2 x y u w (E σ) _ S2 (r1.mono g2) r2 (q2.bind fun z h3 ι3 H3 k g3 S3 r3 q3 => ?_)
  split at q3
  · rename_i kk
    rw [bl_rd r3]
    refine ⟨kk, rfl, ?_⟩
    by_cases hkk : kk = true
    · rw [if_pos hkk] at q3 ⊢
      refine ⟨ι3, h3, en, S3, er.mono (g1.trans (g2.trans g3)), q3.bind fun v h4 ι4 H4 j g4 S4 r4 q4 => ?_⟩
      exact hs' ι4 h4 H4 y v w j _ Q S4 (r2.mono (g3.trans g4)) r4 q4
    · rw [if_neg hkk] at q3 ⊢
      exact q3.now S3 (.bl _)
  · exact q3.elim
theorem r_chain {op op' : CmpOp} {f f' : F2} (ho : Op T X (compareOp op) f) (ho' : Op T X (compareOp op') f') (ha : PEA T E X a sa) (hb : PEA T E X b sb) (hc : PEA T E X c sc) (hm : lastMarks [op, op'] [b, c] = false := by with_unfolding_all rfl) :
    PEA T E X (.Compare a [op, op'] [b, c] pos) (sChain f f' sa sb sc) := by
  obtain ⟨r, h1, h2⟩ := ho
  obtain ⟨r', h1', h2'⟩ := ho'
  exact PE_imp (pe_chain h1 h1' ha hb hc hm) fun σ H Q q => three h2 h2' q
theorem tru_of {ι : Ix} {h : AH} {H : Hp} {v : AV} {u : V} {k : Bool} (S : Sim T ι h H) (r : RV T ι H v u) (e : truA v h = some k) : TruV T.K u H k := by
  unfold truA at e
  cases r with
  | non => cases e; rfl
  | bl b => cases e; rfl
  | int b => cases e; rfl
  | str n o => cases e; exact ⟨n, rfl⟩
  | tup n q r => cases e; exact .inr (.inl ⟨_, .of q, by cases r <;> rfl⟩)
  | fl n q r => cases e; exact .inl ⟨_, .inl q, by cases r <;> rfl⟩
  | kfl q r => cases e; exact .inl ⟨_, .inr q, by cases r <;> rfl⟩
  | @ref n a q =>
    dsimp only at e
    split at e
    · rename_i xs hk
      cases e
      obtain ⟨u, e1, us, rfl, r⟩ := S.obj n _ a hk q
      exact .inl ⟨us, .inl (.inl e1), by cases r <;> rfl⟩
    · rename_i xs hk
      cases e
      obtain ⟨u, e1, us, rfl, r⟩ := S.obj n _ a hk q
      exact .inr (.inr ⟨us, e1, by cases r <;> rfl⟩)
    · cases e
  | exc _ _ _ => cases e
theorem rt_truth (hK : X.K = T.K) (ha : PEA T E X a sa) (he : ∀ whole, isTrue a X.env whole = (do let v ← whole; standAt a.pos; holding [v] (truthy v)) := by intro _; rfl) : PTA T E X a (sTest sa) :=
  PT_imp (pt_truth ha he) fun σ H Q ⟨ι, h, en, S, er, q⟩ => ⟨ι, h, en, S, er, q.bind fun x h1 ι1 H1 u g1 S1 r1 q1 => by
    split at q1
    · rename_i b hb
      exact ⟨b, hK ▸ tru_of S1 r1 hb, q1.now S1 rfl⟩
    · exact q1.elim⟩
variable {ca cb : SB} {rest : List Expr}
theorem rt_not (ha : PTA T E X a ca) : PTA T E X (.UnaryOp .Not a pos) (sNot ca) :=
  PT_imp (pt_not ha) fun σ H Q ⟨ι, h, en, S, er, q⟩ => ⟨ι, h, en, S, er, q.bind fun x h1 ι1 H1 u g1 S1 r1 q1 => by subst r1; exact q1.now S1 rfl⟩
theorem r_one {op} (h : PEA T E X a sa) : PEA T E X (.BoolOp op [a] pos) sa := pe_one h
theorem r_and (ha : PEA T E X a sa) (hb : PEA T E X (.BoolOp .And (b :: rest) pos) sb) : PEA T E X (.BoolOp .And (a :: b :: rest) pos) (sAndV sa sb) :=
  PE_imp (pe_and ha hb) fun σ H Q ⟨ι, h, en, S, er, q⟩ => ⟨ι, h, en, S, er, q.bind fun x h1 ι1 H1 u g1 S1 r1 q1 => by
    split at q1
    · rename_i kk
      rw [bl_rd r1]
      refine ⟨kk, rfl, ?_⟩
      by_cases hkk : kk = true
      · rw [if_pos hkk] at q1 ⊢
        exact ⟨ι1, h1, en, S1, er.mono g1, q1⟩
      · rw [if_neg hkk] at q1 ⊢
        exact q1.now S1 (.bl _)
    · exact q1.elim⟩
theorem r_or (ha : PEA T E X a sa) (hb : PEA T E X (.BoolOp .Or (b :: rest) pos) sb) : PEA T E X (.BoolOp .Or (a :: b :: rest) pos) (sOrV sa sb) :=
  PE_imp (pe_or ha hb) fun σ H Q ⟨ι, h, en, S, er, q⟩ => ⟨ι, h, en, S, er, q.bind fun x h1 ι1 H1 u g1 S1 r1 q1 => by
    split at q1
    · rename_i kk
      rw [bl_rd r1]
      refine ⟨kk, rfl, ?_⟩
      by_cases hkk : kk = true
      · rw [if_pos hkk] at q1 ⊢
        exact q1.now S1 (.bl _)
      · rw [if_neg hkk] at q1 ⊢
        exact ⟨ι1, h1, en, S1, er.mono g1, q1⟩
    · exact q1.elim⟩
theorem r_not (ha : PEA T E X a sa) : PEA T E X (.UnaryOp .Not a pos) (sNotV sa) :=
  PE_imp (pe_not ha) fun σ H Q ⟨ι, h, en, S, er, q⟩ => ⟨ι, h, en, S, er, q.bind fun x h1 ι1 H1 u g1 S1 r1 q1 => by
    split at q1
    · rw [bl_rd r1]
      exact ⟨_, rfl, q1.now S1 (.bl _)⟩
    · exact q1.elim⟩
theorem r_ifE {d : Expr} (hc : PTA T E X d ca) (ha : PEA T E X a sa) (hb : PEA T E X b sb) : PEA T E X (.IfExp d a b pos) (sIfE ca sa sb) :=
  PE_imp (pe_ifExp hc ha hb) fun σ H Q ⟨ι, h, en, S, er, q⟩ => ⟨ι, h, en, S, er, q.bind fun x h1 ι1 H1 u g1 S1 r1 q1 => by
    subst r1
    by_cases hx : x = true
    · rw [if_pos hx] at q1 ⊢
      exact ⟨ι1, h1, en, S1, er.mono g1, q1⟩
    · rw [if_neg hx] at q1 ⊢
      exact ⟨ι1, h1, en, S1, er.mono g1, q1⟩⟩
variable {es : List Expr} {as : SL}
theorem ra_nil : PAA T E X [] sNil := PA_imp pa_nil fun σ H Q ⟨ι, h, en, S, er, q⟩ => q.now S .nil
theorem ra_cons (ha : PEA T E X a sa) (hr : PAA T E X es as) (hs : starEach (a :: es) X.env = (false, eval a X.env) :: starEach es X.env := by rfl) : PAA T E X (a :: es) (sCons sa as) :=
  PA_imp (pa_cons ha hr hs) fun σ H Q ⟨ι, h, en, S, er, q⟩ => ⟨ι, h, en, S, er, q.bind fun x h1 ι1 H1 u g1 S1 r1 q1 => ⟨ι1, h1, en, S1, er.mono g1, q1.bind fun xs h2 ι2 H2 us g2 S2 r2 q2 => q2.now S2 (.cons (r1.mono g2) r2)⟩⟩
theorem r_tup {k} (h : PAA T E X es as) : PEA T E X (.Tuple es k pos) (sTup as) :=
  PE_imp (pe_tup h) fun σ H Q ⟨ι, h, en, S, er, q⟩ => ⟨ι, h, en, S, er, q.bind fun xs h1 ι1 H1 us g1 S1 r1 q1 => by
    split at q1
    · rename_i hl
      exact ⟨by rw [← r1.length]; exact Nat.le_trans hl (by decide), fun p n => new_tup S1 r1 n q1⟩
    · exact q1.elim⟩
theorem r_lstM (h : PAA T E X es as) : PEA T E X (.List es pos) (sLstM as) :=
  PE_imp (pe_lst h) fun σ H Q ⟨ι, h, en, S, er, q⟩ => ⟨ι, h, en, S, er, q.bind fun xs h1 ι1 H1 us g1 S1 r1 q1 => by
    split at q1
    · rename_i hl
      exact ⟨by rw [← r1.length]; exact Nat.le_trans hl (by decide), fun p n => new_lst S1 r1 n q1⟩
    · exact q1.elim⟩
theorem r_dictT : PEA T E X (.Dict [] [] pos) (sDict true) :=
  PE_imp pe_dnewT fun σ H Q ⟨ι, h, en, S, er, q⟩ p n => q _ _ _ (S.growAdd n) (S.add n ⟨[], rfl, .nil⟩) (.ref S.addAt)
end
end Sm

namespace Sm
open PySem L2
section
variable {T : Tb} {E : St → XK} {X : Cx} {pos : Pos} {a b : Expr} {sa sb : SE} {ca : SB} {st : Stmt} {sts ss1 ss2 : List Stmt} {s1 s2 : SS}
theorem rs_nil : PSsA T E X [] sNext := PSs_imp pss_nil fun D σ H ⟨ι, h, en, S, er, q⟩ => q ι H σ S.refl S er
theorem rs_cons (h1 : PSA T E X st s1) (h2 : PSsA T E X sts s2) : PSsA T E X (st :: sts) (sSeq s1 s2) :=
  PSs_imp (pss_cons h1 h2) fun D σ H ⟨ι, h, en, S, er, q⟩ => by
    refine ⟨ι, h, en, S, er, ?_⟩
    unfold sSeq at q
    cases e : s1 en h with
    | nx e1 h1 =>
      rw [e] at q
      exact fun ι' H' σ' g S' er' => ⟨ι', h1, e1, S', er', q.shift g⟩
    | rt v h1 => rw [e] at q; exact q
    | bk e1 h1 => rw [e] at q; exact q
    | ct e1 h1 => rw [e] at q; exact q
    | ex c e1 h1 => rw [e] at q; exact q
    | bad => rw [e] at q; exact q
theorem rs_one (h1 : PSA T E X st s1) : PSsA T E X [st] s1 := pss_one h1
theorem r_expr (ha : PEA T E X a sa) (hs : swapsWith a none pos.line X.env = pure false := by rfl) : PSA T E X (.Expr a pos) (sExpr sa) :=
  PS_imp (ps_expr ha hs) fun D σ H ⟨ι, h, en, S, er, q⟩ => ⟨ι, h, en, S, er, q.go er fun v h1 ι1 H1 u g1 S1 r1 q1 => q1 ι1 H1 σ S1.refl S1 (er.mono g1)⟩
theorem r_ret (ha : PEA T E X a sa) : PSA T E X (.Return (some a) pos) (sRet sa) :=
  PS_imp (ps_ret ha) fun D σ H ⟨ι, h, en, S, er, q⟩ => ⟨ι, h, en, S, er, q.go er fun v h1 ι1 H1 u g1 S1 r1 q1 => q1 ι1 H1 u S1.refl S1 r1⟩
theorem r_if (hc : PTA T E X a ca) (h1 : PSsA T E X ss1 s1) (h2 : PSsA T E X ss2 s2) : PSA T E X (.If a ss1 ss2 pos) (sIf ca s1 s2) :=
  PS_imp (ps_if hc h1 h2) fun D σ H ⟨ι, h, en, S, er, q⟩ => ⟨ι, h, en, S, er, q.go er fun x h1 ι1 H1 u g1 S1 r1 q1 => by
    subst r1
    by_cases hx : x = true
    · rw [if_pos hx] at q1 ⊢
      exact ⟨ι1, h1, en, S1, er.mono g1, q1⟩
    · rw [if_neg hx] at q1 ⊢
      exact ⟨ι1, h1, en, S1, er.mono g1, q1⟩⟩
theorem set_go {σ : St} {H : Hp} {D : Ends} {i : Nat} (q : tS T E (sSet i sa) D σ H) : tAsg (tE T E sa) (gName i) D σ H := by
  obtain ⟨ι, h, en, S, er, q⟩ := q
  exact ⟨ι, h, en, S, er, q.go er fun v h1 ι1 H1 u g1 S1 r1 q1 => q1 ι1 H1 _ S1.refl S1 ((er.mono g1).set r1 i)⟩
theorem r_set {i : Nat} {x : Str} {p' : Pos} (hN : X.N.Nodup) (ha : PEA T E X a sa) (hi : X.N[i]? = some x := by rfl) (hx : Loc X.env.scope x := by first | exact Or.inl rfl | exact Or.inr rfl) (hs : swapsWith a (some (.Name x p')) pos.line X.env = pure false := by rfl)
    (hf : X.fn x = true ∨ X.env.scope.names.lookup x = some .local := by first | exact .inl rfl | exact .inr rfl | assumption) : PSA T E X (.Assign [.Name x p'] a pos) (sSet i sa) :=
  PS_imp (ps_set hN hi hx ha hs hf) fun D σ H q => set_go q
theorem setAll_ok {ι : Ix} {H : Hp} : ∀ {is : List Nat} {xs : List AV} {us : List V} {en e : En} {σ : St}, RVs T ι H xs us → ER T ι H en σ → setAll is xs en = some e → ER T ι H e ((is.zip us).foldl (fun σ p => σ.set p.1 (some p.2)) σ) ∧ us.length = is.length
  | [], _, _, en, e, σ, .nil, er, q => by cases q; exact ⟨er, rfl⟩
  | i :: is, _, _, en, e, σ, .cons r rs, er, q => by
    obtain ⟨h1, h2⟩ := setAll_ok (is := is) rs (er.set r i) q
    exact ⟨h1, by simp [h2]⟩
  | [], _, _, en, e, σ, .cons r rs, er, q => by cases q
  | i :: is, _, _, en, e, σ, .nil, er, q => by cases q
noncomputable def PGA (T : Tb) (X : Cx) (tg : Expr) (t : Tg) : Prop := ∃ g, PG X tg g ∧ ∀ {ι : Ix} {h : AH} {H : Hp} {en e : En} {σ : St} {v : AV} {u : V} {Q : St → Hp → Prop}, Sim T ι h H → ER T ι H en σ → RV T ι H v u → setT t v en = some e →
  (∀ σ', ER T ι H e σ' → Q σ' H) → g u σ H Q
theorem rg_name {i : Nat} {x : Str} (hN : X.N.Nodup) (hi : X.N[i]? = some x := by rfl) (hx : Loc X.env.scope x := by first | exact Or.inl rfl | exact Or.inr rfl) (hf : X.fn x = true ∨ X.env.scope.names.lookup x = some .local := by first | exact .inl rfl | exact .inr rfl | assumption) :
    PGA T X (.Name x pos) (.nm i) := ⟨_, pg_name hN hi hx hf, fun S er r e k => by cases e; exact k _ (er.set r i)⟩
noncomputable def PGsA (X : Cx) (es : List Expr) (is : List Nat) : Prop := PGs X es (fun vs σ H Q => vs.length = is.length ∧ Q ((is.zip vs).foldl (fun σ p => σ.set p.1 (some p.2)) σ) H)
theorem PGs_imp {X : Cx} {es : List Expr} {t t' : TGs} (h : PGs X es t) (k : ∀ vs σ H Q, t' vs σ H Q → t vs σ H Q) : PGs X es t' := fun pins s σ H vs us Q I r q => h pins s σ H vs us Q I r (k vs σ H Q q)
theorem rgs_nil : PGsA X [] [] := PGs_imp pgs_nil fun vs σ H Q ⟨l, q⟩ => by
  cases vs with
  | nil => exact ⟨rfl, q⟩
  | cons => cases l
theorem rgs_cons {i : Nat} {is : List Nat} {x : Str} {p : Pos} {es : List Expr} (hN : X.N.Nodup) (hr : PGsA X es is) (hi : X.N[i]? = some x := by rfl) (hx : Loc X.env.scope x := by first | exact Or.inl rfl | exact Or.inr rfl)
    (hf : X.fn x = true ∨ X.env.scope.names.lookup x = some .local := by first | exact .inl rfl | exact .inr rfl | assumption) (hs : (assignEach (.Name x p :: es) X.env).map (·.2) = assign (.Name x p) X.env :: (assignEach es X.env).map (·.2) := by rfl) : PGsA X (.Name x p :: es) (i :: is) :=
  PGs_imp (pgs_cons (pg_name hN hi hx hf) hr hs) fun vs σ H Q ⟨l, q⟩ => by
    cases vs with
    | nil => cases l
    | cons v r => exact ⟨v, r, rfl, Nat.succ.inj l, q⟩
theorem rg_tup {es : List Expr} {is : List Nat} {k : Nat} (hK : X.K = T.K) (hc : X.calm = true) (h : PGsA X es is) (hn : (assignEach es X.env).length = is.length := by rfl) (hst : (assignEach es X.env).findIdx? (·.1) = none := by rfl) : PGA T X (.Tuple es k pos) (.tup is) :=
  ⟨_, pg_tup hc h hn hst, fun {ι h H en e σ v u Q} S er r q k => by
    unfold setT at q
    split at q
    · rename_i hh; cases hh
    · rename_i hh
      cases hh
      obtain ⟨a, us, rfl, q1, r1⟩ := tup_rd r
      obtain ⟨h1, h2⟩ := setAll_ok r1 er q
      exact ⟨a, us, rfl, hK ▸ q1, h2, h2, k _ h1⟩
    · rename_i hh; cases hh
    · cases q⟩
structure ItR (T : Tb) (J : It) (ι : Ix) (H : Hp) (xs : List AV) (w : Option Nat) : Prop where
  go : ∀ (i : Nat) (ι' : Ix) (h' : AH) (H' : Hp) (x : AV), Ext ι H ι' H' → Sim T ι' h' H' → liveB w xs h' = true → xs[i]? = some x → J.go i H' ∧ ∀ u H2, J.yld i H' u H2 → Grow ι' H' ι' H2 ∧ Sim T ι' h' H2 ∧ RV T ι' H2 x u
  stop : ∀ (i : Nat) (ι' : Ix) (h' : AH) (H' : Hp), Ext ι H ι' H' → Sim T ι' h' H' → liveB w xs h' = true → xs.length ≤ i → J.stop i H'
noncomputable def tI (T : Tb) (it : SI) : TI := fun σ H R => ∃ ι h en, Sim T ι h H ∧ ER T ι H en σ ∧ match it en h with
  | .ok (xs, w) h' => ∀ ι' H' J, Grow ι H ι' H' → Sim T ι' h' H' → ItR T J ι' H' xs w → R J H'
  | _ => False
noncomputable abbrev PIA (T : Tb) (X : Cx) (tg iter : Expr) (it : SI) : Prop := PI X tg iter (tI T it)
theorem PI_imp {X : Cx} {tg iter : Expr} {t t' : TI} (h : PI X tg iter t) (k : ∀ σ H R, t' σ H R → t σ H R) : PI X tg iter t' := fun pins s σ H R I q => h pins s σ H R I (k σ H R q)
theorem PI.or {X : Cx} {tg iter : Expr} {t t' : TI} (h : PI X tg iter t) (h' : PI X tg iter t') : PI X tg iter (fun σ H R => t σ H R ∨ t' σ H R) := fun pins s σ H R I q => q.elim (h pins s σ H R I) (h' pins s σ H R I)
theorem itR_rd {ι : Ix} {H : Hp} {a : Addr} {us : List V} {xs : List AV} {K : PySem.W.Frag} (keep : ∀ (ι' : Ix) (H' : Hp), Ext ι H ι' H' → SqL K H' a us) (r : RVs T ι H xs us) : ItR T (Itl K a) ι H xs none := by
  constructor
  · intro i ι' h' H' x g S _ e
    obtain ⟨u, e1, r1⟩ := (r.ext g).get e
    refine ⟨⟨us, u, keep ι' H' g, e1⟩, ?_⟩
    rintro u2 H2 ⟨rfl, y⟩
    have z := y us (keep ι' _ g)
    rw [e1] at z; cases z
    exact ⟨S.refl, S, r1⟩
  · intro i ι' h' H' g S _ hl
    exact ⟨us, keep ι' H' g, by rw [← r.length]; exact hl⟩
theorem itT_rd {ι : Ix} {H : Hp} {a : Addr} {us : List V} {xs : List AV} {K : PySem.W.Frag} (keep : ∀ (ι' : Ix) (H' : Hp), Ext ι H ι' H' → SqT K H' a us) (r : RVs T ι H xs us) : ItR T (Itt K a) ι H xs none := by
  constructor
  · intro i ι' h' H' x g S _ e
    obtain ⟨u, e1, r1⟩ := (r.ext g).get e
    refine ⟨⟨us, u, keep ι' H' g, e1⟩, ?_⟩
    rintro u2 H2 ⟨rfl, y⟩
    have z := y us (keep ι' _ g)
    rw [e1] at z; cases z
    exact ⟨S.refl, S, r1⟩
  · intro i ι' h' H' g S _ hl
    exact ⟨us, keep ι' H' g, by rw [← r.length]; exact hl⟩
theorem itR_ref {ι : Ix} {H : Hp} {a : Addr} {n : Nat} {xs : List AV} {K : PySem.W.Frag} (e : ι.refs[n]? = some a) : ItR T (Itl K a) ι H xs (some n) := by
  have at_ : ∀ {ι' : Ix} {h' : AH} {H' : Hp}, Ext ι H ι' H' → Sim T ι' h' H' → liveB (some n) xs h' = true → ∃ us, H' a = some (.lst us) ∧ RVs T ι' H' xs us := fun {ι' h' H'} g S l => by
    unfold liveB at l
    dsimp only at l
    split at l
    · rename_i ys hy
      have z := of_decide_eq_true l
      subst z
      obtain ⟨u, e1, us, rfl, r⟩ := S.obj n _ a hy (g.at_ e)
      exact ⟨us, e1, r⟩
    · cases l
  constructor
  · intro i ι' h' H' x g S l e
    obtain ⟨us, e0, r⟩ := at_ g S l
    obtain ⟨u, e1, r1⟩ := r.get e
    refine ⟨⟨us, u, .of e0, e1⟩, ?_⟩
    rintro u2 H2 ⟨rfl, y⟩
    have z := y us (.of e0)
    rw [e1] at z; cases z
    exact ⟨S.refl, S, r1⟩
  · intro i ι' h' H' g S l hl
    obtain ⟨us, e0, r⟩ := at_ g S l
    exact ⟨us, .of e0, by rw [← r.length]; exact hl⟩
theorem itR_str {ι : Ix} {H : Hp} {x : Str} (o : x.cps.all (· < 0x110000) = true) : ItR T (Its x) ι H (x.cps.toList.map fun c => .str ⟨#[c]⟩) none := by
  constructor
  · intro i ι' h' H' y g S _ e
    rw [List.getElem?_map] at e
    obtain ⟨c, e1, rfl⟩ := Option.map_eq_some_iff.mp e
    have hi : i < x.cps.size := by
      have := (List.getElem?_eq_some_iff.mp e1).1
      simpa using this
    refine ⟨hi, ?_⟩
    rintro u H2 ⟨rfl, c', e2, rfl⟩
    have z : x.cps[i]? = some c := by simpa using e1
    rw [e2] at z; cases z
    refine ⟨S.refl, S, .str (show 1 ≤ sizeLine by decide) ?_⟩
    have m := Array.mem_of_getElem? e2
    have := Array.all_eq_true_iff_forall_mem.mp o _ m
    simpa using this
  · intro i ι' h' H' g S _ hl
    show x.cps.size ≤ i
    simpa using hl
theorem rangeA_get (n : Nat) : ∀ (lo : Int) (i : Nat), (rangeA lo n)[i]? = if i < n then some (.int (lo + i)) else none := by
  induction n with
  | zero => intro lo i; simp [rangeA]
  | succ n ih =>
    intro lo i
    cases i with
    | zero => simp [rangeA]
    | succ i =>
      show (rangeA (lo + 1) n)[i]? = _
      rw [ih]
      by_cases h : i < n
      · rw [if_pos h, if_pos (by omega)]
        congr 2
        show lo + 1 + (i : Int) = lo + ((i + 1 : Nat) : Int)
        omega
      · rw [if_neg h, if_neg (by omega)]
theorem rangeA_length (n : Nat) : ∀ lo : Int, (rangeA lo n).length = n := by
  induction n with
  | zero => intro lo; rfl
  | succ n ih => intro lo; show (rangeA (lo + 1) n).length + 1 = n + 1; rw [ih]
theorem itR_range {ι : Ix} {H : Hp} {lo : Int} {n : Nat} : ItR T (Itr lo n) ι H (rangeA lo n) none := by
  constructor
  · intro i ι' h' H' y g S _ e
    rw [rangeA_get] at e
    split at e
    · rename_i hi
      cases e
      refine ⟨hi, ?_⟩
      rintro u H2 ⟨rfl, rfl⟩
      exact ⟨S.refl, S, .int _⟩
    · cases e
  · intro i ι' h' H' g S _ hl
    rw [rangeA_length] at hl
    exact hl
theorem keepL {ι : Ix} {H : Hp} {a : Addr} {us : List V} (n : a ∉ ι.all) (h : Rd H a (.lst us)) : ∀ (ι' : Ix) (H' : Hp), Ext ι H ι' H' → SqL T.K H' a us := fun _ _ g => .inl (rd_keep g n h)
theorem keepT {ι : Ix} {H : Hp} {a : Addr} {us : List V} (n : a ∉ ι.all) (h : H a = some (.tup us)) : ∀ (ι' : Ix) (H' : Hp), Ext ι H ι' H' → SqT T.K H' a us := fun _ _ g => .of (g.keep _ _ n h)
theorem sqL_of {K K' : PySem.W.Frag} {H : Hp} {a : Addr} {us : List V} (e : K = K') (h : SqL K' H a us) : SqL K H a us := e ▸ h
theorem iL_go {σ : St} {H : Hp} {R : It → Hp → Prop} {ι : Ix} {h h1 : AH} {en : En} {v : AV} {xs : List AV} {w : Option Nat} (hK : X.K = T.K) (S : Sim T ι h H) (er : ER T ι H en σ) (e : sa en h = .ok v h1) (hv : (v = .fl xs ∧ w = none) ∨ ∃ n, v = .ref n ∧ h1[n]? = some (.lst xs) ∧ w = some n)
    (q : ∀ ι' H' J, Grow ι H ι' H' → Sim T ι' h1 H' → ItR T J ι' H' xs w → R J H') : iList X.K (tE T E sa) σ H R := by
  refine ⟨ι, h, en, S, er, ?_⟩
  rw [e]
  intro ι1 H1 u g1 S1 r1
  rcases hv with ⟨rfl, rfl⟩ | ⟨n, rfl, hn, rfl⟩
  · cases r1 with
    | fl n hr rs => exact ⟨_, rfl, ⟨_, sqL_of hK (.inl hr)⟩, q ι1 H1 _ g1 S1 (hK ▸ itR_rd (keepL n hr) rs)⟩
    | kfl hr rs => exact ⟨_, rfl, ⟨_, sqL_of hK (.inr hr)⟩, q ι1 H1 _ g1 S1 (hK ▸ itR_rd (fun _ _ _ => .inr hr) rs)⟩
  · cases r1 with
    | ref hr =>
      obtain ⟨u, e1, us, rfl, rs⟩ := S1.obj n _ _ hn hr
      exact ⟨_, rfl, ⟨_, .of e1⟩, q ι1 H1 _ g1 S1 (itR_ref hr)⟩
theorem iT_go {σ : St} {H : Hp} {R : It → Hp → Prop} {ι : Ix} {h h1 : AH} {en : En} {xs : List AV} (hK : X.K = T.K) (S : Sim T ι h H) (er : ER T ι H en σ) (e : sa en h = .ok (.tup xs) h1)
    (q : ∀ ι' H' J, Grow ι H ι' H' → Sim T ι' h1 H' → ItR T J ι' H' xs none → R J H') : iTup X.K (tE T E sa) σ H R := by
  refine ⟨ι, h, en, S, er, ?_⟩
  rw [e]
  intro ι1 H1 u g1 S1 r1
  cases r1 with
  | tup n hr rs => exact ⟨_, rfl, ⟨_, .of hr⟩, q ι1 H1 _ g1 S1 (hK ▸ itT_rd (keepT n hr) rs)⟩
theorem ri_val {y : Str} {py : Pos} (hK : X.K = T.K) (ha : PEA T E X a sa) : PIA T X (.Name y py) a (iVal sa) :=
  PI_imp (PI.or (pi_list ha) (PI.or (pi_tup ha) (pi_str ha))) fun σ H R ⟨ι, h, en, S, er, q⟩ => by
    unfold iVal at q
    cases e : sa en h with
    | bad => rw [e] at q; exact q.elim
    | ex c h1 => rw [e] at q; exact q.elim
    | ok v h1 =>
      rw [e] at q
      cases v with
      | fl xs => exact .inl (iL_go hK S er e (.inl ⟨rfl, rfl⟩) q)
      | tup xs => exact .inr (.inl (iT_go hK S er e q))
      | str z =>
        refine .inr (.inr ⟨ι, h, en, S, er, ?_⟩)
        rw [e]
        intro ι1 H1 u g1 S1 r1
        obtain ⟨rfl, _, o⟩ := str_rd r1
        exact ⟨_, rfl, q ι1 H1 _ g1 S1 (itR_str o)⟩
      | ref n =>
        dsimp only [Out.bind] at q
        cases e2 : h1[n]? with
        | none => rw [e2] at q; exact q.elim
        | some o =>
          rw [e2] at q
          cases o with
          | lst xs => exact .inl (iL_go hK S er e (.inr ⟨n, rfl, e2, rfl⟩) q)
          | _ => exact q.elim
      | _ => exact q.elim
theorem ri_range1 {tg : Expr} {p : Pos} (hg : Gl X "range") (hm : X.mg "range" = none) (ha : PEA T E X a sa) (hs : starEach [a] X.env = [(false, eval a X.env)] := by rfl) : PIA T X tg (.Call (.Name "range" p) [a] [] pos) (iRange1 sa) :=
  PI_imp (pi_range1 hg hm (ra_cons ha ra_nil hs) hs) fun σ H R ⟨ι, h, en, S, er, q⟩ => by
    unfold iRange1 at q
    refine ⟨ι, h, en, S, er, ?_⟩
    unfold sCons
    cases e : sa en h with
    | bad => rw [e] at q; exact q
    | ex c h1 => rw [e] at q; exact q.elim
    | ok v h1 =>
      rw [e] at q
      intro ι1 H1 u g1 S1 r1
      dsimp only [Out.bind] at q
      cases v with
      | int j =>
        dsimp only at q
        split at q
        · rename_i hx
          split at hx
          · rename_i hb
            cases hx
            cases r1 with
            | cons r r' =>
              cases r'
              rw [int_rd r]
              exact ⟨j, rfl, by omega, by omega, q ι1 H1 _ g1 S1 itR_range⟩
          · cases hx
        · exact q.elim
      | _ => exact q.elim
theorem ri_range2 {tg : Expr} {p : Pos} (hg : Gl X "range") (hm : X.mg "range" = none) (ha : PEA T E X a sa) (hb : PEA T E X b sb) (hs : starEach [a, b] X.env = [(false, eval a X.env), (false, eval b X.env)] := by rfl) (hs2 : starEach [b] X.env = [(false, eval b X.env)] := by rfl) :
    PIA T X tg (.Call (.Name "range" p) [a, b] [] pos) (iRange2 sa sb) :=
  PI_imp (pi_range2 hg hm (ra_cons ha (ra_cons hb ra_nil hs2) (by rw [hs, hs2])) hs hs2) fun σ H R ⟨ι, h, en, S, er, q⟩ => by
    unfold iRange2 at q
    refine ⟨ι, h, en, S, er, ?_⟩
    unfold sCons
    cases e : sa en h with
    | bad => rw [e] at q; exact q
    | ex c h1 => rw [e] at q; exact q.elim
    | ok v h1 =>
      rw [e] at q
      dsimp only [Out.bind] at q ⊢
      cases e' : sb en h1 with
      | bad => rw [e'] at q; exact q
      | ex c h1 => rw [e'] at q; exact q.elim
      | ok v' h2 =>
        rw [e'] at q
        dsimp only at q
        intro ι1 H1 u g1 S1 r1
        split at q
        · rename_i hx
          split at hx
          · split at hx
            · rename_i hb
              cases hx
              cases r1 with
              | cons r r' =>
                cases r' with
                | cons r2 r3 =>
                  cases r3
                  rw [int_rd r, int_rd r2]
                  exact ⟨_, _, rfl, by omega, q ι1 H1 _ g1 S1 itR_range⟩
            · cases hx
          · cases hx
        · exact q.elim
theorem drop_cons {α : Type} {xs : List α} {i : Nat} (h : i < xs.length) : xs.drop i = xs[i] :: xs.drop (i + 1) := by simp
theorem r_for {tg iter : Expr} {it : SI} {t : Tg} (hc : X.calm = true) (hi : PIA T X.nox tg iter it) (hg : PGA T X.nox tg t) (hb : PSsA T EN X.nox sts s1) (hs : ∀ x, foldedSetIterable iter X.nox.env x = pure x := by intro _; rfl) :
    PSA T E X (.For tg iter sts [] pos) (sFor it t s1) := by
  obtain ⟨g, hg1, hg2⟩ := hg
  refine PS_imp (PS_nox (ps_for PassesOwn.never hc hi hg1 hb hs)) fun D σ H ⟨ι, h, en, S, er, q⟩ => ⟨ι, h, en, S, er, ?_⟩
  unfold sFor at q
  cases e : it en h with
  | bad => rw [e] at q; exact q
  | ex c h1 => rw [e] at q; exact q
  | ok p h1 =>
    obtain ⟨xs, w⟩ := p
    rw [e] at q
    intro ι1 H1 J g1 S1 IR
    refine ⟨fun i m σ H => m = xs.length - i ∧ i ≤ xs.length ∧ ∃ ι' h' en', Grow ι1 H1 ι' H ∧ Sim T ι' h' H ∧ ER T ι' H en' σ ∧ PostS T ι' H E (sForGo w xs t s1 (xs.drop i) en' h') D,
      ⟨xs.length, by simp, Nat.zero_le _, ι1, h1, en, S1.refl, S1, er.mono g1, PostS.shift q g1⟩, ?_⟩
    rintro i m σ H ⟨rfl, hi, ι', h', en', g', S', er', q'⟩
    by_cases hl : i < xs.length
    · rw [drop_cons hl] at q'
      unfold sForGo at q'
      split at q'
      · rename_i hlive
        obtain ⟨go, yld⟩ := IR.go i ι' h' H xs[i] g'.ext S' hlive (by simp [hl])
        refine .inr ⟨go, fun σ H => ∃ ι' h' en', Grow ι1 H1 ι' H ∧ Sim T ι' h' H ∧ ER T ι' H en' σ ∧ PostS T ι' H E (sForGo w xs t s1 (xs.drop (i + 1)) en' h') D,
          fun σ' H' w' => ⟨xs.length - (i + 1), by omega, rfl, hl, w'⟩, fun x H' y => ?_⟩
        obtain ⟨g2, S2, r2⟩ := yld x H' y
        split at q'
        · rename_i e1 he1
          refine hg2 S2 (er'.mono g2) r2 he1 fun σ' er2 => ⟨ι', h', e1, S2, er2, ?_⟩
          have q2 := PostS.shift q' g2
          cases e2 : s1 e1 h' with
          | nx e3 h3 => rw [e2] at q2; exact fun ι3 H3 σ3 g3 S3 er3 => ⟨ι3, h3, e3, g'.trans (g2.trans g3), S3, er3, q2.shift g3⟩
          | ct e3 h3 => rw [e2] at q2; exact fun ι3 H3 σ3 g3 S3 er3 => ⟨ι3, h3, e3, g'.trans (g2.trans g3), S3, er3, q2.shift g3⟩
          | bk e3 h3 => rw [e2] at q2; exact q2
          | rt v h3 => rw [e2] at q2; exact q2
          | ex c e3 h3 => rw [e2] at q2; exact (show False from q2).elim
          | bad => rw [e2] at q2; exact q2
        · exact (show False from q').elim
      · exact (show False from q').elim
    · have ei : i = xs.length := by omega
      subst ei
      rw [List.drop_length] at q'
      unfold sForGo at q'
      split at q'
      · rename_i hlive
        exact .inl ⟨IR.stop _ ι' h' H g'.ext S' hlive (Nat.le_refl _), q' ι' H σ S'.refl S' er'⟩
      · exact (show False from q').elim
theorem ER.comp {ι : Ix} {H : Hp} {en : En} {σ : St} {x : AV} {u : V} {jf : List (Nat × Str)} (er : ER T ι H en σ) (r : RV T ι H x u) : ER T ι H (some x :: (jf.map (·.1)).map fun j => (en[j]?).join) (compSt (some u) jf σ) := by
  refine ⟨by simp [compSt], fun i v e => ?_⟩
  cases i with
  | zero => simp at e; subst e; exact ⟨u, rfl, r⟩
  | succ i =>
    simp only [List.getElem?_cons_succ, List.getElem?_map] at e
    unfold compSt
    simp only [List.getElem?_cons_succ, List.getElem?_map]
    cases e1 : jf[i]? with
    | none => rw [e1] at e; cases e
    | some j =>
      rw [e1] at e
      simp only [Option.map_some, Option.some.injEq] at e
      have e2 : en[j.1]? = some (some v) := by
        cases e3 : en[j.1]? with
        | none => rw [e3] at e; cases e
        | some o => rw [e3] at e; exact congrArg some e
      obtain ⟨u', e4, r'⟩ := er.2 j.1 v e2
      exact ⟨u', by simp [e4], r'⟩
theorem comp_go {jf : List (Nat × Str)} {it : SI} {cc : SB} {ce : SE} {σ : St} {H : Hp} {Q : VK} {ι : Ix} {h : AH} {en : En} (S : Sim T ι h H) (er : ER T ι H en σ)
    (q : match it en h with | .ok (xs, w) h1 => (match sCompGo (jf.map (·.1)) en w xs cc ce xs [] h1 with | .ok ys h2 => ∀ ι' H' D vs, Grow ι H ι' H' → Sim T (ι'.hide D) h2 H' → RVs T (ι'.hide D) H' ys vs → H' D = some (.lst vs) → D ∉ ι'.all → (∀ n, ι'.refs = ι.refs ++ n → ∀ a ∈ n ++ [D], H a = none) → Q (.ref D) H' | _ => False) | _ => False) :
    tComp jf (tI T it) (tT T EN cc) (tE T EN ce) σ H Q := by
  refine ⟨ι, h, en, S, er, ?_⟩
  cases e : it en h with
  | bad => rw [e] at q; exact q
  | ex c h1 => rw [e] at q; exact q
  | ok p h1 =>
    obtain ⟨xs, w⟩ := p
    rw [e] at q
    dsimp only at q
    intro ι1 H1 J g1 S1 IR D hD
    refine ⟨fun i m ys H2 => m = xs.length - i ∧ i ≤ xs.length ∧ H2 D = some (.lst ys) ∧ ∃ ι' h' vs, Grow ι1 H1 ι' H2 ∧ Ext ι1 H1 (ι'.hide D) H2 ∧ Sim T (ι'.hide D) h' H2 ∧ ER T (ι'.hide D) H2 en σ ∧ RVs T (ι'.hide D) H2 vs ys ∧ D ∉ ι'.refs ∧
      (match sCompGo (jf.map (·.1)) en w xs cc ce (xs.drop i) vs h' with | .ok ys h2 => ∀ ι' H' D vs, Grow ι H ι' H' → Sim T (ι'.hide D) h2 H' → RVs T (ι'.hide D) H' ys vs → H' D = some (.lst vs) → D ∉ ι'.all → (∀ n, ι'.refs = ι.refs ++ n → ∀ a ∈ n ++ [D], H a = none) → Q (.ref D) H' | _ => False), ?_, ?_⟩
    · exact ⟨xs.length, by simp, Nat.zero_le _, upd_same, ι1, h1, [], S1.growNew hD, Ext.hide hD, S1.hide hD, (er.mono g1).ext (Ext.hide hD), .nil, fun z => S1.fresh hD (List.mem_append_left _ z), q⟩
    · rintro i m ys H2 ⟨rfl, hi, hH2, ι', h', vs, g', x', S', er', rv', nD', q'⟩
      refine ⟨hH2, ?_⟩
      by_cases hl : i < xs.length
      · rw [drop_cons hl] at q'
        unfold sCompGo at q'
        by_cases hs : liveB w xs h' = true ∧ vs.length < sizeLine
        · rw [if_pos hs] at q'
          obtain ⟨hs1, hs2⟩ := hs
          obtain ⟨go, yld⟩ := IR.go i _ h' H2 xs[i] x' S' hs1 (by simp [hl])
          refine .inr ⟨go, by rw [← rv'.length]; exact hs2, fun x H3 y => ?_⟩
          obtain ⟨g3, S3, r3⟩ := yld x H3 y
          have er3 := er'.mono g3
          refine ⟨ι'.hide D, h', _, S3, ER.comp er3 r3, ?_⟩
          cases ec : cc (some xs[i] :: (jf.map (·.1)).map fun j => (en[j]?).join) h' with
          | bad => rw [ec] at q'; exact q'
          | ex c h5 => rw [ec] at q'; exact q'.elim
          | ok bb h5 =>
            rw [ec] at q'
            intro ι5 H5 b5 g5 S5 r5
            subst r5
            have g35 := g3.trans g5
            have hD5 : H5 D = some (.lst ys) := g35.keep D _ nD' hH2
            have eι : ι5 = Ix.hide ⟨ι5.refs, ι'.priv⟩ D := by
              have := g5.priv
              cases ι5
              simp only at this
              subst this
              rfl
            have nD5 : D ∉ ι5.refs := g35.outR nD' hH2
            have gG5 : Grow ι1 H1 ⟨ι5.refs, ι'.priv⟩ H5 := by
              obtain ⟨n, en1, hn⟩ := g'.pre
              obtain ⟨k, ek, hk⟩ := g35.pre
              refine ⟨⟨n ++ k, ?_, fun a ha => ?_⟩, g'.priv, fun a o na ea => ?_, fun a ha => ?_⟩
              · show ι5.refs = _; rw [ek]; show ι'.refs ++ k = _; rw [en1]; simp
              · rcases List.mem_append.mp ha with z | z
                · exact hn a z
                · have z2 := hk a z
                  by_cases hr : a ∈ ι1.refs
                  · exact absurd z2 (g'.live a (List.mem_append_left _ hr))
                  · cases e9 : H1 a with
                    | none => rfl
                    | some o => rw [g'.keep a o hr e9] at z2; cases z2
              · exact g35.keep a o (g'.outR na ea) (g'.keep a o na ea)
              · have : a ∈ (ι'.hide D).all := by
                  rcases List.mem_append.mp ha with z | z
                  · exact List.mem_append_left _ (by show a ∈ ι'.refs; rw [en1]; exact List.mem_append_left _ z)
                  · exact List.mem_append_right _ (List.mem_cons_of_mem _ (by rw [g'.priv]; exact z))
                exact g35.live a this
            have x5 : Ext ι1 H1 (Ix.hide ⟨ι5.refs, ι'.priv⟩ D) H5 := eι ▸ x'.trans g35.ext
            have er5 := er3.mono g5
            have rv5 := (rv'.mono g35)
            cases bb with
            | false =>
              rw [if_neg Bool.false_ne_true]
              refine ⟨xs.length - (i + 1), by omega, rfl, hl, hD5, ⟨ι5.refs, ι'.priv⟩, h5, vs, gG5, x5, eι ▸ S5, eι ▸ er5, eι ▸ rv5, nD5, q'⟩
            | true =>
              rw [if_pos rfl]
              refine ⟨ι5, h5, _, S5, (ER.comp er3 r3).mono g5, ?_⟩
              dsimp only at q'
              cases ee : ce (some xs[i] :: (jf.map (·.1)).map fun j => (en[j]?).join) h5 with
              | bad => rw [ee] at q'; exact q'
              | ex c h6 => rw [ee] at q'; exact q'.elim
              | ok v h6 =>
                rw [ee] at q'
                intro ι6 H6 u6 g6 S6 r6
                have g56 := g6
                have hD6 : H6 D = some (.lst ys) := g56.keep D _ nD5 hD5
                have eι6 : ι6 = Ix.hide ⟨ι6.refs, ι'.priv⟩ D := by
                  have h1 := g6.priv
                  have h2 := g5.priv
                  rw [h2] at h1
                  cases ι6
                  simp only at h1
                  subst h1
                  rfl
                have nD6 : D ∉ ι6.refs := g56.outR nD5 hD5
                have gG6 : Grow ι1 H1 ⟨ι6.refs, ι'.priv⟩ (upd H6 D (.lst (ys ++ [u6]))) := by
                  obtain ⟨n, en1, hn⟩ := gG5.pre
                  obtain ⟨k, ek, hk⟩ := g56.pre
                  have hD1 : ∀ a o, H1 a = some o → a ≠ D := fun a o ea => ne_of_none ea hD
                  refine ⟨⟨n ++ k, ?_, fun a ha => ?_⟩, g'.priv, fun a o na ea => ?_, fun a ha => ?_⟩
                  · show ι6.refs = _; rw [ek]; have z : ι5.refs = ι1.refs ++ n := en1; rw [z]; simp
                  · rcases List.mem_append.mp ha with z | z
                    · exact hn a z
                    · have z2 := hk a z
                      by_cases hr : a ∈ ι1.refs
                      · exact absurd z2 (gG5.live a (List.mem_append_left _ hr))
                      · cases e9 : H1 a with
                        | none => rfl
                        | some o => rw [gG5.keep a o hr e9] at z2; cases z2
                  · rw [upd_ne (hD1 a o ea)]
                    exact g56.keep a o (gG5.outR na ea) (gG5.keep a o na ea)
                  · by_cases zD : a = D
                    · subst zD; rw [upd_same]; simp
                    · rw [upd_ne zD]
                      have : a ∈ ι5.all := by
                        rcases List.mem_append.mp ha with z | z
                        · exact List.mem_append_left _ (by have z' : ι5.refs = ι1.refs ++ n := en1; rw [z']; exact List.mem_append_left _ z)
                        · rw [eι]; exact List.mem_append_right _ (List.mem_cons_of_mem _ (by show a ∈ ι'.priv; rw [g'.priv]; exact z))
                      exact g56.live a this
                refine ⟨hD6, xs.length - (i + 1), by omega, rfl, hl, upd_same, ⟨ι6.refs, ι'.priv⟩, h6, vs ++ [v], gG6, ?_, ?_, ?_, ?_, nD6, q'⟩
                · exact (eι6 ▸ (x'.trans (g35.ext.trans g6.ext))).trans Ext.poke
                · exact Sim.poke (eι6 ▸ S6) nD6
                · exact ER.ext (eι6 ▸ er5.mono g6) Ext.poke
                · have : RVs T ι6 H6 (vs ++ [v]) (ys ++ [u6]) := (rv5.mono g6).append (.cons r6 .nil)
                  exact RVs.ext Ext.poke (eι6 ▸ this)
        · rw [if_neg hs] at q'; exact q'.elim
      · have ei : i = xs.length := by omega
        subst ei
        rw [List.drop_length] at q'
        unfold sCompGo at q'
        by_cases hs : liveB w xs h' = true
        · rw [if_pos hs] at q'
          have hp : D ∉ ι'.priv := fun z => by rw [g'.priv] at z; exact S1.plive D z hD
          refine .inl ⟨IR.stop _ _ h' H2 x' S' hs (Nat.le_refl _), q' ι' H2 D ys (g1.trans g') S' rv' hH2 (fun z => (List.mem_append.mp z).elim nD' hp) fun n en1 a ha => ?_⟩
          obtain ⟨k, ek, hk⟩ := (g1.trans g').pre
          have : n = k := List.append_cancel_left (en1.symm.trans ek)
          subst this
          rcases List.mem_append.mp ha with z | z
          · exact hk a z
          · have z' : a = D := by simpa using z
            subst z'
            cases e9 : H a with
            | none => rfl
            | some o =>
              by_cases hr : a ∈ ι.refs
              · have z1 : a ∈ ι1.refs := by
                  obtain ⟨k1, ek1, _⟩ := g1.pre
                  rw [ek1]; exact List.mem_append_left _ hr
                exact absurd hD (S1.live a (List.mem_append_left _ z1))
              · rw [g1.keep a o hr e9] at hD; cases hD
        · rw [if_neg hs] at q'; exact q'.elim
end
end Sm

namespace Sm
open PySem PySem.Spec L2
section
variable {T : Tb} {E : St → XK} {X : Cx} {pos px : Pos} {iter elt : Expr} {ifs : List Expr} {scope : Scope} {x₁ : Str} {jf : List (Nat × Str)} {it : SI} {cc : SB} {ce : SE}
theorem comp_fl {σ : St} {H : Hp} {Q : VK} (q : tE T E (sComp (jf.map (·.1)) it cc ce) σ H Q) : tComp jf (tI T it) (tT T EN cc) (tE T EN ce) σ H Q := by
  obtain ⟨ι, h, en, S, er, q⟩ := q
  refine comp_go S er ?_
  unfold sComp at q
  cases e : it en h with
  | bad => rw [e] at q; exact q
  | ex c h1 => rw [e] at q; exact q.elim
  | ok p h1 =>
    obtain ⟨xs, w⟩ := p
    rw [e] at q
    dsimp only at q ⊢
    cases e2 : sCompGo (jf.map (·.1)) en w xs cc ce xs [] h1 with
    | bad => rw [e2] at q; exact q
    | ex c h1 => rw [e2] at q; exact q.elim
    | ok ys h2 =>
      rw [e2] at q
      exact fun ι' H' D vs g S' r hD nD _ => q ι' H' _ g S'.show (.fl nD (.inl hD) (r.ext Ext.show))
theorem rts_nil : PTs X [] (tT T E sYes) := fun pins s σ H Q I ⟨ι, h, en, S, er, q⟩ => pts_nil pins s σ H Q I (q.now S rfl)
structure CompOk (X : Cx) (x₁ : Str) (jf : List (Nat × Str)) (scope : Scope) : Prop where
  hN : (x₁ :: jf.map (·.2)).Nodup
  hx : scope.names.lookup x₁ = some .local
  hjf : ∀ p ∈ jf, X.N[p.1]? = some p.2
  hjl : ∀ p ∈ jf, scope.names.lookup p.2 = some .free
  hkind : scope.kind = .function
  hcell : ∀ y ∈ scope.names, y.2 ≠ .cell
  hfr : ∀ y ∈ scope.names, y.2 = .free → X.env.kindOf y.1 = some .cell ∨ X.env.kindOf y.1 = some .free
  hnames : ∀ y ∈ scope.names, y.2 = .local → scope.names.lookup y.1 = some .local
theorem r_comp (C : CompOk X x₁ jf scope) (hcalm : X.calm = true) (hi : PIA T X (.Name x₁ px) iter it) (hc : ∀ pins cl s H fp, PTs (cxComp X pins x₁ jf scope cl s H fp) ifs (tT T EN cc)) (he : ∀ pins cl s H fp, PEA T EN (cxComp X pins x₁ jf scope cl s H fp) elt ce)
    (hs : ∀ x, foldedSetIterable iter X.env x = pure x := by intro _; rfl) : PEA T E X (.ListComp elt [⟨.Name x₁ px, iter, ifs, 0⟩] scope pos) (sComp (jf.map (·.1)) it cc ce) :=
  PE_imp (pe_comp hcalm hi hc he C.hN C.hx C.hjf C.hjl C.hkind C.hcell C.hfr C.hnames hs) fun _ _ _ q => comp_fl q
end
noncomputable def spA (T : Tb) (F : Fn) : Sp := fun vs H Q E => ∃ ι h args, Sim T ι h H ∧ RVs T ι H args vs ∧ Post T ι H E (RV T) (F args h) Q
noncomputable def Arity (F : Fn) (n : Nat) : Prop := ∀ args h, args.length ≠ n → F args h = .bad
theorem mkFn_arity (n m : Nat) (b : SS) : Arity (mkFn n m b) n := fun args h hl => by
  unfold mkFn
  rw [if_neg hl]
theorem okA {P : Program} {w : World} {K : PySem.W.Frag} {mg : Str → Option Value} {base : Heap} {T : Tb} {x qual : Str} {st : Stmt} {f : Addr} {fd : FuncData} {N ps : List Str} {k : Nat} {b : SS} (F : Fun K x qual st f fd) (hK : K = T.K) (S : FnScope N ps (defScope st))
    (hbody : ∀ (cdv : Value) (A : Around) (outer : List Env) (s : Shared) (H : Hp) (E : XK), Room k (A.deeper (PyProof.Rows.envOfC qual (defScope st) s.heap.objs.size f cdv)) → CA T (fun _ => E) (cxOf (CXE P w) P w K mg base N qual (defScope st) f cdv A outer s H E) →
      PSsA T (fun _ => E) (cxOf (CXE P w) P w K mg base N qual (defScope st) f cdv A outer s H E) (defBody st) b) : FnOk P w K mg base (CXE P w) (k + 1) f fd ps (spA T (mkFn ps.length N.length b)) := by
  refine F.okE S (fun vs H Q E h => ?_) (fun cdv A outer s H vs Q E hr h => ?_)
  · obtain ⟨ι, h, args, _, r, q⟩ := h
    by_cases hl : args.length = ps.length
    · rw [← hl, r.length]
    · rw [mkFn_arity _ _ _ args h hl] at q; exact q.elim
  · obtain ⟨ι, h, args, Si, r, q⟩ := h
    refine ⟨_, hbody cdv A outer s H E hr ⟨hK, passesE⟩, ι, h, args.map some ++ List.replicate (N.length - ps.length) none, Si, ?_, ?_⟩
    · by_cases hl : args.length = ps.length
      · refine ⟨by simp [L2.start, r.length, ← hl], fun i v e => ?_⟩
        unfold L2.start
        by_cases hi : i < args.length
        · rw [List.getElem?_append_left (by simpa using hi), List.getElem?_map] at e
          rw [List.getElem?_append_left (by simpa [← r.length] using hi), List.getElem?_map]
          obtain ⟨x, e1, e2⟩ := Option.map_eq_some_iff.mp e
          cases e2
          obtain ⟨u, e3, r3⟩ := r.get e1
          exact ⟨u, by rw [e3]; rfl, r3⟩
        · rw [List.getElem?_append_right (by simpa using hi), List.getElem?_replicate] at e
          split at e
          · cases e
          · cases e
      · rw [mkFn_arity _ _ _ args h hl] at q; exact q.elim
    · unfold mkFn at q
      split at q
      · split at q
        · rename_i e1 h1 he
          rw [he]
          exact fun ι' H' σ' g S' er => q ι' H' _ g S' .non
        · rename_i v h1 he
          rw [he]
          exact q
        · rename_i c e1 h1 he
          rw [he]
          exact fun ι' H' σ' C g S' er ec => q ι' H' C g S' ec
        · exact q.elim
      · exact q.elim
structure GF (P : Program) (w : World) (T : Tb) (mg : Str → Option Value) (base : Heap) (k : Nat) (x : Str) (F : Fn) : Prop where
  ex : ∃ f fd ps, mg x = some (.ref f) ∧ PySem.W.keepIn T.K (.ref f) = true ∧ Binds T.K fd ps [] ∧ FnOk P w T.K mg base (CXE P w) k f fd ps (spA T F)
structure GM (P : Program) (w : World) (T : Tb) (mg : Str → Option Value) (base : Heap) (k : Nat) (c : Nat) (m : Str) (F : Fn) : Prop where
  ex : ∃ C f fd ps, T.cls c = some C ∧ Cls T.K C ∧ Meth T.K C m f ∧ Binds T.K fd ps [] ∧ FnOk P w T.K mg base (CXE P w) k f fd ps (spA T F)
  no : m ∉ T.fields c
section
variable {T : Tb} {E : St → XK} {X : Cx} {pos p apos : Pos} {e o a : Expr} {es : List Expr} {x m : Str} {F : Fn} {k c : Nat} {as : SL} {so sa : SE}
theorem r_call (hK : X.K = T.K) (C : CA T E X) (G : GF X.prog X.w T X.mg X.base k x F) (hr : Room k X.A) (hg : Gl X x) (ha : PAA T E X (e :: es) as) (hdb : (x == ("__debug__" : Str)) = false := by decide)
    (he : starEach (e :: es) X.env = (false, eval e X.env) :: starEach es X.env := by rfl) (hpl : (backTo pos (starEach es X.env)).any (·.1) = false := by rfl) : PEA T E X (.Call (.Name x p) (e :: es) [] pos) (sAppl F as) := by
  obtain ⟨f, fd, ps, h1, h2, h3, h4⟩ := G.ex
  refine PE_imp (pe_callS (Ex := E) (dvs := []) (hK ▸ h4) hr hg h1 (hK ▸ h2) (hK ▸ h3) .nil C.pass ha hdb he hpl) fun σ H Q ⟨ι, h, en, S, er, q⟩ => ⟨ι, h, en, S, er, q.bind fun xs h1 ι1 H1 us g1 S1 r1 q1 => ?_⟩
  rw [List.append_nil]
  exact ⟨ι1, h1, xs, S1, r1, q1⟩
theorem meth_go {C : Addr} {σ : St} {H : Hp} {Q : VK} (hc : T.cls c = some C) (no : m ∉ T.fields c) (q : tE T E (sMeth c F so as) σ H Q) : tMethS C m (spA T F) [] E (tE T E so) (tA T E as) σ H Q := by
  obtain ⟨ι, h, en, S, er, q⟩ := q
  refine ⟨ι, h, en, S, er, q.bind fun x h1 ι1 H1 u g1 S1 r1 q1 => ?_⟩
  split at q1
  · rename_i n
    split at q1
    · rename_i c' fs hn
      split at q1
      · rename_i ec
        subst ec
        cases r1 with
        | @ref _ a hr =>
          obtain ⟨o, e1, C', dx, fus, hC, rfl, nd, hw, hl, _⟩ := S1.obj n _ a hn hr
          rw [hc] at hC; cases hC
          refine ⟨a, dx, fus, rfl, e1, ?_, ι1, h1, en, S1, er.mono g1, q1.bind fun xs h2 ι2 H2 us g2 S2 r2 q2 => ?_⟩
          · cases e : fus.lookup m with
            | none => rfl
            | some v =>
              have := PySem.mem_of_lookup e
              exact absurd (hw _ this) no
          · rw [List.append_nil]
            exact ⟨ι2, h2, .ref n :: xs, S2, .cons (.ref (g2.at hr)) r2, q2⟩
      · exact q1.elim
    · exact q1.elim
  · exact q1.elim
theorem r_meth {pl : Sem Bool} (hK : X.K = T.K) (CC : CA T E X) (G : GM X.prog X.w T X.mg X.base k c m F) (hr : Room k X.A) (ho : PEA T E X o so) (ha : PAA T E X (e :: es) as)
    (hst : starEach (e :: es) X.env = (false, eval e X.env) :: starEach es X.env := by rfl) (hpl : (backTo pos (starEach es X.env)).any (·.1) = false := by rfl)
    (ht : eval (.Call (.Attribute o m apos) (e :: es) [] pos) X.env = (do
      let ov ← eval o X.env
      standAt apos.atName
      let (f, first) ← holding [ov] (getMethod ov m pl)
      callWith pos f first (backTo pos (starEach (e :: es) X.env)) (backToKw pos (keywordEach [] X.env))) := by rfl) : PEA T E X (.Call (.Attribute o m apos) (e :: es) [] pos) (sMeth c F so as) := by
  obtain ⟨C, f, fd, ps, h1, h2, h3, h4, h5⟩ := G.ex
  exact PE_imp (pe_methS (Ex := E) (dvs := []) (pl := pl) ho (hK ▸ h2) (hK ▸ h3) (hK ▸ h5) hr (hK ▸ h4) .nil CC.pass ha hst hpl ht) fun σ H Q q => meth_go h1 G.no q
structure CF (T : Tb) (c : Nat) : Prop where
  ex : ∃ C, T.cls c = some C ∧ Cls T.K C ∧ ∀ f ∈ T.fields c, NoAttr T.K C f
structure GK (P : Program) (w : World) (T : Tb) (mg : Str → Option Value) (base : Heap) (k : Nat) (c : Nat) (x : Str) (F : Fn) : Prop where
  ex : ∃ C f fd ps, T.cls c = some C ∧ mg x = some (.ref C) ∧ Mk T.K C f ∧ Binds T.K fd ps [] ∧ FnOk P w T.K mg base (CXE P w) k f fd ps (spA T F)
theorem run_makeS {CX : CXT} {C f : Addr} {fd : FuncData} {ps : List Str} {sp : Sp} {dvs : List V} {ds : List Value} {pins : List (Addr × Obj)} {σ : St} {H : Hp} {s : Shared} {Q : VK} {us : List Value} {vs : List V} (M : Mk X.K C f) (F : FnOk X.prog X.w X.K X.mg X.base CX k f fd ps sp) (hr : Room (k + 1) X.A) (hb : Binds X.K fd ps ds) (hd : Vals dvs ds)
    (hx : PassesS CX X E) (I : L2.Inv X pins σ H s) (r : Vals vs us)
    (h : ∀ x dx, H x = none → H dx = none → dx ≠ x → sp (.ref x :: (vs ++ dvs)) (upd (upd H dx (.own x)) x (.ins C dx [])) (fun v H2 => v = .non ∧ Q (.ref x) H2) (E σ)) :
    wpAny (model X.prog X.w) X.A (call (.ref C) us) (EP X pins σ Q) X.xe s := by
  have hq := h (s.heap.objs.size + 1) s.heap.objs.size (I.hok.fresh (Nat.le_succ _)) (I.hok.fresh (Nat.le_refl _)) (Nat.ne_of_lt (Nat.lt_succ_self _))
  have I2 := Inv.made (C := C) I
  have r2 : Vals (V.ref (s.heap.objs.size + 1) :: (vs ++ dvs)) (Value.ref (s.heap.objs.size + 1) :: (us ++ ds)) := .cons rfl (r.append hd)
  have hl : (Value.ref (s.heap.objs.size + 1) :: us ++ ds).length = ps.length := by
    have e := r2.length
    rw [F.len _ _ _ _ hq] at e
    exact e.symm
  refine wpAny_call (make_map (f := f) I.kIn M.makes M.init (beq_iff_eq.mp M.fn) (codeAny_mono (F.run _ X.stack _ _ ⟨Value.ref (s.heap.objs.size + 1) :: us, []⟩ (Value.ref (s.heap.objs.size + 1) :: (us ++ ds)) _ _ (E σ) (hr.make C us [])
    (I2.env0.make C us []) (hb _ (Value.ref (s.heap.objs.size + 1) :: us) I2.kIn hl) r2 hq) fun r s' hq' => ?_))
  cases r with
  | error e => exact hx pins σ _ _ e s' I2 hq'
  | ok fl =>
    cases fl with
    | ret u =>
      obtain ⟨v, H', I3, rv, ev, q3⟩ := I2.after hq'
      subst ev
      exact ⟨rv, ⟨V.ref (s.heap.objs.size + 1), H', I3, rfl, q3⟩⟩
    | next => exact False.elim hq'
    | brk => exact False.elim hq'
    | cont => exact False.elim hq'
theorem make_go {C : Addr} {xs : List AV} {us : List V} {H : Hp} {Q : VK} {ι : Ix} {h : AH} {E : XK} {n : Nat} (hc : T.cls c = some C) (hn : (T.fields c).length = n) (S : Sim T ι h H) (r : RVs T ι H xs us)
    (q : Post T ι H E (RV T) (match F (.ref h.length :: xs) (h ++ [.ins c (List.replicate n none)]) with | .ok .non h2 => Out.ok (AV.ref h.length) h2 | .ex c h2 => .ex c h2 | _ => .bad) Q) :
    ∀ x dx, H x = none → H dx = none → dx ≠ x → spA T F (.ref x :: us) (upd (upd H dx (.own x)) x (.ins C dx [])) (fun v H2 => v = .non ∧ Q (.ref x) H2) E := by
  intro x dx nx ndx ne
  have nx' : (upd H dx (.own x)) x = none := by rw [upd_ne (Ne.symm ne)]; exact nx
  have S1 := S.new (o := .own x) ndx
  have g1 := S.growNew (o := .own x) ndx
  have g2 := S1.growAdd (u := .ins C dx []) nx'
  have S2 : Sim T (ι.add x) (h ++ [.ins c (List.replicate n none)]) (upd (upd H dx (.own x)) x (.ins C dx [])) := S1.add nx' ⟨C, dx, [], hc, rfl, by simp, by simp, by simp [hn], fun i v e => by
    rw [List.getElem?_replicate] at e
    split at e
    · cases e
    · cases e⟩
  refine ⟨ι.add x, _, .ref h.length :: xs, S2, .cons (.ref S.addAt) (r.mono (g1.trans g2)), ?_⟩
  have q2 := q.shift (g1.trans g2)
  cases e : F (.ref h.length :: xs) (h ++ [.ins c (List.replicate n none)]) with
  | bad => rw [e] at q2; exact q2
  | ex c' h2 => rw [e] at q2; exact q2
  | ok v h2 =>
    rw [e] at q2
    cases v with
    | non => exact fun ι' H' u g S' r' => ⟨non_rd r', q2 ι' H' _ g S' (.ref (g.at S.addAt))⟩
    | _ => exact (show False from q2).elim
theorem r_make0 {n : Nat} (hK : X.K = T.K) (CC : CA T E X) (G : GK X.prog X.w T X.mg X.base k c x F) (hr : Room (k + 1) X.A) (hg : Gl X x) (hn : (T.fields c).length = n := by rfl) (hdb : (x == ("__debug__" : Str)) = false := by decide) : PEA T E X (.Call (.Name x p) [] [] pos) (sMake c n F sNil) := by
  obtain ⟨C, f, fd, ps, h1, h2, h3, h4, h5⟩ := G.ex
  intro pins s σ H Q I ⟨ι, h, en, S, er, q⟩
  refine wpAny_Call_Name_kw (ld_glob I hg h2 ?_ hdb)
  have M : Mk X.K C f := hK ▸ h3
  exact PySem.W.callWith_K0 I.kIn M.kp (run_makeS (us := []) (vs := []) (dvs := []) M (hK ▸ h5) hr (hK ▸ h4) .nil CC.pass I .nil (make_go h1 hn S .nil q))
theorem r_fld {i : Nat} {f : Str} (hK : X.K = T.K) (CFc : CF T c) (ho : PEA T E X o so) (hf : (T.fields c)[i]? = some f := by rfl) (hb : attributeBase o f X.env (eval o X.env) = eval o X.env := by rfl) : PEA T E X (.Attribute o f pos) (Sm.sFld c i so) := by
  obtain ⟨C, hC, hcl, hna⟩ := CFc.ex
  refine PE_imp (pe_fld ho hb) fun σ H Q ⟨ι, h, en, S, er, q⟩ => ⟨ι, h, en, S, er, q.bind fun x h1 ι1 H1 u g1 S1 r1 q1 => ?_⟩
  split at q1
  · rename_i n
    split at q1
    · rename_i c' fs hn
      split at q1
      · rename_i ec
        subst ec
        split at q1
        · rename_i v hv
          cases r1 with
          | @ref _ a hr =>
            obtain ⟨o, e1, C', dx, fus, hC', rfl, nd, hw, hl, hr2⟩ := S1.obj n _ a hn hr
            rw [hC] at hC'; cases hC'
            obtain ⟨f', u, e2, e3, r3⟩ := hr2 i v hv
            rw [hf] at e2; cases e2
            exact ⟨a, _, dx, fus, u, rfl, e1, hK ▸ hcl, hK ▸ hna f (List.mem_of_getElem? hf), e3, q1.now S1 r3⟩
        · exact q1.elim
      · exact q1.elim
    · exact q1.elim
  · exact q1.elim
theorem putF_keys (f : Str) (v : V) : ∀ {fs : List (Str × V)}, (fs.map (·.1)).Nodup → ((putF f v fs).map (·.1)).Nodup ∧ ∀ g, g ∈ (putF f v fs).map (·.1) → g = f ∨ g ∈ fs.map (·.1)
  | [], _ => by simp [putF]
  | (g, x) :: r, n => by
    obtain ⟨n1, n2⟩ := List.nodup_cons.mp (show (g :: r.map (·.1)).Nodup from n)
    unfold putF
    split
    · rename_i e
      subst e
      exact ⟨n, fun k hk => .inr hk⟩
    · rename_i e
      obtain ⟨h1, h2⟩ := putF_keys f v (fs := r) n2
      refine ⟨List.nodup_cons.mpr ⟨fun z => ?_, h1⟩, fun k hk => ?_⟩
      · rcases h2 g z with z | z
        · exact e z
        · exact n1 z
      · rcases List.mem_cons.mp hk with z | z
        · exact .inr (by rw [z]; simp)
        · rcases h2 k z with z | z
          · exact .inl z
          · exact .inr (List.mem_cons_of_mem _ z)
theorem nodup_le : ∀ {l m : List Str}, l.Nodup → (∀ x ∈ l, x ∈ m) → l.length ≤ m.length
  | [], m, _, _ => Nat.zero_le _
  | x :: l, m, n, h => by
    obtain ⟨n1, n2⟩ := List.nodup_cons.mp n
    have hx := h x (by simp)
    have := nodup_le (l := l) (m := m.erase x) n2 fun y hy => by
      have ne : y ≠ x := fun z => n1 (z ▸ hy)
      exact (List.mem_erase_of_ne ne).mpr (h y (by simp [hy]))
    rw [List.length_erase_of_mem hx] at this
    have : 0 < m.length := List.length_pos_of_mem hx
    simp only [List.length_cons]
    omega
theorem r_setFld {i : Nat} {f : Str} {p' : Pos} (hK : X.K = T.K) (CFc : CF T c) (ho : PEA T E X o so) (ha : PEA T E X a sa) (hf : (T.fields c)[i]? = some f := by rfl) (hs : swapsWith a (some (.Attribute o f p')) pos.line X.env = pure false := by rfl) :
    PSA T E X (.Assign [.Attribute o f p'] a pos) (sSetFld c i so sa) := by
  obtain ⟨C, hC, hcl, hna⟩ := CFc.ex
  refine PS_imp (ps_fld ho ha hs) fun D σ H ⟨ι, h, en, S, er, q⟩ => ⟨ι, h, en, S, er, q.go er fun y h1 ι1 H1 v g1 S1 r1 q1 => ⟨ι1, h1, en, S1, er.mono g1, q1.go (er.mono g1) fun x h2 ι2 H2 u g2 S2 r2 q2 => ?_⟩⟩
  split at q2
  · rename_i n
    split at q2
    · rename_i c' fs hn
      split at q2
      · rename_i ec
        subst ec
        cases r2 with
        | @ref _ a hr =>
          obtain ⟨o, e1, C', dx, fus, hC', rfl, nd, hw, hl, hr2⟩ := S2.obj n _ a hn hr
          rw [hC] at hC'; cases hC'
          have hmem : f ∈ T.fields c' := List.mem_of_getElem? hf
          have hlen : fus.length < 1000 := by
            have := nodup_le nd (m := T.fields c') (fun x hx => by
              obtain ⟨p, hp, rfl⟩ := List.mem_map.mp hx
              exact hw p hp)
            have := T.few c'
            rw [List.length_map] at *
            omega
          obtain ⟨k1, k2⟩ := putF_keys f v nd
          have g3 := S2.growSet (u := .ins C dx (putF f v fus)) hr
          refine ⟨a, C, dx, fus, rfl, e1, hK ▸ hcl, hK ▸ hna f hmem, hlen, q2 ι2 _ σ g3 (S2.set hr ⟨C, dx, putF f v fus, hC, rfl, k1, fun p hp => ?_, by simp [hl], fun j w hj => ?_⟩) (er.mono (g1.trans (g2.trans g3)))⟩
          · rcases k2 p.1 (List.mem_map.mpr ⟨p, hp, rfl⟩) with z | z
            · rw [z]; exact hmem
            · obtain ⟨p', hp', e⟩ := List.mem_map.mp z
              rw [← e]; exact hw p' hp'
          · by_cases hji : j = i
            · subst hji
              have hjl : j < fs.length := by
                have := (List.getElem?_eq_some_iff.mp hj).1
                simpa using this
              rw [List.getElem?_set_self hjl] at hj
              cases hj
              exact ⟨f, v, hf, by rw [lookup_putF, if_pos rfl], r1.mono (g2.trans g3)⟩
            · rw [List.getElem?_set_ne (Ne.symm hji)] at hj
              obtain ⟨f', u, e2, e3, r3⟩ := hr2 j w hj
              have ne : f' ≠ f := fun z => hji (nodup_ix (T.nd c') e2 (z ▸ hf))
              exact ⟨f', u, e2, by rw [lookup_putF, if_neg ne]; exact e3, r3.mono g3⟩
      · exact (show False from q2).elim
    · exact (show False from q2).elim
  · exact (show False from q2).elim
end
end Sm

namespace Sm
open PySem PySem.Spec L2
theorem kA_kV {T : Tb} {ι : Ix} {H : Hp} {k : Key} {u : V} (r : RV T ι H (kA k) u) : u = kV k := by
  cases k with
  | inl i => exact int_rd r
  | inr x => exact (str_rd r).1
theorem kA_inj {k j : Key} (e : kA k = kA j) : k = j := by
  cases k <;> cases j <;> simp [kA] at e <;> simp [e]
theorem kAs_inj : ∀ {ks js : List Key}, ks.map kA = js.map kA → ks = js
  | [], [], _ => rfl
  | [], _ :: _, e => by simp at e
  | _ :: _, [], e => by simp at e
  | k :: ks, j :: js, e => by
    simp only [List.map_cons, List.cons.injEq] at e
    rw [kA_inj e.1, kAs_inj e.2]
theorem kAs_kV {T : Tb} {ι : Ix} {H : Hp} : ∀ {ks : List Key} {us : List V}, RVs T ι H (ks.map kA) us → us = ks.map kV
  | [], _, .nil => rfl
  | k :: ks, _, .cons r rs => by rw [kA_kV r, kAs_kV rs]; rfl
theorem keyOf_some {v : AV} {k : Key} (e : keyOf? v = some k) : v = kA k := by
  unfold keyOf? at e
  split at e <;> cases e <;> rfl
theorem keysOf_some : ∀ {vs : List AV} {ks : List Key}, keysOf? vs = some ks → vs = ks.map kA
  | [], _, e => by cases e; rfl
  | v :: vs, ks, e => by
    unfold keysOf? at e
    split at e
    · rename_i k ks' e1 e2
      cases e
      rw [keyOf_some e1, keysOf_some e2]; rfl
    · cases e
theorem val_of {κ : Type} [DecidableEq κ] {T : Tb} {ι : Ix} {H : Hp} {f : κ → AV} (hf : ∀ {a b}, f a = f b → a = b) {k : κ} : ∀ {kvs : List (AV × AV)} {kus : List (κ × V)}, Paired (fun (p : AV × AV) (q : κ × V) => p.1 = f q.1 ∧ RV T ι H p.2 q.2) kvs kus →
    (valA kvs (f k) = none ∧ valV kus k = none) ∨ ∃ v u, valA kvs (f k) = some v ∧ valV kus k = some u ∧ RV T ι H v u
  | _, _, .nil => .inl ⟨rfl, rfl⟩
  | (a, v) :: kvs, (j, u) :: kus, .cons ⟨e, r⟩ rs => by
    by_cases h : j = k
    · subst h
      replace e : a = f j := e
      subst e
      exact .inr ⟨v, u, by simp [valA], valV_pos rfl, r⟩
    · have h' : ¬ a = f k := fun z => h (hf (e.symm.trans z))
      rcases val_of hf rs (k := k) with ⟨h1, h2⟩ | ⟨v', u', h1, h2, h3⟩
      · refine .inl ⟨?_, by rw [valV_neg h]; exact h2⟩
        unfold valA at h1 ⊢
        rw [List.find?_cons, decide_eq_false h']
        exact h1
      · refine .inr ⟨v', u', ?_, by rw [valV_neg h]; exact h2, h3⟩
        unfold valA at h1 ⊢
        rw [List.find?_cons, decide_eq_false h']
        exact h1
theorem any_val {kvs : List (AV × AV)} {k : AV} : (kvs.any fun p => decide (p.1 = k)) = (valA kvs k).isSome := by
  induction kvs with
  | nil => rfl
  | cons p r ih =>
    unfold valA at ih ⊢
    rw [List.any_cons, List.find?_cons, ih]
    cases h : decide (p.1 = k) <;> simp
theorem put_of {κ : Type} [DecidableEq κ] {T : Tb} {ι : Ix} {H : Hp} {f : κ → AV} (hf : ∀ {a b}, f a = f b → a = b) {k : κ} {v : AV} {u : V} (rv : RV T ι H v u) {kvs : List (AV × AV)} {kus : List (κ × V)} (r : Paired (fun (p : AV × AV) (q : κ × V) => p.1 = f q.1 ∧ RV T ι H p.2 q.2) kvs kus) :
    Paired (fun (p : AV × AV) (q : κ × V) => p.1 = f q.1 ∧ RV T ι H p.2 q.2) (putA kvs (f k) v) (putK kus k u) := by
  have e : (kvs.any fun p => decide (p.1 = f k)) = kus.any fun kv => decide (kv.1 = k) := by
    rw [any_val, valV_any]
    rcases val_of hf r (k := k) with ⟨h1, h2⟩ | ⟨v', u', h1, h2, h3⟩
    · rw [h1, h2]; rfl
    · rw [h1, h2]; rfl
  unfold putA putK
  rw [e]
  by_cases h : (kus.any fun kv => decide (kv.1 = k)) = true
  · rw [if_pos h, if_pos h]
    clear e h
    induction r with
    | nil => exact .nil
    | cons p rs ih =>
      rename_i a b l1 l2
      refine .cons ?_ ih
      obtain ⟨e1, r1⟩ := p
      dsimp only
      by_cases hk : b.1 = k
      · rw [if_pos hk, if_pos (by rw [e1, hk])]
        exact ⟨e1, rv⟩
      · rw [if_neg hk, if_neg (fun z => hk (hf (e1.symm.trans z)))]
        exact ⟨e1, r1⟩
  · rw [if_neg h, if_neg h]
    have app : ∀ {l1 : List (AV × AV)} {l2 : List (κ × V)}, Paired (fun (p : AV × AV) (q : κ × V) => p.1 = f q.1 ∧ RV T ι H p.2 q.2) l1 l2 → Paired (fun (p : AV × AV) (q : κ × V) => p.1 = f q.1 ∧ RV T ι H p.2 q.2) (l1 ++ [(f k, v)]) (l2 ++ [(k, u)]) := fun z => by
      induction z with
      | nil => exact .cons ⟨rfl, rv⟩ .nil
      | cons p _ ih => exact .cons p ih
    exact app r
section
variable {T : Tb} {ι : Ix} {h : AH} {H : Hp}
theorem keyT {xs : List AV} {u : V} {ks : List Key} (r : RV T ι H (.tup xs) u) (e : keysOf? xs = some ks) : ∃ b, u = .ref b ∧ KTup H b ks := by
  have := keysOf_some e
  subst this
  cases r with
  | tup n q r => exact ⟨_, rfl, .of (by rw [← kAs_kV r]; exact q)⟩
theorem dget_of {n : Nat} {t : Bool} {kvs : List (AV × AV)} {y : AV} {a : Addr} {w : V} (S : Sim T ι h H) (hn : h[n]? = some (.dct t kvs)) (hr : ι.refs[n]? = some a) (ry : RV T ι H y w) (hk : isKey t y = true) :
    ∃ o, DGet H a w o ∧ ((valA kvs y = none ∧ o = none) ∨ ∃ v u, valA kvs y = some v ∧ o = some u ∧ RV T ι H v u) := by
  obtain ⟨ob, e1, r⟩ := S.obj n _ a hn hr
  cases t with
  | false =>
    obtain ⟨kus, rfl, r⟩ := r
    have hk' : (keyOf? y).isSome = true := hk
    obtain ⟨k, ek⟩ := Option.isSome_iff_exists.mp hk'
    have := keyOf_some ek
    subst this
    rw [kA_kV ry]
    refine ⟨valV kus k, .k e1, ?_⟩
    rcases val_of kA_inj r (k := k) with ⟨h1, h2⟩ | ⟨v', u', h1, h2, h3⟩
    · exact .inl ⟨h1, h2⟩
    · exact .inr ⟨v', u', h1, h2, h3⟩
  | true =>
    obtain ⟨kus, rfl, r⟩ := r
    unfold isKey at hk
    split at hk
    · rename_i hh; cases hh
    · rename_i xs hh
      obtain ⟨ks, ek⟩ := Option.isSome_iff_exists.mp hk
      obtain ⟨b, rfl, hb⟩ := keyT ry ek
      have := keysOf_some ek
      subst this
      refine ⟨valV kus ks, .t e1 hb, ?_⟩
      rcases val_of (f := fun ks : List Key => AV.tup (ks.map kA)) (fun e => kAs_inj (by injection e)) r (k := ks) with ⟨h1, h2⟩ | ⟨v', u', h1, h2, h3⟩
      · exact .inl ⟨h1, h2⟩
      · exact .inr ⟨v', u', h1, h2, h3⟩
    · cases hk
theorem dput_of {n : Nat} {t : Bool} {kvs : List (AV × AV)} {y z : AV} {a : Addr} {w u : V} (S : Sim T ι h H) (hn : h[n]? = some (.dct t kvs)) (hr : ι.refs[n]? = some a) (ry : RV T ι H y w) (rz : RV T ι H z u) (hk : isKey t y = true) (hl : kvs.length < sizeLine) :
    ∃ H', DPut H a w u H' ∧ Grow ι H ι H' ∧ Sim T ι (h.set n (.dct t (putA kvs y z))) H' := by
  obtain ⟨ob, e1, r⟩ := S.obj n _ a hn hr
  cases t with
  | false =>
    obtain ⟨kus, rfl, r⟩ := r
    have hk' : (keyOf? y).isSome = true := hk
    obtain ⟨k, ek⟩ := Option.isSome_iff_exists.mp hk'
    have := keyOf_some ek
    subst this
    rw [kA_kV ry]
    have g := S.growSet (u := .dK (putK kus k u)) hr
    exact ⟨_, .k e1 (by rw [← Paired.length r]; exact hl), g, S.set hr ⟨_, rfl, put_of kA_inj (rz.mono g) (Paired.mapP r fun _ _ ⟨p, q⟩ => ⟨p, q.mono g⟩)⟩⟩
  | true =>
    obtain ⟨kus, rfl, r⟩ := r
    unfold isKey at hk
    split at hk
    · rename_i hh; cases hh
    · rename_i xs hh
      obtain ⟨ks, ek⟩ := Option.isSome_iff_exists.mp hk
      obtain ⟨b, rfl, hb⟩ := keyT ry ek
      have := keysOf_some ek
      subst this
      have g := S.growSet (u := .dT none (putK kus ks u)) hr
      exact ⟨_, .t e1 hb (by rw [← Paired.length r]; exact hl), g, S.set hr ⟨_, rfl, put_of (f := fun ks : List Key => AV.tup (ks.map kA)) (fun e => kAs_inj (by injection e)) (rz.mono g) (Paired.mapP r fun _ _ ⟨p, q⟩ => ⟨p, q.mono g⟩)⟩⟩
    · cases hk
theorem RVs.atI {xs : List AV} {us : List V} {i : Int} {v : AV} (r : RVs T ι H xs us) (e : atI xs i = some v) : ∃ u, L2.atI us i = some u ∧ RV T ι H v u := by
  unfold L2.atI at e ⊢
  rw [← r.length]
  obtain ⟨j, e1, e2⟩ := Option.bind_eq_some_iff.mp e
  obtain ⟨u, e3, r3⟩ := r.get e2
  exact ⟨u, by rw [e1]; exact e3, r3⟩
end
section
variable {T : Tb} {E : St → XK} {X : Cx} {pos : Pos} {a b c : Expr} {sa sb sc : SE}
theorem PE_or {e : Expr} {t t' : TE} (h : PE X e t) (h' : PE X e t') : PE X e (fun σ H Q => t σ H Q ∨ t' σ H Q) := fun pins s σ H Q I q => q.elim (h pins s σ H Q I) (h' pins s σ H Q I)
theorem PS_or {e : Stmt} {t t' : TS} (h : PS X e t) (h' : PS X e t') : PS X e (fun D σ H => t D σ H ∨ t' D σ H) := fun pins s σ H Q I q => q.elim (h pins s σ H Q I) (h' pins s σ H Q I)
theorem r_ix (hK : X.K = T.K) (hu : X.A.units + 64 < cLine) (ha : PEA T E X a sa) (hb : PEA T E X b sb) (hs : PlainIx b := by exact fun _ _ => rfl) : PEA T E X (.Subscript a b pos) (sOp2 fIx sa sb) := by
  refine PE_imp (PE_or (pe_ix ix_seq ha hb hs) (pe_dget (Nat.lt_of_le_of_lt (Nat.add_le_add_left (by decide : 1 ≤ 64) _) hu) ha hb hs)) fun σ H Q q => ?_
  obtain ⟨ι, h, en, S, er, q⟩ := q
  have left : (∀ x h1 y h2, sa en h = .ok x h1 → sb en h1 = .ok y h2 → ∀ n t kvs, x = .ref n → h2[n]? = some (.dct t kvs) → False) → tOp (rIx X.K) (tE T E sa) (tE T E sb) σ H Q := fun no => by
    refine ⟨ι, h, en, S, er, ?_⟩
    unfold sOp2 at q
    cases e1 : sa en h with
    | bad => rw [e1] at q; exact q
    | ex c h1 => rw [e1] at q; exact q
    | ok x h1 =>
      rw [e1] at q
      intro ι1 H1 u g1 S1 r1
      refine ⟨ι1, h1, en, S1, er.mono g1, ?_⟩
      dsimp only [Out.bind] at q
      cases e2 : sb en h1 with
      | bad => rw [e2] at q; exact q
      | ex c h2 => rw [e2] at q; exact Post.shift (R := RV T) (o := .ex c h2) q g1
      | ok y h2 =>
        rw [e2] at q
        intro ι2 H2 w g2 S2 r2
        have q2 := Post.shift q (g1.trans g2)
        have r1' := r1.mono g2
        dsimp only at q2
        unfold fIx at q2
        split at q2
        · rename_i z i
          split at q2
          · rename_i cc hc
            obtain ⟨rfl, zl, zo⟩ := str_rd r1'
            rw [int_rd r2]
            refine .inr (.inr ⟨z, i, cc, rfl, rfl, zl, hc, q2.now S2 (.str (show 1 ≤ sizeLine by decide) ?_)⟩)
            obtain ⟨j, _, e3, _⟩ := atI_get hc
            have m : cc ∈ z.cps := by
              have := List.mem_of_getElem? e3
              simpa using this
            have := Array.all_eq_true_iff_forall_mem.mp zo _ m
            simpa using this
          · exact q2.elim
        · rename_i xs i
          split at q2
          · rename_i v hv
            obtain ⟨b, us, rfl, sq, rs⟩ := tup_rd r1'
            obtain ⟨u2, e3, r3⟩ := rs.atI hv
            rw [int_rd r2]
            exact .inr (.inl ⟨b, us, i, u2, rfl, rfl, hK ▸ sq, e3, q2.now S2 r3⟩)
          · exact q2.elim
        · rename_i xs i
          split at q2
          · rename_i v hv
            obtain ⟨b, us, rfl, sq, rs⟩ := lst_rd S2 r1' rfl
            obtain ⟨u2, e3, r3⟩ := rs.atI hv
            rw [int_rd r2]
            exact .inl ⟨b, us, i, u2, rfl, rfl, hK ▸ sq, e3, q2.now S2 r3⟩
          · exact q2.elim
        · rename_i n
          split at q2
          · rename_i xs hn
            split at q2
            · rename_i i
              split at q2
              · rename_i v hv
                obtain ⟨b, us, rfl, sq, rs⟩ := lst_rd (xs := xs) S2 r1' (by simp [lstOf, hn])
                obtain ⟨u2, e3, r3⟩ := rs.atI hv
                rw [int_rd r2]
                exact .inl ⟨b, us, i, u2, rfl, rfl, hK ▸ sq, e3, q2.now S2 r3⟩
              · exact q2.elim
            · exact q2.elim
          · rename_i t kvs hn
            exact (no _ h1 _ h2 e1 e2 n t kvs rfl hn).elim
          · exact q2.elim
        · exact q2.elim
  by_cases dd : ∃ x h1 y h2, sa en h = .ok x h1 ∧ sb en h1 = .ok y h2 ∧ ∃ n t kvs, x = .ref n ∧ h2[n]? = some (.dct t kvs)
  · obtain ⟨x, h1, y, h2, e1, e2, n, t, kvs, rfl, hn⟩ := dd
    refine .inr ⟨ι, h, en, S, er, ?_⟩
    unfold sOp2 at q
    rw [e1] at q ⊢
    intro ι1 H1 u g1 S1 r1
    refine ⟨ι1, h1, en, S1, er.mono g1, ?_⟩
    dsimp only [Out.bind] at q
    rw [e2] at q ⊢
    intro ι2 H2 w g2 S2 r2
    have q2 := Post.shift q (g1.trans g2)
    have r1' := r1.mono g2
    dsimp only at q2
    unfold fIx at q2
    simp only [hn] at q2
    split at q2
    · rename_i hk
      cases r1' with
      | @ref _ ad hr =>
        obtain ⟨o, dg, alt⟩ := dget_of S2 hn hr r2 hk
        rcases alt with ⟨v1, rfl⟩ | ⟨v, u, v1, rfl, r3⟩
        · rw [v1] at q2; exact q2.elim
        · rw [v1] at q2
          exact ⟨ad, u, rfl, dg, q2.now S2 r3⟩
    · exact q2.elim
  · exact .inl (left fun x h1 y h2 e1 e2 n t kvs e3 e4 => dd ⟨x, h1, y, h2, e1, e2, n, t, kvs, e3, e4⟩)
theorem r_setIx {p' : Pos} (hu : X.A.units + 64 < cLine) (ho : PEA T E X a sa) (hi : PEA T E X b sb) (hv : PEA T E X c sc) (hs : swapsWith c (some (.Subscript a b p')) pos.line X.env = pure false := by rfl) (hs' : swapsWithSole [.Subscript a b p'] c pos.line X.env = pure false := by rfl) (hw : swappedStores [.Subscript a b p'] c X.env = pure none := by rfl)
    (h1 : (assignEach [.Subscript a b p'] X.env).map (·.2) = [assign (.Subscript a b p') X.env] := by rfl)
    (has : ∀ v, assign (.Subscript a b p') X.env v = (do
      let ov ← holding [v] (eval a X.env)
      let iv ← holding [v, ov] (eval b X.env)
      standAt p'
      holding [v, ov, iv] (setItem ov iv v)
      release [v, ov, iv] []) := by intro _; rfl) : PSA T E X (.Assign [.Subscript a b p'] c pos) (sSetIx sa sb sc) := by
  refine PS_imp (PS_or (ps_asg hv (pg_sub ho hi set_list has) hs' hw h1) (ps_dput (Nat.lt_of_le_of_lt (Nat.add_le_add_left (by decide : 1 ≤ 64) _) hu) ho hi hv hs)) fun D σ H q => ?_
  obtain ⟨ι, h, en, S, er, q⟩ := q
  unfold sSetIx at q
  by_cases dd : ∃ z h1 x h2 y h3, sc en h = .ok z h1 ∧ sa en h1 = .ok x h2 ∧ sb en h2 = .ok y h3 ∧ ∃ n t kvs, x = .ref n ∧ h3[n]? = some (.dct t kvs)
  · obtain ⟨z, h1, x, h2, y, h3, e1, e2, e3, n, t, kvs, rfl, hn⟩ := dd
    refine .inr ⟨ι, h, en, S, er, ?_⟩
    rw [e1] at q ⊢
    intro ι1 H1 u g1 S1 r1
    refine ⟨ι1, h1, en, S1, er.mono g1, ?_⟩
    dsimp only [Out.go] at q
    rw [e2] at q ⊢
    intro ι2 H2 w g2 S2 r2
    refine ⟨ι2, h2, en, S2, er.mono (g1.trans g2), ?_⟩
    dsimp only at q
    rw [e3] at q ⊢
    intro ι3 H3 j g3 S3 r3
    have q2 := PostS.shift q (g1.trans (g2.trans g3))
    simp only [hn] at q2
    split at q2
    · rename_i hk
      cases (r2.mono g3) with
      | @ref _ ad hr =>
        obtain ⟨H4, dp, g4, S4⟩ := dput_of S3 hn hr r3 (r1.mono (g2.trans g3)) hk.1 hk.2
        exact ⟨ad, H4, rfl, dp, q2 ι3 H4 σ g4 S4 (er.mono (g1.trans (g2.trans (g3.trans g4))))⟩
    · exact q2.elim
  · refine .inl ⟨ι, h, en, S, er, ?_⟩
    cases e1 : sc en h with
    | bad => rw [e1] at q; exact q
    | ex cc h1 => rw [e1] at q; exact fun i2 H2 C g S e => q i2 H2 σ C g S (er.mono g) e
    | ok z h1 =>
      rw [e1] at q
      intro ι1 H1 u g1 S1 r1
      refine ⟨ι1, h1, en, S1, er.mono g1, ?_⟩
      dsimp only [Out.go] at q
      cases e2 : sa en h1 with
      | bad => rw [e2] at q; exact q
      | ex cc h2 => rw [e2] at q; exact fun i2 H2 C g S e => q i2 H2 σ C (g1.trans g) S (er.mono (g1.trans g)) e
      | ok x h2 =>
        rw [e2] at q
        intro ι2 H2 w g2 S2 r2
        refine ⟨ι2, h2, en, S2, er.mono (g1.trans g2), ?_⟩
        dsimp only at q
        cases e3 : sb en h2 with
        | bad => rw [e3] at q; exact q
        | ex cc h3 => rw [e3] at q; exact fun i2 H2 C g S e => q i2 H2 σ C (g1.trans (g2.trans g)) S (er.mono (g1.trans (g2.trans g))) e
        | ok y h3 =>
          rw [e3] at q
          intro ι3 H3 j g3 S3 r3
          have q2 := PostS.shift q (g1.trans (g2.trans g3))
          dsimp only at q2
          split at q2
          · rename_i n
            split at q2
            · rename_i xs hn
              split at q2
              · rename_i k
                split at q2
                · rename_i jj hj
                  cases (r2.mono g3) with
                  | @ref _ ad hr =>
                    obtain ⟨o, e4, us, rfl, rs⟩ := S3.obj n _ ad hn hr
                    have g4 := S3.growSet (u := .lst (us.set jj u)) hr
                    rw [int_rd r3]
                    exact ⟨ad, us, k, jj, rfl, rfl, e4, by rw [← rs.length]; exact hj, q2 ι3 _ σ g4 (S3.set hr ⟨_, rfl, RVs.set (r1.mono (g2.trans (g3.trans g4))) jj (rs.mono g4)⟩) (er.mono (g1.trans (g2.trans (g3.trans g4))))⟩
                · exact q2.elim
              · exact q2.elim
            · rename_i t kvs hn
              exact (dd ⟨_, h1, _, h2, _, h3, e1, e2, e3, n, t, kvs, rfl, hn⟩).elim
            · exact q2.elim
          · exact q2.elim
theorem in_core {g : Value → Value → Sem Value} {r : R2} {neg : Bool} (hK : X.K = T.K)
    (h1 : ∀ (i j : Str) H Q, Q (V.bl (if neg then !(!(Builtin.Str.occurrences j i 0 j.length 1).isEmpty) else !(Builtin.Str.occurrences j i 0 j.length 1).isEmpty)) H → r (.str i) (.str j) H Q)
    (h2 : ∀ x y H Q p xs d ds, y = V.ref p → SqL T.K H p xs → DaV T.K H x d → DaVs T.K H xs ds → d.canLay0 = true → (∀ e ∈ ds, e.canLay0 = true ∧ e.depth ≤ 30) → Q (V.bl (if neg then !(ds.any fun e => PyData.eqv e d) else ds.any fun e => PyData.eqv e d)) H → r x y H Q)
    (h2t : ∀ x y H Q p xs d ds, y = V.ref p → SqT T.K H p xs → DaV T.K H x d → DaVs T.K H xs ds → d.canLay0 = true → (∀ e ∈ ds, e.canLay0 = true ∧ e.depth ≤ 30) → Q (V.bl (if neg then !(ds.any fun e => PyData.eqv e d) else ds.any fun e => PyData.eqv e d)) H → r x y H Q)
    (h3 : ∀ (y : V) (a : Addr) o H Q, DGet H a y o → Q (V.bl (if neg then !o.isSome else o.isSome)) H → r y (.ref a) H Q) :
    OpS T (fun x y h => match inA x y h with | some b => .ok (.bl (if neg then !b else b)) h | none => .bad) r := by
  intro ι h H x y u w E Q S rx ry p
  dsimp only at p
  cases hb : inA x y h with
  | none => rw [hb] at p; exact p.elim
  | some b =>
    rw [hb] at p
    dsimp only at p
    unfold inA at hb
    split at hb
    · cases hb
      obtain ⟨rfl, _⟩ := str_rd rx
      obtain ⟨rfl, _⟩ := str_rd ry
      exact h1 _ _ _ _ (p.now S (.bl _))
    · rename_i n
      split at hb
      · rename_i t kvs hn
        split at hb
        · rename_i hk
          cases hb
          cases ry with
          | @ref _ ad hr =>
            obtain ⟨o, dg, alt⟩ := dget_of S hn hr rx hk
            refine h3 u ad o H Q dg ?_
            rcases alt with ⟨v1, rfl⟩ | ⟨v, u', v1, rfl, r3⟩
            · rw [v1] at p; exact p.now S (.bl _)
            · rw [v1] at p; exact p.now S (.bl _)
        · cases hb
      · rename_i xs hn
        split at hb
        · rename_i d ds e1 e2
          cases hb
          obtain ⟨a, us, rfl, sq, rs⟩ := lst_rd (xs := xs) S ry (by simp [lstOf, hn])
          obtain ⟨q1, q2, q3⟩ := daV_of S 8 rx e1
          obtain ⟨q4, q5⟩ := daVs_of (n := 8) (fun r e => daV_of S 8 r e) rs e2
          exact h2 _ _ _ _ a us d ds rfl sq q1 q4 q2 (fun e he => ⟨(q5 e he).1, by have := (q5 e he).2; omega⟩) (p.now S (.bl _))
        · cases hb
      · cases hb
    · rename_i xs
      split at hb
      · rename_i d ds e1 e2
        cases hb
        obtain ⟨a, us, rfl, sq, rs⟩ := lst_rd S ry rfl
        obtain ⟨q1, q2, q3⟩ := daV_of S 8 rx e1
        obtain ⟨q4, q5⟩ := daVs_of (n := 8) (fun r e => daV_of S 8 r e) rs e2
        exact h2 _ _ _ _ a us d ds rfl sq q1 q4 q2 (fun e he => ⟨(q5 e he).1, by have := (q5 e he).2; omega⟩) (p.now S (.bl _))
      · cases hb
    · rename_i xs
      split at hb
      · rename_i d ds e1 e2
        cases hb
        obtain ⟨a, us, rfl, sq, rs⟩ := tup_rd ry
        obtain ⟨q1, q2, q3⟩ := daV_of S 8 rx e1
        obtain ⟨q4, q5⟩ := daVs_of (n := 8) (fun r e => daV_of S 8 r e) rs e2
        exact h2t _ _ _ _ a us d ds rfl sq q1 q4 q2 (fun e he => ⟨(q5 e he).1, by have := (q5 e he).2; omega⟩) (p.now S (.bl _))
      · cases hb
    · cases hb
end
end Sm

namespace L2
open PySem PySem.Spec PyProof.Rows
section
variable {X : Cx} {pins : List (Addr × Obj)} {σ : St} {H : Hp} {s : Shared}
theorem items_isD (I : Inv X pins σ H s) (hu : X.A.units + 64 < cLine) {xs : List V} {ds : List PyData} {its : List Value} {d : PyData} {v : Value} {as : List Addr} (ra : Reads s.heap v d as) (hds : DaVs X.K H xs ds) (r : Vals xs its) (cd : d.canLay0 = true) (cds : ∀ e ∈ ds, e.canLay0 = true ∧ e.depth ≤ 30) :
    (∀ y, y ∈ its.toArray → SeqAt.EqAt X.A.in1 s y v (isD s.heap d y)) ∧ its.toArray.any (isD s.heap d) = ds.any fun e => PyData.eqv e d := by
  obtain ⟨hl, hat⟩ := daVs_at I hds r
  constructor
  · intro y hy
    have hy' : y ∈ its := by simpa using hy
    obtain ⟨j, hj⟩ := List.getElem?_of_mem hy'
    have hlt := (List.getElem?_eq_some_iff.mp hj).1
    have hdj : ds[j]? = some (ds[j]'(by omega)) := List.getElem?_eq_getElem (by omega)
    obtain ⟨bs, rb⟩ := hat j _ _ hj hdj
    have cj := cds _ (List.mem_of_getElem? hdj)
    rw [isD_of cj.1 rb]
    exact SeqAt.eqAt_reads _ _ _ _ _ _ _ _ rb ra cj.1 cd (by
      have := Nat.min_le_left (ds[j]'(by omega)).depth d.depth
      show X.A.units + 1 + _ < cLine
      omega)
  · rw [← Array.any_toList]
    refine any_isD hl fun j u e h1 h2 => ?_
    obtain ⟨bs, rb⟩ := hat j _ _ h1 h2
    exact isD_of (cds _ (List.mem_of_getElem? h2)).1 rb
noncomputable def rNotInD (K : PySem.W.Frag) : R2 := fun x y H Q => ∃ p xs d ds, y = .ref p ∧ SqL K H p xs ∧ DaV K H x d ∧ DaVs K H xs ds ∧ d.canLay0 = true ∧ (∀ e ∈ ds, e.canLay0 = true ∧ e.depth ≤ 30) ∧ Q (.bl (!(ds.any fun e => PyData.eqv e d))) H
noncomputable def rNotInDT (K : PySem.W.Frag) : R2 := fun x y H Q => ∃ p xs d ds, y = .ref p ∧ SqT K H p xs ∧ DaV K H x d ∧ DaVs K H xs ds ∧ d.canLay0 = true ∧ (∀ e ∈ ds, e.canLay0 = true ∧ e.depth ≤ 30) ∧ Q (.bl (!(ds.any fun e => PyData.eqv e d))) H
theorem op_notInD (hu : X.A.units + 64 < cLine) : OpR X (compareOp .NotIn) (rNotInD X.K) := by
  intro pins s σ H x y v u Q I rx ry h
  obtain ⟨p, xs, d, ds, rfl, hq, hd, hds, cd, cds, q⟩ := h
  cases ry
  obtain ⟨its, r, pl, hz⟩ := I.list hq
  obtain ⟨as, ra⟩ := hd.reads I rx
  obtain ⟨h1, h2⟩ := items_isD I hu ra hds r cd cds
  exact SeqAt.notIn_listAt (isD s.heap d) pl.isList h1 ⟨.bl _, H, I, rfl, by rw [h2]; exact q⟩
theorem op_notInDT (hu : X.A.units + 64 < cLine) : OpR X (compareOp .NotIn) (rNotInDT X.K) := by
  intro pins s σ H x y v u Q I rx ry h
  obtain ⟨p, xs, d, ds, rfl, hq, hd, hds, cd, cds, q⟩ := h
  cases ry
  obtain ⟨its, r, pl, hz⟩ := I.tuple hq
  obtain ⟨as, ra⟩ := hd.reads I rx
  obtain ⟨h1, h2⟩ := items_isD I hu ra hds r cd cds
  exact SeqAt.notIn_tupleAt (isD s.heap d) pl h1 ⟨.bl _, H, I, rfl, by rw [h2]; exact q⟩
theorem op_notInDict (hu : X.A.units + 64 < cLine) : OpR X (compareOp .NotIn) (fun x y H Q => ∃ a o, y = .ref a ∧ DGet H a x o ∧ Q (.bl (!o.isSome)) H) := by
  intro pins s σ H x y v u Q I rx ry h
  obtain ⟨a, o, rfl, g, q⟩ := h
  cases ry
  exact d_notIn (Nat.lt_of_le_of_lt (Nat.add_le_add_left (by decide : 1 ≤ 64) _) hu) I g rx fun s' I' => ⟨.bl _, H, I', rfl, q⟩
end
end L2
namespace Sm
open PySem PySem.Spec L2
section
variable {T : Tb} {E : St → XK} {X : Cx}
theorem o_notIn (hK : X.K = T.K) (hu : X.A.units + 64 < cLine) : Op T X (compareOp .NotIn) fNotIn := by
  refine ⟨_, op_notIn_str.or ((op_notInD hu).or ((op_notInDT hu).or (op_notInDict hu))), in_core (neg := true) (g := compareOp .NotIn) hK ?_ ?_ ?_ ?_⟩
  · exact fun i j H Q q => .inl ⟨i, j, rfl, rfl, q⟩
  · exact fun x y H Q p xs d ds e1 e2 e3 e4 e5 e6 q => .inr (.inl ⟨p, xs, d, ds, e1, hK ▸ e2, hK ▸ e3, hK ▸ e4, e5, e6, q⟩)
  · exact fun x y H Q p xs d ds e1 e2 e3 e4 e5 e6 q => .inr (.inr (.inl ⟨p, xs, d, ds, e1, hK ▸ e2, hK ▸ e3, hK ▸ e4, e5, e6, q⟩))
  · exact fun y a o H Q g q => .inr (.inr (.inr ⟨a, o, rfl, g, q⟩))
end
end Sm

namespace Sm
open PySem PySem.Spec L2
noncomputable abbrev ErrC (x : Str) (C : Addr) (mg : Str → Option Value) (base : Heap) : Prop := PyProof.Rows.OwnCls x C [.type "ValueError", .type "Exception", .type "BaseException", .type "object"] "ValueError.__new__" mg base
structure GX (T : Tb) (mg : Str → Option Value) (base : Heap) (c : Nat) (x : Str) : Prop where
  ex : ∃ C, T.exc c = some C ∧ ErrC x C mg base
section
variable {T : Tb} {E : St → XK} {X : Cx} {pos np cpos : Pos} {e : Expr} {es : List Expr} {x : Str} {c : Nat} {as : SL}
theorem r_raise (G : GX T X.mg X.base c x) (hr : RaisesS X E) (hg : Gl X x) (ha : PAA T E X (e :: es) as) (hc : X.calm = true := by rfl) (hex : X.ex = [] := by rfl)
    (hdb : (x == ("__debug__" : Str)) = false := by decide) (he : starEach (e :: es) X.env = (false, eval e X.env) :: starEach es X.env := by rfl) (hpl : (backTo cpos (starEach es X.env)).any (·.1) = false := by rfl) :
    PSA T E X (.Raise (some (.Call (.Name x np) (e :: es) [] cpos)) none pos) (sRaise c as) := by
  obtain ⟨C, h1, O⟩ := G.ex
  refine PS_imp (ps_raise O PySem.F.excBase_ValueError hc hex hr hg ha hdb he hpl) fun D σ H ⟨ι, h, en, S, er, q⟩ => ⟨ι, h, en, S, er, q.go er fun xs h1' ι1 H1 us g1 S1 r1 q1 => ?_⟩
  split at q1
  · rename_i hl
    exact ⟨by rw [← r1.length]; exact hl, q1 ι1 H1 σ C S1.refl S1 (er.mono g1) h1⟩
  · exact q1.elim
end
noncomputable def CallS (T : Tb) (f : Fn) (r : List V → Hp → VK → Prop) : Prop := ∀ (ι : Ix) (h : AH) (H : Hp) (xs : List AV) (us : List V) (E : XK) (Q : VK), Sim T ι h H → RVs T ι H xs us → Post T ι H E (RV T) (f xs h) Q → r us H Q
section
variable {T : Tb} {E : St → XK} {X : Cx} {pos p : Pos} {e a : Expr} {es : List Expr} {x : Str} {as : SL} {sa : SE}
theorem cb_go {f : Fn} {r : List V → Hp → VK → Prop} (hs : CallS T f r) {σ : St} {H : Hp} {Q : VK} (q : tE T E (sAppl f as) σ H Q) : tCB r (tA T E as) σ H Q := by
  obtain ⟨ι, h, en, S, er, q⟩ := q
  exact ⟨ι, h, en, S, er, q.bind fun xs h1 ι1 H1 us g1 S1 r1 q1 => hs ι1 h1 H1 xs us _ Q S1 r1 q1⟩
theorem r_bi {id : String} {f : Fn} (hc : ∃ r, CallR X (.builtin id) r ∧ CallS T f r) (hg : Gl X x) (hm : X.mg x = none) (hv : bootBuiltins x = some (.builtin id)) (ha : PAA T E X (e :: es) as) (hn : x ≠ "__name__" := by decide) (hdb : (x == ("__debug__" : Str)) = false := by decide)
    (he : starEach (e :: es) X.env = (false, eval e X.env) :: starEach es X.env := by rfl) (hpl : (backTo pos (starEach es X.env)).any (·.1) = false := by rfl) : PEA T E X (.Call (.Name x p) (e :: es) [] pos) (sAppl f as) := by
  obtain ⟨r, h1, h2⟩ := hc
  exact PE_imp (pe_callB h1 hg hm hv ha hn hdb he hpl) fun σ H Q q => cb_go h2 q
theorem b_len (hK : X.K = T.K) : ∃ r, CallR X (.builtin "len") r ∧ CallS T fLen r := by
  refine ⟨_, call_len_str.or (call_len_seq.or call_lenD), fun ι h H xs us E Q S r q => ?_⟩
  unfold fLen at q
  split at q
  · cases r with
    | cons r r' =>
      cases r'
      obtain ⟨rfl, n, _⟩ := str_rd r
      exact .inl ⟨_, rfl, n, q.now S (.int _)⟩
  · cases r with
    | cons r r' =>
      cases r'
      obtain ⟨a, us, rfl, sq, rs⟩ := tup_rd r
      exact .inr (.inl ⟨a, us, rfl, .inr (hK ▸ sq), by rw [← rs.length]; exact q.now S (.int _)⟩)
  · cases r with
    | cons r r' =>
      cases r'
      obtain ⟨a, us, rfl, sq, rs⟩ := lst_rd S r rfl
      exact .inr (.inl ⟨a, us, rfl, .inl (hK ▸ sq), by rw [← rs.length]; exact q.now S (.int _)⟩)
  · rename_i n
    cases r with
    | cons r r' =>
      cases r'
      split at q
      · rename_i xs hn
        obtain ⟨a, us, rfl, sq, rs⟩ := lst_rd (xs := xs) S r (by simp [lstOf, hn])
        exact .inr (.inl ⟨a, us, rfl, .inl (hK ▸ sq), by rw [← rs.length]; exact q.now S (.int _)⟩)
      · rename_i kvs hn
        cases r with
        | @ref _ ad hr =>
          obtain ⟨o, e1, kus, rfl, rs⟩ := S.obj n _ ad hn hr
          exact .inr (.inr ⟨ad, kus, rfl, e1, by rw [← Paired.length rs]; exact q.now S (.int _)⟩)
      · exact q.elim
  · exact q.elim
theorem b_abs : ∃ r, CallR X (.builtin "abs") r ∧ CallS T fAbs r := by
  refine ⟨_, call_abs, fun ι h H xs us E Q S r q => ?_⟩
  unfold fAbs at q
  split at q
  · cases r with
    | cons r r' => cases r'; rw [int_rd r]; exact ⟨_, rfl, q.now S (.int _)⟩
  · exact q.elim
theorem b_max2 (hc : X.calm = true := by rfl) : ∃ r, CallR X (.builtin "max") r ∧ CallS T fMax2 r := by
  refine ⟨_, call_max2 hc, fun ι h H xs us E Q S r q => ?_⟩
  unfold fMax2 at q
  split at q
  · cases r with
    | cons r r' => cases r' with
      | cons r1 r2 => cases r2; rw [int_rd r, int_rd r1]; exact ⟨_, _, rfl, q.now S (.int _)⟩
  · exact q.elim
theorem b_min2 (hc : X.calm = true := by rfl) : ∃ r, CallR X (.builtin "min") r ∧ CallS T fMin2 r := by
  refine ⟨_, call_min2 hc, fun ι h H xs us E Q S r q => ?_⟩
  unfold fMin2 at q
  split at q
  · cases r with
    | cons r r' => cases r' with
      | cons r1 r2 => cases r2; rw [int_rd r, int_rd r1]; exact ⟨_, _, rfl, q.now S (.int _)⟩
  · exact q.elim
theorem bools_rd {ι : Ix} {H : Hp} : ∀ {xs : List AV} {us : List V} {bs : List Bool}, RVs T ι H xs us → boolsOf xs = some bs → us = bs.map V.bl
  | _, _, _, .nil, e => by cases e; rfl
  | _, _, bs, .cons (x := x) r rs, e => by
    unfold boolsOf at e
    split at e
    · rename_i hh; cases hh
    · rename_i b r' hh
      cases hh
      obtain ⟨bs', e1, rfl⟩ := Option.map_eq_some_iff.mp e
      rw [bl_rd r, bools_rd rs e1]; rfl
    · cases e
theorem b_all (hK : X.K = T.K) (hc : X.calm = true := by rfl) : ∃ r, CallR X (.builtin "all") r ∧ CallS T fAll r := by
  refine ⟨_, call_all hc, fun ι h H xs us E Q S r q => ?_⟩
  unfold fAll at q
  split at q
  · split at q
    · rename_i bs hb
      cases r with
      | cons r r' =>
        cases r'
        obtain ⟨a, us, rfl, sq, rs⟩ := lst_rd S r rfl
        rw [bools_rd rs hb] at sq
        exact ⟨a, bs, rfl, hK ▸ sq, q.now S (.bl _)⟩
    · exact q.elim
  · exact q.elim
noncomputable abbrev tys : List String := ["NoneType", "bool", "int", "str", "list", "tuple", "dict"]
theorem kit_ty (K : PySem.W.Frag) : ∀ n ∈ tys, ∀ t ∈ tys, PySem.W.kitOne K (.type n) (.type t) = some (n == t || (t == "int" && n == "bool")) := by
  intro n hn t ht
  simp only [tys, List.mem_cons, List.not_mem_nil, or_false] at hn ht
  rcases hn with rfl | rfl | rfl | rfl | rfl | rfl | rfl <;> rcases ht with rfl | rfl | rfl | rfl | rfl | rfl | rfl <;> rfl
theorem call_isiL {c : V} {cv : Value} (rc : ∀ u, RelV c u → u = cv) :
    CallR X (.builtin "isinstance") (fun xs H Q => ∃ a us r, xs = [.ref a, c] ∧ SqL X.K H a us ∧ PySem.W.kitOne X.K (.type "list") cv = some r ∧ Q (.bl r) H) := by
  intro pins s σ H xs us Q I r h
  obtain ⟨a, ws, k, rfl, sq, hk, q⟩ := h
  obtain ⟨u, w', rfl, rx, ry⟩ := vals2 r
  obtain rfl := rc _ ry
  obtain rfl : u = Value.ref a := rx
  obtain ⟨its, _, ⟨o, n, e1, e2, _⟩, _⟩ := I.list sq
  exact PySem.W.kia_one PySem.W.kitx_list I.kIn ⟨_, e1, e2⟩ hk (fun z => nomatch z) fun tk => ⟨.bl k, H, I.tok _, rfl, q⟩
theorem ty_of {ι : Ix} {h : AH} {H : Hp} {v : AV} {u : V} {n : String} (S : Sim T ι h H) (r : RV T ι H v u) (e : tyN v h = some n) : (TyOf T.K H u (.type n) ∨ (n = "list" ∧ ∃ a us, u = .ref a ∧ SqL T.K H a us)) ∧ n ∈ tys := by
  unfold tyN at e
  cases r with
  | non => cases e; exact ⟨.inl .non, by decide⟩
  | bl b => cases e; exact ⟨.inl (.bl b), by decide⟩
  | int b => cases e; exact ⟨.inl (.int b), by decide⟩
  | str n o => cases e; exact ⟨.inl (.str _), by decide⟩
  | tup n q r => cases e; exact ⟨.inl (.tup q), by decide⟩
  | fl n q r => cases e; exact ⟨.inr ⟨rfl, _, _, rfl, .inl q⟩, by decide⟩
  | kfl q r => cases e; exact ⟨.inr ⟨rfl, _, _, rfl, .inr q⟩, by decide⟩
  | @ref k a q =>
    dsimp only at e
    split at e
    · rename_i xs hn
      cases e
      obtain ⟨o, e1, us, rfl, rs⟩ := S.obj k _ a hn q
      exact ⟨.inl (.lst e1), by decide⟩
    · rename_i t kvs hn
      cases e
      obtain ⟨o, e1, r⟩ := S.obj k _ a hn q
      cases t with
      | false => obtain ⟨kus, rfl, rs⟩ := r; exact ⟨.inl (.dK e1), by decide⟩
      | true => obtain ⟨kus, rfl, rs⟩ := r; exact ⟨.inl (.dT e1), by decide⟩
    · cases e
  | exc _ _ _ => cases e
theorem r_isB {t : Str} {id : String} {p2 : Pos} (hK : X.K = T.K) (hg : Gl X "isinstance") (hm : X.mg "isinstance" = none) (ha : PEA T E X a sa) (hgt : Gl X t) (hmt : X.mg t = none) (hvt : bootBuiltins t = some (.type id)) (hid : id ∈ tys) (hnt : t ≠ "__name__" := by decide) (hdt : (t == ("__debug__" : Str)) = false := by decide)
    (he : starEach [a, .Name t p2] X.env = (false, eval a X.env) :: starEach [.Name t p2] X.env := by rfl) : PEA T E X (.Call (.Name "isinstance" p) [a, .Name t p2] [] pos) (sIsB id sa) := by
  refine PE_imp (pe_callB ((call_isi (X := X) (rc_ty id)).or (call_isiL (X := X) (rc_ty id))) hg hm PyProof.Rows.boot_isinstance (pa_cons ha (pa_cons (pe_bltn (v := .ty id) hgt hmt hvt rfl hnt hdt) pa_nil) he) (he := he)) fun σ H Q ⟨ι, h, en, S, er, q⟩ => ⟨ι, h, en, S, er, q.bind fun v h1 ι1 H1 u g1 S1 r1 q1 => ?_⟩
  split at q1
  · rename_i n hn
    obtain ⟨ty, hmem⟩ := ty_of S1 r1 hn
    rcases ty with ty | ⟨rfl, ad, us, rfl, sq⟩
    · exact .inl ⟨u, .type n, _, rfl, hK ▸ ty, kit_ty _ n hmem id hid, q1.now S1 (.bl _)⟩
    · exact .inr ⟨ad, us, _, rfl, hK ▸ sq, kit_ty _ _ hmem id hid, q1.now S1 (.bl _)⟩
  · exact q1.elim
noncomputable def MtS (T : Tb) (f : FM) (r : V → List V → Hp → VK → Prop) : Prop := ∀ (ι : Ix) (h : AH) (H : Hp) (x : AV) (xs : List AV) (u : V) (us : List V) (E : XK) (Q : VK), Sim T ι h H → RV T ι H x u → RVs T ι H xs us → Post T ι H E (RV T) (f x xs h) Q → r u us H Q
noncomputable def ChkS (T : Tb) (chk : AV → AH → Bool) (n : String) : Prop := ∀ (ι : Ix) (h : AH) (H : Hp) (x : AV) (u : V), Sim T ι h H → RV T ι H x u → chk x h = true → tyV T.K n u H
theorem chk_lst : ChkS T isLst "list" := fun ι h H x u S r e => by
  obtain ⟨xs, e1⟩ := Option.isSome_iff_exists.mp e
  obtain ⟨a, us, rfl, sq, rs⟩ := lst_rd S r e1
  exact .inl ⟨rfl, us, sq⟩
theorem chk_str : ChkS T isStr "str" := fun ι h H x u S r e => by
  unfold isStr at e
  split at e
  · obtain ⟨rfl, _⟩ := str_rd r; rfl
  · cases e
variable {o : Expr} {so : SE} {name : Str} {apos : Pos} {chk : AV → AH → Bool} {f : FM} {tn id : String}
theorem r_bm (hK : X.K = T.K) (pa : PlainAttrs tn) (slot : Slot tn name id) (hty : typeOf (.builtin id) = pure (.type "method_descriptor")) (hm : ∃ r, MtR X id r ∧ MtS T f r) (hc : ChkS T chk tn) (ho : PEA T E X o so) (ha : PAA T E X (e :: es) as)
    (hbase : attributeBase o name X.env (eval o X.env) = eval o X.env := by rfl)
    (hfew : ((backTo pos (starEach (e :: es) X.env)).all (fun x => !x.1) && (backToKw pos (keywordEach [] X.env)).all (fun x => x.1.isSome)
      && decide ((e :: es).length + ([] : List Keyword).length + (if ([] : List Keyword).isEmpty then 0 else 1) < 30)) = true := by rfl)
    (hline : (apos.endLine == pos.line) = true := by rfl) (hs : starEach (e :: es) X.env = (false, eval e X.env) :: starEach es X.env := by rfl) (hplain : (backTo pos (starEach es X.env)).any (·.1) = false := by rfl) :
    PEA T E X (.Call (.Attribute o name apos) (e :: es) [] pos) (sBM chk f so as) := by
  obtain ⟨r, h1, h2⟩ := hm
  refine PE_imp (pe_bm pa slot hty h1 ho ha hbase hfew hline hs hplain) fun σ H Q ⟨ι, h, en, S, er, q⟩ => ⟨ι, h, en, S, er, q.bind fun x h1 ι1 H1 u g1 S1 r1 q1 => ?_⟩
  by_cases hx : chk x h1 = true
  · rw [if_pos hx] at q1
    exact ⟨hK ▸ hc ι1 h1 H1 x u S1 r1 hx, ι1, h1, en, S1, er.mono g1, q1.bind fun xs h2' ι2 H2 us g2 S2 r2 q2 => h2 ι2 h2' H2 x xs u us _ Q S2 (r1.mono g2) r2 q2⟩
  · rw [if_neg hx] at q1; exact q1.elim
theorem m_append : ∃ r, MtR X "list.append" r ∧ MtS T mAppend r := by
  refine ⟨_, mt_append, fun ι h H x xs u us E Q S rx rs q => ?_⟩
  unfold mAppend at q
  split at q
  · rename_i n y
    split at q
    · rename_i ys hn
      split at q
      · rename_i hl
        cases rx with
        | @ref _ ad hr =>
          cases rs with
          | @cons _ uu _ _ r r' =>
            cases r'
            obtain ⟨o, e1, ws, rfl, rw_⟩ := S.obj n _ ad hn hr
            have g := S.growSet (u := .lst (ws ++ [uu])) hr
            exact ⟨ad, ws, _, rfl, rfl, e1, by rw [← rw_.length]; exact hl, q ι _ _ g (S.set hr ⟨_, rfl, (rw_.mono g).append (.cons (r.mono g) .nil)⟩) .non⟩
      · exact q.elim
    · exact q.elim
  · exact q.elim
theorem m_countS : ∃ r, MtR X "str.count" r ∧ MtS T mCountS r := by
  refine ⟨_, mt_str_count, fun ι h H x xs u us E Q S rx rs q => ?_⟩
  unfold mCountS at q
  split at q
  · cases rs with
    | cons r r' =>
      cases r'
      obtain ⟨rfl, _⟩ := str_rd rx
      obtain ⟨rfl, _⟩ := str_rd r
      exact ⟨_, _, rfl, rfl, q.now S (.int _)⟩
  · exact q.elim
end
end Sm

namespace Sm
open PySem PySem.Spec L2
section
variable {T : Tb} {E : St → XK} {X : Cx} {pos p2 : Pos} {a b : Expr} {sa sb : SE}
theorem cut_rv {ι : Ix} {H : Hp} {z : Str} {l u : Option Int} (hz : z.length ≤ sizeLine) (hc : z.cps.all (· < 0x110000) = true) : RV T ι H (.str (cutS z l u)) (.str (cutS z l u)) := by
  refine .str ?_ ?_
  · refine Nat.le_trans ?_ hz
    simp [cutS, Str.length]; omega
  · simp only [cutS, List.all_toArray, List.all_eq_true]
    intro c h
    have hm : c ∈ z.cps.toList := List.mem_of_mem_drop (List.mem_of_mem_take h)
    exact (Array.all_eq_true_iff_forall_mem.mp hc) c (by simpa using hm)
theorem r_gI {x : Str} {i : Int} {p : Pos} (hg : Gl X x) (hm : ∃ t, X.mg x = some (.int i t)) (hd : (x == ("__debug__" : Str)) = false := by decide) : PEA T E X (.Name x p) (sLit (.int i)) := by
  obtain ⟨t, hm⟩ := hm
  exact r_globI hg hm hd
theorem r_gS {x z : Str} {p : Pos} (hg : Gl X x) (hm : ∃ t, X.mg x = some (.str z t)) (n : z.length ≤ sizeLine := by decide +kernel) (o : z.cps.all (· < 0x110000) = true := by decide +kernel) (hd : (x == ("__debug__" : Str)) = false := by decide) : PEA T E X (.Name x p) (sLit (.str z)) := by
  obtain ⟨t, hm⟩ := hm
  exact r_globS hg hm n o hd
end
noncomputable def DG (K : PySem.W.Frag) (mg : Str → Option Value) (x : Str) (st : Stmt) (ps : List Str) : Prop := ∃ f fd, mg x = some (.ref f) ∧ PySem.W.keepIn K (.ref f) = true ∧ Binds K fd ps [] ∧ Fun K x x st f fd
end Sm
namespace Sm
open PySem PySem.Spec L2
noncomputable def compChk (N : List Str) (sc : Scope) (x₁ : Str) (jf : List (Nat × Str)) (scope : Scope) : Bool :=
  decide (x₁ :: jf.map (·.2)).Nodup && (scope.names.lookup x₁ == some .local) && jf.all (fun p => N[p.1]? == some p.2) && jf.all (fun p => scope.names.lookup p.2 == some .free) && (scope.kind == .function) &&
  scope.names.all (fun y => y.2 != .cell) && scope.names.all (fun y => y.2 != .free || sc.names.lookup y.1 == some .cell || sc.names.lookup y.1 == some .free) && scope.names.all (fun y => y.2 != .local || scope.names.lookup y.1 == some .local)
theorem compOk_of {X : Cx} {N : List Str} {sc scope : Scope} {x₁ : Str} {jf : List (Nat × Str)} (hN : X.N = N) (hk : ∀ x, X.env.kindOf x = sc.names.lookup x) (h : compChk N sc x₁ jf scope = true) : CompOk X x₁ jf scope := by
  unfold compChk at h
  simp only [Bool.and_eq_true, decide_eq_true_eq, List.all_eq_true, beq_iff_eq, bne_iff_ne, Bool.or_eq_true] at h
  obtain ⟨⟨⟨⟨⟨⟨⟨h1, h2⟩, h3⟩, h4⟩, h5⟩, h6⟩, h7⟩, h8⟩ := h
  refine ⟨h1, h2, fun p hp => by rw [hN]; exact h3 p hp, h4, h5, fun y hy => h6 y hy, fun y hy e => ?_, fun y hy e => ?_⟩
  · rw [hk]
    rcases h7 y hy with (z | z) | z
    · exact absurd e z
    · exact .inl z
    · exact .inr z
  · rcases h8 y hy with z | z
    · exact absurd e z
    · exact z
end Sm
namespace Sm
open PySem PySem.Spec L2
theorem ints_rv {T : Tb} {ι : Ix} {H : Hp} : ∀ ns : List Int, RVs T ι H (ns.map AV.int) (ns.map V.int)
  | [] => .nil
  | n :: ns => .cons (.int n) (ints_rv ns)
theorem sim0 {T : Tb} {H : Hp} : Sim T ⟨[], []⟩ [] H := ⟨rfl, List.nodup_nil, (fun _ z => nomatch z), (fun i o a e => by simp at e)⟩
noncomputable def spL (K : PySem.W.Frag) : Sp := fun vs H Q _ => ∃ (a : Addr) (ns : List Int), vs = [.ref a] ∧ SqL K H a (ns.map V.int) ∧ ns.length ≤ 63 ∧ ∀ H', Q (.bl true) H'
theorem law_imp {T : Tb} {F : Fn} (ht : ∀ ns : List Int, ns.length ≤ 63 → ∃ h', F [.fl (ns.map AV.int)] [] = .ok (.bl true) h') : ∀ vs H Q E, spL T.K vs H Q E → spA T F vs H Q E := by
  rintro vs H Q E ⟨a, ns, rfl, hs, hl, q⟩
  obtain ⟨h', e⟩ := ht ns hl
  refine ⟨⟨[], []⟩, [], [.fl (ns.map AV.int)], sim0, .cons ?_ .nil, ?_⟩
  · rcases hs with hs | hs
    · exact .fl (by simp [Ix.all]) hs (ints_rv ns)
    · exact .kfl hs (ints_rv ns)
  · rw [e]
    intro ι' H' u g S r
    rw [bl_rd r]
    exact q H'
theorem cxe_false {P : Program} {w : World} {outer : List Env} {H : Hp} {s s' : Shared} {e : Value} (h : CXE P w outer H s (fun _ _ _ => False) e s') : False := by
  obtain ⟨_, _, _, _, _, _, _, _, _, _, _, _, _, _, q⟩ := h
  exact q
end Sm


namespace Sm
open PySem PySem.Spec L2
section
variable {T : Tb} {E : St → XK} {X : Cx} {pos p : Pos} {e a b c : Expr} {sa sb sc : SE}
theorem rs_bad {sts : List Stmt} {E : St → XK} : PSsA T E X sts (fun _ _ => .bad) := fun pins s σ H D I ⟨ι, h, en, S, er, q⟩ => q.elim
end
theorem el1 : ∀ {us : List Value}, us.length = 1 → ∃ a : Value, us = [a]
  | [a], _ => ⟨a, rfl⟩
theorem el2 : ∀ {us : List Value}, us.length = 2 → ∃ a b : Value, us = [a, b]
  | [a, b], _ => ⟨a, b, rfl⟩
theorem el3 : ∀ {us : List Value}, us.length = 3 → ∃ a b c : Value, us = [a, b, c]
  | [a, b, c], _ => ⟨a, b, c, rfl⟩
theorem el4 : ∀ {us : List Value}, us.length = 4 → ∃ a b c d : Value, us = [a, b, c, d]
  | [a, b, c, d], _ => ⟨a, b, c, d, rfl⟩
end Sm







namespace Sm
open PySem PySem.Spec L2
structure ItG (T : Tb) (J : It) (ι : Ix) (H : Hp) (ys : List AV) (L : AH → Bool) : Prop where
  go : ∀ (i : Nat) (ι' : Ix) (h' : AH) (H' : Hp) (x : AV), Ext ι H ι' H' → Sim T ι' h' H' → L h' = true → ys[i]? = some x → J.go i H' ∧ ∀ u H2, J.yld i H' u H2 → Grow ι' H' ι' H2 ∧ Sim T ι' h' H2 ∧ RV T ι' H2 x u
  stop : ∀ (i : Nat) (ι' : Ix) (h' : AH) (H' : Hp), Ext ι H ι' H' → Sim T ι' h' H' → L h' = true → ys.length ≤ i → J.stop i H'
section
variable {T : Tb} {E : St → XK} {X : Cx} {pos : Pos} {a : Expr} {sa : SE} {sts : List Stmt} {s1 : SS}
noncomputable def LoopOk (g : TG) (tb : TS) (D : Ends) (σ : St) (H1 : Hp) (J : It) : Prop := ∃ W : Nat → Nat → St → Hp → Prop, (∃ m, W 0 m σ H1) ∧ ∀ i m σ H, W i m σ H → (J.stop i H ∧ D.nx σ H) ∨ (J.go i H ∧ ∃ N : St → Hp → Prop, (∀ σ' H', N σ' H' → ∃ m', m' < m ∧ W (i + 1) m' σ' H') ∧ ∀ x H', J.yld i H x H' → g x σ H' fun σ' H'' => tb { D with nx := N, ct := N, bk := D.nx } σ' H'')
end
end Sm

namespace Sm
open PySem PySem.Spec L2
@[simp] noncomputable def nkA : AV → AV
  | .bl b => .int (b01 b)
  | v => v
section
variable {T : Tb} {ι : Ix} {h : AH} {H : Hp}
theorem kOf_rv {x : AV} {u : V} {k : Key} (r : RV T ι H x u) (e : keyOf? (nkA x) = some k) : kOf u = some k := by
  cases x with
  | bl b => rw [bl_rd r]; exact e
  | int i => rw [int_rd r]; exact e
  | str z => rw [(str_rd r).1]; exact e
  | _ => simp at e
theorem kOfs_rv : ∀ {xs : List AV} {us : List V} {ks : List Key}, RVs T ι H xs us → keysOf? (xs.map nkA) = some ks → us.map kOf = ks.map some
  | [], _, ks, .nil, e => by cases e; rfl
  | x :: xs, _, ks, .cons r rs, e => by
    rw [List.map_cons] at e
    unfold keysOf? at e
    split at e
    · rename_i k ks' e1 e2
      cases e
      rw [List.map_cons, List.map_cons, kOf_rv r e1, kOfs_rv rs e2]
    · cases e
theorem keyTB {xs : List AV} {u : V} {ks : List Key} (r : RV T ι H (.tup xs) u) (e : keysOf? (xs.map nkA) = some ks) : ∃ b, u = .ref b ∧ KTup H b ks := by
  cases r with
  | tup n q r => exact ⟨_, rfl, _, q, kOfs_rv r e⟩
theorem dgetB_of {n : Nat} {kvs : List (AV × AV)} {xs : List AV} {a : Addr} {w : V} (S : Sim T ι h H) (hn : h[n]? = some (.dct true kvs)) (hr : ι.refs[n]? = some a) (ry : RV T ι H (.tup xs) w) (hk : isKey true (.tup (xs.map nkA)) = true) :
    ∃ o, DGet H a w o ∧ ((valA kvs (.tup (xs.map nkA)) = none ∧ o = none) ∨ ∃ v u, valA kvs (.tup (xs.map nkA)) = some v ∧ o = some u ∧ RV T ι H v u) := by
  obtain ⟨ob, e1, r⟩ := S.obj n _ a hn hr
  obtain ⟨kus, rfl, r⟩ := r
  have hk' : (keysOf? (xs.map nkA)).isSome = true := hk
  obtain ⟨ks, ek⟩ := Option.isSome_iff_exists.mp hk'
  obtain ⟨b, rfl, hb⟩ := keyTB ry ek
  refine ⟨valV kus ks, .t e1 hb, ?_⟩
  rw [keysOf_some ek]
  rcases val_of (f := fun ks : List Key => AV.tup (ks.map kA)) (fun e => kAs_inj (by injection e)) r (k := ks) with ⟨h1, h2⟩ | ⟨v', u', h1, h2, h3⟩
  · exact .inl ⟨h1, h2⟩
  · exact .inr ⟨v', u', h1, h2, h3⟩
theorem dputB_of {n : Nat} {kvs : List (AV × AV)} {xs : List AV} {z : AV} {a : Addr} {w u : V} (S : Sim T ι h H) (hn : h[n]? = some (.dct true kvs)) (hr : ι.refs[n]? = some a) (ry : RV T ι H (.tup xs) w) (rz : RV T ι H z u) (hk : isKey true (.tup (xs.map nkA)) = true) (hl : kvs.length < sizeLine) :
    ∃ H', DPut H a w u H' ∧ Grow ι H ι H' ∧ Sim T ι (h.set n (.dct true (putA kvs (.tup (xs.map nkA)) z))) H' := by
  obtain ⟨ob, e1, r⟩ := S.obj n _ a hn hr
  obtain ⟨kus, rfl, r⟩ := r
  have hk' : (keysOf? (xs.map nkA)).isSome = true := hk
  obtain ⟨ks, ek⟩ := Option.isSome_iff_exists.mp hk'
  obtain ⟨b, rfl, hb⟩ := keyTB ry ek
  rw [keysOf_some ek]
  have g := S.growSet (u := .dT none (putK kus ks u)) hr
  exact ⟨_, .t e1 hb (by rw [← Paired.length r]; exact hl), g, S.set hr ⟨_, rfl, put_of (f := fun ks : List Key => AV.tup (ks.map kA)) (fun e => kAs_inj (by injection e)) (rz.mono g) (Paired.mapP r fun _ _ ⟨p, q⟩ => ⟨p, q.mono g⟩)⟩⟩
end
noncomputable def fIxB : F2 := fun x y h => match x, y with
  | .ref n, .tup xs => (match h[n]? with
    | some (.dct true kvs) => if isKey true (.tup (xs.map nkA)) then (match valA kvs (.tup (xs.map nkA)) with | some v => .ok v h | none => .bad) else .bad
    | _ => .bad)
  | _, _ => .bad
noncomputable def fNotInB : F2 := fun x y h => match x, y with
  | .tup xs, .ref n => (match h[n]? with
    | some (.dct true kvs) => if isKey true (.tup (xs.map nkA)) then .ok (.bl (!(valA kvs (.tup (xs.map nkA))).isSome)) h else .bad
    | _ => .bad)
  | _, _ => .bad
noncomputable def fSetB (n : Nat) (y z : AV) (en : En) (h : AH) : OutS := match y with
  | .tup xs => (match h[n]? with
    | some (.dct true kvs) => if isKey true (.tup (xs.map nkA)) = true ∧ kvs.length < sizeLine then .nx en (h.set n (.dct true (putA kvs (.tup (xs.map nkA)) z))) else .bad
    | _ => .bad)
  | _ => .bad
@[simp] noncomputable def sSetIxB (o i v : SE) : SS := fun en h => (v en h).go en fun z h1 => (o en h1).go en fun x h2 => (i en h2).go en fun y h3 => match x with
  | .ref n => fSetB n y z en h3
  | _ => .bad
section
variable {T : Tb} {E : St → XK} {X : Cx} {pos : Pos} {a b c : Expr} {sa sb sc : SE}
theorem r_ixB (hu : X.A.units + 64 < cLine) (ha : PEA T E X a sa) (hb : PEA T E X b sb) (hs : PlainIx b := by exact fun _ _ => rfl) : PEA T E X (.Subscript a b pos) (sOp2 fIxB sa sb) := by
  refine PE_imp (pe_dget (Nat.lt_of_le_of_lt (Nat.add_le_add_left (by decide : 1 ≤ 64) _) hu) ha hb hs) fun σ H Q q => ?_
  obtain ⟨ι, h, en, S, er, q⟩ := q
  refine ⟨ι, h, en, S, er, q.bind fun x h1 ι1 H1 u g1 S1 r1 q1 => ⟨ι1, h1, en, S1, er.mono g1, q1.bind fun y h2 ι2 H2 w g2 S2 r2 q2 => ?_⟩⟩
  have r1' := r1.mono g2
  unfold fIxB at q2
  split at q2
  · rename_i n xs
    split at q2
    · rename_i kvs hn
      split at q2
      · rename_i hk
        cases r1' with
        | @ref _ ad hr =>
          obtain ⟨o, dg, alt⟩ := dgetB_of S2 hn hr r2 hk
          rcases alt with ⟨v1, rfl⟩ | ⟨v, u, v1, rfl, r3⟩
          · rw [v1] at q2; exact q2.elim
          · rw [v1] at q2
            exact ⟨ad, u, rfl, dg, q2.now S2 r3⟩
      · exact q2.elim
    · exact q2.elim
  · exact q2.elim
theorem o_notInB (hu : X.A.units + 64 < cLine) : Op T X (compareOp .NotIn) fNotInB := by
  refine ⟨_, op_notInDict hu, fun ι h H x y u w E Q S rx ry q => ?_⟩
  unfold fNotInB at q
  split at q
  · rename_i xs n
    split at q
    · rename_i kvs hn
      split at q
      · rename_i hk
        cases ry with
        | @ref _ ad hr =>
          obtain ⟨o, dg, alt⟩ := dgetB_of S hn hr rx hk
          refine ⟨ad, o, rfl, dg, ?_⟩
          rcases alt with ⟨v1, rfl⟩ | ⟨v, u, v1, rfl, r3⟩
          · rw [v1] at q; exact q.now S (.bl _)
          · rw [v1] at q; exact q.now S (.bl _)
      · exact q.elim
    · exact q.elim
  · exact q.elim
theorem r_setIxB {p' : Pos} (hu : X.A.units + 64 < cLine) (ho : PEA T E X a sa) (hi : PEA T E X b sb) (hv : PEA T E X c sc) (hs : swapsWith c (some (.Subscript a b p')) pos.line X.env = pure false := by rfl) : PSA T E X (.Assign [.Subscript a b p'] c pos) (sSetIxB sa sb sc) := by
  refine PS_imp (ps_dput (Nat.lt_of_le_of_lt (Nat.add_le_add_left (by decide : 1 ≤ 64) _) hu) ho hi hv hs) fun D σ H q => ?_
  obtain ⟨ι, h, en, S, er, q⟩ := q
  unfold sSetIxB at q
  refine ⟨ι, h, en, S, er, ?_⟩
  cases e1 : sc en h with
  | bad => rw [e1] at q; exact q
  | ex cc h1 => rw [e1] at q; exact fun i2 H2 C g S e => q i2 H2 σ C g S (er.mono g) e
  | ok z h1 =>
    rw [e1] at q
    intro ι1 H1 u g1 S1 r1
    refine ⟨ι1, h1, en, S1, er.mono g1, ?_⟩
    dsimp only [Out.go] at q
    cases e2 : sa en h1 with
    | bad => rw [e2] at q; exact q
    | ex cc h2 => rw [e2] at q; exact fun i2 H2 C g S e => q i2 H2 σ C (g1.trans g) S (er.mono (g1.trans g)) e
    | ok x h2 =>
      rw [e2] at q
      intro ι2 H2 w g2 S2 r2
      refine ⟨ι2, h2, en, S2, er.mono (g1.trans g2), ?_⟩
      dsimp only at q
      cases e3 : sb en h2 with
      | bad => rw [e3] at q; exact q
      | ex cc h3 => rw [e3] at q; exact fun i2 H2 C g S e => q i2 H2 σ C (g1.trans (g2.trans g)) S (er.mono (g1.trans (g2.trans g))) e
      | ok y h3 =>
        rw [e3] at q
        intro ι3 H3 j g3 S3 r3
        have q2 := PostS.shift q (g1.trans (g2.trans g3))
        dsimp only at q2
        split at q2
        · rename_i n
          unfold fSetB at q2
          split at q2
          · rename_i xs
            split at q2
            · rename_i kvs hn
              split at q2
              · rename_i hk
                cases (r2.mono g3) with
                | @ref _ ad hr =>
                  obtain ⟨H4, dp, g4, S4⟩ := dputB_of S3 hn hr r3 (r1.mono (g2.trans g3)) hk.1 hk.2
                  exact ⟨ad, H4, rfl, dp, q2 ι3 H4 σ g4 S4 (er.mono (g1.trans (g2.trans (g3.trans g4))))⟩
              · exact q2.elim
            · exact q2.elim
          · exact q2.elim
        · exact q2.elim
end
end Sm





















namespace L2
open PySem PySem.Spec
theorem Room.m {j k : Nat} {A : Around} (hr : Room k A) (h : Nat.ble j k = true := by rfl) : Room j A := hr.mono (Nat.le_of_ble_eq_true h)
end L2
namespace Sm
open PySem PySem.Spec L2
noncomputable def DK (K : PySem.W.Frag) (x : Str) (st : Stmt) : Prop := ∃ f fd, PySem.W.nsIn K mainGlobals x = some (some (.ref f)) ∧ Fun K x x st f fd
noncomputable def DN (K : PySem.W.Frag) (C : Addr) (m q : Str) (st : Stmt) : Prop := ∃ f fd, Meth K C m f ∧ Fun K m q st f fd
noncomputable def DMm (K : PySem.W.Frag) (cls : Nat → Option Addr) (c : Nat) (m q : Str) (st : Stmt) (ps : List Str) : Prop := ∃ C f fd, cls c = some C ∧ Cls K C ∧ Meth K C m f ∧ Binds K fd ps [] ∧ Fun K m q st f fd
noncomputable def DI (K : PySem.W.Frag) (cls : Nat → Option Addr) (mg : Str → Option Value) (c : Nat) (x q : Str) (st : Stmt) (ps : List Str) : Prop := ∃ C f fd, cls c = some C ∧ mg x = some (.ref C) ∧ Mk K C f ∧ Binds K fd ps [] ∧ Fun K "__init__" q st f fd
section
variable {P : Program} {w : World} {K : PySem.W.Frag} {mg : Str → Option Value} {base h : Heap} {T : Tb} {x m q : Str} {st : Stmt} {f C : Addr} {N ps : List Str} {k c : Nat} {b : SS} {cls : Nat → Option Addr}
section
variable {oc : Value} {od an : Option Addr} {osl : Array (Option Value)} {kV doc pm cdv ct : Value}
theorem dk (a : PySem.W.nsIn K mainGlobals x = some (some (.ref f))) (l : K.lookup f = some ⟨oc, od, .func (PySem.W.fnOf x x (defArgs st) (defBody st) (defScope st) .none kV doc pm an cdv ct), osl⟩)
    (c : PySem.W.codeIn K cdv x = true) (k : PySem.W.keepIn K (.ref f) = true) : DK K x st := ⟨f, _, a, fun_mk l c k⟩
theorem dn (a : PySem.W.findIn K (.ref C) m = some (some (.ref f))) (i : PySem.W.isFn K (.ref f) = true) (l : K.lookup f = some ⟨oc, od, .func (PySem.W.fnOf m q (defArgs st) (defBody st) (defScope st) .none kV doc pm an cdv ct), osl⟩)
    (c : PySem.W.codeIn K cdv q = true) (k : PySem.W.keepIn K (.ref f) = true) : DN K C m q st := ⟨f, _, ⟨a, i, k⟩, fun_mk l c k⟩
end
noncomputable abbrev BA (x q : Str) (st : Stmt) (us : List Value) (r : List (Str × Value)) : Prop := ∀ (kV doc pm : Value) (an : Option Addr) (cdv ct : Value), bindArgs (PySem.W.fnOf x q (defArgs st) (defBody st) (defScope st) .none kV doc pm an cdv ct) ⟨us, []⟩ = pure r
noncomputable def BL (x q : Str) (st : Stmt) (ps : List Str) : Prop := ∀ (us : List Value), us.length = ps.length → BA x q st us (ps.zip us)
theorem bl1 {p1 : Str} (h : ∀ a, BA x q st [a] [(p1, a)] := by exact fun _ _ _ _ _ _ _ => rfl) : BL x q st [p1] := fun us e => by obtain ⟨_, rfl⟩ := el1 e; exact h _
theorem bl2 {p1 p2 : Str} (h : ∀ a b, BA x q st [a, b] [(p1, a), (p2, b)] := by exact fun _ _ _ _ _ _ _ _ => rfl) : BL x q st [p1, p2] := fun us e => by obtain ⟨_, _, rfl⟩ := el2 e; exact h _ _
theorem bl3 {p1 p2 p3 : Str} (h : ∀ a b c, BA x q st [a, b, c] [(p1, a), (p2, b), (p3, c)] := by exact fun _ _ _ _ _ _ _ _ _ => rfl) : BL x q st [p1, p2, p3] := fun us e => by obtain ⟨_, _, _, rfl⟩ := el3 e; exact h _ _ _
theorem bl4 {p1 p2 p3 p4 : Str} (h : ∀ a b c d, BA x q st [a, b, c, d] [(p1, a), (p2, b), (p3, c), (p4, d)] := by exact fun _ _ _ _ _ _ _ _ _ _ => rfl) : BL x q st [p1, p2, p3, p4] := fun us e => by obtain ⟨_, _, _, _, rfl⟩ := el4 e; exact h _ _ _ _
theorem dg (X : K.In h) (G : h.Ns mainGlobals mg) (d : DK K x st) (hb : BL x x st ps) : DG K mg x st ps := by
  obtain ⟨f, fd, a, F⟩ := d
  exact ⟨f, fd, PySem.W.mg_of X G a, F.kp, F.binds fun _ _ _ _ _ _ us hl => hb us hl _ _ _ _ _ _, F⟩
theorem dm (hc : cls c = some C) (k : Cls K C) (d : DN K C m q st) (hb : BL m q st ps) : DMm K cls c m q st ps := by
  obtain ⟨f, fd, M, F⟩ := d
  exact ⟨C, f, fd, hc, k, M, F.binds fun _ _ _ _ _ _ us hl => hb us hl _ _ _ _ _ _, F⟩
theorem di (hc : cls c = some C) (hx : mg x = some (.ref C)) (mk : PySem.W.makesIn K C = true) (kc : PySem.W.keepIn K (.ref C) = true) (d : DN K C "__init__" q st) (hb : BL "__init__" q st ps) : DI K cls mg c x q st ps := by
  obtain ⟨f, fd, M, F⟩ := d
  exact ⟨C, f, fd, hc, hx, ⟨mk, M.at_, M.fn, kc⟩, F.binds fun _ _ _ _ _ _ us hl => hb us hl _ _ _ _ _ _, F⟩
theorem dlaw {fa : Addr} {p : Str} (X : K.In h) (G : h.Ns mainGlobals mg) (hfa : mg x = some (.ref fa)) (d : DK K x st) (hb : BL x x st [p]) : ∃ fd : FuncData, (∀ (s : Shared) (v : Value), BindsTo s fd ⟨[v], []⟩ [(p, v)]) ∧ Fun K x x st fa fd := by
  obtain ⟨f, fd, a, F⟩ := d
  have e := hfa.symm.trans (PySem.W.mg_of X G a)
  cases e
  refine ⟨fd, fun s v => ?_, F⟩
  obtain ⟨oc, od, kV, doc, pm, an, cdv, ct, osl, rfl, lk, hcd⟩ := F.ex
  exact .of_eq (hb [v] rfl _ _ _ _ _ _)
theorem fsk {sc : Scope} (h1 : sc.kind = .function := by rfl) (h2 : sc.isCoroutine = false := by rfl) (h3 : sc.isGenerator = false := by rfl) (h4 : N.Nodup := by decide +kernel) (h5 : N.take ps.length = ps := by rfl)
    (h6 : ∀ x ∈ ps, sc.names.lookup x = some .local ∨ sc.names.lookup x = some .cell := by decide +kernel) (h7 : ∀ y ∈ sc.names, y.2 ≠ .free := by decide +kernel) : FnScope N ps sc := ⟨h1, h2, h3, h4, h5, h6, h7⟩
noncomputable abbrev BodyA (P : Program) (w : World) (mg : Str → Option Value) (base : Heap) (T : Tb) (q : Str) (st : Stmt) (f : Addr) (N : List Str) (k : Nat) (b : SS) : Prop :=
  ∀ {cdv : Value} {A : Around} {outer : List Env} {s : Shared} {H : Hp} {E : XK}, Room k (A.deeper (PyProof.Rows.envOfC q (defScope st) s.heap.objs.size f cdv)) → CA T (fun _ => E) (cxOf (CXE P w) P w T.K mg base N q (defScope st) f cdv A outer s H E) →
    (A.deeper (PyProof.Rows.envOfC q (defScope st) s.heap.objs.size f cdv)).units + 64 < cLine → N.Nodup → PSsA T (fun _ => E) (cxOf (CXE P w) P w T.K mg base N q (defScope st) f cdv A outer s H E) (defBody st) b
theorem gf (d : DG T.K mg x st ps) (S : FnScope N ps (defScope st)) (hb : ∀ {f}, BodyA P w mg base T x st f N k b) : GF P w T mg base (k + 1) x (mkFn ps.length N.length b) := by
  obtain ⟨f, fd, h1, h2, h3, h4⟩ := d
  exact ⟨f, fd, _, h1, h2, h3, okA h4 rfl S fun cdv A outer s H E hr C => hb hr C (hu64 hr) S.nd⟩
theorem gm (d : DMm T.K T.cls c m q st ps) (S : FnScope N ps (defScope st)) (no : m ∉ T.fields c) (hb : ∀ {f}, BodyA P w mg base T q st f N k b) : GM P w T mg base (k + 1) c m (mkFn ps.length N.length b) := by
  obtain ⟨C, f, fd, h0, hc, h1, h3, h4⟩ := d
  exact ⟨⟨C, f, fd, _, h0, hc, h1, h3, okA h4 rfl S fun cdv A outer s H E hr C => hb hr C (hu64 hr) S.nd⟩, no⟩
theorem gk (d : DI T.K T.cls mg c x q st ps) (S : FnScope N ps (defScope st)) (hb : ∀ {f}, BodyA P w mg base T q st f N k b) : GK P w T mg base (k + 1) c x (mkFn ps.length N.length b) := by
  obtain ⟨C, f, fd, h0, h1, h2, h3, h4⟩ := d
  exact ⟨C, f, fd, _, h0, h1, h2, h3, okA h4 rfl S fun cdv A outer s H E hr C => hb hr C (hu64 hr) S.nd⟩
theorem gl {f : Addr} {fd : FuncData} (h4 : Fun T.K x x st f fd) (S : FnScope N ps (defScope st)) (hb : BodyA P w mg base T x st f N k b) : FnOk P w T.K mg base (CXE P w) (k + 1) f fd ps (spA T (mkFn ps.length N.length b)) :=
  okA h4 rfl S fun cdv A outer s H E hr C => hb hr C (hu64 hr) S.nd
noncomputable def XI (K : PySem.W.Frag) (X : Addr) : Prop := PySem.W.excIn K X [.type "ValueError", .type "Exception", .type "BaseException", .type "object"] "ValueError.__new__" = true
theorem xi {X : Addr} (h : PySem.W.excIn K X [.type "ValueError", .type "Exception", .type "BaseException", .type "object"] "ValueError.__new__" = true) : XI K X := h
theorem gx {X : Addr} {n : Nat} {g : Heap} (KB : K.In g) (KX : K.In h) (G : h.Ns mainGlobals mg) (hc : T.exc n = some X) (e : PySem.W.nsIn K mainGlobals x = some (some (.ref X))) (hx : XI K X) : GX T mg g n x := ⟨X, hc, own_frag KB (PySem.W.mg_of KX G e) hx⟩
noncomputable def NA (K : PySem.W.Frag) (x : Str) (v : Option Value) : Prop := PySem.W.nsIn K mainGlobals x = some v
theorem na {v : Option Value} (h : PySem.W.nsIn K mainGlobals x = some v) : NA K x v := h
noncomputable def FA (K : PySem.W.Frag) (C : Addr) (x : Str) : Prop := PySem.W.findIn K (.ref C) x = some none
theorem fatt (h : PySem.W.findIn K (.ref C) x = some none) : FA K C x := h
end
end Sm
















namespace L2
open PySem PySem.Spec PyProof.Rows
section
variable {P : Program} {w : World} {A : Around} {E : Value → Shared → Prop} {s : Shared} {it d : Addr} {i n : Nat} {od : Obj} {es : Array DictEntry}
theorem iterD {Q : Value → Shared → Prop} (hd : (d == sysModules) = false) (g : s.heap.get? d = some od) (ex : od.ExactDict) (dt : od.data = .dict es n) (sz : es.size = n)
    (q : Q (.ref s.heap.objs.size) { s with heap := s.heap.push { cls := .type "dict_keyiterator", data := .fields #[.ref d, .int 0 0, .int n 0, .int n 0] } }) : wpAny (model P w) A (pyIter (.ref d)) Q E s := by
  have ty : s.TypeIs (.ref d) "dict" := ⟨od, g, ex.1⟩
  refine wpAny_pyIter_slot ty F.slot_dict_iter (wpAny_call_entry F.slot_dict_iter ty F.entry_dict_iter (wpAny_bind ?_) (F.args_dict_iter_1 _))
  unfold Builtin.Dict.dictSlotNone
  refine wpAny_bind (wpAny_notOrdered_dict ty (show wpAny _ _ (pure (Value.ref d)) _ _ s from wpAny_pure (show wpAny _ _ (Builtin.Dict.showsAll d >>= _) _ _ s from ?_)))
  unfold Builtin.Dict.showsAll
  rw [if_neg (by rw [hd]; exact Bool.false_ne_true)]
  refine wpAny_bind (wpAny_pure (wpAny_bind (wpAny_dictEntries g dt (wpAny_bind (wpAny_dictEpoch g dt (wpAny_bind (wpAny_newObj_type (wpAny_pure ⟨_, rfl, "dict_keyiterator", _, ⟨_, Heap.get?_push_size _ rfl, rfl⟩, F.slot_dict_keyiterator_next.lookup, ?_⟩))))))))
  simpa [rawInt, sz] using q
theorem nextD {Q : Option Value → Shared → Prop} {en : DictEntry} (hi : s.heap.IsKeyIter it d i n n) (g : s.heap.get? d = some od) (dt : od.data = .dict es n) (sz : es.size = n) (e : es[i]? = some en)
    (q : ∀ g', g'.IsKeyIter it d (i + 1) n n → Heap.SameBut it s.heap g' → Q (some en.key) { s with heap := g' }) : wpAny (model P w) A (pyNext (.ref it)) Q E s := by
  have ty := hi.typeIs
  obtain ⟨o, h1, h2, h3⟩ := hi
  unfold pyNext
  refine wpAny_bind (wpAny_attempt (wpAny_callSpecial?_slot (name := Str.ofString "__next__") ty F.slot_dict_keyiterator_next (wpAny_call_entry F.slot_dict_keyiterator_next ty F.entry_dict_keyiterator_next (wpAny_bind (wpAny_pure (wpAny_bind (wpAny_bind ?_)))) (F.args_dict_keyiterator_next_1 _))))
  refine wpAny_bind (wpAny_typeNameOfWhole_keyiter ty (wpAny_pure (wpAny_bind (wpAny_fieldsOf h1 h3 ?_))))
  simp only [show Builtin.Dict_items.ownsTuple "dict_keyiterator" = false by decide, Bool.false_eq_true, if_false]
  show wpAny _ _ (if (Value.ref d == Value.none) = true then _ else _) _ _ s
  rw [if_neg (show ¬ ((Value.ref d == Value.none) = true) from Bool.false_ne_true)]
  refine wpAny_bind (wpAny_pure (wpAny_bind (wpAny_dictEntries g dt ?_)))
  rw [if_neg (by rw [sz]; simp)]
  refine wpAny_bind (wpAny_pure (wpAny_bind (wpAny_dictEpoch g dt ?_)))
  rw [if_neg (by simp)]
  refine wpAny_pure ?_
  simp only [show ¬ ((i : Int) < 0) from by omega, if_false, Int.toNat_natCast, e]
  refine wpAny_bind (wpAny_bind (wpAny_typeNameOfWhole_keyiter ty (wpAny_pure (wpAny_bind (wpAny_isOneOf_keyiter ty ?_)))))
  show wpAny _ _ (setField (.ref it) 1 (rawInt ((i : Int) + 1)) >>= _) _ _ s
  refine wpAny_bind (wpAny_setField h1 h3 (by simp) ?_)
  have st : (s.heap.update it (Obj.mapFields (·.setIfInBounds 1 (rawInt ((i : Int) + 1))))).IsKeyIter it d (i + 1) n n :=
    ⟨_, Heap.get?_update_self _ h1 (Obj.isFreed_of_fields (Obj.data_mapFields h3 _)), (Obj.cls_mapFields ..).trans h2, by rw [Obj.data_mapFields h3]; simp [rawInt]⟩
  refine wpAny_bind (wpAny_holding (wpAny_bind (wpAny_isOneOf_keyiter (s := { s with heap := s.heap.update it (Obj.mapFields (·.setIfInBounds 1 (rawInt ((i : Int) + 1)))) }) st.typeIs ?_)))
  show wpAny _ _ (pure en.key) _ _ _
  exact wpAny_pure (wpAny_pure ⟨_, rfl, wpAny_pure (q _ st (Heap.SameBut.update ..))⟩)
theorem endD {Q : Option Value → Shared → Prop} (hh : A.handled = none) (hi : s.heap.IsKeyIter it d i n n) (g : s.heap.get? d = some od) (dt : od.data = .dict es n) (sz : es.size = n) (e : n ≤ i)
    (q : ∀ g', Heap.ExtBut it s.heap g' → Q none { s with heap := g' }) : wpAny (model P w) A (pyNext (.ref it)) Q E s := by
  have ty := hi.typeIs
  obtain ⟨o, h1, h2, h3⟩ := hi
  unfold pyNext
  refine wpAny_bind (wpAny_attempt (wpAny_callSpecial?_slot (name := Str.ofString "__next__") ty F.slot_dict_keyiterator_next (wpAny_call_entry F.slot_dict_keyiterator_next ty F.entry_dict_keyiterator_next (wpAny_bind (wpAny_pure (wpAny_bind (wpAny_bind ?_)))) (F.args_dict_keyiterator_next_1 _))))
  refine wpAny_bind (wpAny_typeNameOfWhole_keyiter ty (wpAny_pure (wpAny_bind (wpAny_fieldsOf h1 h3 ?_))))
  simp only [show Builtin.Dict_items.ownsTuple "dict_keyiterator" = false by decide, Bool.false_eq_true, if_false]
  show wpAny _ _ (if (Value.ref d == Value.none) = true then _ else _) _ _ s
  rw [if_neg (show ¬ ((Value.ref d == Value.none) = true) from Bool.false_ne_true)]
  refine wpAny_bind (wpAny_pure (wpAny_bind (wpAny_dictEntries g dt ?_)))
  rw [if_neg (by rw [sz]; simp)]
  refine wpAny_bind (wpAny_pure (wpAny_bind (wpAny_dictEpoch g dt ?_)))
  rw [if_neg (by simp)]
  refine wpAny_pure ?_
  simp only [show ¬ ((i : Int) < 0) from by omega, if_false, Int.toNat_natCast, Array.getElem?_eq_none (show es.size ≤ i by omega)]
  refine wpAny_bind (wpAny_bind (wpAny_typeNameOfWhole_keyiter ty (wpAny_pure ?_)))
  show wpAny _ _ (setField (.ref it) 0 .none >>= _) _ _ s
  refine wpAny_bind (wpAny_setField h1 h3 (by simp) (show wpAny _ _ (newExc (.type "StopIteration") [] >>= _) _ _ _ from wpAny_bind ?_))
  simp only [newExc, newTuple]
  refine wpAny_bind (wpAny_newObj_type (wpAny_bind (m := firstArgMember _ _) (wpAny_of_eq (a := Value.none) (by first | rfl | (simp only [firstArgMember]; rfl)) (wpAny_newObj_type ?_ (by size_fits)))) (by size_fits))
  simp only [raiseNew]
  refine wpAny_bind (wpAny_handled ?_)
  rw [show A.in1.handled = none from hh]
  refine wpAny_bind (wpAny_pure (wpAny_throw ?_))
  refine wpAny_bind (wpAny_isInstance (b := true) (T := "StopIteration") ⟨_, Heap.get?_push_size _ rfl, rfl⟩ isSubtype_stop ?_)
  exact wpAny_pure (q _ (((Heap.SameBut.update ..).extBut.push _).push _))
end
theorem pairGet {α β : Type} {F : α → β → Prop} : ∀ {l : List α} {m : List β}, Paired F l m → ∀ {i : Nat} {y : β}, m[i]? = some y → ∃ x, l[i]? = some x ∧ F x y
  | _, _, .nil, _, _, e => by simp at e
  | _, _, .cons r t, 0, _, e => by simp at e; subst e; exact ⟨_, rfl, r⟩
  | _, _, .cons r t, i + 1, _, e => by simpa using pairGet t (i := i) (by simpa using e)
theorem dX_at {P : Program} {w : World} {H : Hp} {h : Heap} {a : Addr} {ads : List Addr} {kvs : List (List Key × V)} (ok : HOk P w H h) (e : H a = some (.dT (some ads) kvs)) :
    (a == sysModules) = false ∧ kvs.length = ads.length ∧ ∃ od es, h.get? a = some od ∧ od.ExactDict ∧ od.data = .dict es ads.length ∧ es.size = ads.length ∧ (∀ (i : Nat) (b : Addr), ads[i]? = some b → ∃ en : DictEntry, es[i]? = some en ∧ en.key = .ref b ∧ ∃ kv, kvs[i]? = some kv ∧ RelV kv.2 en.val) := by
  obtain ⟨_, hd, xs, r, o, es, ep, h1, h2, h3, h4, h5, h6, h7⟩ := ok a _ e
  have l := h7 ads rfl
  have l2 : xs.length = ads.length := by rw [← l, List.length_map]
  subst h6
  refine ⟨hd, (Paired.length r).trans l2, o, es, h1, h2, l2 ▸ h3, by rw [← Array.length_toList, h4, List.length_map, l2], fun i b hb => ?_⟩
  rw [← l, List.getElem?_map] at hb
  obtain ⟨x, hx, rfl⟩ := Option.map_eq_some_iff.mp hb
  obtain ⟨kv, hkv, rr⟩ := pairGet r hx
  exact ⟨_, by rw [← Array.getElem?_toList, h4, List.getElem?_map, hx]; rfl, rfl, kv, hkv, rr.2.2⟩
noncomputable def Itd (a : Addr) (n : Nat) : It :=
  ⟨fun i H => ∃ ads kvs b, H a = some (.dT (some ads) kvs) ∧ ads.length = n ∧ ads[i]? = some b,
   fun i H x H' => H' = H ∧ ∀ ads kvs, H a = some (.dT (some ads) kvs) → ∃ b, ads[i]? = some b ∧ x = .ref b,
   fun i H => ∃ ads kvs, H a = some (.dT (some ads) kvs) ∧ ads.length = n ∧ n ≤ i⟩
theorem turn_dict {P : Program} {w : World} {K : PySem.W.Frag} {tg : Expr} (a it : Addr) (n : Nat) : Turn P w K tg (Itd a n) [it] it (fun i h => h.IsKeyIter it a i n n) where
  mem := by simp
  obj := fun i h st b hb => by
    have e : b = it := by simpa using hb
    subst e
    obtain ⟨o, e, c, d⟩ := st
    exact ⟨o, e, fun v z => by rw [d] at z; cases z⟩
  keep := fun i h h' st k => st.imp fun o e => ⟨k it (by simp) o e.1, e.2⟩
  item := by
    intro X hP hw hK hc i pins s σ H E I hf st hg
    subst hP hw hK
    obtain ⟨ads, kvs, b, ha, rfl, hb⟩ := hg
    obtain ⟨_, _, od, es, h1, h2, h3, h4, h5⟩ := dX_at I.hok ha
    obtain ⟨en, he, hk, _⟩ := h5 i b hb
    obtain ⟨f0, f1, f2, f3, f4, f5⟩ := hf it (by simp)
    refine nextD st h1 h3 h4 he fun h' st' sb => ?_
    have I1 : Inv X pins σ H { s with heap := h' } := I.turned (t' := s.toks) (fun b o hb e => (sb.2 b hb).trans e) f0 f1 f3 f4 f5
    obtain ⟨o, e, c, d⟩ := id st'
    exact ⟨_, rfl, go_of (s := { s with heap := h' }) e c d (by decide) ⟨.ref b, H, I1, hk, ⟨rfl, fun ads' kvs' e' => by
      rw [ha] at e'; injection e' with e'; injection e' with e1 e2; injection e1 with e1; subst e1; exact ⟨b, hb, rfl⟩⟩, st', fun b hb => (hf b hb).1⟩⟩
  done := by
    intro X hP hw hK hc i pins s σ H E I hf st hg
    subst hP hw hK
    obtain ⟨ads, kvs, ha, rfl, hi⟩ := hg
    obtain ⟨_, _, od, es, h1, h2, h3, h4, h5⟩ := dX_at I.hok ha
    obtain ⟨f0, f1, f2, f3, f4, f5⟩ := hf it (by simp)
    exact endD (I.ok.hd hc) st h1 h3 h4 hi fun h' eb => ⟨rfl, I.turned (t' := s.toks) (fun b o hb e => eb b o hb e) f0 f1 f3 f4 f5⟩
  self := fun _ _ _ _ _ st h => by
    obtain ⟨o, e, c, d⟩ := st
    refine wpAny_pyIter_slot ⟨o, e, c⟩ F.slot_dict_keyiterator_iter (wpAny_call_entry F.slot_dict_keyiterator_iter ⟨o, e, c⟩ F.entry_dict_keyiterator_iter ?_ (F.args_dict_keyiterator_iter_1 _))
    exact wpAny_bind (wpAny_pure (wpAny_pure ⟨_, rfl, "dict_keyiterator", _, ⟨o, e, c⟩, F.slot_dict_keyiterator_next.lookup, h⟩))
section
variable {X : Cx} {tg : Expr}
noncomputable def iDct (tl : TE) : TI := fun σ H R => tl σ H fun x H1 => ∃ a ads kvs, x = .ref a ∧ H1 a = some (.dT (some ads) kvs) ∧ R (Itd a ads.length) H1
theorem pi_dct {l : Expr} {tl : TE} (hl : PE X l tl) : PI X tg l (iDct tl) := by
  intro pins s σ H R I h
  refine thn (hl pins s σ H _ I h) fun v s1 ⟨x, H1, I1, r1, q1⟩ => ?_
  obtain ⟨a, ads, kvs, e, hq, q⟩ := q1
  subst e
  cases r1
  obtain ⟨hd, _, od, es, h1, h2, h3, h4, _⟩ := dX_at I1.hok hq
  refine iterD hd h1 h2 h3 h4 ⟨s1.heap.objs.size, [s1.heap.objs.size], _, _, H1, rfl, I1.kept (t' := s1.toks) fun b o e => Heap.get?_push_of_some _ e, turn_dict a _ ads.length, ⟨_, Heap.get?_push_size _ rfl, rfl, rfl⟩, fun b hb => ?_, q⟩
  have e : b = s1.heap.objs.size := by simpa using hb
  subst e
  exact I1.fpOk (Nat.le_refl _) (I1.hok.fresh (Nat.le_refl _))
end
end L2

namespace L2
open PySem PySem.Spec PyProof.Rows
section
variable {P : Program} {w : World} {A : Around} {E : Value → Shared → Prop} {s : Shared} {it d v : Addr} {i n : Nat} {od : Obj} {es : Array DictEntry}
theorem iterV {Q : Value → Shared → Prop} (hv : s.heap.IsValuesView v d) (g : s.heap.get? d = some od) (dt : od.data = .dict es n) (sz : es.size = n)
    (q : Q (.ref s.heap.objs.size) { s with heap := s.heap.push { cls := .type "dict_valueiterator", data := .fields #[.ref d, .int 0 0, .int n 0, .int n 0] } }) : wpAny (model P w) A (pyIter (.ref v)) Q E s := by
  have ty := hv.typeIs
  obtain ⟨ov, h1, h2, h3⟩ := hv
  refine wpAny_pyIter_slot ty F.slot_dict_values_iter (wpAny_call_entry F.slot_dict_values_iter ty F.entry_dict_values_iter (wpAny_bind (wpAny_pure (wpAny_bind ?_))) (F.args_dict_values_iter_1 _))
  unfold Builtin.Dict_items.dictOf
  refine wpAny_bind (wpAny_field h1 h3 (x := .ref d) rfl (wpAny_pure (wpAny_bind ?_)))
  unfold Builtin.Dict_items.newIterator
  refine wpAny_bind (wpAny_dictEntries g dt (wpAny_bind (wpAny_dictEpoch g dt ?_)))
  simp only [show Builtin.Dict_items.ownsTuple "dict_valueiterator" = false by decide, Bool.false_eq_true, if_false]
  refine wpAny_newObj_type (wpAny_pure ⟨_, rfl, "dict_valueiterator", _, ⟨_, Heap.get?_push_size _ rfl, rfl⟩, F.slot_dict_valueiterator_next.lookup, ?_⟩)
  simpa [rawInt, sz] using q
theorem nextV {Q : Option Value → Shared → Prop} {en : DictEntry} (hi : s.heap.IsValIter it d i n n) (g : s.heap.get? d = some od) (dt : od.data = .dict es n) (sz : es.size = n) (e : es[i]? = some en)
    (q : ∀ g', g'.IsValIter it d (i + 1) n n → Heap.SameBut it s.heap g' → Q (some en.val) { s with heap := g' }) : wpAny (model P w) A (pyNext (.ref it)) Q E s := by
  have ty := hi.typeIs
  obtain ⟨o, h1, h2, h3⟩ := hi
  unfold pyNext
  refine wpAny_bind (wpAny_attempt (wpAny_callSpecial?_slot (name := Str.ofString "__next__") ty F.slot_dict_valueiterator_next (wpAny_call_entry F.slot_dict_valueiterator_next ty F.entry_dict_valueiterator_next (wpAny_bind (wpAny_pure (wpAny_bind (wpAny_bind ?_)))) (F.args_dict_valueiterator_next_1 _))))
  refine wpAny_bind (wpAny_typeNameOfWhole_valiter ty (wpAny_pure (wpAny_bind (wpAny_fieldsOf h1 h3 ?_))))
  simp only [show Builtin.Dict_items.ownsTuple "dict_valueiterator" = false by decide, Bool.false_eq_true, if_false]
  show wpAny _ _ (if (Value.ref d == Value.none) = true then _ else _) _ _ s
  rw [if_neg (show ¬ ((Value.ref d == Value.none) = true) from Bool.false_ne_true)]
  refine wpAny_bind (wpAny_pure (wpAny_bind (wpAny_dictEntries g dt ?_)))
  rw [if_neg (by rw [sz]; simp)]
  refine wpAny_bind (wpAny_pure (wpAny_bind (wpAny_dictEpoch g dt ?_)))
  rw [if_neg (by simp)]
  refine wpAny_pure ?_
  simp only [show ¬ ((i : Int) < 0) from by omega, if_false, Int.toNat_natCast, e]
  refine wpAny_bind (wpAny_bind (wpAny_typeNameOfWhole_valiter ty (wpAny_pure (wpAny_bind (wpAny_isOneOf_valiter ty ?_)))))
  show wpAny _ _ (setField (.ref it) 1 (rawInt ((i : Int) + 1)) >>= _) _ _ s
  refine wpAny_bind (wpAny_setField h1 h3 (by simp) ?_)
  have st : (s.heap.update it (Obj.mapFields (·.setIfInBounds 1 (rawInt ((i : Int) + 1))))).IsValIter it d (i + 1) n n :=
    ⟨_, Heap.get?_update_self _ h1 (Obj.isFreed_of_fields (Obj.data_mapFields h3 _)), (Obj.cls_mapFields ..).trans h2, by rw [Obj.data_mapFields h3]; simp [rawInt]⟩
  refine wpAny_bind (wpAny_holding (wpAny_bind (wpAny_isOneOf_valiter (s := { s with heap := s.heap.update it (Obj.mapFields (·.setIfInBounds 1 (rawInt ((i : Int) + 1)))) }) st.typeIs (wpAny_bind (wpAny_isOneOf_valiter (s := { s with heap := s.heap.update it (Obj.mapFields (·.setIfInBounds 1 (rawInt ((i : Int) + 1)))) }) st.typeIs ?_)))))
  show wpAny _ _ (pure en.val) _ _ _
  exact wpAny_pure (wpAny_pure ⟨_, rfl, wpAny_pure (q _ st (Heap.SameBut.update ..))⟩)
theorem endV {Q : Option Value → Shared → Prop} (hh : A.handled = none) (hi : s.heap.IsValIter it d i n n) (g : s.heap.get? d = some od) (dt : od.data = .dict es n) (sz : es.size = n) (e : n ≤ i)
    (q : ∀ g', Heap.ExtBut it s.heap g' → Q none { s with heap := g' }) : wpAny (model P w) A (pyNext (.ref it)) Q E s := by
  have ty := hi.typeIs
  obtain ⟨o, h1, h2, h3⟩ := hi
  unfold pyNext
  refine wpAny_bind (wpAny_attempt (wpAny_callSpecial?_slot (name := Str.ofString "__next__") ty F.slot_dict_valueiterator_next (wpAny_call_entry F.slot_dict_valueiterator_next ty F.entry_dict_valueiterator_next (wpAny_bind (wpAny_pure (wpAny_bind (wpAny_bind ?_)))) (F.args_dict_valueiterator_next_1 _))))
  refine wpAny_bind (wpAny_typeNameOfWhole_valiter ty (wpAny_pure (wpAny_bind (wpAny_fieldsOf h1 h3 ?_))))
  simp only [show Builtin.Dict_items.ownsTuple "dict_valueiterator" = false by decide, Bool.false_eq_true, if_false]
  show wpAny _ _ (if (Value.ref d == Value.none) = true then _ else _) _ _ s
  rw [if_neg (show ¬ ((Value.ref d == Value.none) = true) from Bool.false_ne_true)]
  refine wpAny_bind (wpAny_pure (wpAny_bind (wpAny_dictEntries g dt ?_)))
  rw [if_neg (by rw [sz]; simp)]
  refine wpAny_bind (wpAny_pure (wpAny_bind (wpAny_dictEpoch g dt ?_)))
  rw [if_neg (by simp)]
  refine wpAny_pure ?_
  simp only [show ¬ ((i : Int) < 0) from by omega, if_false, Int.toNat_natCast, Array.getElem?_eq_none (show es.size ≤ i by omega)]
  refine wpAny_bind (wpAny_bind (wpAny_typeNameOfWhole_valiter ty (wpAny_pure ?_)))
  show wpAny _ _ (setField (.ref it) 0 .none >>= _) _ _ s
  refine wpAny_bind (wpAny_setField h1 h3 (by simp) (show wpAny _ _ (newExc (.type "StopIteration") [] >>= _) _ _ _ from wpAny_bind ?_))
  simp only [newExc, newTuple]
  refine wpAny_bind (wpAny_newObj_type (wpAny_bind (m := firstArgMember _ _) (wpAny_of_eq (a := Value.none) (by first | rfl | (simp only [firstArgMember]; rfl)) (wpAny_newObj_type ?_ (by size_fits)))) (by size_fits))
  simp only [raiseNew]
  refine wpAny_bind (wpAny_handled ?_)
  rw [show A.in1.handled = none from hh]
  refine wpAny_bind (wpAny_pure (wpAny_throw ?_))
  refine wpAny_bind (wpAny_isInstance (b := true) (T := "StopIteration") ⟨_, Heap.get?_push_size _ rfl, rfl⟩ isSubtype_stop ?_)
  exact wpAny_pure (q _ (((Heap.SameBut.update ..).extBut.push _).push _))
structure Wk (P : Program) (w : World) (A : Around) (I : Addr) (fp wr : List Addr) (n : Nat) (R : Nat → Value → Prop) (St : Nat → Heap → Prop) : Prop where
  sub : ∀ b ∈ wr, b ∈ fp
  frame : ∀ i h h', St i h → (∀ b ∈ fp, ∀ o, h.get? b = some o → h'.get? b = some o) → St i h'
  item : ∀ i (s : Shared) (Q : Option Value → Shared → Prop) (E : Value → Shared → Prop), i < n → St i s.heap → (∀ v h' tk, R i v → St (i + 1) h' → (∀ b o, b ∉ wr → s.heap.get? b = some o → h'.get? b = some o) → Q (some v) { s with heap := h', toks := tk }) → wpAny (model P w) A (pyNext (.ref I)) Q E s
  done : ∀ (s : Shared) (Q : Option Value → Shared → Prop) (E : Value → Shared → Prop), St n s.heap → (∀ h' tk, (∀ b o, b ∉ wr → s.heap.get? b = some o → h'.get? b = some o) → Q none { s with heap := h', toks := tk }) → wpAny (model P w) A (pyNext (.ref I)) Q E s
theorem Wk.of {I : Addr} {fp wr : List Addr} {R : Nat → Value → Prop} {St : Nat → Heap → Prop} (W : Walks P w A I fp wr n R St) : Wk P w A I fp wr n R St := ⟨W.sub, W.frame, W.item, W.done⟩
theorem walkV (hh : A.handled = none) (ne : d ≠ it) (sz : es.size = n) (dt : od.data = .dict es n) :
    Wk P w A it [it, d] [it] n (fun i v => ∃ en : DictEntry, es[i]? = some en ∧ v = en.val) (fun i h => h.IsValIter it d i n n ∧ h.get? d = some od) where
  sub := fun b hb => by simp at hb; simp [hb]
  frame := fun _ _ _ st hk => ⟨st.1.imp fun o e => ⟨hk it (by simp) o e.1, e.2⟩, hk d (by simp) _ st.2⟩
  item := fun i s Q E hi st hq => by
    have hl : i < es.size := by omega
    exact nextV st.1 st.2 dt sz (Array.getElem?_eq_getElem hl) fun g' st' sb => hq _ g' s.toks ⟨_, Array.getElem?_eq_getElem hl, rfl⟩ ⟨st', (sb.2 d ne).trans st.2⟩ fun b o hb e => (sb.2 b (by simpa using hb)).trans e
  done := fun s Q E st hq => endV hh st.1 st.2 dt sz (Nat.le_refl _) fun g' eb => hq g' s.toks fun b o hb e => eb b o (by simpa using hb) e
theorem ming {I S : Addr} {fp wr : List Addr} {G : Nat → Value → Prop} {St : Nat → Heap → Prop} {R : Result → Shared → Prop} (W : Wk P w A.in1 I fp wr n G St) (bt : Nat → Nat → Bool) (hcmp : CmpOf P w A.in1 .Lt G bt) (hSf : S ∉ fp) (kw : List (Str × Value)) :
    ∀ (k j : Nat) (s : Shared) (m : Array Value) (c : Nat), n - j = k → j ≤ n → St j s.heap → ((j = 0 ∧ m = #[]) ∨ ∃ i vb, j = i + 1 ∧ m = #[vb, vb] ∧ G (argBest bt i) vb) →
    s.heap.get? S = some { cls := .type "list", dict := none, data := .seq m c, slots := #[] } → (n = 0 → ∃ x r, kw = x :: r) →
    (∀ v h' tk, (0 < n → G (argBest bt (n - 1)) v) → (n = 0 → ∃ x r, kw = (x, v) :: r) → (∀ b o, b ∉ wr → b ≠ S → s.heap.get? b = some o → h'.get? b = some o) → R (.ok (.ret v)) { s with heap := h', toks := tk }) →
    codeAny (model P w) A (.builtin "min.loop" ⟨[.ref I, .none, .ref S], kw⟩) R s := by
  have sw : S ∉ wr := fun h => hSf (W.sub _ h)
  have nm : (toString "min" ++ toString ".loop" : String) = "min.loop" := by decide
  intro k
  induction k with
  | zero =>
    intro j s m c hk hj st hm hS h0 hR
    have hin : j = n := Nat.le_antisymm hj (Nat.le_of_sub_eq_zero hk)
    subst hin
    refine codeAny_builtin F.entry_min_loop ?_
    rw [Around.under_plainId F.plain_min_loop _]
    refine (show wpAny _ A.in1 (seqItems? (.ref S) >>= _) _ _ s from wpAny_bind (wpAny_seqItems hS rfl (show wpAny _ A.in1 (tryCatch (pyNext (.ref I)) _ >>= _) _ _ s from wpAny_bind (wpAny_tryCatch (W.done s _ _ st fun h' tk hk' => ?_)))))
    have hS' := hk' S _ sw hS
    rcases hm with ⟨e1, e2⟩ | ⟨i, vb, rfl, rfl, hP⟩
    · subst e2
      obtain ⟨⟨x, v⟩, r, rfl⟩ := h0 e1
      exact wpAny_bind (wpAny_rule (wpAny_pure (hR v h' tk (fun z => absurd e1 (Nat.ne_of_gt z)) (fun _ => ⟨x, r, rfl⟩) fun b o hbw _ e => hk' b o hbw e)))
    · refine (show wpAny _ A.in1 (updateSeq S (fun _ => #[]) >>= _) _ _ _ from wpAny_bind (wpAny_updateSeq hS' rfl (wpAny_bind (wpAny_letGo (wpAny_pure ?_)))))
      exact hR vb _ tk (fun _ => hP) (fun z => absurd z (Nat.succ_ne_zero _)) fun b o hbw hbS e => (Heap.get?_update_other _ _ (Ne.symm hbS)).trans (hk' b o hbw e)
  | succ k ih =>
    intro j s m c hk hj st hm hS h0 hR
    have hlt : j < n := Nat.lt_of_sub_pos (by rw [hk]; exact Nat.succ_pos _)
    have hk2 : n - (j + 1) = k := by rw [← Nat.sub_sub, hk]; rfl
    refine codeAny_builtin F.entry_min_loop ?_
    rw [Around.under_plainId F.plain_min_loop _]
    refine (show wpAny _ A.in1 (seqItems? (.ref S) >>= _) _ _ s from wpAny_bind (wpAny_seqItems hS rfl (show wpAny _ A.in1 (tryCatch (pyNext (.ref I)) _ >>= _) _ _ s from wpAny_bind (wpAny_tryCatch (W.item j s _ _ hlt st fun v h' tk hP st' hk' => ?_)))))
    have hS' := hk' S _ sw hS
    rcases hm with ⟨e1, e2⟩ | ⟨i, vb, rfl, rfl, hb⟩
    · subst e1 e2
      refine (show wpAny _ A.in1 (updateSeq S (fun _ => #[v, v]) >>= _) _ _ _ from wpAny_bind (wpAny_updateSeq hS' rfl ?_))
      rw [nm]
      refine wpAny_pure ⟨plainId_quiet F.plain_min_loop _, ih 1 _ _ _ hk2 hlt (W.frame _ _ _ st' fun b hbf o e => ?_) (.inr ⟨0, v, rfl, rfl, hP⟩) (Heap.get?_update_self _ hS' rfl) h0 fun v' h'' tk'' a1 a2 hk'' => ?_⟩
      · exact (Heap.get?_update_other _ _ (fun h : S = b => hSf (by rw [h]; exact hbf))).trans e
      · exact hR v' h'' tk'' a1 a2 fun b o hbw hbS e => hk'' b o hbw hbS ((Heap.get?_update_other _ _ (Ne.symm hbS)).trans (hk' b o hbw e))
    · refine (show wpAny _ A.in1 (tryCatch (holding [v, v] (richCompare .Lt v vb >>= _)) _ >>= _) _ _ _ from wpAny_bind (wpAny_tryCatch (wpAny_holding (wpAny_bind (hcmp (i + 1) (argBest bt i) v vb _ _ _ hP hb (wpAny_bind (wpAny_holding (wpAny_truthy_bool (wpAny_bind (wpAny_letGo (wpAny_pure ?_)))))))))))
      cases z : bt (i + 1) (argBest bt i) with
      | true =>
        simp only [if_true]
        refine wpAny_bind (wpAny_updateSeq hS' rfl (wpAny_bind (wpAny_letGo ?_)))
        rw [nm]
        refine wpAny_pure ⟨plainId_quiet F.plain_min_loop _, ih (i + 1 + 1) _ _ _ hk2 hlt (W.frame _ _ _ st' fun b hbf o e => ?_) (.inr ⟨i + 1, v, rfl, rfl, by simp only [argBest, z, if_true]; exact hP⟩) (Heap.get?_update_self _ hS' rfl) h0 fun v' h'' tk'' a1 a2 hk'' => ?_⟩
        · exact (Heap.get?_update_other _ _ (fun h : S = b => hSf (by rw [h]; exact hbf))).trans e
        · exact hR v' h'' tk'' a1 a2 fun b o hbw hbS e => hk'' b o hbw hbS ((Heap.get?_update_other _ _ (Ne.symm hbS)).trans (hk' b o hbw e))
      | false =>
        simp only [Bool.false_eq_true, if_false]
        refine wpAny_bind (wpAny_letGo ?_)
        rw [nm]
        exact wpAny_pure ⟨plainId_quiet F.plain_min_loop _, ih (i + 1 + 1) _ _ _ hk2 hlt st' (.inr ⟨i + 1, vb, rfl, rfl, by simp only [argBest, z, Bool.false_eq_true, if_false]; exact hb⟩) hS' h0 fun v' h'' tk'' a1 a2 hk'' =>
          hR v' h'' tk'' a1 a2 fun b o hbw hbS e => hk'' b o hbw hbS (hk' b o hbw e)⟩
theorem maxg {I S : Addr} {fp wr : List Addr} {G : Nat → Value → Prop} {St : Nat → Heap → Prop} {R : Result → Shared → Prop} (W : Wk P w A.in1 I fp wr n G St) (bt : Nat → Nat → Bool) (hcmp : CmpOf P w A.in1 .Gt G bt) (hSf : S ∉ fp) (kw : List (Str × Value)) :
    ∀ (k j : Nat) (s : Shared) (m : Array Value) (c : Nat), n - j = k → j ≤ n → St j s.heap → ((j = 0 ∧ m = #[]) ∨ ∃ i vb, j = i + 1 ∧ m = #[vb, vb] ∧ G (argBest bt i) vb) →
    s.heap.get? S = some { cls := .type "list", dict := none, data := .seq m c, slots := #[] } → (n = 0 → ∃ x r, kw = x :: r) →
    (∀ v h' tk, (0 < n → G (argBest bt (n - 1)) v) → (n = 0 → ∃ x r, kw = (x, v) :: r) → (∀ b o, b ∉ wr → b ≠ S → s.heap.get? b = some o → h'.get? b = some o) → R (.ok (.ret v)) { s with heap := h', toks := tk }) →
    codeAny (model P w) A (.builtin "max.loop" ⟨[.ref I, .none, .ref S], kw⟩) R s := by
  have sw : S ∉ wr := fun h => hSf (W.sub _ h)
  have nm : (toString "max" ++ toString ".loop" : String) = "max.loop" := by decide
  intro k
  induction k with
  | zero =>
    intro j s m c hk hj st hm hS h0 hR
    have hin : j = n := Nat.le_antisymm hj (Nat.le_of_sub_eq_zero hk)
    subst hin
    refine codeAny_builtin F.entry_max_loop ?_
    rw [Around.under_plainId F.plain_max_loop _]
    refine (show wpAny _ A.in1 (seqItems? (.ref S) >>= _) _ _ s from wpAny_bind (wpAny_seqItems hS rfl (show wpAny _ A.in1 (tryCatch (pyNext (.ref I)) _ >>= _) _ _ s from wpAny_bind (wpAny_tryCatch (W.done s _ _ st fun h' tk hk' => ?_)))))
    have hS' := hk' S _ sw hS
    rcases hm with ⟨e1, e2⟩ | ⟨i, vb, rfl, rfl, hP⟩
    · subst e2
      obtain ⟨⟨x, v⟩, r, rfl⟩ := h0 e1
      exact wpAny_bind (wpAny_rule (wpAny_pure (hR v h' tk (fun z => absurd e1 (Nat.ne_of_gt z)) (fun _ => ⟨x, r, rfl⟩) fun b o hbw _ e => hk' b o hbw e)))
    · refine (show wpAny _ A.in1 (updateSeq S (fun _ => #[]) >>= _) _ _ _ from wpAny_bind (wpAny_updateSeq hS' rfl (wpAny_bind (wpAny_letGo (wpAny_pure ?_)))))
      exact hR vb _ tk (fun _ => hP) (fun z => absurd z (Nat.succ_ne_zero _)) fun b o hbw hbS e => (Heap.get?_update_other _ _ (Ne.symm hbS)).trans (hk' b o hbw e)
  | succ k ih =>
    intro j s m c hk hj st hm hS h0 hR
    have hlt : j < n := Nat.lt_of_sub_pos (by rw [hk]; exact Nat.succ_pos _)
    have hk2 : n - (j + 1) = k := by rw [← Nat.sub_sub, hk]; rfl
    refine codeAny_builtin F.entry_max_loop ?_
    rw [Around.under_plainId F.plain_max_loop _]
    refine (show wpAny _ A.in1 (seqItems? (.ref S) >>= _) _ _ s from wpAny_bind (wpAny_seqItems hS rfl (show wpAny _ A.in1 (tryCatch (pyNext (.ref I)) _ >>= _) _ _ s from wpAny_bind (wpAny_tryCatch (W.item j s _ _ hlt st fun v h' tk hP st' hk' => ?_)))))
    have hS' := hk' S _ sw hS
    rcases hm with ⟨e1, e2⟩ | ⟨i, vb, rfl, rfl, hb⟩
    · subst e1 e2
      refine (show wpAny _ A.in1 (updateSeq S (fun _ => #[v, v]) >>= _) _ _ _ from wpAny_bind (wpAny_updateSeq hS' rfl ?_))
      rw [nm]
      refine wpAny_pure ⟨plainId_quiet F.plain_max_loop _, ih 1 _ _ _ hk2 hlt (W.frame _ _ _ st' fun b hbf o e => ?_) (.inr ⟨0, v, rfl, rfl, hP⟩) (Heap.get?_update_self _ hS' rfl) h0 fun v' h'' tk'' a1 a2 hk'' => ?_⟩
      · exact (Heap.get?_update_other _ _ (fun h : S = b => hSf (by rw [h]; exact hbf))).trans e
      · exact hR v' h'' tk'' a1 a2 fun b o hbw hbS e => hk'' b o hbw hbS ((Heap.get?_update_other _ _ (Ne.symm hbS)).trans (hk' b o hbw e))
    · refine (show wpAny _ A.in1 (tryCatch (holding [v, v] (richCompare .Gt v vb >>= _)) _ >>= _) _ _ _ from wpAny_bind (wpAny_tryCatch (wpAny_holding (wpAny_bind (hcmp (i + 1) (argBest bt i) v vb _ _ _ hP hb (wpAny_bind (wpAny_holding (wpAny_truthy_bool (wpAny_bind (wpAny_letGo (wpAny_pure ?_)))))))))))
      cases z : bt (i + 1) (argBest bt i) with
      | true =>
        simp only [if_true]
        refine wpAny_bind (wpAny_updateSeq hS' rfl (wpAny_bind (wpAny_letGo ?_)))
        rw [nm]
        refine wpAny_pure ⟨plainId_quiet F.plain_max_loop _, ih (i + 1 + 1) _ _ _ hk2 hlt (W.frame _ _ _ st' fun b hbf o e => ?_) (.inr ⟨i + 1, v, rfl, rfl, by simp only [argBest, z, if_true]; exact hP⟩) (Heap.get?_update_self _ hS' rfl) h0 fun v' h'' tk'' a1 a2 hk'' => ?_⟩
        · exact (Heap.get?_update_other _ _ (fun h : S = b => hSf (by rw [h]; exact hbf))).trans e
        · exact hR v' h'' tk'' a1 a2 fun b o hbw hbS e => hk'' b o hbw hbS ((Heap.get?_update_other _ _ (Ne.symm hbS)).trans (hk' b o hbw e))
      | false =>
        simp only [Bool.false_eq_true, if_false]
        refine wpAny_bind (wpAny_letGo ?_)
        rw [nm]
        exact wpAny_pure ⟨plainId_quiet F.plain_max_loop _, ih (i + 1 + 1) _ _ _ hk2 hlt st' (.inr ⟨i + 1, vb, rfl, rfl, by simp only [argBest, z, Bool.false_eq_true, if_false]; exact hb⟩) hS' h0 fun v' h'' tk'' a1 a2 hk'' =>
          hR v' h'' tk'' a1 a2 fun b o hbw hbS e => hk'' b o hbw hbS (hk' b o hbw e)⟩
theorem meetV (d : Addr) (hd : (d == sysModules) = false) {od : Obj} {Q : Value → Shared → Prop} (g : s.heap.get? d = some od) (ex : od.ExactDict)
    (q : Q (.ref s.heap.objs.size) { s with heap := s.heap.push { cls := .type "dict_values", data := .fields #[.ref d] } }) : wpAny (model P w) A (call (.builtin "dict.values") [.ref d]) Q E s := by
  have ty : s.TypeIs (.ref d) "dict" := ⟨od, g, ex.1⟩
  refine wpAny_call_entry F.slot_dict_values ty F.entry_dict_values (wpAny_bind ?_) (F.args_dict_values_1 _)
  unfold Builtin.Dict.noArgs
  refine wpAny_bind (wpAny_notOrdered_dict ty (show wpAny _ _ (pure d) _ _ s from wpAny_pure (show wpAny _ _ (Builtin.Dict.showsAll d >>= _) _ _ s from ?_)))
  unfold Builtin.Dict.showsAll
  rw [if_neg (by rw [hd]; exact Bool.false_ne_true)]
  exact wpAny_bind (wpAny_pure (wpAny_bind (wpAny_newObj_type (wpAny_pure ⟨_, rfl, q⟩))))
end
noncomputable def loN (f : Nat → Int) : Nat → Int
  | 0 => f 0
  | k + 1 => if f (k + 1) < loN f k then f (k + 1) else loN f k
noncomputable def hiN (f : Nat → Int) : Nat → Int
  | 0 => f 0
  | k + 1 => if f (k + 1) > hiN f k then f (k + 1) else hiN f k
theorem best_lo (f : Nat → Int) : ∀ k, f (argBest (fun i j => decide (f i < f j)) k) = loN f k
  | 0 => rfl
  | k + 1 => by
    show f (if _ then _ else _) = if _ then _ else _
    rw [← best_lo f k]
    by_cases h : f (k + 1) < f (argBest (fun i j => decide (f i < f j)) k)
    · rw [if_pos (by simpa using h), if_pos h]
    · rw [if_neg (by simpa using h), if_neg h]
theorem best_hi (f : Nat → Int) : ∀ k, f (argBest (fun i j => decide (f i > f j)) k) = hiN f k
  | 0 => rfl
  | k + 1 => by
    show f (if _ then _ else _) = if _ then _ else _
    rw [← best_hi f k]
    by_cases h : f (k + 1) > f (argBest (fun i j => decide (f i > f j)) k)
    · rw [if_pos (by simpa using h), if_pos h]
    · rw [if_neg (by simpa using h), if_neg h]
noncomputable def minL (ns : List Int) : Int := ns.tail.foldl (fun m x => if x < m then x else m) (ns.headD 0)
noncomputable def maxL (ns : List Int) : Int := ns.tail.foldl (fun m x => if x > m then x else m) (ns.headD 0)
theorem lo_list (ns : List Int) (f : Nat → Int) (h : ∀ i x, ns[i]? = some x → f i = x) (ne : ns ≠ []) : loN f (ns.length - 1) = minL ns := by
  cases ns with
  | nil => exact absurd rfl ne
  | cons a r =>
    have key : ∀ k, k ≤ r.length → loN f k = (r.take k).foldl (fun m x => if x < m then x else m) a := by
      intro k
      induction k with
      | zero => intro _; exact h 0 a rfl
      | succ k ih =>
        intro hk
        have e : r[k]? = some r[k] := by simp
        rw [List.take_succ, e, Option.toList_some, List.foldl_append]
        show (if f (k + 1) < loN f k then f (k + 1) else loN f k) = _
        rw [ih (by omega), h (k + 1) r[k] (by simpa using e)]
        rfl
    show loN f (r.length + 1 - 1) = _
    rw [Nat.add_sub_cancel, key _ (Nat.le_refl _), List.take_length]; rfl
theorem hi_list (ns : List Int) (f : Nat → Int) (h : ∀ i x, ns[i]? = some x → f i = x) (ne : ns ≠ []) : hiN f (ns.length - 1) = maxL ns := by
  cases ns with
  | nil => exact absurd rfl ne
  | cons a r =>
    have key : ∀ k, k ≤ r.length → hiN f k = (r.take k).foldl (fun m x => if x > m then x else m) a := by
      intro k
      induction k with
      | zero => intro _; exact h 0 a rfl
      | succ k ih =>
        intro hk
        have e : r[k]? = some r[k] := by simp
        rw [List.take_succ, e, Option.toList_some, List.foldl_append]
        show (if f (k + 1) > hiN f k then f (k + 1) else hiN f k) = _
        rw [ih (by omega), h (k + 1) r[k] (by simpa using e)]
        rfl
    show hiN f (r.length + 1 - 1) = _
    rw [Nat.add_sub_cancel, key _ (Nat.le_refl _), List.take_length]; rfl
end L2

namespace L2
open PySem PySem.Spec PyProof.Rows
section
variable {P : Program} {w : World} {A : Around} {E : Value → Shared → Prop} {s : Shared}
theorem callT {id : String} {b : Builtin} {args : List Value} {kw : List (Str × Value)} {Q : Value → Shared → Prop} (hk : builtinKind id = none) (hp : plainId id = true) (hb : entryFor table id = some b) (ha : argsOk id ⟨args, kw⟩)
    (hc : wpAny (model P w) A.in1 (b ⟨args, kw⟩) (fun fin s' => match fin with
      | .done f => (match (Except.ok f : Result) with | .ok (.ret v) => Q v s' | .ok _ => False | .error e => E e s')
      | .again c' => c'.quiet = true ∧ codeAny (model P w) A c' (fun r s' => match r with | .ok (.ret v) => Q v s' | .ok _ => False | .error e => E e s') s') E s) : wpAny (model P w) A (call (.builtin id) args kw) Q E s := by
  refine wpAny_call (codeAny_call_builtin hp hb ?_)
  simp only [checkBuiltinCall, hk]
  cases hs : Manifest.signature? id with
  | none => exact wpAny_pure hc
  | some sig =>
    have z : Bind.checkArgs id sig ⟨args, kw⟩ = pure () := by simpa only [argsOk, hs] using ha
    simp only [z]
    exact wpAny_pure hc
theorem args_maxD (a b : Value) : argsOk "max" ⟨[a], [("default", b)]⟩ := by unfold argsOk; kernel_rfl
theorem minK {x : Value} {Q : Value → Shared → Prop}
    (h : wpAny (model P w) A.in1 (pyIter x) (fun it s₂ => ∃ I fp wr n G St bt, it = .ref I ∧ Wk P w A.in1 I fp wr n G St ∧ St 0 s₂.heap ∧ (∀ b ∈ fp, b < s₂.heap.objs.size) ∧ 0 < n ∧ CmpOf P w A.in1 .Lt G bt ∧
      ∀ v h' tk, G (argBest bt (n - 1)) v → (∀ b o, b ∉ wr → s₂.heap.get? b = some o → h'.get? b = some o) → Q v { s₂ with heap := h', toks := tk }) E s) : wpAny (model P w) A (call (.builtin "min") [x]) Q E s := by
  have nm : (toString "min" ++ toString ".loop" : String) = "min.loop" := by decide
  refine callT F.kind_min F.plain_min F.entry_min (F.args_min1 _) (show wpAny _ A.in1 (Builtin.Builtins.bindParams "min" ["key", "default"] 0 ⟨[], []⟩ >>= _) _ _ s from ?_)
  refine wpAny_bind (wpAny_of_eq (show Builtin.Builtins.bindParams "min" ["key", "default"] 0 ⟨[], []⟩ = pure [none, none] from rfl) (wpAny_bind (wpAny_pure (wpAny_bind (wpAny_mono h (fun it s₂ h₂ => ?_) fun _ _ e => e)))))
  obtain ⟨I, fp, wr, n, G, St, bt, rfl, W, st, hfp, hn, hcmp, hQ⟩ := h₂
  refine wpAny_bind (wpAny_newObj_type ?_)
  have hSf : s₂.heap.objs.size ∉ fp := fun hm => Nat.lt_irrefl _ (hfp _ hm)
  rw [nm]
  refine wpAny_pure ⟨plainId_quiet F.plain_min_loop _, ming W bt hcmp hSf [] _ 0 _ #[] _ rfl (Nat.zero_le _) (W.frame _ _ _ st fun b _ o e => Heap.get?_push_of_some _ e) (.inl ⟨rfl, rfl⟩) (Heap.get?_push_size _ rfl) (fun z => absurd z (Nat.ne_of_gt hn)) fun v h' tk hP _ hk => ?_⟩
  exact hQ v h' tk (hP hn) fun b o hbw e => hk b o hbw (Nat.ne_of_lt (Heap.lt_size e)) (Heap.get?_push_of_some _ e)
theorem maxK {x d : Value} {Q : Value → Shared → Prop}
    (h : wpAny (model P w) A.in1 (pyIter x) (fun it s₂ => ∃ I fp wr n G St bt, it = .ref I ∧ Wk P w A.in1 I fp wr n G St ∧ St 0 s₂.heap ∧ (∀ b ∈ fp, b < s₂.heap.objs.size) ∧ CmpOf P w A.in1 .Gt G bt ∧
      ∀ v h' tk, (0 < n → G (argBest bt (n - 1)) v) → (n = 0 → v = d) → (∀ b o, b ∉ wr → s₂.heap.get? b = some o → h'.get? b = some o) → Q v { s₂ with heap := h', toks := tk }) E s) : wpAny (model P w) A (call (.builtin "max") [x] [("default", d)]) Q E s := by
  have nm : (toString "max" ++ toString ".loop" : String) = "max.loop" := by decide
  refine callT F.kind_max F.plain_max F.entry_max (args_maxD _ _) (show wpAny _ A.in1 (Builtin.Builtins.bindParams "max" ["key", "default"] 0 ⟨[], [("default", d)]⟩ >>= _) _ _ s from ?_)
  refine wpAny_bind (wpAny_of_eq (show Builtin.Builtins.bindParams "max" ["key", "default"] 0 ⟨[], [("default", d)]⟩ = pure [none, some d] from rfl) (wpAny_bind (wpAny_pure (wpAny_bind (wpAny_mono h (fun it s₂ h₂ => ?_) fun _ _ e => e)))))
  obtain ⟨I, fp, wr, n, G, St, bt, rfl, W, st, hfp, hcmp, hQ⟩ := h₂
  refine wpAny_bind (wpAny_newObj_type ?_)
  have hSf : s₂.heap.objs.size ∉ fp := fun hm => Nat.lt_irrefl _ (hfp _ hm)
  rw [nm]
  refine wpAny_pure ⟨plainId_quiet F.plain_max_loop _, maxg W bt hcmp hSf [("default", d)] _ 0 _ #[] _ rfl (Nat.zero_le _) (W.frame _ _ _ st fun b _ o e => Heap.get?_push_of_some _ e) (.inl ⟨rfl, rfl⟩) (Heap.get?_push_size _ rfl) (fun z => ⟨_, _, rfl⟩) fun v h' tk hP h0 hk => ?_⟩
  exact hQ v h' tk hP (fun z => by obtain ⟨x, r, e⟩ := h0 z; injection e with e _; injection e with _ e; exact e.symm) fun b o hbw e => hk b o hbw (Nat.ne_of_lt (Heap.lt_size e)) (Heap.get?_push_of_some _ e)
end
section
variable {X : Cx}
theorem mem2 {a b x : Addr} (h : x ∈ [a, b]) : x = a ∨ x = b := by simpa using h
theorem ints_walk {pins : List (Addr × Obj)} {σ : St} {H : Hp} {s : Shared} {l : Addr} {ns : List Int} (I : Inv X pins σ H s) (hq : SqL X.K H l (ns.map V.int)) :
    ∃ its : Array Value, s.heap.IsList l its ∧ its.size = ns.length ∧ ∀ (i : Nat) (v : Value), its[i]? = some v → ∃ t, v = Value.int (ns[i]?.getD 0) t := by
  obtain ⟨its, rv, pl, _⟩ := I.list hq
  refine ⟨its.toArray, pl.isList, by simpa using rv.length.symm, fun i v hv => ?_⟩
  have hv' : its[i]? = some v := by simpa using hv
  have hl : i < ns.length := by
    have := (List.getElem?_eq_some_iff.mp hv').1
    have z := rv.length
    rw [List.length_map] at z; omega
  obtain ⟨u, hu, ru⟩ := rv.get (i := i) (x := .int ns[i]) (by simp [hl])
  rw [hv'] at hu; cases hu
  rw [show ns[i]? = some ns[i] by simp [hl]]
  exact ru
theorem walkL {P : Program} {w : World} {A : Around} {s : Shared} {l : Addr} {its : Array Value} {Q : Value → Shared → Prop} {E : Value → Shared → Prop} (hl : s.heap.IsList l its)
    (h : ∀ s₂ : Shared, s₂ = { s with heap := s.heap.push { cls := .type "list_iterator", data := .fields #[.ref l, .int 0 0] } } → (s₂.heap.IsListIter s.heap.objs.size l 0 ∧ s₂.heap.IsList l its) → (∀ b ∈ [s.heap.objs.size, l], b < s₂.heap.objs.size) → l ≠ s.heap.objs.size →
      (∀ h' : Heap, (∀ b o, b ∉ [s.heap.objs.size] → s₂.heap.get? b = some o → h'.get? b = some o) → ∀ b o, s.heap.get? b = some o → h'.get? b = some o) → Q (.ref s.heap.objs.size) s₂) : wpAny (model P w) A (pyIter (.ref l)) Q E s := by
  have lt : l < s.heap.objs.size := by obtain ⟨_, e, _⟩ := hl; exact Heap.lt_size e
  refine wpAny_pyIter_list hl (h _ rfl ⟨⟨_, Heap.get?_push_size _ rfl, rfl, rfl⟩, hl.push _⟩ (fun b hb => ?_) (Nat.ne_of_lt lt) fun h' k b o e => k b o (fun hm => ?_) (Heap.get?_push_of_some _ e))
  · rw [show (Shared.heap _).objs.size = s.heap.objs.size + 1 from Heap.size_push ..]
    rcases mem2 hb with rfl | rfl
    · exact Nat.lt_succ_self _
    · exact Nat.lt_succ_of_lt lt
  · have z : b = s.heap.objs.size := by simpa using hm
    exact absurd (Heap.lt_size e) (by rw [z]; exact Nat.lt_irrefl _)
theorem getLo {ns : List Int} (ne : ns ≠ []) {k : Nat} (hk : k = ns.length) : ns[argBest (fun i j => decide (ns[i]?.getD 0 < ns[j]?.getD 0)) (k - 1)]?.getD 0 = minL ns := by
  subst hk
  have z := best_lo (fun i => ns[i]?.getD 0) (ns.length - 1)
  exact z.trans (lo_list ns _ (fun i x e => by rw [e]; rfl) ne)
theorem getHi {ns : List Int} (ne : ns ≠ []) {k : Nat} (hk : k = ns.length) : ns[argBest (fun i j => decide (ns[i]?.getD 0 > ns[j]?.getD 0)) (k - 1)]?.getD 0 = maxL ns := by
  subst hk
  have z := best_hi (fun i => ns[i]?.getD 0) (ns.length - 1)
  exact z.trans (hi_list ns _ (fun i x e => by rw [e]; rfl) ne)
theorem call_minL (hc : X.calm = true) : CallR X (.builtin "min") (fun xs H Q => ∃ (a : Addr) (ns : List Int), xs = [.ref a] ∧ SqL X.K H a (ns.map V.int) ∧ ns ≠ [] ∧ Q (.int (minL ns)) H) := by
  intro pins s σ H xs us Q I r h
  obtain ⟨l, ns, rfl, hq, ne, q⟩ := h
  obtain ⟨u, rfl, rx⟩ := vals1 r
  cases rx
  obtain ⟨its, il, sz, ev⟩ := ints_walk I hq
  refine minK (walkL il fun s₂ e st hfp hne old => ?_)
  refine ⟨_, _, _, _, _, _, _, rfl, .of (Walks.list (A := X.A.in1) (I.ok.hd hc) _ l hne its), st, hfp, by rw [sz]; exact List.length_pos_iff.mpr ne, CmpOf.ints_lt (fun i => ns[i]?.getD 0) ev, fun v h' tk hP hk => ?_⟩
  subst e
  obtain ⟨t, rfl⟩ := ev _ v hP
  refine ⟨.int (minL ns), H, I.kept (old h' hk), ⟨t, ?_⟩, q⟩
  rw [← getLo ne sz]
theorem call_maxD (hc : X.calm = true) {pins : List (Addr × Obj)} {s : Shared} {σ : St} {H : Hp} {a : Addr} {ns : List Int} {m : V} {d : Value} {Q : VK} (I : Inv X pins σ H s) (hq : SqL X.K H a (ns.map V.int)) (rd : RelV m d) (q : Q (if ns = [] then m else .int (maxL ns)) H) :
    wpAny (model X.prog X.w) X.A (call (.builtin "max") [.ref a] [("default", d)]) (EP X pins σ Q) X.xe s := by
  obtain ⟨its, il, sz, ev⟩ := ints_walk I hq
  refine maxK (walkL il fun s₂ e st hfp hne old => ?_)
  refine ⟨_, _, _, _, _, _, _, rfl, .of (Walks.list (A := X.A.in1) (I.ok.hd hc) _ a hne its), st, hfp, CmpOf.ints_gt (fun i => ns[i]?.getD 0) ev, fun v h' tk hP h0 hk => ?_⟩
  subst e
  by_cases z : ns = []
  · rw [if_pos z] at q
    rw [h0 (by rw [sz, z]; rfl)]
    exact ⟨m, H, I.kept (old h' hk), rd, q⟩
  · rw [if_neg z] at q
    obtain ⟨t, rfl⟩ := ev _ v (hP (by rw [sz]; exact List.length_pos_iff.mpr z))
    refine ⟨.int (maxL ns), H, I.kept (old h' hk), ⟨t, ?_⟩, q⟩
    rw [← getHi z sz]
noncomputable def tMaxD (K : PySem.W.Frag) (ta tb : TE) : TE := fun σ H Q => ta σ H fun x H1 => tb σ H1 fun m H2 => ∃ (a : Addr) (ns : List Int), [x] = [V.ref a] ∧ SqL K H2 a (ns.map V.int) ∧ Q (if ns = [] then m else .int (maxL ns)) H2
theorem pe_maxD {a b : Expr} {ta tb : TE} {p kp pos : Pos} (hc : X.calm = true) (hg : Gl X "max") (hm : X.mg "max" = none) (ha : PE X a ta) (hb : PE X b tb) (he : starEach [a] X.env = [(false, eval a X.env)] := by rfl) : PE X (.Call (.Name "max" p) [a] [⟨some "default", b, kp⟩] pos) (tMaxD X.K ta tb) := by
  intro pins s σ H Q I h
  refine wpAny_Call_Name_kw (ld_blt I hg hm PyProof.Rows.boot_max (PyProof.Rows.callWith_kw (thn (pa_cons ha pa_nil he pos pins s σ H (fun vs H1 => tb σ H1 fun m H2 => ∃ (a : Addr) (ns : List Int), vs = [V.ref a] ∧ SqL X.K H2 a (ns.map V.int) ∧ Q (if ns = [] then m else .int (maxL ns)) H2) I h) fun us s1 ⟨vs, H1, I1, rr, q1⟩ => PyProof.Rows.kws_cons (thn (hb pins s1 σ H1 _ I1 q1) fun dv s2 ⟨m, H2, I2, rd, l, ns, ev, sq, q2⟩ => PyProof.Rows.kws_nil ?_)) (by rw [he]; rfl) (by rw [he]; rfl)))
  subst ev
  obtain ⟨u, rfl, rx⟩ := vals1 rr
  cases rx
  exact call_maxD hc I2 sq rd q2
noncomputable def vwO (p a : Addr) : HO := .ext fun h => h.IsValuesView p a
theorem mt_values : MtR X "dict.values" (fun x xs H Q => ∃ a ads kvs, x = .ref a ∧ xs = [] ∧ H a = some (.dT (some ads) kvs) ∧ ∀ p, H p = none → Q (.ref p) (upd H p (vwO p a))) := by
  intro pins s σ H x xs v us Q I rx r h
  obtain ⟨a, ads, kvs, rfl, rfl, ha, q⟩ := h
  cases r
  cases rx
  obtain ⟨hd, _, od, es, h1, h2, _⟩ := dX_at I.hok ha
  refine meetV a hd h1 h2 ⟨.ref s.heap.objs.size, _, I.laid (a := s.heap.objs.size) (o := vwO s.heap.objs.size a) (t' := s.toks) (fun _ _ z => Heap.get?_push_of_some _ z) (Nat.le_refl _) ⟨⟨_, Heap.get?_push_size _ rfl, rfl, rfl⟩, ⟨_, Heap.get?_push_size _ rfl⟩, fun h1 h2 st k => st.imp fun o e => ⟨k o e.1, e.2⟩⟩, rfl, q _ (I.hok.fresh (Nat.le_refl _))⟩
theorem call_minV (hc : X.calm = true) : CallR X (.builtin "min") (fun xs H Q => ∃ p a ads kvs ns, xs = [.ref p] ∧ H p = some (vwO p a) ∧ H a = some (.dT (some ads) kvs) ∧ kvs.map (·.2) = ns.map V.int ∧ ns ≠ [] ∧ Q (.int (minL ns)) H) := by
  intro pins s σ H xs us Q I r h
  obtain ⟨p, a, ads, kvs, ns, rfl, hp, ha, hn, ne, q⟩ := h
  obtain ⟨u, rfl, rx⟩ := vals1 r
  cases rx
  obtain ⟨vw, _⟩ := I.hok p _ hp
  obtain ⟨hd, kl, od, es, h1, h2, h3, h4, h5⟩ := dX_at I.hok ha
  have lt : a < s.heap.objs.size := Heap.lt_size h1
  have nl : ns.length = ads.length := by rw [← kl, ← List.length_map (f := V.int), ← hn, List.length_map]
  have ev : ∀ (i : Nat) (v : Value), (∃ en : DictEntry, es[i]? = some en ∧ v = en.val) → ∃ t, v = Value.int (ns[i]?.getD 0) t := by
    rintro i v ⟨en, he, rfl⟩
    have hl : i < ads.length := by have := (Array.getElem?_eq_some_iff.mp he).1; omega
    obtain ⟨en', he', _, kv, hkv, rr⟩ := h5 i ads[i] (by simp [hl])
    rw [he] at he'; cases he'
    have z : (kvs.map (·.2))[i]? = some kv.2 := by rw [List.getElem?_map, hkv]; rfl
    rw [hn, List.getElem?_map] at z
    obtain ⟨m, hm, em⟩ := Option.map_eq_some_iff.mp z
    rw [← em] at rr
    rw [hm]; exact rr
  refine minK (iterV vw h1 h3 h4 ⟨_, _, _, _, _, _, _, rfl, walkV (I.ok.hd hc) (Nat.ne_of_lt lt) h4 h3, ⟨⟨_, Heap.get?_push_size _ rfl, rfl, rfl⟩, Heap.get?_push_of_some _ h1⟩, fun b hb => ?_, by rw [← nl]; exact List.length_pos_iff.mpr ne, CmpOf.ints_lt (fun i => ns[i]?.getD 0) ev, fun v h' tk hP hk => ?_⟩)
  · rw [show (Shared.heap _).objs.size = s.heap.objs.size + 1 from Heap.size_push ..]
    rcases mem2 hb with rfl | rfl
    · exact Nat.lt_succ_self _
    · exact Nat.lt_succ_of_lt lt
  · obtain ⟨t, rfl⟩ := ev _ v hP
    refine ⟨.int (minL ns), H, I.kept fun b o e => hk b o (fun hm => ?_) (Heap.get?_push_of_some _ e), ⟨t, ?_⟩, q⟩
    · have z : b = s.heap.objs.size := by simpa using hm
      exact absurd (Heap.lt_size e) (by rw [z]; exact Nat.lt_irrefl _)
    · rw [← getLo ne nl.symm]
end
end L2

namespace Sm
open PySem PySem.Spec L2
noncomputable def sDictX : SE := fun _ h => .ok (.ref h.length) (h ++ [.dcx []])
noncomputable abbrev PX (T : Tb) (ι : Ix) (H : Hp) : AV × AV → Addr × List Key × V → Prop := fun p q => p.1 = .tup (q.2.1.map kA) ∧ RV T ι H p.1 (.ref q.1) ∧ RV T ι H p.2 q.2.2
theorem zipP {α β γ : Type} {F : α → γ → Prop} {G : α → β × γ → Prop} (hG : ∀ p q, G p q → F p q.2) : ∀ {kvs : List α} {ads : List β} {kus : List γ}, ads.length = kus.length → Paired G kvs (ads.zip kus) → Paired F kvs kus
  | _, [], [], _, .nil => .nil
  | _, _ :: _, _ :: _, l, .cons r t => .cons (hG _ _ r) (zipP hG (by simpa using l) t)
theorem replX {T : Tb} {ι : Ix} {H : Hp} {k : List Key} {v : AV} {u : V} (rv : RV T ι H v u) : ∀ {kvs : List (AV × AV)} {ads : List Addr} {kus : List (List Key × V)}, ads.length = kus.length → Paired (PX T ι H) kvs (ads.zip kus) →
    Paired (PX T ι H) (kvs.map fun p => if p.1 = .tup (k.map kA) then (p.1, v) else p) (ads.zip (kus.map fun kv => if kv.1 = k then (kv.1, u) else kv))
  | _, [], [], _, .nil => .nil
  | _, a :: ads, q :: kus, l, .cons r t => by
    rw [List.map_cons, List.map_cons, List.zip_cons_cons]
    refine .cons ?_ (replX rv (by simpa using l) t)
    obtain ⟨e1, r1, r2⟩ := r
    by_cases hk : q.1 = k
    · rw [if_pos hk, if_pos (by rw [e1, hk])]; exact ⟨e1, r1, rv⟩
    · rw [if_neg hk, if_neg (fun z => hk (kAs_inj (by injection e1.symm.trans z)))]; exact ⟨e1, r1, r2⟩
theorem kF_inj : ∀ {a b : List Key}, AV.tup (a.map kA) = AV.tup (b.map kA) → a = b := fun e => kAs_inj (by injection e)
section
variable {T : Tb} {ι : Ix} {h : AH} {H : Hp}
theorem dgetX_of {n : Nat} {kvs : List (AV × AV)} {xs : List AV} {a : Addr} {w : V} (S : Sim T ι h H) (hn : h[n]? = some (.dcx kvs)) (hr : ι.refs[n]? = some a) (ry : RV T ι H (.tup xs) w) (hk : (keysOf? xs).isSome = true) :
    ∃ o, DGet H a w o ∧ ((valA kvs (.tup xs) = none ∧ o = none) ∨ ∃ v u, valA kvs (.tup xs) = some v ∧ o = some u ∧ RV T ι H v u) := by
  obtain ⟨ob, e1, ads, kus, rfl, l, r⟩ := S.obj n _ a hn hr
  obtain ⟨ks, ek⟩ := Option.isSome_iff_exists.mp hk
  obtain ⟨b, rfl, hb⟩ := keyT ry ek
  have := keysOf_some ek
  subst this
  refine ⟨valV kus ks, .t e1 hb, ?_⟩
  rcases val_of (f := fun ks : List Key => AV.tup (ks.map kA)) kF_inj (zipP (fun p q z => ⟨z.1, z.2.2⟩) l r) (k := ks) with ⟨h1, h2⟩ | ⟨v', u', h1, h2, h3⟩
  · exact .inl ⟨h1, h2⟩
  · exact .inr ⟨v', u', h1, h2, h3⟩
theorem dputX_of {n : Nat} {kvs : List (AV × AV)} {xs : List AV} {z : AV} {a : Addr} {w u : V} (S : Sim T ι h H) (hn : h[n]? = some (.dcx kvs)) (hr : ι.refs[n]? = some a) (ry : RV T ι H (.tup xs) w) (rz : RV T ι H z u) (hk : (keysOf? xs).isSome = true) (hl : kvs.length < sizeLine) :
    ∃ H', DPut H a w u H' ∧ Grow ι H ι H' ∧ Sim T ι (h.set n (.dcx (putA kvs (.tup xs) z))) H' := by
  obtain ⟨ob, e1, ads, kus, rfl, l, r⟩ := S.obj n _ a hn hr
  obtain ⟨ks, ek⟩ := Option.isSome_iff_exists.mp hk
  obtain ⟨b, rfl, hb⟩ := keyT ry ek
  have := keysOf_some ek
  subst this
  have pk := zipP (F := fun (p : AV × AV) (q : List Key × V) => p.1 = AV.tup (q.1.map kA) ∧ RV T ι H p.2 q.2) (fun p q z => ⟨z.1, z.2.2⟩) l r
  have hlen := Paired.length pk
  have g := S.growSet (u := .dT (adX (some ads) (kus.any fun kv => decide (kv.1 = ks)) b) (putK kus ks u)) hr
  refine ⟨_, .inr ⟨_, kus, ks, b, e1, rfl, hb, by rw [← hlen]; exact hl, rfl⟩, g, S.set hr ⟨if (kus.any fun kv => decide (kv.1 = ks)) = true then ads else ads ++ [b], putK kus ks u, rfl, ?_, ?_⟩⟩
  · unfold putK
    split
    · rw [List.length_map]; exact l
    · rw [List.length_append, List.length_append, l]; rfl
  · have e : (kvs.any fun p => decide (p.1 = AV.tup (ks.map kA))) = kus.any fun kv => decide (kv.1 = ks) := by
      rw [any_val, valV_any]
      rcases val_of (f := fun ks : List Key => AV.tup (ks.map kA)) kF_inj pk (k := ks) with ⟨h1, h2⟩ | ⟨v', u', h1, h2, h3⟩
      · rw [h1, h2]; rfl
      · rw [h1, h2]; rfl
    have r' : Paired (PX T ι (upd H a (.dT (adX (some ads) (kus.any fun kv => decide (kv.1 = ks)) b) (putK kus ks u)))) kvs (ads.zip kus) := Paired.mapP r fun _ _ ⟨p, q, c⟩ => ⟨p, q.mono g, c.mono g⟩
    unfold putA putK
    rw [e]
    by_cases q : (kus.any fun kv => decide (kv.1 = ks)) = true
    · rw [if_pos q, if_pos q, if_pos q]
      have := replX (k := ks) (rz.mono g) l r'
      unfold putK at this
      rw [if_pos q] at this
      exact this
    · rw [if_neg q, if_neg q, if_neg q, List.zip_append l]
      have := Paired.snoc r' (a := (AV.tup (ks.map kA), z)) (b := (b, ks, u)) ⟨rfl, ry.mono g, rz.mono g⟩
      unfold putK at this
      rw [if_neg q] at this
      exact this
theorem isDX_of {n : Nat} {kvs : List (AV × AV)} {ad : Addr} (S : Sim T ι h H) (hn : h[n]? = some (.dcx kvs)) (hr : ι.refs[n]? = some ad) : IsD H ad := by
  obtain ⟨ob, e1, ads, kus, rfl, l, r⟩ := S.obj n _ ad hn hr
  exact .inr ⟨_, _, .inl e1⟩
end
noncomputable def fIxX : F2 := fun x y h => match x, y with
  | .ref n, .tup xs => (match h[n]? with
    | some (.dcx kvs) => if (keysOf? xs).isSome then (match valA kvs (.tup xs) with | some v => .ok v h | none => .bad) else .bad
    | _ => .bad)
  | _, _ => .bad
noncomputable def fSetX (n : Nat) (y z : AV) (en : En) (h : AH) : OutS := match y with
  | .tup xs => (match h[n]? with
    | some (.dcx kvs) => if (keysOf? xs).isSome = true ∧ kvs.length < sizeLine then .nx en (h.set n (.dcx (putA kvs (.tup xs) z))) else .bad
    | _ => .bad)
  | _ => .bad
@[simp] noncomputable def sSetIxX (o i v : SE) : SS := fun en h => (v en h).go en fun z h1 => (o en h1).go en fun x h2 => (i en h2).go en fun y h3 => match x with
  | .ref n => fSetX n y z en h3
  | _ => .bad
noncomputable def fGetX (n : Nat) (y z : AV) (h : AH) : Out AV := match y with
  | .tup xs => (match h[n]? with
    | some (.dcx kvs) => if (keysOf? xs).isSome then .ok ((valA kvs y).getD z) h else .bad
    | _ => .bad)
  | _ => .bad
noncomputable def sGetX (o k d : SE) : SE := fun en h => (o en h).bind fun x h1 => match x with
  | .ref n => (match h1[n]? with
    | some (.dcx _) => (k en h1).bind fun y h2 => (d en h2).bind fun z h3 => fGetX n y z h3
    | _ => .bad)
  | _ => .bad
section
variable {T : Tb} {E : St → XK} {X : Cx} {pos apos : Pos} {a b c : Expr} {sa sb sc : SE}
theorem r_dictX : PEA T E X (.Dict [] [] pos) sDictX :=
  PE_imp pe_dnewX fun σ H Q ⟨ι, h, en, S, er, q⟩ p n => q _ _ _ (S.growAdd n) (S.add n ⟨[], [], rfl, rfl, .nil⟩) (.ref S.addAt)
theorem r_ixX (hu : X.A.units + 64 < cLine) (ha : PEA T E X a sa) (hb : PEA T E X b sb) (hs : PlainIx b := by exact fun _ _ => rfl) : PEA T E X (.Subscript a b pos) (sOp2 fIxX sa sb) := by
  refine PE_imp (pe_dget (Nat.lt_of_le_of_lt (Nat.add_le_add_left (by decide : 1 ≤ 64) _) hu) ha hb hs) fun σ H Q q => ?_
  obtain ⟨ι, h, en, S, er, q⟩ := q
  refine ⟨ι, h, en, S, er, q.bind fun x h1 ι1 H1 u g1 S1 r1 q1 => ⟨ι1, h1, en, S1, er.mono g1, q1.bind fun y h2 ι2 H2 w g2 S2 r2 q2 => ?_⟩⟩
  have r1' := r1.mono g2
  unfold fIxX at q2
  split at q2
  · rename_i n xs
    split at q2
    · rename_i kvs hn
      split at q2
      · rename_i hk
        cases r1' with
        | @ref _ ad hr =>
          obtain ⟨o, dg, alt⟩ := dgetX_of S2 hn hr r2 hk
          rcases alt with ⟨v1, rfl⟩ | ⟨v, u, v1, rfl, r3⟩
          · rw [v1] at q2; exact q2.elim
          · rw [v1] at q2
            exact ⟨ad, u, rfl, dg, q2.now S2 r3⟩
      · exact q2.elim
    · exact q2.elim
  · exact q2.elim
theorem r_setIxX {p' : Pos} (hu : X.A.units + 64 < cLine) (ho : PEA T E X a sa) (hi : PEA T E X b sb) (hv : PEA T E X c sc) (hs : swapsWith c (some (.Subscript a b p')) pos.line X.env = pure false := by rfl) : PSA T E X (.Assign [.Subscript a b p'] c pos) (sSetIxX sa sb sc) := by
  refine PS_imp (ps_dput (Nat.lt_of_le_of_lt (Nat.add_le_add_left (by decide : 1 ≤ 64) _) hu) ho hi hv hs) fun D σ H ⟨ι, h, en, S, er, q⟩ => ⟨ι, h, en, S, er, q.go er fun z h1 ι1 H1 u g1 S1 r1 q1 => ⟨ι1, h1, en, S1, er.mono g1, q1.go (er.mono g1) fun x h2 ι2 H2 v g2 S2 r2 q2 => ⟨ι2, h2, en, S2, (er.mono g1).mono g2, q2.go ((er.mono g1).mono g2) fun y h3 ι3 H3 w g3 S3 r3 q3 => ?_⟩⟩⟩
  split at q3
  · rename_i n
    unfold fSetX at q3
    split at q3
    · rename_i xs
      split at q3
      · rename_i kvs hn
        split at q3
        · rename_i hk
          cases r2.mono g3 with
          | @ref _ ad hr =>
            obtain ⟨H', dp, g4, S4⟩ := dputX_of S3 hn hr r3 ((r1.mono g2).mono g3) hk.1 hk.2
            exact ⟨ad, H', rfl, dp, q3 ι3 H' σ g4 S4 ((((er.mono g1).mono g2).mono g3).mono g4)⟩
        · exact q3.elim
      · exact q3.elim
    · exact q3.elim
  · exact q3.elim
theorem r_getX (hu : X.A.units + 64 < cLine) (ha : PEA T E X a sa) (hb : PEA T E X b sb) (hc : PEA T E X c sc) (hbase : attributeBase a "get" X.env (eval a X.env) = eval a X.env := by rfl)
    (hfew : ((backTo pos (starEach [b, c] X.env)).all (fun x => !x.1) && (backToKw pos (keywordEach [] X.env)).all (fun x => x.1.isSome) && decide (([b, c] : List Expr).length + ([] : List Keyword).length + (if ([] : List Keyword).isEmpty then 0 else 1) < 30)) = true := by rfl)
    (hline : (apos.endLine == pos.line) = true := by rfl) (htrees : backTo pos (starEach [b, c] X.env) = [(false, eval b X.env), (false, eval c X.env)] := by rfl) : PEA T E X (.Call (.Attribute a "get" apos) [b, c] [] pos) (sGetX sa sb sc) := by
  refine PE_imp (pe_dget2 (Nat.lt_of_le_of_lt (Nat.add_le_add_left (by decide : 1 ≤ 64) _) hu) ha hb hc ⟨hbase, hfew, hline, htrees⟩) fun σ H Q q => ?_
  obtain ⟨ι, h, en, S, er, q⟩ := q
  refine ⟨ι, h, en, S, er, q.bind fun x h1 ι1 H1 u g1 S1 r1 q1 => ?_⟩
  split at q1
  · rename_i n
    split at q1
    · rename_i kvs0 hn0
      cases r1 with
      | @ref _ ad hr =>
        refine ⟨ad, rfl, isDX_of S1 hn0 hr, ι1, h1, en, S1, er.mono g1, q1.bind fun y h2 ι2 H2 v g2 S2 r2 q2 => ⟨ι2, h2, en, S2, (er.mono g1).mono g2, q2.bind fun z h3 ι3 H3 w g3 S3 r3 q3 => ?_⟩⟩
        unfold fGetX at q3
        split at q3
        · rename_i xs
          split at q3
          · rename_i kvs hn
            split at q3
            · rename_i hk
              obtain ⟨o, dg, alt⟩ := dgetX_of S3 hn ((g2.trans g3).ext.at_ hr) (r2.mono g3) hk
              refine ⟨o, dg, ?_⟩
              rcases alt with ⟨v1, rfl⟩ | ⟨v', u', v1, rfl, r4⟩
              · rw [v1] at q3; exact q3.now S3 r3
              · rw [v1] at q3; exact q3.now S3 r4
            · exact q3.elim
          · exact q3.elim
        · exact q3.elim
    · exact q1.elim
  · exact q1.elim
end
noncomputable def liveD (n : Nat) (ks : List AV) (h : AH) : Bool := match h[n]? with
  | some (.dcx kvs) => decide (kvs.map (·.1) = ks)
  | _ => false
noncomputable def sForL (L : AH → Bool) (t : Tg) (b : SS) : List AV → SS
  | [] => fun en h => if L h = true then .nx en h else .bad
  | x :: xs => fun en h => if L h = true then
      (match setT t x en with
      | some e1 => (match b e1 h with
        | .nx e2 h2 => sForL L t b xs e2 h2
        | .ct e2 h2 => sForL L t b xs e2 h2
        | .bk e2 h2 => .nx e2 h2
        | .rt v h2 => .rt v h2
        | _ => .bad)
      | none => .bad) else .bad
noncomputable def sForD (a : SE) (t : Tg) (b : SS) : SS := fun en h => match a en h with
  | .ok (.ref n) h1 => (match h1[n]? with
    | some (.dcx kvs) => sForL (liveD n (kvs.map (·.1))) t b (kvs.map (·.1)) en h1
    | _ => .bad)
  | _ => .bad
section
variable {T : Tb} {E : St → XK} {X : Cx} {pos : Pos} {a : Expr} {sa : SE} {sts : List Stmt} {s1 : SS}
theorem forL_loop {g : TG} {t : Tg} {J : It} {ι1 : Ix} {h1 : AH} {H1 : Hp} {en : En} {σ : St} {D : Ends} {L : AH → Bool} {ys : List AV}
    (hg2 : ∀ {ι : Ix} {h : AH} {H : Hp} {en e : En} {σ : St} {v : AV} {u : V} {Q : St → Hp → Prop}, Sim T ι h H → ER T ι H en σ → RV T ι H v u → setT t v en = some e → (∀ σ', ER T ι H e σ' → Q σ' H) → g u σ H Q)
    (S1 : Sim T ι1 h1 H1) (er : ER T ι1 H1 en σ) (IR : ItG T J ι1 H1 ys L) (q : PostS T ι1 H1 E (sForL L t s1 ys en h1) D) : LoopOk g (tS T EN s1) D σ H1 J := by
  refine ⟨fun i m σ H => m = ys.length - i ∧ i ≤ ys.length ∧ ∃ ι' h' en', Grow ι1 H1 ι' H ∧ Sim T ι' h' H ∧ ER T ι' H en' σ ∧ PostS T ι' H E (sForL L t s1 (ys.drop i) en' h') D,
    ⟨ys.length, by simp, Nat.zero_le _, ι1, h1, en, S1.refl, S1, er, q⟩, ?_⟩
  rintro i m σ H ⟨rfl, hi, ι', h', en', g', S', er', q'⟩
  by_cases hl : i < ys.length
  · rw [drop_cons hl] at q'
    unfold sForL at q'
    split at q'
    · rename_i hlive
      obtain ⟨go, yld⟩ := IR.go i ι' h' H ys[i] g'.ext S' hlive (by simp [hl])
      refine .inr ⟨go, fun σ H => ∃ ι' h' en', Grow ι1 H1 ι' H ∧ Sim T ι' h' H ∧ ER T ι' H en' σ ∧ PostS T ι' H E (sForL L t s1 (ys.drop (i + 1)) en' h') D,
        fun σ' H' w' => ⟨ys.length - (i + 1), by omega, rfl, hl, w'⟩, fun x H' y => ?_⟩
      obtain ⟨g2, S2, r2⟩ := yld x H' y
      split at q'
      · rename_i e1 he1
        refine hg2 S2 (er'.mono g2) r2 he1 fun σ' er2 => ⟨ι', h', e1, S2, er2, ?_⟩
        have q2 := PostS.shift q' g2
        cases e2 : s1 e1 h' with
        | nx e3 h3 => rw [e2] at q2; exact fun ι3 H3 σ3 g3 S3 er3 => ⟨ι3, h3, e3, g'.trans (g2.trans g3), S3, er3, q2.shift g3⟩
        | ct e3 h3 => rw [e2] at q2; exact fun ι3 H3 σ3 g3 S3 er3 => ⟨ι3, h3, e3, g'.trans (g2.trans g3), S3, er3, q2.shift g3⟩
        | bk e3 h3 => rw [e2] at q2; exact q2
        | rt v h3 => rw [e2] at q2; exact q2
        | ex c e3 h3 => rw [e2] at q2; exact (show False from q2).elim
        | bad => rw [e2] at q2; exact q2
      · exact (show False from q').elim
    · exact (show False from q').elim
  · have ei : i = ys.length := by omega
    subst ei
    rw [List.drop_length] at q'
    unfold sForL at q'
    split at q'
    · rename_i hlive
      exact .inl ⟨IR.stop _ ι' h' H g'.ext S' hlive (Nat.le_refl _), q' ι' H σ S'.refl S' er'⟩
    · exact (show False from q').elim
theorem itG_dct {ι : Ix} {H : Hp} {n m : Nat} {ad : Addr} {ks : List AV} (hr : ι.refs[n]? = some ad) (hm : ks.length = m) : ItG T (Itd ad m) ι H ks (liveD n ks) := by
  have at_ : ∀ {ι' : Ix} {h' : AH} {H' : Hp}, Ext ι H ι' H' → Sim T ι' h' H' → liveD n ks h' = true → ∃ ads kus, H' ad = some (.dT (some ads) kus) ∧ ads.length = m ∧ ∀ (i : Nat) (x : AV), ks[i]? = some x → ∃ b, ads[i]? = some b ∧ RV T ι' H' x (.ref b) := fun {ι' h' H'} x' S' l => by
    unfold liveD at l
    split at l
    · rename_i kvs hy
      have z := of_decide_eq_true l
      obtain ⟨u, e1, ads, kus, rfl, ll, r⟩ := S'.obj n _ ad hy (x'.at_ hr)
      have len : kvs.length = ads.length := by rw [Paired.length r, List.length_zip, ll, Nat.min_self]
      refine ⟨ads, kus, e1, by rw [← len, ← hm, ← z, List.length_map], fun i x hx => ?_⟩
      have hi : i < ads.length := by
        have := (List.getElem?_eq_some_iff.mp hx).1
        rw [← z, List.length_map] at this; omega
      obtain ⟨p, hp, e2, r1, _⟩ := pairGet r (i := i) (y := (ads[i], kus[i]'(by omega))) (by rw [List.getElem?_zip_eq_some]; simp [hi])
      rw [← z, List.getElem?_map, hp] at hx
      cases hx
      exact ⟨ads[i], by simp [hi], r1⟩
    · cases l
  constructor
  · intro i ι' h' H' x x' S' l hx
    obtain ⟨ads, kus, e1, hl, f⟩ := at_ x' S' l
    obtain ⟨b, hb, rb⟩ := f i x hx
    refine ⟨⟨ads, kus, b, e1, hl, hb⟩, ?_⟩
    rintro u H2 ⟨rfl, y⟩
    obtain ⟨b', hb', rfl⟩ := y ads kus e1
    rw [hb] at hb'; cases hb'
    exact ⟨S'.refl, S', rb⟩
  · intro i ι' h' H' x' S' l hi
    obtain ⟨ads, kus, e1, hl, f⟩ := at_ x' S' l
    exact ⟨ads, kus, e1, hl, by omega⟩
theorem r_forD {tg : Expr} {t : Tg} (hc : X.calm = true) (ha : PEA T EN X.nox a sa) (hg : PGA T X.nox tg t) (hb : PSsA T EN X.nox sts s1) (hs : ∀ x, foldedSetIterable a X.nox.env x = pure x := by intro _; rfl) : PSA T E X (.For tg a sts [] pos) (sForD sa t s1) := by
  obtain ⟨g, hg1, hg2⟩ := hg
  refine PS_imp (PS_nox (ps_for PassesOwn.never hc (pi_dct ha) hg1 hb hs)) fun D σ H ⟨ι, h, en, S, er, q⟩ => ⟨ι, h, en, S, er, ?_⟩
  unfold sForD at q
  cases e : sa en h with
  | bad => rw [e] at q; exact q
  | ex c h1 => rw [e] at q; exact (show False from q).elim
  | ok v h1 =>
    rw [e] at q
    intro ι1 H1 u g1 S1 r1
    cases v with
    | ref n =>
      dsimp only at q
      cases e2 : h1[n]? with
      | none => rw [e2] at q; exact (show False from q).elim
      | some o =>
        rw [e2] at q
        cases o with
        | dcx kvs =>
          cases r1 with
          | @ref _ ad hr =>
            obtain ⟨u, e1, ads, kus, rfl, ll, r⟩ := S1.obj n _ _ e2 hr
            have len : kvs.length = ads.length := by rw [Paired.length r, List.length_zip, ll, Nat.min_self]
            exact ⟨ad, ads, kus, rfl, e1, forL_loop hg2 S1 (er.mono g1) (itG_dct hr (by rw [List.length_map]; exact len)) (PostS.shift q g1)⟩
        | _ => exact (show False from q).elim
    | _ => exact (show False from q).elim
end
noncomputable def intsA : List AV → Option (List Int)
  | [] => some []
  | .int i :: r => (intsA r).map (i :: ·)
  | _ :: _ => none
theorem intsA_of : ∀ {xs : List AV} {ns : List Int}, intsA xs = some ns → xs = ns.map AV.int
  | [], _, e => by cases e; rfl
  | .int i :: r, _, e => by
    obtain ⟨m, e1, rfl⟩ := Option.map_eq_some_iff.mp (show (intsA r).map (i :: ·) = _ from e)
    rw [intsA_of e1]; rfl
  | .non :: _, _, e => by cases e
  | .bl _ :: _, _, e => by cases e
  | .str _ :: _, _, e => by cases e
  | .tup _ :: _, _, e => by cases e
  | .fl _ :: _, _, e => by cases e
  | .ref _ :: _, _, e => by cases e
  | .exc _ :: _, _, e => by cases e
noncomputable def fMinL : Fn := fun args h => match args with
  | [x] => (match lstOf x h with
    | some xs => (match intsA xs with
      | some ns => if ns = [] then .bad else .ok (.int (minL ns)) h
      | none => .bad)
    | none => .bad)
  | _ => .bad
noncomputable def sMinV (a : SE) : SE := fun en h => (a en h).bind fun x h1 => match x with
  | .ref n => (match h1[n]? with
    | some (.dcx kvs) => (match intsA (kvs.map (·.2)) with
      | some ns => if ns = [] then .bad else .ok (.int (minL ns)) h1
      | none => .bad)
    | _ => .bad)
  | _ => .bad
noncomputable def sMaxD (a d : SE) : SE := fun en h => (a en h).bind fun x h1 => (d en h1).bind fun y h2 => match lstOf x h2 with
  | some xs => (match intsA xs with
    | some ns => .ok (if ns = [] then y else .int (maxL ns)) h2
    | none => .bad)
  | none => .bad
section
variable {T : Tb} {E : St → XK} {X : Cx} {pos p apos cpos kp : Pos} {a b : Expr} {sa sb : SE}
theorem ints_rdN {ι : Ix} {H : Hp} : ∀ {ns : List Int} {us : List V}, RVs T ι H (ns.map AV.int) us → us = ns.map V.int
  | [], _, .nil => rfl
  | _ :: _, _, .cons r rs => by rw [int_rd r, ints_rdN rs]; rfl
theorem b_minL (hK : X.K = T.K) (hc : X.calm = true := by rfl) : ∃ r, CallR X (.builtin "min") r ∧ CallS T fMinL r := by
  refine ⟨_, call_minL hc, fun ι h H xs us E Q S r q => ?_⟩
  unfold fMinL at q
  split at q
  · split at q
    · rename_i ys hy
      split at q
      · rename_i ns hn
        split at q
        · exact q.elim
        · rename_i ne
          cases r with
          | cons r r' =>
            cases r'
            obtain ⟨a, us, rfl, sq, rs⟩ := lst_rd S r hy
            rw [intsA_of hn] at rs
            rw [ints_rdN rs] at sq
            exact ⟨a, ns, rfl, hK ▸ sq, ne, q.now S (.int _)⟩
      · exact q.elim
    · exact q.elim
  · exact q.elim
theorem r_minV (hc : X.calm = true) (hg : Gl X "min") (hm : X.mg "min" = none) (ha : PEA T E X a sa) (hbase : attributeBase a "values" X.env (eval a X.env) = eval a X.env := by rfl) (hline : (apos.endLine == cpos.line) = true := by rfl)
    (he : starEach [.Call (.Attribute a "values" apos) [] [] cpos] X.env = [(false, eval (.Call (.Attribute a "values" apos) [] [] cpos) X.env)] := by rfl) : PEA T E X (.Call (.Name "min" p) [.Call (.Attribute a "values" apos) [] [] cpos] [] pos) (sMinV sa) := by
  refine PE_imp (pe_callB (call_minV hc) hg hm PyProof.Rows.boot_min (pa_cons (pe_bm0 PySem.F.plainAttrs_dict PySem.F.slot_dict_values PySem.F.type_dict_values mt_values ha hbase hline) pa_nil he) (he := he)) fun σ H Q ⟨ι, h, en, S, er, q⟩ => ⟨ι, h, en, S, er, q.bind fun x h1 ι1 H1 u g1 S1 r1 q1 => ?_⟩
  split at q1
  · rename_i n
    split at q1
    · rename_i kvs hn
      split at q1
      · rename_i ns hi
        split at q1
        · exact q1.elim
        · rename_i ne
          cases r1 with
          | @ref _ ad hr =>
            obtain ⟨u, e1, ads, kus, rfl, ll, r⟩ := S1.obj n _ _ hn hr
            have pk := zipP (F := fun (p : AV × AV) (q : List Key × V) => RV T ι1 H1 p.2 q.2) (fun p q z => z.2.2) ll r
            have vals : ∀ {l : List (AV × AV)} {m : List (List Key × V)}, Paired (fun (p : AV × AV) (q : List Key × V) => RV T ι1 H1 p.2 q.2) l m → RVs T ι1 H1 (l.map (·.2)) (m.map (·.2)) := fun z => by
              induction z with
              | nil => exact .nil
              | cons r _ ih => exact .cons r ih
            have vs := vals pk
            rw [intsA_of hi] at vs
            refine ⟨.inr (.inr (.inl ⟨rfl, .inr ⟨_, _, e1⟩⟩)), ad, ads, kus, rfl, rfl, e1, fun p hp => ⟨p, ad, ads, kus, ns, rfl, upd_same, by rw [upd_ne (ne_of_none e1 hp)]; exact e1, ints_rdN vs, ne, q1 ι1 _ _ (S1.growNew hp) (S1.new hp) (.int _)⟩⟩
      · exact q1.elim
    · exact q1.elim
  · exact q1.elim
theorem r_maxD (hK : X.K = T.K) (hc : X.calm = true) (hg : Gl X "max") (hm : X.mg "max" = none) (ha : PEA T E X a sa) (hb : PEA T E X b sb) (he : starEach [a] X.env = [(false, eval a X.env)] := by rfl) : PEA T E X (.Call (.Name "max" p) [a] [⟨some "default", b, kp⟩] pos) (sMaxD sa sb) := by
  refine PE_imp (pe_maxD hc hg hm ha hb he) fun σ H Q ⟨ι, h, en, S, er, q⟩ => ⟨ι, h, en, S, er, q.bind fun x h1 ι1 H1 u g1 S1 r1 q1 => ⟨ι1, h1, en, S1, er.mono g1, q1.bind fun y h2 ι2 H2 d g2 S2 r2 q2 => ?_⟩⟩
  split at q2
  · rename_i xs hx
    split at q2
    · rename_i ns hn
      obtain ⟨l, us, rfl, sq, rs⟩ := lst_rd S2 (r1.mono g2) hx
      rw [intsA_of hn] at rs
      rw [ints_rdN rs] at sq
      refine ⟨l, ns, rfl, hK ▸ sq, ?_⟩
      by_cases z : ns = []
      · rw [if_pos z] at q2 ⊢; exact q2.now S2 r2
      · rw [if_neg z] at q2 ⊢; exact q2.now S2 (.int _)
    · exact q2.elim
  · exact q2.elim
end
end Sm

namespace Sk
open PySem PySem.Spec L2 Sm
noncomputable abbrev xn_SkeinError : Nat := 0
noncomputable abbrev xn_NoText : Nat := 1
noncomputable abbrev xn_NoPiece : Nat := 2
noncomputable abbrev xn_Loose : Nat := 3
noncomputable abbrev xn_Unlevel : Nat := 4
noncomputable abbrev xn_TooLong : Nat := 5
noncomputable def B_law_put_together_1 : SS :=
    (sIf (sBool (sOp2 fGt (sOp2 fAdd (sVar 4) (sVar 5)) (sLit (.int 8)))) (sSeq (sSet 7 (sOp2 fAdd (sOp2 fIxX (sVar 0) (sTup (sCons (sVar 3) (sCons (sVar 4) sNil)))) (sOp2 fIxX (sVar 1) (sTup (sCons (sVar 5) (sCons (sVar 6) sNil))))))
    (sSetIxX (sVar 2) (sTup (sCons (sVar 3) (sCons (sVar 6) sNil))) (sAppl fMin2 (sCons (sVar 7) (sCons (sGetX (sVar 2) (sTup (sCons (sVar 3) (sCons (sVar 6) sNil))) (sVar 7)) sNil))))) sNext)
noncomputable def B_law_put_together_2 : SS :=
    (sForD (sVar 1) (.tup [5, 6]) B_law_put_together_1)
noncomputable def F_law_put_together : Fn := mkFn 2 8
    (sSeq (sSet 2 sDictX)
    (sSeq (sForD (sVar 0) (.tup [3, 4]) B_law_put_together_2)
    (sRet (sVar 2))))
noncomputable def B_law_joined_1 : SS :=
    (sSetIxX (sVar 1) (sVar 3) (sAppl fMin2 (sCons (sOp2 fIxX (sVar 2) (sVar 3)) (sCons (sGetX (sVar 1) (sVar 3) (sOp2 fIxX (sVar 2) (sVar 3))) sNil))))
noncomputable def B_law_joined_2 : SS :=
    (sForD (sVar 2) (.nm 3) B_law_joined_1)
noncomputable def F_law_joined : Fn := mkFn 1 4
    (sSeq (sSet 1 sDictX)
    (sSeq (sFor (iVal (sVar 0)) (.nm 2) B_law_joined_2)
    (sRet (sVar 1))))
noncomputable def B_law_fewest_1 : SS :=
    (sSetIxX (sOp2 fIx (sVar 1) (sLit (.int 0))) (sTup (sCons (sVar 2) (sCons (sVar 2) sNil))) (sVar 2))
noncomputable def B_law_fewest_2 : SS :=
    (sSeq (sSet 5 (sLstM (sCons (sAppl F_law_put_together (sCons (sOp2 fIx (sVar 1) (sOp2 fSub (sVar 4) (sLit (.int 1)))) (sCons (sOp2 fIx (sVar 1) (sOp2 fSub (sVar 4) (sLit (.int 1)))) sNil))) sNil)))
    (sSeq (sSet 6 (sLstM (sCons (sOp2 fMul (sOp2 fIx (sVar 3) (sOp2 fSub (sVar 4) (sLit (.int 1)))) (sLit (.int 2))) sNil)))
    (sSeq (sIf (sBool (sOp2 fGt (sVar 4) (sLit (.int 1)))) (sSeq (sExpr (sBM isLst mAppend (sVar 5) (sCons (sAppl F_law_put_together (sCons (sOp2 fIx (sVar 1) (sOp2 fSub (sVar 4) (sLit (.int 1)))) (sCons (sOp2 fIx (sVar 1) (sOp2 fSub (sVar 4) (sLit (.int 2)))) sNil))) sNil)))
    (sSeq (sExpr (sBM isLst mAppend (sVar 5) (sCons (sAppl F_law_put_together (sCons (sOp2 fIx (sVar 1) (sOp2 fSub (sVar 4) (sLit (.int 2)))) (sCons (sOp2 fIx (sVar 1) (sOp2 fSub (sVar 4) (sLit (.int 1)))) sNil))) sNil)))
    (sExpr (sBM isLst mAppend (sVar 6) (sCons (sOp2 fAdd (sOp2 fIx (sVar 3) (sOp2 fSub (sVar 4) (sLit (.int 1)))) (sOp2 fIx (sVar 3) (sOp2 fSub (sVar 4) (sLit (.int 2))))) sNil))))) sNext)
    (sSeq (sExpr (sBM isLst mAppend (sVar 1) (sCons (sAppl F_law_joined (sCons (sVar 5) sNil)) sNil)))
    (sExpr (sBM isLst mAppend (sVar 3) (sCons (sAppl fMinL (sCons (sVar 6) sNil)) sNil)))))))
noncomputable def F_law_fewest : Fn := mkFn 1 7
    (sSeq (sSet 1 (sLstM (sCons sDictX sNil)))
    (sSeq (sFor (iRange2 (sLit (.int 1)) (sLit (.int 9))) (.nm 2) B_law_fewest_1)
    (sSeq (sSet 3 (sLstM (sCons (sLit (.int 1)) sNil)))
    (sSeq (sFor (iRange2 (sLit (.int 1)) (sOp2 fAdd (sVar 0) (sLit (.int 1)))) (.nm 4) B_law_fewest_2)
    (sRet (sComp [3, 1] (iRange1 (sOp2 fAdd (sVar 0) (sLit (.int 1)))) sYes (sTup (sCons (sOp2 fIx (sVar 1) (sVar 0)) (sCons (sMinV (sOp2 fIx (sVar 2) (sVar 0))) sNil)))))))))
noncomputable def F_Shelf_init : Fn := mkFn 1 1
    (sSeq (sSetFld 0 0 (sVar 0) (sLstM sNil))
    (sSeq (sSetFld 0 1 (sVar 0) (sDict true))
    (sSeq (sSetFld 0 2 (sVar 0) (sLstM (sCons (sLit (.int 0)) sNil)))
    (sSeq (sSetFld 0 3 (sVar 0) (sLstM (sCons (sLit (.int 0)) sNil)))
    (sSeq (sSetFld 0 4 (sVar 0) (sLstM (sCons (sLit (.int 0)) sNil)))
    (sSeq (sSetFld 0 5 (sVar 0) (sLstM (sCons (sOp1 fNeg (sLit (.int 1))) sNil)))
    (sSeq (sSetFld 0 6 (sVar 0) (sLstM (sCons (sLit (.int 0)) sNil)))
    (sSetFld 0 7 (sVar 0) (sLstM (sCons (sLit (.int 0)) sNil))))))))))
noncomputable def F_is_plain_sign : Fn := mkFn 1 1
    (sRet (sOrV (sOp2 fEq (sVar 0) (sLit (.str "\n"))) (sChain fLe fLe (sLit (.str " ")) (sVar 0) (sLit (.str "~")))))
noncomputable def F_is_plain : Fn := mkFn 1 1
    (sSeq (sIf (sNot (sTest (sIsB "str" (sVar 0)))) (sRet (sLit (.bl false))) sNext)
    (sRet (sAppl fAll (sCons (sComp [] (iVal (sVar 0)) sYes (sAppl F_is_plain_sign (sCons (sVar 0) sNil))) sNil))))
noncomputable def F_is_short : Fn := mkFn 1 1
    (sRet (sAndV (sAppl F_is_plain (sCons (sVar 0) sNil)) (sChain fLe fLe (sLit (.int 1)) (sAppl fLen (sCons (sVar 0) sNil)) (sLit (.int 8)))))
noncomputable def F_Shelf_lay : Fn := mkFn 2 3
    (sSeq (sExpr (sBM isLst mAppend (Sm.sFld 0 0 (sVar 0)) (sCons (sVar 1) sNil)))
    (sSeq (sSet 2 (sAppl fLen (sCons (Sm.sFld 0 0 (sVar 0)) sNil)))
    (sSeq (sSetIx (Sm.sFld 0 1 (sVar 0)) (sVar 1) (sVar 2))
    (sRet (sVar 2)))))
noncomputable def F_ends_in : Fn := mkFn 1 1
    (sRet (sBM isStr mCountS (sVar 0) (sCons (sLit (.str "\n")) sNil)))
noncomputable def F_Shelf_lay_leaf : Fn := mkFn 2 4
    (sSeq (sSet 2 (sMeth 0 F_Shelf_lay (sVar 0) (sCons (sVar 1) sNil)))
    (sSeq (sSet 3 (sOp2 fIx (sVar 1) (sLit (.int 1))))
    (sSeq (sExpr (sBM isLst mAppend (Sm.sFld 0 2 (sVar 0)) (sCons (sAppl fLen (sCons (sVar 3) sNil)) sNil)))
    (sSeq (sExpr (sBM isLst mAppend (Sm.sFld 0 3 (sVar 0)) (sCons (sAppl F_ends_in (sCons (sVar 3) sNil)) sNil)))
    (sSeq (sExpr (sBM isLst mAppend (Sm.sFld 0 4 (sVar 0)) (sCons (sLit (.int 1)) sNil)))
    (sSeq (sExpr (sBM isLst mAppend (Sm.sFld 0 5 (sVar 0)) (sCons (sLit (.int 0)) sNil)))
    (sSeq (sExpr (sBM isLst mAppend (Sm.sFld 0 6 (sVar 0)) (sCons (sVar 2) sNil)))
    (sExpr (sBM isLst mAppend (Sm.sFld 0 7 (sVar 0)) (sCons (sVar 2) sNil))))))))))
noncomputable def F_Shelf_leaf : Fn := mkFn 2 3
    (sSeq (sIf (sNot (sTest (sAppl F_is_short (sCons (sVar 1) sNil)))) (sRaise 1 (sCons (sLit (.str "a leaf is a plain text of one to eight signs")) sNil)) sNext)
    (sSeq (sSet 2 (sTup (sCons (sLit (.str "leaf")) (sCons (sVar 1) sNil))))
    (sSeq (sIf (sBool (sOp2 fNotIn (sVar 2) (Sm.sFld 0 1 (sVar 0)))) (sExpr (sMeth 0 F_Shelf_lay_leaf (sVar 0) (sCons (sVar 2) sNil))) sNext)
    (sRet (sOp2 fIx (Sm.sFld 0 1 (sVar 0)) (sVar 2))))))
noncomputable def F_is_whole : Fn := mkFn 1 1
    (sRet (sAndV (sIsB "int" (sVar 0)) (sNotV (sIsB "bool" (sVar 0)))))
noncomputable def F_Shelf_has_piece : Fn := mkFn 2 2
    (sRet (sAndV (sAppl F_is_whole (sCons (sVar 1) sNil)) (sChain fLe fLe (sLit (.int 1)) (sVar 1) (sAppl fLen (sCons (Sm.sFld 0 0 (sVar 0)) sNil)))))
noncomputable def F_Shelf_check_piece : Fn := mkFn 2 2
    (sIf (sNot (sTest (sMeth 0 F_Shelf_has_piece (sVar 0) (sCons (sVar 1) sNil)))) (sRaise 2 (sCons (sLit (.str "no piece of the shelf has this number")) sNil)) sNext)
noncomputable def F_Shelf_check_fork : Fn := mkFn 3 4
    (sSeq (sExpr (sMeth 0 F_Shelf_check_piece (sVar 0) (sCons (sVar 1) sNil)))
    (sSeq (sExpr (sMeth 0 F_Shelf_check_piece (sVar 0) (sCons (sVar 2) sNil)))
    (sSeq (sSet 3 (sOp2 fAdd (sOp2 fIx (Sm.sFld 0 2 (sVar 0)) (sOp2 fIx (Sm.sFld 0 7 (sVar 0)) (sVar 1))) (sOp2 fIx (Sm.sFld 0 2 (sVar 0)) (sOp2 fIx (Sm.sFld 0 6 (sVar 0)) (sVar 2)))))
    (sSeq (sIf (sBool (sOp2 fLe (sVar 3) (sLit (.int 8)))) (sRaise 3 (sCons (sLit (.str "the leaves where the parts meet have no more than eight signs together")) sNil)) sNext)
    (sSeq (sIf (sBool (sOp2 fGt (sAppl fAbs (sCons (sOp2 fSub (sOp2 fIx (Sm.sFld 0 5 (sVar 0)) (sVar 1)) (sOp2 fIx (Sm.sFld 0 5 (sVar 0)) (sVar 2))) sNil)) (sLit (.int 1)))) (sRaise 4 (sCons (sLit (.str "the heights of the parts differ by more than one")) sNil)) sNext)
    (sIf (sBool (sOp2 fGt (sOp2 fAdd (sOp2 fIx (Sm.sFld 0 2 (sVar 0)) (sVar 1)) (sOp2 fIx (Sm.sFld 0 2 (sVar 0)) (sVar 2))) (sLit (.int 1000000000000000000)))) (sRaise 5 (sCons (sLit (.str "the fork would have more than 10 ** 18 signs")) sNil)) sNext))))))
noncomputable def F_Shelf_lay_fork : Fn := mkFn 2 4
    (sSeq (sExpr (sMeth 0 F_Shelf_lay (sVar 0) (sCons (sVar 1) sNil)))
    (sSeq (sSet 2 (sOp2 fIx (sVar 1) (sLit (.int 1))))
    (sSeq (sSet 3 (sOp2 fIx (sVar 1) (sLit (.int 2))))
    (sSeq (sExpr (sBM isLst mAppend (Sm.sFld 0 2 (sVar 0)) (sCons (sOp2 fAdd (sOp2 fIx (Sm.sFld 0 2 (sVar 0)) (sVar 2)) (sOp2 fIx (Sm.sFld 0 2 (sVar 0)) (sVar 3))) sNil)))
    (sSeq (sExpr (sBM isLst mAppend (Sm.sFld 0 3 (sVar 0)) (sCons (sOp2 fAdd (sOp2 fIx (Sm.sFld 0 3 (sVar 0)) (sVar 2)) (sOp2 fIx (Sm.sFld 0 3 (sVar 0)) (sVar 3))) sNil)))
    (sSeq (sExpr (sBM isLst mAppend (Sm.sFld 0 4 (sVar 0)) (sCons (sOp2 fAdd (sOp2 fIx (Sm.sFld 0 4 (sVar 0)) (sVar 2)) (sOp2 fIx (Sm.sFld 0 4 (sVar 0)) (sVar 3))) sNil)))
    (sSeq (sExpr (sBM isLst mAppend (Sm.sFld 0 5 (sVar 0)) (sCons (sOp2 fAdd (sAppl fMax2 (sCons (sOp2 fIx (Sm.sFld 0 5 (sVar 0)) (sVar 2)) (sCons (sOp2 fIx (Sm.sFld 0 5 (sVar 0)) (sVar 3)) sNil))) (sLit (.int 1))) sNil)))
    (sSeq (sExpr (sBM isLst mAppend (Sm.sFld 0 6 (sVar 0)) (sCons (sOp2 fIx (Sm.sFld 0 6 (sVar 0)) (sVar 2)) sNil)))
    (sExpr (sBM isLst mAppend (Sm.sFld 0 7 (sVar 0)) (sCons (sOp2 fIx (Sm.sFld 0 7 (sVar 0)) (sVar 3)) sNil)))))))))))
noncomputable def F_Shelf_fork : Fn := mkFn 3 4
    (sSeq (sExpr (sMeth 0 F_Shelf_check_fork (sVar 0) (sCons (sVar 1) (sCons (sVar 2) sNil))))
    (sSeq (sSet 3 (sTup (sCons (sLit (.str "fork")) (sCons (sVar 1) (sCons (sVar 2) sNil)))))
    (sSeq (sIf (sBool (sOp2 fNotIn (sVar 3) (Sm.sFld 0 1 (sVar 0)))) (sExpr (sMeth 0 F_Shelf_lay_fork (sVar 0) (sCons (sVar 3) sNil))) sNext)
    (sRet (sOp2 fIx (Sm.sFld 0 1 (sVar 0)) (sVar 3))))))
noncomputable def F_Shelf_check_text : Fn := mkFn 2 2
    (sIf (sBool (sOp2 fNe (sVar 1) (sLit (.int 0)))) (sExpr (sMeth 0 F_Shelf_check_piece (sVar 0) (sCons (sVar 1) sNil))) sNext)
noncomputable def F_Shelf_leaves : Fn := mkFn 2 2
    (sSeq (sExpr (sMeth 0 F_Shelf_check_text (sVar 0) (sCons (sVar 1) sNil)))
    (sRet (sOp2 fIx (Sm.sFld 0 4 (sVar 0)) (sVar 1))))
noncomputable def S_lean_text (G : Fn) : Fn := mkFn 4 8
    (sSeq (sIf (sBool (sOp2 fEq (sVar 1) (sLit (.int 0)))) (sRet (sMeth 0 F_Shelf_leaf (sVar 0) (sCons (sIfE (sTest (sVar 2)) (sLit (.str "a")) (sLit (.str "bbbbbbbb"))) sNil))) sNext)
    (sSeq (sSet 4 (sTup (sCons (sVar 1) (sCons (sVar 2) sNil))))
    (sSeq (sIf (sBool (sOp2 fNotInB (sVar 4) (sVar 3))) (sSeq (sSet 5 (sAppl G (sCons (sVar 0) (sCons (sOp2 fSub (sVar 1) (sLit (.int 1))) (sCons (sVar 2) (sCons (sVar 3) sNil))))))
    (sSeq (sSet 6 (sOp2 fEq (sOp2 fMod (sMeth 0 F_Shelf_leaves (sVar 0) (sCons (sVar 5) sNil)) (sLit (.int 2))) (sLit (.int 0))))
    (sSeq (sSet 7 (sAppl G (sCons (sVar 0) (sCons (sAppl fMax2 (sCons (sOp2 fSub (sVar 1) (sLit (.int 2))) (sCons (sLit (.int 0)) sNil))) (sCons (sOp2 fEq (sVar 2) (sVar 6)) (sCons (sVar 3) sNil))))))
    (sSetIxB (sVar 3) (sVar 4) (sMeth 0 F_Shelf_fork (sVar 0) (sCons (sVar 5) (sCons (sVar 7) sNil))))))) sNext)
    (sRet (sOp2 fIxB (sVar 3) (sVar 4))))))
noncomputable def F_lean_text : Nat → Fn
  | 0 => mkFn 4 8 (fun _ _ => .bad)
  | d + 1 => S_lean_text (F_lean_text d)
noncomputable def B_least_leaves_1 : SS :=
    (sSeq (sSet 4 (sOp2 fAdd (sVar 1) (sVar 2)))
    (sSeq (sSet 1 (sVar 2))
    (sSet 2 (sVar 4))))
noncomputable def F_least_leaves : Fn := mkFn 1 5
    (sSeq (sIf (sBool (sOp2 fLt (sVar 0) (sLit (.int 0)))) (sRet (sLit (.int 0))) sNext)
    (sSeq (sSet 1 (sLit (.int 1)))
    (sSeq (sSet 2 (sLit (.int 2)))
    (sSeq (sFor (iRange1 (sVar 0)) (.nm 3) B_least_leaves_1)
    (sRet (sVar 1))))))
noncomputable def F_least_signs : Fn := mkFn 1 2
    (sSeq (sSet 1 (sAppl F_least_leaves (sCons (sVar 0) sNil)))
    (sRet (sOp2 fAdd (sOp2 fMul (sLit (.int 9)) (sOp2 fDiv (sVar 1) (sLit (.int 2)))) (sOp2 fMod (sVar 1) (sLit (.int 2))))))
noncomputable def F_leanest : Fn := mkFn 2 2
    (sSeq (sIf (sBool (sOp2 fLt (sVar 1) (sLit (.int 0)))) (sRet (sLit (.int 0))) sNext)
    (sSeq (sIf (sBool (sOp2 fGt (sAppl F_least_signs (sCons (sVar 1) sNil)) (sLit (.int 1000000000000000000)))) (sRaise 5 (sCons (sLit (.str "a text of this height has more than 10 ** 18 signs")) sNil)) sNext)
    (sRet (sAppl (F_lean_text 90) (sCons (sVar 0) (sCons (sVar 1) (sCons (sLit (.bl true)) (sCons (sDict true) sNil))))))))
noncomputable def F_Shelf_signs : Fn := mkFn 2 2
    (sSeq (sExpr (sMeth 0 F_Shelf_check_text (sVar 0) (sCons (sVar 1) sNil)))
    (sRet (sOp2 fIx (Sm.sFld 0 2 (sVar 0)) (sVar 1))))
noncomputable def B_law_1 : SS :=
    (sSeq (sIf (sBool (sOp2 fNe (sTup (sCons (sAppl F_least_leaves (sCons (sVar 4) sNil)) (sCons (sAppl F_least_signs (sCons (sVar 4) sNil)) sNil))) (sOp2 fIx (sVar 2) (sVar 4)))) (sRet (sLit (.bl false))) sNext)
    (sSeq (sSet 5 (sAppl F_leanest (sCons (sVar 3) (sCons (sVar 4) sNil))))
    (sIf (sBool (sOp2 fNe (sTup (sCons (sMeth 0 F_Shelf_leaves (sVar 3) (sCons (sVar 5) sNil)) (sCons (sMeth 0 F_Shelf_signs (sVar 3) (sCons (sVar 5) sNil)) sNil))) (sOp2 fIx (sVar 2) (sVar 4)))) (sRet (sLit (.bl false))) sNext)))
noncomputable def F_law : Fn := mkFn 1 6
    (sSeq (sSet 1 (sMaxD (sComp [] (iVal (sVar 0)) sYes (sOp2 fMod (sVar 0) (sLit (.int 7)))) (sLit (.int 3))))
    (sSeq (sSet 2 (sAppl F_law_fewest (sCons (sVar 1) sNil)))
    (sSeq (sSet 3 (sMake 0 8 F_Shelf_init sNil))
    (sSeq (sFor (iRange1 (sOp2 fAdd (sVar 1) (sLit (.int 1)))) (.nm 4) B_law_1)
    (sRet (sLit (.bl true)))))))
end Sk

set_option exponentiation.threshold 2000
namespace Sk
open PySem PySem.Spec L2 Sm
theorem forGo_w {w : Option Nat} {all : List AV} {t : Tg} {b : SS} (P : Nat → En → AH → Prop) : ∀ (xs : List AV) (i : Nat) (en : En) (h : AH), P i en h →
    (∀ i en h, P i en h → liveB w all h = true) →
    (∀ (j : Nat) (x : AV) (en : En) (h : AH), xs[j]? = some x → P (i + j) en h → ∃ e1 e2 h2, setT t x en = some e1 ∧ (b e1 h = .nx e2 h2 ∨ b e1 h = .ct e2 h2) ∧ P (i + j + 1) e2 h2) →
    ∃ e' h', sForGo w all t b xs en h = .nx e' h' ∧ P (i + xs.length) e' h'
  | [], i, en, h, p, lv, _ => ⟨en, h, by unfold sForGo; rw [if_pos (lv _ _ _ p)], p⟩
  | x :: xs, i, en, h, p, lv, s => by
    obtain ⟨e1, e2, h2, q1, q2, q3⟩ := s 0 x en h rfl p
    obtain ⟨e', h', r1, r2⟩ := forGo_w P xs (i + 1) e2 h2 q3 lv fun j y en h e q => by
      have := s (j + 1) y en h (by simpa using e) (by rw [show i + (j + 1) = i + 1 + j by omega]; exact q)
      rw [show i + (j + 1) + 1 = i + 1 + j + 1 by omega] at this
      exact this
    refine ⟨e', h', ?_, by rw [List.length_cons, show i + (xs.length + 1) = i + 1 + xs.length by omega]; exact r2⟩
    unfold sForGo
    rw [if_pos (lv _ _ _ p)]
    simp only [q1]
    rcases q2 with q2 | q2
    · rw [q2]; exact r1
    · rw [q2]; exact r1
theorem comp_pure {α : Type} {js : List Nat} {en : En} {w : Option Nat} {all : List AV} {c : SB} {e : SE} {g f : α → AV} {p : α → Bool} {h : AH} (lv : liveB w all h = true) : ∀ (cs : List α) (ys : List AV), (∀ x ∈ cs, c (some (g x) :: js.map fun j => (en[j]?).join) h = .ok (p x) h) → (∀ x ∈ cs, p x = true → e (some (g x) :: js.map fun j => (en[j]?).join) h = .ok (f x) h) → ys.length + cs.length ≤ sizeLine →
    sCompGo js en w all c e (cs.map g) ys h = .ok (ys ++ (cs.filter p).map f) h
  | [], ys, _, _, _ => by rw [List.map_nil]; unfold sCompGo; rw [if_pos lv]; simp
  | x :: xs, ys, hc, he, hl => by
    have hl' : ys.length < sizeLine := by simp at hl; omega
    rw [List.map_cons]
    unfold sCompGo
    rw [if_pos ⟨lv, hl'⟩, hc x (by simp)]
    cases hp : p x with
    | false =>
      dsimp only
      rw [comp_pure lv xs ys (fun y hy => hc y (by simp [hy])) (fun y hy => he y (by simp [hy])) (by simp at hl ⊢; omega)]
      simp [List.filter_cons, hp]
    | true =>
      dsimp only
      rw [he x (by simp) hp]
      dsimp only
      rw [comp_pure lv xs (ys ++ [f x]) (fun y hy => hc y (by simp [hy])) (fun y hy => he y (by simp [hy])) (by simp at hl ⊢; omega)]
      simp [List.filter_cons, hp]
theorem comp_all {α : Type} {js : List Nat} {en : En} {w : Option Nat} {all : List AV} {e : SE} {g f : α → AV} {h : AH} (lv : liveB w all h = true) (cs : List α) (ys : List AV) (he : ∀ x ∈ cs, e (some (g x) :: js.map fun j => (en[j]?).join) h = .ok (f x) h) (hl : ys.length + cs.length ≤ sizeLine) :
    sCompGo js en w all sYes e (cs.map g) ys h = .ok (ys ++ cs.map f) h := by
  rw [comp_pure (p := fun _ => true) lv cs ys (fun _ _ => rfl) (fun x hx _ => he x hx) hl, List.filter_eq_self.mpr (fun _ _ => rfl)]
@[simp] noncomputable def thn (o : OutS) (Q : En → AH → Prop) : Prop := match o with
  | .nx e h => Q e h
  | .ct e h => Q e h
  | _ => False
theorem thn_of {o : OutS} {Q : En → AH → Prop} (t : thn o Q) : ∃ e h, (o = .nx e h ∨ o = .ct e h) ∧ Q e h := by
  cases o with
  | nx e h => exact ⟨e, h, .inl rfl, t⟩
  | ct e h => exact ⟨e, h, .inr rfl, t⟩
  | _ => exact t.elim
@[simp] noncomputable def setThn (o : Option En) (Q : En → Prop) : Prop := match o with
  | some e => Q e
  | none => False
theorem for_p {w : Option Nat} {all : List AV} {t : Tg} {b : SS} {xs : List AV} {en : En} {h : AH} (P : Nat → En → AH → Prop) (p0 : P 0 en h) (lv : ∀ i en h, P i en h → liveB w all h = true)
    (st : ∀ (j : Nat) (x : AV) (en : En) (h : AH), xs[j]? = some x → P j en h → setThn (setT t x en) fun e1 => thn (b e1 h) (P (j + 1))) :
    ∃ e' h', sForGo w all t b xs en h = .nx e' h' ∧ P xs.length e' h' := by
  have := forGo_w (w := w) (all := all) (t := t) (b := b) P xs 0 en h p0 lv fun j x en h hx hp => by
    have q := st j x en h hx (by simpa using hp)
    cases z : setT t x en with
    | none => rw [z] at q; exact q.elim
    | some e1 =>
      rw [z] at q
      obtain ⟨e, h2, a, c⟩ := thn_of q
      exact ⟨e1, e, h2, rfl, a, by simpa using c⟩
  simpa using this
@[simp] noncomputable def okThn (o : Out AV) (Q : AV → AH → Prop) : Prop := match o with
  | .ok v h => Q v h
  | _ => False
theorem rangeA_at : ∀ (n : Nat) (lo : Int) (i : Nat), (rangeA lo n)[i]? = if i < n then some (.int (lo + i)) else none
  | 0, lo, i => by simp [rangeA]
  | n + 1, lo, 0 => by simp [rangeA]
  | n + 1, lo, i + 1 => by
    unfold rangeA
    rw [List.getElem?_cons_succ, rangeA_at n (lo + 1) i]
    by_cases q : i < n
    · rw [if_pos q, if_pos (by omega)]; congr 2; omega
    · rw [if_neg q, if_neg (by omega)]
theorem rangeA_len : ∀ (n : Nat) (lo : Int), (rangeA lo n).length = n
  | 0, _ => rfl
  | n + 1, lo => by unfold rangeA; rw [List.length_cons, rangeA_len n]
theorem range1_of {a : SE} {en : En} {h h1 : AH} {n : Nat} (e : a en h = .ok (.int n) h1) (hn : n ≤ 10000000) : iRange1 a en h = .ok (rangeA 0 n, none) h1 := by
  have h1' : (n : Int).natAbs < 2 ^ 62 := by omega
  simp only [iRange1, e, Out.bind]
  rw [if_pos h1']; rfl
theorem range2_of {a b : SE} {en : En} {h h1 h2 : AH} {i j : Int} {m : Nat} (e : a en h = .ok (.int i) h1) (e' : b en h1 = .ok (.int j) h2) (hm : (j - i).toNat = m) (b1 : i.natAbs ≤ 10000000) (b3 : j.natAbs ≤ 10000000) : iRange2 a b en h = .ok (rangeA i m, none) h2 := by
  have h1' : i.natAbs < 2 ^ 62 ∧ j.natAbs < 2 ^ 62 := by omega
  simp only [iRange2, e, e', Out.bind]
  rw [if_pos h1', hm]
theorem for_of {it : SI} {t : Tg} {b : SS} {en : En} {h h1 : AH} {xs : List AV} {w : Option Nat} (e : it en h = .ok (xs, w) h1) : sFor it t b en h = sForGo w xs t b xs en h1 := by simp only [sFor, e]
theorem atI_mapN {α : Type} {f : α → AV} {l : List α} {j : Nat} {q : α} (e : l[j]? = some q) : atI (l.map f) (j : Int) = some (f q) := atI_nat (by simp [e])
end Sk

set_option exponentiation.threshold 5000
namespace Sk
open PySem PySem.Spec L2 Sm
noncomputable def plainC (c : Nat) : Bool := decide (c = 10) || (decide (32 ≤ c) && decide (c ≤ 126))
theorem lt1 (a b : Nat) : ([a] < [b]) ↔ a < b := by
  simp [List.cons_lt_cons_iff]
theorem cps_nl : (Str.ofString "\n") = ⟨#[10]⟩ := by decide +kernel
theorem cps_sp : (Str.ofString " ") = ⟨#[32]⟩ := by decide +kernel
theorem cps_ti : (Str.ofString "~") = ⟨#[126]⟩ := by decide +kernel
theorem f_sign (c : Nat) (h : AH) : F_is_plain_sign [.str ⟨#[c]⟩] h = .ok (.bl (plainC c)) h := by
  simp [F_is_plain_sign, cps_nl, cps_sp, cps_ti, lt1, plainC]
  by_cases h1 : c = 10
  · simp [h1]
  · by_cases h2 : c < 32
    · have : ¬ 32 ≤ c := by omega
      simp [h1, h2, this]
    · have h3 : 32 ≤ c := by omega
      by_cases h4 : c ≤ 126
      · have : ¬ 126 < c := by omega
        simp [h1, h2, h3, h4, this]
      · have : 126 < c := by omega
        simp [h1, h2, h3, h4, this]
theorem comp_map {α : Type} {js : List Nat} {en : En} {all : List AV} {e : SE} {g f : α → AV} {h : AH} : ∀ (cs : List α) (ys : List AV), (∀ c ∈ cs, e (some (g c) :: js.map fun j => (en[j]?).join) h = .ok (f c) h) → ys.length + cs.length ≤ sizeLine → sCompGo js en none all sYes e (cs.map g) ys h = .ok (ys ++ cs.map f) h
  | [], ys, _, _ => by simp [sCompGo]
  | x :: xs, ys, he, hl => by
    have hl' : ys.length < sizeLine := by simp at hl; omega
    rw [List.map_cons]
    unfold sCompGo
    rw [if_pos ⟨rfl, hl'⟩]
    simp only [sYes]
    rw [he x (by simp)]
    dsimp only
    rw [comp_map xs (ys ++ [f x]) (fun y hy => he y (by simp [hy])) (by simp at hl ⊢; omega)]
    simp
theorem bools_map (f : Nat → Bool) : ∀ cs : List Nat, boolsOf (cs.map fun c => .bl (f c)) = some (cs.map f)
  | [] => rfl
  | c :: cs => by simp [bools_map f cs]
noncomputable def plainS (x : Str) : Bool := x.cps.toList.all plainC
theorem f_plain (x : Str) (h : AH) (hl : x.length ≤ sizeLine) : F_is_plain [.str x] h = .ok (.bl (plainS x)) h := by
  have e := comp_map (js := []) (en := [some (.str x)]) (all := x.cps.toList.map fun c => AV.str ⟨#[c]⟩) (e := sAppl F_is_plain_sign (sCons (sVar 0) sNil)) (g := fun c => AV.str ⟨#[c]⟩) (f := fun c => AV.bl (plainC c)) (h := h) x.cps.toList [] (by
    intro c hc
    simp [f_sign]) (by simp; exact hl)
  simp only [List.nil_append] at e
  simp [F_is_plain]
  rw [e]
  simp [bools_map, plainS]
noncomputable def shortS (x : Str) : Bool := plainS x && (decide (1 ≤ x.length) && decide (x.length ≤ 8))
theorem f_short (x : Str) (h : AH) (hl : x.length ≤ sizeLine) : F_is_short [.str x] h = .ok (.bl (shortS x)) h := by
  simp [F_is_short, f_plain x h hl, shortS]
  by_cases h1 : plainS x = true
  · by_cases h2 : 1 ≤ x.length
    · have : (1 : Int) ≤ x.length := by omega
      by_cases h3 : x.length ≤ 8
      · have : (x.length : Int) ≤ 8 := by omega
        simp [*]
      · have : ¬ (x.length : Int) ≤ 8 := by omega
        simp [*]
    · have : ¬ (1 : Int) ≤ x.length := by omega
      simp [*]
  · simp [h1]
noncomputable def endsS (x : Str) : Nat := (Builtin.Str.occurrences x ⟨#[10]⟩ 0 x.length (x.length + 1)).length
theorem f_ends (x : Str) (h : AH) : F_ends_in [.str x] h = .ok (.int (endsS x)) h := by
  simp [F_ends_in, cps_nl, endsS]
theorem f_whole (i : Int) (h : AH) : F_is_whole [.int i] h = .ok (.bl true) h := by
  simp [F_is_whole]
inductive Pc where
  | leaf (x : Str)
  | fork (a b : Nat)
  deriving DecidableEq
noncomputable def Pc.av : Pc → AV
  | .leaf x => .tup [.str "leaf", .str x]
  | .fork a b => .tup [.str "fork", .int a, .int b]
theorem Pc.av_inj : ∀ {p q : Pc}, p.av = q.av → p = q
  | .leaf x, .leaf y, e => by simp [Pc.av] at e; rw [e]
  | .leaf x, .fork a b, e => by simp [Pc.av] at e
  | .fork a b, .leaf x, e => by simp [Pc.av] at e
  | .fork a b, .fork c d, e => by simp [Pc.av] at e; rw [Int.ofNat.inj e.1, Int.ofNat.inj e.2]
structure Ms where
  sg : Nat
  en : Nat
  lv : Nat
  ht : Int
  fl : Nat
  ll : Nat
noncomputable def ms0 : Ms := ⟨0, 0, 0, -1, 0, 0⟩
noncomputable def newMs (ms : List Ms) : Pc → Ms
  | .leaf x => ⟨x.length, endsS x, 1, 0, ms.length, ms.length⟩
  | .fork a b => ⟨(ms.getD a ms0).sg + (ms.getD b ms0).sg, (ms.getD a ms0).en + (ms.getD b ms0).en, (ms.getD a ms0).lv + (ms.getD b ms0).lv, max (ms.getD a ms0).ht (ms.getD b ms0).ht + 1, (ms.getD a ms0).fl, (ms.getD b ms0).ll⟩
noncomputable def meas (ps : List Pc) : List Ms := ps.foldl (fun ms q => ms ++ [newMs ms q]) [ms0]
theorem meas_snoc (ps : List Pc) (q : Pc) : meas (ps ++ [q]) = meas ps ++ [newMs (meas ps) q] := by simp [meas]
theorem meas_len : ∀ ps : List Pc, (meas ps).length = ps.length + 1 := by
  have all : ∀ (ps : List Pc) (ms : List Ms), (ps.foldl (fun ms q => ms ++ [newMs ms q]) ms).length = ms.length + ps.length := by
    intro ps
    induction ps with
    | nil => intro ms; rfl
    | cons q r ih => intro ms; rw [List.foldl_cons, ih]; simp; omega
  intro ps
  rw [meas, all]; simp; omega
noncomputable def tabFrom (k : Nat) : List Pc → List (AV × AV)
  | [] => []
  | q :: r => (q.av, .int k) :: tabFrom (k + 1) r
noncomputable def tab (ps : List Pc) : List (AV × AV) := tabFrom 1 ps
theorem tabFrom_snoc (q : Pc) : ∀ (ps : List Pc) (k : Nat), tabFrom k (ps ++ [q]) = tabFrom k ps ++ [(q.av, .int ((k + ps.length : Nat) : Int))]
  | [], k => by simp [tabFrom]
  | p :: r, k => by
    simp only [List.cons_append, tabFrom, tabFrom_snoc q r (k + 1)]
    rw [show k + 1 + r.length = k + (p :: r).length by simp; omega]
theorem tab_len : ∀ (ps : List Pc) (k : Nat), (tabFrom k ps).length = ps.length
  | [], _ => rfl
  | p :: r, k => by simp [tabFrom, tab_len r]
theorem tab_none {q : Pc} : ∀ {ps : List Pc} {k : Nat}, q ∉ ps → valA (tabFrom k ps) q.av = none
  | [], k, _ => rfl
  | p :: r, k, h => by
    have h1 : ¬ p.av = q.av := fun e => h (by rw [Pc.av_inj e]; simp)
    have h2 := tab_none (q := q) (ps := r) (k := k + 1) fun z => h (by simp [z])
    unfold valA at h2 ⊢
    simp only [tabFrom, List.find?_cons, decide_eq_false h1]
    exact h2
theorem tab_some {q : Pc} : ∀ {ps : List Pc} {k i : Nat}, ps.Nodup → ps[i]? = some q → valA (tabFrom k ps) q.av = some (.int ((k + i : Nat) : Int))
  | [], k, i, _, e => by simp at e
  | p :: r, k, 0, n, e => by simp at e; subst e; simp [valA, tabFrom]
  | p :: r, k, i + 1, n, e => by
    simp at e
    have h1 : ¬ p.av = q.av := fun z => (List.nodup_cons.mp n).1 (by rw [Pc.av_inj z]; exact List.mem_of_getElem? e)
    have h2 := tab_some (q := q) (k := k + 1) (List.nodup_cons.mp n).2 e
    unfold valA at h2 ⊢
    simp only [tabFrom, List.find?_cons, decide_eq_false h1]
    rw [h2]
    congr 3
    omega
theorem tab_put {q : Pc} {ps : List Pc} (h : q ∉ ps) : putA (tab ps) q.av (.int ((ps.length + 1 : Nat) : Int)) = tab (ps ++ [q]) := by
  unfold putA
  rw [any_val, tab, tab_none h, tab, tabFrom_snoc]
  simp [Nat.add_comm]
structure ShelfAt (h : AH) (p : Nat) (ps : List Pc) : Prop where
  ob : h[p]? = some (.ins 0 [some (.ref (p + 1)), some (.ref (p + 2)), some (.ref (p + 3)), some (.ref (p + 4)), some (.ref (p + 5)), some (.ref (p + 6)), some (.ref (p + 7)), some (.ref (p + 8))])
  h1 : h[p + 1]? = some (.lst (ps.map Pc.av))
  h2 : h[p + 2]? = some (.dct true (tab ps))
  h3 : h[p + 3]? = some (.lst ((meas ps).map fun m => .int m.sg))
  h4 : h[p + 4]? = some (.lst ((meas ps).map fun m => .int m.en))
  h5 : h[p + 5]? = some (.lst ((meas ps).map fun m => .int m.lv))
  h6 : h[p + 6]? = some (.lst ((meas ps).map fun m => .int m.ht))
  h7 : h[p + 7]? = some (.lst ((meas ps).map fun m => .int m.fl))
  h8 : h[p + 8]? = some (.lst ((meas ps).map fun m => .int m.ll))
noncomputable def putSh (h : AH) (p : Nat) (ps : List Pc) : AH :=
  (((((((h.set (p + 1) (.lst (ps.map Pc.av))).set (p + 2) (.dct true (tab ps))).set (p + 3) (.lst ((meas ps).map fun m => .int m.sg))).set (p + 4) (.lst ((meas ps).map fun m => .int m.en))).set (p + 5) (.lst ((meas ps).map fun m => .int m.lv))).set
    (p + 6) (.lst ((meas ps).map fun m => .int m.ht))).set (p + 7) (.lst ((meas ps).map fun m => .int m.fl))).set (p + 8) (.lst ((meas ps).map fun m => .int m.ll))
theorem lt_of {h : AH} {i : Nat} {o : AO} (e : h[i]? = some o) : i < h.length := (List.getElem?_eq_some_iff.mp e).1
theorem putSh_len (h : AH) (p : Nat) (ps : List Pc) : (putSh h p ps).length = h.length := by simp [putSh]
theorem putSh_ne {h : AH} {p q : Nat} {ps : List Pc} (hq : q ≤ p ∨ p + 8 < q) : (putSh h p ps)[q]? = h[q]? := by
  unfold putSh
  repeat rw [List.getElem?_set_ne (by omega)]
theorem putSh_at {h : AH} {p : Nat} {ps ps' : List Pc} (S : ShelfAt h p ps) : ShelfAt (putSh h p ps') p ps' := by
  have b := lt_of S.h8
  have l1 : p + 1 < h.length := Nat.lt_of_le_of_lt (Nat.add_le_add_left (by decide) p) b
  have l2 : p + 2 < h.length := Nat.lt_of_le_of_lt (Nat.add_le_add_left (by decide) p) b
  have l3 : p + 3 < h.length := Nat.lt_of_le_of_lt (Nat.add_le_add_left (by decide) p) b
  have l4 : p + 4 < h.length := Nat.lt_of_le_of_lt (Nat.add_le_add_left (by decide) p) b
  have l5 : p + 5 < h.length := Nat.lt_of_le_of_lt (Nat.add_le_add_left (by decide) p) b
  have l6 : p + 6 < h.length := Nat.lt_of_le_of_lt (Nat.add_le_add_left (by decide) p) b
  have l7 : p + 7 < h.length := Nat.lt_of_le_of_lt (Nat.add_le_add_left (by decide) p) b
  have ob := S.ob
  constructor <;> simp [putSh, List.getElem?_set, l1, l2, l3, l4, l5, l6, l7, b, ob, -List.getElem?_eq_getElem]
theorem f_has {h : AH} {p : Nat} {ps : List Pc} {i : Int} (S : ShelfAt h p ps) : F_Shelf_has_piece [.ref p, .int i] h = .ok (.bl (decide (1 ≤ i ∧ i ≤ ps.length))) h := by
  simp [F_Shelf_has_piece, f_whole, S.ob, S.h1]
  by_cases h1 : 1 ≤ i <;> simp [h1]
theorem f_checkP {h : AH} {p : Nat} {ps : List Pc} {i : Int} (S : ShelfAt h p ps) (hi : 1 ≤ i ∧ i ≤ ps.length) : F_Shelf_check_piece [.ref p, .int i] h = .ok .non h := by
  simp [F_Shelf_check_piece, f_has S, S.ob, hi.1, hi.2]
theorem atI_map {α : Type} {f : α → AV} {l : List α} {j : Nat} {q : α} (e : l[j]? = some q) : atI (l.map f) (j : Int) = some (f q) := atI_nat (by simp [e])
theorem f_lay {h : AH} {p : Nat} {ps : List Pc} {q : Pc} (S : ShelfAt h p ps) (hq : q ∉ ps) (hl : ps.length < 16000000) :
    F_Shelf_lay [.ref p, q.av] h = .ok (.int ((ps.length + 1 : Nat) : Int)) ((h.set (p + 1) (.lst ((ps ++ [q]).map Pc.av))).set (p + 2) (.dct true (tab (ps ++ [q])))) := by
  have b := lt_of S.h8
  have hs : ps.length < sizeLine := Nat.lt_trans hl (by decide)
  have ht : (tab ps).length < sizeLine := by rw [tab, tab_len]; exact hs
  have hk : isKey true q.av = true := by cases q <;> simp [Pc.av]
  have e1 : (h.set (p + 1) (.lst (ps.map Pc.av ++ [q.av])))[p]? = h[p]? := List.getElem?_set_ne (by omega)
  have e2 : (h.set (p + 1) (.lst (ps.map Pc.av ++ [q.av])))[p + 1]? = some (.lst (ps.map Pc.av ++ [q.av])) := List.getElem?_set_self (by omega)
  have e3 : (h.set (p + 1) (.lst (ps.map Pc.av ++ [q.av])))[p + 2]? = h[p + 2]? := List.getElem?_set_ne (by omega)
  have tp := tab_put hq
  simp [F_Shelf_lay, S.ob, S.h1, hs, e1, e2, e3, S.h2, hk, ht, -isKey]
  rw [show ((ps.length : Int) + 1) = ((ps.length + 1 : Nat) : Int) by simp, tp]
theorem f_layLeaf {h : AH} {p : Nat} {ps : List Pc} {x : Str} (S : ShelfAt h p ps) (hq : Pc.leaf x ∉ ps) (hl : ps.length < 16000000) :
    F_Shelf_lay_leaf [.ref p, (Pc.leaf x).av] h = .ok .non (putSh h p (ps ++ [.leaf x])) := by
  have b := lt_of S.h8
  have hs : ps.length + 1 < sizeLine := Nat.lt_of_lt_of_le (Nat.succ_lt_succ hl) (by decide)
  have hm : (meas ps).length < sizeLine := by rw [meas_len]; exact hs
  have e := f_lay S hq hl
  have b2 : ((meas ps).length : Int) = (ps.length : Int) + 1 := by rw [meas_len]; simp
  have e2 : fIx (Pc.leaf x).av (.int 1) = fun h => Out.ok (.str x) h := by funext h; rfl
  have l1 : p + 1 < h.length := by omega
  have l2 : p + 2 < h.length := by omega
  have l3 : p + 3 < h.length := by omega
  have l4 : p + 4 < h.length := by omega
  have l5 : p + 5 < h.length := by omega
  have l6 : p + 6 < h.length := by omega
  have l7 : p + 7 < h.length := by omega
  simp [F_Shelf_lay_leaf, e, S.ob, S.h3, S.h4, S.h5, S.h6, S.h7, S.h8, hm, f_ends, List.getElem?_set, meas_snoc, newMs, putSh, e2, meas_len, hs, -fIx, -List.getElem?_eq_getElem]
theorem getD_of {α : Type} {l : List α} {i : Nat} {d x : α} (e : l[i]? = some x) : l.getD i d = x := by simp [List.getD, e]
theorem f_layFork {h : AH} {p : Nat} {ps : List Pc} {a b : Nat} {ma mb : Ms} (S : ShelfAt h p ps) (hq : Pc.fork a b ∉ ps) (hl : ps.length < 16000000) (ha : (meas ps)[a]? = some ma) (hb : (meas ps)[b]? = some mb) :
    F_Shelf_lay_fork [.ref p, (Pc.fork a b).av] h = .ok .non (putSh h p (ps ++ [.fork a b])) := by
  have bb := lt_of S.h8
  have hs : ps.length + 1 < sizeLine := Nat.lt_of_lt_of_le (Nat.succ_lt_succ hl) (by decide)
  have hm : (meas ps).length < sizeLine := by rw [meas_len]; exact hs
  have e := f_lay S hq hl
  have e2 : fIx (Pc.fork a b).av (.int 1) = fun h => Out.ok (.int a) h := by funext h; rfl
  have e3 : fIx (Pc.fork a b).av (.int 2) = fun h => Out.ok (.int b) h := by funext h; rfl
  have l1 : p + 1 < h.length := by omega
  have l2 : p + 2 < h.length := by omega
  have l3 : p + 3 < h.length := by omega
  have l4 : p + 4 < h.length := by omega
  have l5 : p + 5 < h.length := by omega
  have l6 : p + 6 < h.length := by omega
  have l7 : p + 7 < h.length := by omega
  have fx : ∀ (n : Nat) (g : Ms → AV) (h' : AH), h'[n]? = some (.lst ((meas ps).map g)) → fIx (.ref n) (.int a) h' = .ok (g ma) h' ∧ fIx (.ref n) (.int b) h' = .ok (g mb) h' := fun n g h' e => by
    simp [fIx, e, atI_map ha, atI_map hb]
  have f3 := fun (h' : AH) (e : h'[p + 3]? = some (.lst ((meas ps).map fun m => .int m.sg))) => fx _ _ h' e
  have f4 := fun (h' : AH) (e : h'[p + 4]? = some (.lst ((meas ps).map fun m => .int m.en))) => fx _ _ h' e
  have f5 := fun (h' : AH) (e : h'[p + 5]? = some (.lst ((meas ps).map fun m => .int m.lv))) => fx _ _ h' e
  have f6 := fun (h' : AH) (e : h'[p + 6]? = some (.lst ((meas ps).map fun m => .int m.ht))) => fx _ _ h' e
  have f7 := fun (h' : AH) (e : h'[p + 7]? = some (.lst ((meas ps).map fun m => .int m.fl))) => fx _ _ h' e
  have f8 := fun (h' : AH) (e : h'[p + 8]? = some (.lst ((meas ps).map fun m => .int m.ll))) => fx _ _ h' e
  have hmax : ∀ i j : Int, (if j > i then j else i) = max i j := fun i j => by split <;> omega
  simp [F_Shelf_lay_fork, e, S.ob, S.h3, S.h4, S.h5, S.h6, S.h7, S.h8, hm, List.getElem?_set, meas_snoc, newMs, putSh, e2, e3, meas_len, hs, atI_map ha, atI_map hb, getD_of ha, getD_of hb, -fIx, -List.getElem?_eq_getElem, -List.getD_eq_getElem?_getD, f3, f4, f5, f6, f7, f8, hmax]
theorem f_leaf_old {h : AH} {p : Nat} {ps : List Pc} {x : Str} {i : Nat} (S : ShelfAt h p ps) (nd : ps.Nodup) (hx : shortS x = true) (hl : x.length ≤ sizeLine) (e : ps[i]? = some (.leaf x)) : F_Shelf_leaf [.ref p, .str x] h = .ok (.int ((i + 1 : Nat) : Int)) h := by
  have t := tab_some (k := 1) nd e
  have t' : valA (tab ps) (.tup [.str "leaf", .str x]) = some (.int ((i + 1 : Nat) : Int)) := by rw [Nat.add_comm]; exact t
  simp [F_Shelf_leaf, f_short x h hl, hx, S.ob, S.h2, t']
theorem f_leaf_new {h : AH} {p : Nat} {ps : List Pc} {x : Str} (S : ShelfAt h p ps) (hx : shortS x = true) (hl : x.length ≤ sizeLine) (hq : Pc.leaf x ∉ ps) (hz : ps.length < 16000000) : F_Shelf_leaf [.ref p, .str x] h = .ok (.int ((ps.length + 1 : Nat) : Int)) (putSh h p (ps ++ [.leaf x])) := by
  have t : valA (tab ps) (.tup [.str "leaf", .str x]) = none := tab_none (q := .leaf x) (k := 1) hq
  have S2 := putSh_at (ps' := ps ++ [.leaf x]) S
  have e := f_layLeaf S hq hz
  have t2 : valA (tab (ps ++ [.leaf x])) (.tup [.str "leaf", .str x]) = some (.int ((ps.length + 1 : Nat) : Int)) := by
    unfold tab
    rw [tabFrom_snoc]
    unfold valA at t ⊢
    rw [List.find?_append]
    have t3 : (tabFrom 1 ps).find? (fun p => decide (p.1 = .tup [.str "leaf", .str x])) = none := by simpa [tab] using t
    rw [t3]
    simp [Pc.av, Nat.add_comm]
  have e' : F_Shelf_lay_leaf [.ref p, .tup [.str "leaf", .str x]] h = .ok .non (putSh h p (ps ++ [.leaf x])) := e
  simp [F_Shelf_leaf, f_short x h hl, hx, S.ob, S.h2, t, e', S2.ob, S2.h2, t2]
theorem f_checkF {h : AH} {p : Nat} {ps : List Pc} {a b : Nat} {ma mb la fb : Ms} (S : ShelfAt h p ps) (ha : (meas ps)[a]? = some ma) (hb : (meas ps)[b]? = some mb) (pa : 1 ≤ a) (pb : 1 ≤ b) (hla : (meas ps)[ma.ll]? = some la) (hfb : (meas ps)[mb.fl]? = some fb) :
    F_Shelf_check_fork [.ref p, .int a, .int b] h = if la.sg + fb.sg ≤ 8 then .ex xn_Loose h else if 1 < (ma.ht - mb.ht).natAbs then .ex xn_Unlevel h else if 1000000000000000000 < ma.sg + mb.sg then .ex xn_TooLong h else .ok .non h := by
  have la_ := (List.getElem?_eq_some_iff.mp ha).1
  have lb_ := (List.getElem?_eq_some_iff.mp hb).1
  rw [meas_len] at la_ lb_
  have c1 := f_checkP S (i := (a : Int)) ⟨by omega, by omega⟩
  have c2 := f_checkP S (i := (b : Int)) ⟨by omega, by omega⟩
  by_cases d1 : la.sg + fb.sg ≤ 8
  · have d1' : ((la.sg : Int) + fb.sg) ≤ 8 := by omega
    simp [F_Shelf_check_fork, c1, c2, S.ob, S.h3, S.h5, S.h6, S.h7, S.h8, atI_map ha, atI_map hb, atI_map hla, atI_map hfb, d1, d1']
  · have d1' : ¬ ((la.sg : Int) + fb.sg) ≤ 8 := by omega
    by_cases d2 : 1 < (ma.ht - mb.ht).natAbs
    · have d2' : (1 : Int) < (if ma.ht - mb.ht < 0 then -(ma.ht - mb.ht) else ma.ht - mb.ht) := by split <;> omega
      simp [F_Shelf_check_fork, c1, c2, S.ob, S.h3, S.h5, S.h6, S.h7, S.h8, atI_map ha, atI_map hb, atI_map hla, atI_map hfb, d1, d1', d2, d2', -Int.neg_sub]
    · have d2' : ¬ (1 : Int) < (if ma.ht - mb.ht < 0 then -(ma.ht - mb.ht) else ma.ht - mb.ht) := by split <;> omega
      by_cases d3 : 1000000000000000000 < ma.sg + mb.sg
      · have d3' : (1000000000000000000 : Int) < (ma.sg : Int) + mb.sg := by omega
        simp [F_Shelf_check_fork, c1, c2, S.ob, S.h3, S.h5, S.h6, S.h7, S.h8, atI_map ha, atI_map hb, atI_map hla, atI_map hfb, d1, d1', d2, d2', d3, d3', -Int.neg_sub]
      · have d3' : ¬ (1000000000000000000 : Int) < (ma.sg : Int) + mb.sg := by omega
        simp [F_Shelf_check_fork, c1, c2, S.ob, S.h3, S.h5, S.h6, S.h7, S.h8, atI_map ha, atI_map hb, atI_map hla, atI_map hfb, d1, d1', d2, d2', d3, d3', -Int.neg_sub]
structure ForkOk (ps : List Pc) (a b : Nat) : Prop where
  pa : 1 ≤ a
  pb : 1 ≤ b
  ex : ∃ ma mb la fb, (meas ps)[a]? = some ma ∧ (meas ps)[b]? = some mb ∧ (meas ps)[ma.ll]? = some la ∧ (meas ps)[mb.fl]? = some fb ∧ 8 < la.sg + fb.sg ∧ (ma.ht - mb.ht).natAbs ≤ 1 ∧ ma.sg + mb.sg ≤ 1000000000000000000
theorem f_checkF_ok {h : AH} {p : Nat} {ps : List Pc} {a b : Nat} (S : ShelfAt h p ps) (F : ForkOk ps a b) : F_Shelf_check_fork [.ref p, .int a, .int b] h = .ok .non h := by
  obtain ⟨ma, mb, la, fb, h1, h2, h3, h4, h5, h6, h7⟩ := F.ex
  rw [f_checkF S h1 h2 F.pa F.pb h3 h4, if_neg (by omega), if_neg (by omega), if_neg (by omega)]
theorem f_fork_old {h : AH} {p : Nat} {ps : List Pc} {a b i : Nat} (S : ShelfAt h p ps) (nd : ps.Nodup) (F : ForkOk ps a b) (e : ps[i]? = some (.fork a b)) : F_Shelf_fork [.ref p, .int a, .int b] h = .ok (.int ((i + 1 : Nat) : Int)) h := by
  have t := tab_some (k := 1) nd e
  have t' : valA (tab ps) (.tup [.str "fork", .int a, .int b]) = some (.int ((i + 1 : Nat) : Int)) := by rw [Nat.add_comm]; exact t
  simp [F_Shelf_fork, f_checkF_ok S F, S.ob, S.h2, t']
theorem f_fork_new {h : AH} {p : Nat} {ps : List Pc} {a b : Nat} (S : ShelfAt h p ps) (F : ForkOk ps a b) (hq : Pc.fork a b ∉ ps) (hz : ps.length < 16000000) : F_Shelf_fork [.ref p, .int a, .int b] h = .ok (.int ((ps.length + 1 : Nat) : Int)) (putSh h p (ps ++ [.fork a b])) := by
  have t : valA (tab ps) (.tup [.str "fork", .int a, .int b]) = none := tab_none (q := .fork a b) (k := 1) hq
  have S2 := putSh_at (ps' := ps ++ [.fork a b]) S
  obtain ⟨ma, mb, la, fb, h1, h2, _⟩ := F.ex
  have e := f_layFork S hq hz h1 h2
  have t2 : valA (tab (ps ++ [.fork a b])) (.tup [.str "fork", .int a, .int b]) = some (.int ((ps.length + 1 : Nat) : Int)) := by
    unfold tab
    rw [tabFrom_snoc]
    unfold valA at t ⊢
    rw [List.find?_append]
    have t3 : (tabFrom 1 ps).find? (fun p => decide (p.1 = .tup [.str "fork", .int a, .int b])) = none := by simpa [tab] using t
    rw [t3]
    simp [Pc.av, Nat.add_comm]
  have e' : F_Shelf_lay_fork [.ref p, .tup [.str "fork", .int a, .int b]] h = .ok .non (putSh h p (ps ++ [.fork a b])) := e
  simp [F_Shelf_fork, f_checkF_ok S F, S.ob, S.h2, t, e', S2.ob, S2.h2, t2]
noncomputable def shNew (n : Nat) : List AO := [.ins 0 [some (.ref (n + 1)), some (.ref (n + 2)), some (.ref (n + 3)), some (.ref (n + 4)), some (.ref (n + 5)), some (.ref (n + 6)), some (.ref (n + 7)), some (.ref (n + 8))], .lst [], .dct true [], .lst [.int 0], .lst [.int 0], .lst [.int 0], .lst [.int (-1)], .lst [.int 0], .lst [.int 0]]
theorem set_app {h : AH} {o o' : AO} {r : AH} : (h ++ o :: r).set h.length o' = h ++ o' :: r := by
  induction h with
  | nil => rfl
  | cons x t ih => simp [ih]
theorem f_make (en : En) (h : AH) : sMake 0 8 F_Shelf_init sNil en h = .ok (.ref h.length) (h ++ shNew h.length) := by
  simp [F_Shelf_init, shNew, List.getElem?_append, set_app]
theorem at_app {h r : AH} {k : Nat} : (h ++ r)[h.length + k]? = r[k]? := by
  rw [List.getElem?_append_right (by omega)]; simp
theorem new_at (h r : AH) : ShelfAt (h ++ (shNew h.length ++ r)) h.length [] := by
  refine ⟨?_, ?_, ?_, ?_, ?_, ?_, ?_, ?_, ?_⟩
  · rw [show h.length = h.length + 0 from rfl, at_app]; rfl
  all_goals (rw [at_app]; rfl)
theorem sub_one (x : Str) (c i : Nat) (hi : i < x.length) : Builtin.Str.subAt x ⟨#[c]⟩ i = decide (x.cps.toList[i]? = some c) := by
  have hi' : i < x.cps.size := hi
  unfold Builtin.Str.subAt
  have e : x.cps.extract i (i + 1) = #[x.cps[i]] := by
    apply Array.ext
    · simp; omega
    · intro j h1 h2
      have : j = 0 := by simp at h2; omega
      subst this
      simp
  show (x.cps.extract i (i + 1) == #[c]) = _
  rw [e]
  have : x.cps.toList[i]? = some x.cps[i] := by simp [hi']
  rw [this]
  by_cases q : x.cps[i] = c
  · simp [q]
  · simp [q]
theorem occ_go (x : Str) (c : Nat) : ∀ (n i : Nat) (st : Array Nat × Nat), i + n = x.length + 1 → st.2 ≤ i → st.1.size ≤ i → (forIn (List.range' i n) st (StrLaws.occBody x ⟨#[c]⟩ x.length (x.length + 1))).run.fst.size = st.1.size + (x.cps.toList.drop i).count c
  | 0, i, st, hn, _, _ => by
    rw [List.drop_of_length_le (by simp; simp only [Str.length] at hn; omega)]
    simp
  | n + 1, i, st, hn, h2, h3 => by
    rw [List.range'_succ, List.forIn_cons]
    unfold StrLaws.occBody
    by_cases hi : i < x.length
    · have hi' : i < x.cps.size := hi
      have hd : x.cps.toList.drop i = x.cps[i]'hi' :: x.cps.toList.drop (i + 1) := by
        rw [List.drop_eq_getElem_cons (show i < x.cps.toList.length by simpa using hi')]; simp
      have hg : x.cps.toList[i]? = some (x.cps[i]'hi') := by
        simp [hi']
      by_cases q : x.cps[i]'hi' = c
      · have hs : Builtin.Str.subAt x ⟨#[c]⟩ i = true := by rw [sub_one x c i hi, hg, q]; simp
        rw [if_pos ⟨⟨⟨by omega, h2⟩, hi⟩, hs⟩]
        show (forIn (List.range' (i + 1) n) (st.1.push i, i + 1) (StrLaws.occBody x ⟨#[c]⟩ x.length (x.length + 1))).run.fst.size = _
        rw [occ_go x c n (i + 1) _ (by omega) (Nat.le_refl _) (by simp; omega), hd, q]
        simp; omega
      · have hs : Builtin.Str.subAt x ⟨#[c]⟩ i = false := by rw [sub_one x c i hi, hg]; simp [q]
        rw [if_neg (by simp [hs])]
        show (forIn (List.range' (i + 1) n) (st.1, st.2) (StrLaws.occBody x ⟨#[c]⟩ x.length (x.length + 1))).run.fst.size = _
        rw [occ_go x c n (i + 1) _ (by omega) (by show st.2 ≤ i + 1; omega) (by show st.1.size ≤ i + 1; omega), hd]
        simp [q]
    · rw [if_neg (by rintro ⟨⟨_, z⟩, _⟩; exact hi z)]
      show (forIn (List.range' (i + 1) n) (st.1, st.2) (StrLaws.occBody x ⟨#[c]⟩ x.length (x.length + 1))).run.fst.size = _
      rw [occ_go x c n (i + 1) _ (by omega) (by show st.2 ≤ i + 1; omega) (by show st.1.size ≤ i + 1; omega)]
      rw [List.drop_of_length_le (by simp; simp only [Str.length] at hi; omega), List.drop_of_length_le (by simp; simp only [Str.length] at hi; omega)]
theorem occ_count (x : Str) (c : Nat) : (Builtin.Str.occurrences x ⟨#[c]⟩ 0 x.length (x.length + 1)).length = x.cps.toList.count c := by
  rw [StrLaws.occ_eq, Array.length_toList]
  rw [show x.length + 1 - 0 = x.length + 1 from rfl, occ_go x c (x.length + 1) 0 _ (by omega) (Nat.le_refl _) (by simp)]
  simp
theorem ends_count (x : Str) : endsS x = x.cps.toList.count 10 := occ_count x 10
theorem cps_app (x y : Str) : (x ++ y).cps.toList = x.cps.toList ++ y.cps.toList := by
  show (x.cps ++ y.cps).toList = _
  simp
theorem ends_app (x y : Str) : endsS (x ++ y) = endsS x + endsS y := by
  rw [ends_count, ends_count, ends_count, cps_app, List.count_append]
theorem len_list (x : Str) : x.length = x.cps.toList.length := by simp [Str.length]
theorem len_app (x y : Str) : (x ++ y).length = x.length + y.length := by
  rw [len_list, len_list, len_list, cps_app, List.length_append]
noncomputable def newRd (rs : List Str) : Pc → Str
  | .leaf x => x
  | .fork a b => rs.getD a "" ++ rs.getD b ""
noncomputable def reads (ps : List Pc) : List Str := ps.foldl (fun rs q => rs ++ [newRd rs q]) [""]
theorem reads_snoc (ps : List Pc) (q : Pc) : reads (ps ++ [q]) = reads ps ++ [newRd (reads ps) q] := by simp [reads]
theorem fold_app {α β : Type} (g : List β → α → β) : ∀ (qs : List α) (ms : List β), ∃ r, qs.foldl (fun ms q => ms ++ [g ms q]) ms = ms ++ r ∧ r.length = qs.length
  | [], ms => ⟨[], by simp, rfl⟩
  | q :: qs, ms => by
    obtain ⟨r, e, l⟩ := fold_app g qs (ms ++ [g ms q])
    exact ⟨g ms q :: r, by rw [List.foldl_cons, e]; simp, by simp [l]⟩
theorem reads_len (ps : List Pc) : (reads ps).length = ps.length + 1 := by
  obtain ⟨r, e, l⟩ := fold_app newRd ps [""]
  rw [reads, e]; simp [l, Nat.add_comm]
theorem meas_app (ps qs : List Pc) : ∃ r, meas (ps ++ qs) = meas ps ++ r := by
  unfold meas
  rw [List.foldl_append]
  obtain ⟨r, e, _⟩ := fold_app newMs qs (ps.foldl (fun ms q => ms ++ [newMs ms q]) [ms0])
  exact ⟨r, e⟩
theorem reads_app (ps qs : List Pc) : ∃ r, reads (ps ++ qs) = reads ps ++ r := by
  unfold reads
  rw [List.foldl_append]
  obtain ⟨r, e, _⟩ := fold_app newRd qs (ps.foldl (fun ms q => ms ++ [newRd ms q]) [""])
  exact ⟨r, e⟩
theorem meas_pre {ps ps' : List Pc} (h : ps <+: ps') {n : Nat} {m : Ms} (e : (meas ps)[n]? = some m) : (meas ps')[n]? = some m := by
  obtain ⟨qs, rfl⟩ := h
  obtain ⟨r, q⟩ := meas_app ps qs
  rw [q, List.getElem?_append_left (List.getElem?_eq_some_iff.mp e).1]; exact e
theorem reads_pre {ps ps' : List Pc} (h : ps <+: ps') {n : Nat} {m : Str} (e : (reads ps)[n]? = some m) : (reads ps')[n]? = some m := by
  obtain ⟨qs, rfl⟩ := h
  obtain ⟨r, q⟩ := reads_app ps qs
  rw [q, List.getElem?_append_left (List.getElem?_eq_some_iff.mp e).1]; exact e
theorem take_pre (ps : List Pc) (i : Nat) : ps.take i <+: ps := List.take_prefix i ps
theorem split_at {ps : List Pc} {i : Nat} {q : Pc} (e : ps[i]? = some q) : (ps.take i ++ [q]) <+: ps ∧ (ps.take i).length = i := by
  have hi := (List.getElem?_eq_some_iff.mp e).1
  have : ps.take (i + 1) = ps.take i ++ [q] := by
    rw [List.take_succ, e]; rfl
  exact ⟨this ▸ List.take_prefix _ _, by simp; omega⟩
theorem meas_at {ps : List Pc} {i : Nat} {q : Pc} (e : ps[i]? = some q) : (meas ps)[i + 1]? = some (newMs (meas (ps.take i)) q) := by
  obtain ⟨h, l⟩ := split_at e
  refine meas_pre h ?_
  rw [meas_snoc, List.getElem?_append_right (by rw [meas_len, l]; omega), meas_len, l]
  simp
theorem reads_at {ps : List Pc} {i : Nat} {q : Pc} (e : ps[i]? = some q) : (reads ps)[i + 1]? = some (newRd (reads (ps.take i)) q) := by
  obtain ⟨h, l⟩ := split_at e
  refine reads_pre h ?_
  rw [reads_snoc, List.getElem?_append_right (by rw [reads_len, l]; omega), reads_len, l]
  simp
noncomputable def PcOk (ps : List Pc) : Pc → Prop
  | .leaf x => shortS x = true
  | .fork a b => ForkOk ps a b
inductive Good : List Pc → Prop
  | nil : Good []
  | snoc {ps : List Pc} {q : Pc} : Good ps → q ∉ ps → PcOk ps q → Good (ps ++ [q])
theorem Good.nodup {ps : List Pc} (g : Good ps) : ps.Nodup := by
  induction g with
  | nil => exact List.nodup_nil
  | snoc g n ok ih => exact List.nodup_append.mpr ⟨ih, by simp, fun a ha b hb => by simp at hb; subst hb; exact fun e => n (e ▸ ha)⟩
theorem Good.get {ps : List Pc} (g : Good ps) : ∀ {i : Nat} {q : Pc}, ps[i]? = some q → PcOk (ps.take i) q := by
  induction g with
  | nil => intro i q e; simp at e
  | @snoc ps q' g n ok ih =>
    intro i q e
    by_cases hi : i < ps.length
    · rw [List.getElem?_append_left hi] at e
      rw [List.take_append_of_le_length (by omega)]
      exact ih e
    · have hi2 : i = ps.length := by
        have := (List.getElem?_eq_some_iff.mp e).1
        simp at this; omega
      subst hi2
      simp at e
      subst e
      simpa using ok
theorem ForkOk.pre {ps ps' : List Pc} {a b : Nat} (F : ForkOk ps a b) (h : ps <+: ps') : ForkOk ps' a b := by
  obtain ⟨ma, mb, la, fb, h1, h2, h3, h4, h5⟩ := F.ex
  exact ⟨F.pa, F.pb, ma, mb, la, fb, meas_pre h h1, meas_pre h h2, meas_pre h h3, meas_pre h h4, h5⟩
structure Ky (ps : List Pc) (m : Ms) (x : Str) (f l : Ms) : Prop where
  fl : (meas ps)[m.fl]? = some f
  ll : (meas ps)[m.ll]? = some l
  sg : m.sg = x.length
  en : m.en = endsS x
  f1 : 1 ≤ f.sg
  f8 : f.sg ≤ 8
  l1 : 1 ≤ l.sg
  l8 : l.sg ≤ 8
  lv : 1 ≤ m.lv
  ht : 0 ≤ m.ht
  most : m.sg ≤ 1000000000000000000
  cnt : ∃ k, (m.lv = 2 * k + 1 ∧ 9 * k + f.sg ≤ m.sg ∧ 9 * k + l.sg ≤ m.sg) ∨ (m.lv = 2 * k + 2 ∧ 9 * k + 9 ≤ m.sg ∧ 9 * k + f.sg + l.sg ≤ m.sg)
  pl : plainS x = true
structure Tx (ps : List Pc) (n : Nat) (m : Ms) (x : Str) (f l : Ms) : Prop where
  n1 : 1 ≤ n
  ms : (meas ps)[n]? = some m
  rd : (reads ps)[n]? = some x
  ky : Ky ps m x f l
theorem Ky.pre {ps ps' : List Pc} {m : Ms} {x : Str} {f l : Ms} (k : Ky ps m x f l) (h : ps <+: ps') : Ky ps' m x f l :=
  { k with fl := meas_pre h k.fl, ll := meas_pre h k.ll }
theorem Tx.pre {ps ps' : List Pc} {n : Nat} {m : Ms} {x : Str} {f l : Ms} (k : Tx ps n m x f l) (h : ps <+: ps') : Tx ps' n m x f l :=
  ⟨k.n1, meas_pre h k.ms, reads_pre h k.rd, k.ky.pre h⟩
theorem Tx.le {ps : List Pc} {n : Nat} {m : Ms} {x : Str} {f l : Ms} (k : Tx ps n m x f l) : n ≤ ps.length := by
  have := (List.getElem?_eq_some_iff.mp k.ms).1
  rw [meas_len] at this; omega
noncomputable def forkMs (ma mb : Ms) : Ms := ⟨ma.sg + mb.sg, ma.en + mb.en, ma.lv + mb.lv, max ma.ht mb.ht + 1, ma.fl, mb.ll⟩
theorem plain_app (x y : Str) : plainS (x ++ y) = (plainS x && plainS y) := by unfold plainS; rw [cps_app, List.all_append]
theorem kf1 {n n' s s' f l f' l' : Nat} (a : ∃ k, (n = 2 * k + 1 ∧ 9 * k + f ≤ s ∧ 9 * k + l ≤ s) ∨ (n = 2 * k + 2 ∧ 9 * k + 9 ≤ s ∧ 9 * k + f + l ≤ s)) (b : ∃ k, (n' = 2 * k + 1 ∧ 9 * k + f' ≤ s' ∧ 9 * k + l' ≤ s') ∨ (n' = 2 * k + 2 ∧ 9 * k + 9 ≤ s' ∧ 9 * k + f' + l' ≤ s')) (hs : 8 < l + f') :
    ∃ k, (n + n' = 2 * k + 1 ∧ 9 * k + f ≤ s + s' ∧ 9 * k + l' ≤ s + s') ∨ (n + n' = 2 * k + 2 ∧ 9 * k + 9 ≤ s + s' ∧ 9 * k + f + l' ≤ s + s') := by
  obtain ⟨k, ⟨rfl, a1, a2⟩ | ⟨rfl, a1, a2⟩⟩ := a <;> obtain ⟨k', ⟨rfl, b1, b2⟩ | ⟨rfl, b1, b2⟩⟩ := b
  · exact ⟨k + k', .inr ⟨by omega, by omega, by omega⟩⟩
  · exact ⟨k + k' + 1, .inl ⟨by omega, by omega, by omega⟩⟩
  · exact ⟨k + k' + 1, .inl ⟨by omega, by omega, by omega⟩⟩
  · exact ⟨k + k' + 1, .inr ⟨by omega, by omega, by omega⟩⟩
theorem Ky.fork {ps : List Pc} {ma mb fa la fb lb : Ms} {x y : Str} (A : Ky ps ma x fa la) (B : Ky ps mb y fb lb) (hs : 8 < la.sg + fb.sg) (hm : ma.sg + mb.sg ≤ 1000000000000000000) : Ky ps (forkMs ma mb) (x ++ y) fa lb := by
  have k := kf1 A.cnt B.cnt hs
  refine ⟨A.fl, B.ll, ?_, ?_, A.f1, A.f8, B.l1, B.l8, Nat.le_trans A.lv (Nat.le_add_right _ _), ?_, hm, k, ?_⟩
  · show ma.sg + mb.sg = _; rw [len_app, A.sg, B.sg]
  · show ma.en + mb.en = _; rw [ends_app, A.en, B.en]
  · have a4 := A.ht
    show 0 ≤ max ma.ht mb.ht + 1
    clear k hs hm; omega
  · rw [plain_app, A.pl, B.pl]; rfl
theorem short_len {x : Str} (h : shortS x = true) : 1 ≤ x.length ∧ x.length ≤ 8 ∧ plainS x = true := by
  simp [shortS] at h; exact ⟨h.2.1, h.2.2, h.1⟩
theorem getD_some {α : Type} {l : List α} {i : Nat} {d x : α} (e : l[i]? = some x) : l.getD i d = x := by simp [List.getD, e]
noncomputable def lfMs (x : Str) (n : Nat) : Ms := ⟨x.length, endsS x, 1, 0, n, n⟩
theorem leaf_tx {ps : List Pc} (g : Good ps) {i : Nat} {x : Str} (e : ps[i]? = some (.leaf x)) : Tx ps (i + 1) (lfMs x (i + 1)) x (lfMs x (i + 1)) (lfMs x (i + 1)) := by
  have hi := (List.getElem?_eq_some_iff.mp e).1
  have ok : shortS x = true := g.get e
  obtain ⟨s1, s2, s3⟩ := short_len ok
  have li : (ps.take i).length = i := by simp; omega
  have ml : (meas (ps.take i)).length = i + 1 := by rw [meas_len, li]
  have e1' : (meas ps)[i + 1]? = some (lfMs x (i + 1)) := by rw [meas_at e]; simp only [newMs, lfMs]; rw [ml]
  exact ⟨by omega, e1', reads_at e, ⟨e1', e1', rfl, rfl, s1, s2, s1, s2, Nat.le_refl 1, Int.le_refl 0, by show x.length ≤ _; omega, ⟨0, .inl ⟨rfl, Nat.le_of_eq (Nat.zero_add _), Nat.le_of_eq (Nat.zero_add _)⟩⟩, s3⟩⟩
theorem fork_tx {ps : List Pc} (g : Good ps) {i a b : Nat} {ma mb fa la fb lb : Ms} {x y : Str} (e : ps[i]? = some (.fork a b)) (A : Tx ps a ma x fa la) (B : Tx ps b mb y fb lb) : Tx ps (i + 1) (forkMs ma mb) (x ++ y) fa lb := by
  have hi := (List.getElem?_eq_some_iff.mp e).1
  have ok' : ForkOk (ps.take i) a b := g.get e
  have li : (ps.take i).length = i := by simp; omega
  have tp := take_pre ps i
  obtain ⟨ma', mb', la', fb', q1, q2, q3, q4, q5, q6, q7⟩ := ok'.ex
  have ba := (List.getElem?_eq_some_iff.mp q1).1
  have bb := (List.getElem?_eq_some_iff.mp q2).1
  rw [meas_len, li] at ba bb
  have z1 := A.ms.symm.trans (meas_pre tp q1); cases z1
  have z2 := B.ms.symm.trans (meas_pre tp q2); cases z2
  have z3 := A.ky.ll.symm.trans (meas_pre tp q3); cases z3
  have z4 := B.ky.fl.symm.trans (meas_pre tp q4); cases z4
  have r1 : (reads (ps.take i))[a]? = some x := by
    obtain ⟨w, ew⟩ : ∃ w, (reads (ps.take i))[a]? = some w := ⟨(reads (ps.take i))[a]'(by rw [reads_len, li]; omega), by simp⟩
    have := (reads_pre tp ew).symm.trans A.rd; cases this; exact ew
  have r2 : (reads (ps.take i))[b]? = some y := by
    obtain ⟨w, ew⟩ : ∃ w, (reads (ps.take i))[b]? = some w := ⟨(reads (ps.take i))[b]'(by rw [reads_len, li]; omega), by simp⟩
    have := (reads_pre tp ew).symm.trans B.rd; cases this; exact ew
  refine ⟨by omega, ?_, ?_, A.ky.fork B.ky q5 q7⟩
  · rw [meas_at e]; simp only [newMs, getD_some q1, getD_some q2]; rfl
  · rw [reads_at e]; simp only [newRd, getD_some r1, getD_some r2]
structure Dd (p : Nat) (h h' : AH) (ps ps' : List Pc) (k : Nat) : Prop where
  sh : ShelfAt h' p ps'
  gd : Good ps'
  pre : ps <+: ps'
  len : ps'.length ≤ ps.length + k
  fr : ∀ i, i ≤ p ∨ p + 8 < i → h'[i]? = h[i]?
  hl : h'.length = h.length
theorem ShelfAt.keep {h h' : AH} {p : Nat} {ps : List Pc} (S : ShelfAt h p ps) (e : ∀ i, p ≤ i → i ≤ p + 8 → h'[i]? = h[i]?) : ShelfAt h' p ps := by
  have k : ∀ j, j ≤ 8 → h'[p + j]? = h[p + j]? := fun j hj => e _ (Nat.le_add_right p j) (Nat.add_le_add_left hj p)
  exact ⟨(k 0 (by decide)).trans S.ob, (k 1 (by decide)).trans S.h1, (k 2 (by decide)).trans S.h2, (k 3 (by decide)).trans S.h3, (k 4 (by decide)).trans S.h4, (k 5 (by decide)).trans S.h5, (k 6 (by decide)).trans S.h6, (k 7 (by decide)).trans S.h7, (k 8 (by decide)).trans S.h8⟩
theorem ShelfAt.app {h : AH} {p : Nat} {ps : List Pc} (S : ShelfAt h p ps) (r : AH) : ShelfAt (h ++ r) p ps := by
  have := lt_of S.h8
  exact S.keep fun i _ b => List.getElem?_append_left (Nat.lt_of_le_of_lt b this)
structure Wk (p r : Nat) (h h' : AH) (ps ps' : List Pc) (k : Nat) : Prop where
  sh : ShelfAt h' p ps'
  gd : Good ps'
  pre : ps <+: ps'
  len : ps'.length ≤ ps.length + k
  row : ∃ N : Int, h'[r]? = some (.lst [.int N])
  fr : ∀ i, i ≤ p ∨ p + 8 < i → i ≠ r → h'[i]? = h[i]?
  hl : h'.length = h.length
theorem Wk.refl {p r : Nat} {h : AH} {ps : List Pc} (S : ShelfAt h p ps) (g : Good ps) (e : ∃ N : Int, h[r]? = some (.lst [.int N])) : Wk p r h h ps ps 0 :=
  ⟨S, g, List.prefix_refl _, by omega, e, fun _ _ _ => rfl, rfl⟩
theorem f_checkT {h : AH} {p : Nat} {ps : List Pc} {i : Nat} (S : ShelfAt h p ps) (hi : i ≤ ps.length) : F_Shelf_check_text [.ref p, .int i] h = .ok .non h := by
  by_cases z : i = 0
  · subst z; simp [F_Shelf_check_text]
  · have c := f_checkP S (i := (i : Int)) ⟨by omega, by omega⟩
    simp [F_Shelf_check_text, z, S.ob, c]
theorem f_signs {h : AH} {p : Nat} {ps : List Pc} {i : Nat} {m : Ms} (S : ShelfAt h p ps) (e : (meas ps)[i]? = some m) : F_Shelf_signs [.ref p, .int i] h = .ok (.int m.sg) h := by
  have hi := (List.getElem?_eq_some_iff.mp e).1
  rw [meas_len] at hi
  simp [F_Shelf_signs, f_checkT S (show i ≤ ps.length by omega), S.ob, S.h3, atI_map e]
theorem f_leaves {h : AH} {p : Nat} {ps : List Pc} {i : Nat} {m : Ms} (S : ShelfAt h p ps) (e : (meas ps)[i]? = some m) : F_Shelf_leaves [.ref p, .int i] h = .ok (.int m.lv) h := by
  have hi := (List.getElem?_eq_some_iff.mp e).1
  rw [meas_len] at hi
  simp [F_Shelf_leaves, f_checkT S (show i ≤ ps.length by omega), S.ob, S.h5, atI_map e]
noncomputable def lp : Nat → Nat × Nat
  | 0 => (1, 2)
  | n + 1 => ((lp n).2, (lp n).1 + (lp n).2)
noncomputable def ll (n : Nat) : Nat := (lp n).1
noncomputable def ls (n : Nat) : Nat := 9 * (ll n / 2) + ll n % 2
theorem ll_2 (n : Nat) : ll (n + 2) = ll n + ll (n + 1) := rfl
theorem ll_2' (n : Nat) : ll (n + 2) = ll (n + 1) + ll n := Nat.add_comm _ _
theorem least_leaves_eq (n : Nat) (hn : n ≤ 100000) (h : AH) : F_least_leaves [.int n] h = .ok (.int (ll n)) h := by
  obtain ⟨e', h', r1, r2, a, b, r3⟩ := for_p (w := none) (all := rangeA 0 n) (t := .nm 3) (b := B_least_leaves_1) (xs := rangeA 0 n) (en := [some (.int n), some (.int 1), some (.int 2), none, none]) (h := h)
    (fun (i : Nat) (en : En) (h' : AH) => h' = h ∧ ∃ a b, en = [some (.int n), some (.int (ll i)), some (.int (ll (i + 1))), a, b]) ⟨rfl, none, none, rfl⟩ (fun _ _ _ _ => rfl) (by
      rintro j x en h' hx ⟨rfl, a, b, rfl⟩
      simp [B_least_leaves_1, ll_2])
  subst r2; subst r3
  have h0 : ¬ ((n : Int) < 0) := by omega
  have f := (for_of (t := .nm 3) (b := B_least_leaves_1) (range1_of (a := sVar 0) (en := [some (.int n), some (.int 1), some (.int 2), none, none]) (h := h') (n := n) rfl (by omega))).trans r1
  simp [F_least_leaves, h0, f, rangeA_len, -sFor]
theorem least_signs_eq (n : Nat) (hn : n ≤ 100000) (h : AH) : F_least_signs [.int n] h = .ok (.int (ls n)) h := by
  have e := least_leaves_eq n hn h
  unfold F_least_signs ls
  generalize F_least_leaves = G at e ⊢
  simp [e]
theorem known_at {n : Nat} {m : Nat} (hn : n < m) (h : AH) : fIx (.fl ((List.range m).map fun j : Nat => AV.tup [.int (ll j), .int (ls j)])) (.int (n : Int)) h = .ok (.tup [.int (ll n), .int (ls n)]) h := by
  have g : (List.range m)[n]? = some n := by simp [hn]
  simp only [fIx, atI_mapN g]
theorem ll_mono1 : ∀ n, ll n ≤ ll (n + 1)
  | 0 => by decide
  | n + 1 => by rw [show n + 1 + 1 = n + 2 from rfl, ll_2]; omega
theorem ll_mono {a b : Nat} (h : a ≤ b) : ll a ≤ ll b := by
  induction h with
  | refl => exact Nat.le_refl _
  | step h ih => exact Nat.le_trans ih (ll_mono1 _)
end Sk

namespace Sk
open PySem PySem.Spec L2 Sm
noncomputable def lfS (b : Bool) : Str := if b then "a" else "bbbbbbbb"
noncomputable def f18 (b : Bool) : Nat := if b then 1 else 8
noncomputable def evB (n : Nat) : Bool := decide (n % 2 = 0)
noncomputable def sgs (n : Nat) (b : Bool) : Nat := 9 * (n / 2) + n % 2 * f18 b
noncomputable def las (n : Nat) (b : Bool) : Nat := if n % 2 = 0 then 9 - f18 b else f18 b
noncomputable def nxB (n : Nat) (b : Bool) : Bool := decide (b = evB n)
theorem nxB_f (n : Nat) (b : Bool) : f18 (nxB n b) = if n % 2 = 0 then f18 b else 9 - f18 b := by
  unfold nxB evB f18
  by_cases q : n % 2 = 0 <;> cases b <;> simp [q]
theorem f18_v (b : Bool) : f18 b = 1 ∨ f18 b = 8 := by cases b <;> simp [f18]
theorem sgs_add (n m : Nat) (b : Bool) : sgs (n + m) b = sgs n b + sgs m (nxB n b) := by
  unfold sgs
  rw [nxB_f]
  rcases Nat.mod_two_eq_zero_or_one n with q | q <;> rcases Nat.mod_two_eq_zero_or_one m with r | r <;> rcases f18_v b with f | f <;> rw [f, q, r]
  all_goals first
    | (have e : (n + m) % 2 = 0 := (by omega); rw [e]; simp; omega)
    | (have e : (n + m) % 2 = 1 := (by omega); rw [e]; simp; omega)
theorem las_add (n m : Nat) (b : Bool) : las (n + m) b = las m (nxB n b) := by
  unfold las
  rw [nxB_f]
  rcases Nat.mod_two_eq_zero_or_one n with q | q <;> rcases Nat.mod_two_eq_zero_or_one m with r | r <;> rcases f18_v b with f | f <;> rw [f, q, r]
  all_goals first
    | (have e : (n + m) % 2 = 0 := (by omega); rw [e]; simp)
    | (have e : (n + m) % 2 = 1 := (by omega); rw [e]; simp)
theorem las_close (n : Nat) (b : Bool) : 8 < las n b + f18 (nxB n b) := by
  unfold las
  rw [nxB_f]
  rcases Nat.mod_two_eq_zero_or_one n with q | q <;> rcases f18_v b with f | f <;> rw [f, q] <;> decide
theorem ll_pv (h : Nat) : ll (h + 1) = ll h + ll (h - 1) := by
  cases h with
  | zero => rfl
  | succ h => exact ll_2' h
theorem sgs_most : ∀ h, h < 83 → sgs (ll h) true ≤ 1000000000000000000 ∧ sgs (ll h) false ≤ 1000000000000000000 := by decide +kernel
theorem sgs_le {h : Nat} (b : Bool) (hh : h ≤ 82) : sgs (ll h) b ≤ 1000000000000000000 := by
  cases b
  · exact (sgs_most h (by omega)).2
  · exact (sgs_most h (by omega)).1
theorem sgs_ls (h : Nat) : sgs (ll h) true = ls h := by
  show 9 * (ll h / 2) + ll h % 2 * 1 = _
  rw [Nat.mul_one]; rfl
noncomputable def LN (ps : List Pc) : Nat → Bool → Nat → Prop
  | 0, b, n => 1 ≤ n ∧ ps[n - 1]? = some (.leaf (lfS b))
  | h + 1, b, n => 1 ≤ n ∧ ∃ a c, ps[n - 1]? = some (.fork a c) ∧ LN ps h b a ∧ LN ps (h - 1) (nxB (ll h) b) c
termination_by h => h
theorem LN_0 {ps : List Pc} {b : Bool} {n : Nat} : LN ps 0 b n ↔ 1 ≤ n ∧ ps[n - 1]? = some (.leaf (lfS b)) := by rw [LN]
theorem LN_s {ps : List Pc} {h : Nat} {b : Bool} {n : Nat} : LN ps (h + 1) b n ↔ 1 ≤ n ∧ ∃ a c, ps[n - 1]? = some (.fork a c) ∧ LN ps h b a ∧ LN ps (h - 1) (nxB (ll h) b) c := by rw [LN]
theorem pre_atL {ps ps' : List Pc} (h : ps <+: ps') {i : Nat} {q : Pc} (e : ps[i]? = some q) : ps'[i]? = some q := by
  obtain ⟨r, rfl⟩ := h
  rw [List.getElem?_append_left (List.getElem?_eq_some_iff.mp e).1]; exact e
theorem LN.pre {ps ps' : List Pc} (pr : ps <+: ps') : ∀ (d h : Nat) {b : Bool} {n : Nat}, h < d → LN ps h b n → LN ps' h b n
  | 0, _, _, _, hd, _ => absurd hd (Nat.not_lt_zero _)
  | d + 1, 0, b, n, _, t => by rw [LN_0] at *; exact ⟨t.1, pre_atL pr t.2⟩
  | d + 1, h + 1, b, n, hd, t => by
    rw [LN_s] at *
    obtain ⟨n1, a, c, e, A, C⟩ := t
    exact ⟨n1, a, c, pre_atL pr e, LN.pre pr d h (by omega) A, LN.pre pr d (h - 1) (by omega) C⟩
theorem at_inj {ps : List Pc} (nd : ps.Nodup) {i j : Nat} {q : Pc} (e : ps[i]? = some q) (e' : ps[j]? = some q) : i = j := by
  have hi := (List.getElem?_eq_some_iff.mp e).1
  exact (List.getElem?_inj hi nd).mp (e.trans e'.symm)
theorem LN.uniq {ps : List Pc} (nd : ps.Nodup) : ∀ (d h : Nat) {b : Bool} {n n' : Nat}, h < d → LN ps h b n → LN ps h b n' → n = n'
  | 0, _, _, _, _, hd, _, _ => absurd hd (Nat.not_lt_zero _)
  | d + 1, 0, b, n, n', _, t, t' => by
    rw [LN_0] at t t'
    have := at_inj nd t.2 t'.2
    omega
  | d + 1, h + 1, b, n, n', hd, t, t' => by
    rw [LN_s] at t t'
    obtain ⟨n1, a, c, e, A, C⟩ := t
    obtain ⟨n1', a', c', e', A', C'⟩ := t'
    have ea := LN.uniq nd d h (by omega) A A'
    have ec := LN.uniq nd d (h - 1) (by omega) C C'
    subst ea; subst ec
    have := at_inj nd e e'
    omega
theorem lfS_len (b : Bool) : (lfS b).length = f18 b := by cases b <;> rfl
theorem lfS_short (b : Bool) : shortS (lfS b) = true := by cases b <;> decide
structure LX (ps : List Pc) (h : Nat) (b : Bool) (n : Nat) (m : Ms) (x : Str) (f l : Ms) : Prop where
  tx : Tx ps n m x f l
  ht : m.ht = h
  lv : m.lv = ll h
  sg : m.sg = sgs (ll h) b
  fs : f.sg = f18 b
  lsg : l.sg = las (ll h) b
theorem LN.tx {ps : List Pc} (g : Good ps) : ∀ (d h : Nat) {b : Bool} {n : Nat}, h < d → LN ps h b n → ∃ m x f l, LX ps h b n m x f l
  | 0, _, _, _, hd, _ => absurd hd (Nat.not_lt_zero _)
  | d + 1, 0, b, n, _, t => by
    rw [LN_0] at t
    have T := leaf_tx g t.2
    rw [show n - 1 + 1 = n by omega] at T
    exact ⟨_, _, _, _, T, rfl, rfl, by show (lfS b).length = _; rw [lfS_len]; show f18 b = 9 * 0 + 1 * f18 b; omega, lfS_len b, lfS_len b⟩
  | d + 1, h + 1, b, n, hd, t => by
    rw [LN_s] at t
    obtain ⟨n1, a, c, e, A, C⟩ := t
    obtain ⟨ma, xa, fa, la, TA⟩ := LN.tx g d h (by omega) A
    obtain ⟨mc, xc, fc, lc, TC⟩ := LN.tx g d (h - 1) (by omega) C
    have T := fork_tx g e TA.tx TC.tx
    rw [show n - 1 + 1 = n by omega] at T
    refine ⟨_, _, _, _, T, ?_, ?_, ?_, TA.fs, ?_⟩
    · show max ma.ht mc.ht + 1 = _
      rw [TA.ht, TC.ht]; omega
    · show ma.lv + mc.lv = _
      rw [TA.lv, TC.lv, ll_pv]
    · show ma.sg + mc.sg = _
      rw [TA.sg, TC.sg, ll_pv, sgs_add]
    · rw [TC.lsg, ll_pv, las_add]
noncomputable abbrev kyL (j : Nat) (c : Bool) : AV := .tup [.int (j : Int), .int (b01 c)]
noncomputable def allK : List (Nat × Bool) := (List.range 83).map (fun j => (j, true)) ++ (List.range 83).map (fun j => (j, false))
noncomputable def freeK (kvs : List (AV × AV)) : Nat := (allK.filter fun k => (valA kvs (kyL k.1 k.2)).isNone).length
noncomputable def MK (ps : List Pc) (kvs : List (AV × AV)) : Prop := ∀ j c v, valA kvs (kyL j c) = some v → ∃ n : Nat, v = .int n ∧ LN ps j c n
theorem MK.pre {ps ps' : List Pc} {kvs : List (AV × AV)} (m : MK ps kvs) (pr : ps <+: ps') : MK ps' kvs := fun j c v e => by
  obtain ⟨n, ev, t⟩ := m j c v e
  exact ⟨n, ev, LN.pre pr (j + 1) j (by omega) t⟩
theorem ky_inj {j j' : Nat} {c c' : Bool} (e : kyL j c = kyL j' c') : j = j' ∧ c = c' := by
  have h1 : (j : Int) = j' ∧ b01 c = b01 c' := by
    simp only [kyL, AV.tup.injEq, List.cons.injEq, AV.int.injEq, and_true] at e
    exact e
  exact ⟨by omega, b01_inj h1.2⟩
theorem putA_new {kvs : List (AV × AV)} {k v : AV} (e : valA kvs k = none) : putA kvs k v = kvs ++ [(k, v)] := by
  unfold putA
  rw [any_val, e]; rfl
theorem valA_snoc (kvs : List (AV × AV)) (k v k' : AV) : valA (kvs ++ [(k, v)]) k' = (valA kvs k').or (if k = k' then some v else none) := by
  unfold valA
  rw [List.find?_append]
  cases kvs.find? (fun p => decide (p.1 = k')) with
  | some p => rfl
  | none =>
    by_cases q : k = k'
    · simp [q]
    · simp [q]
theorem filter_lt {α : Type} {p q : α → Bool} {k : α} : ∀ {l : List α}, (∀ x, q x = true → p x = true) → k ∈ l → p k = true → q k = false → (l.filter q).length + 1 ≤ (l.filter p).length
  | [], _, hk, _, _ => nomatch hk
  | x :: l, hs, hk, h1, h2 => by
    have le : (l.filter q).length ≤ (l.filter p).length := by
      clear hk
      induction l with
      | nil => exact Nat.le_refl _
      | cons y l ih =>
        rw [List.filter_cons, List.filter_cons]
        cases hq : q y with
        | true => rw [hs y hq]; simpa using ih
        | false => cases p y <;> simp <;> omega
    rw [List.filter_cons, List.filter_cons]
    rcases List.mem_cons.mp hk with rfl | hk
    · rw [h1, h2]; simpa using le
    · have ih := filter_lt hs hk h1 h2
      cases hq : q x with
      | true => rw [hs x hq]; simpa using ih
      | false => cases p x <;> simp <;> omega
theorem mem_allK {j : Nat} {c : Bool} (h : j ≤ 82) : (j, c) ∈ allK := by
  unfold allK
  cases c
  · exact List.mem_append_right _ (List.mem_map.mpr ⟨j, List.mem_range.mpr (by omega), rfl⟩)
  · exact List.mem_append_left _ (List.mem_map.mpr ⟨j, List.mem_range.mpr (by omega), rfl⟩)
theorem free_put {kvs : List (AV × AV)} {j : Nat} {c : Bool} {v : AV} (hj : j ≤ 82) (e : valA kvs (kyL j c) = none) : freeK (kvs ++ [(kyL j c, v)]) + 1 ≤ freeK kvs := by
  unfold freeK
  refine filter_lt (k := (j, c)) ?_ (mem_allK hj) (by rw [e]; rfl) (by rw [valA_snoc, e, if_pos rfl]; rfl)
  intro x hx
  rw [valA_snoc] at hx
  cases hv : valA kvs (kyL x.1 x.2) with
  | none => rfl
  | some w => rw [hv] at hx; cases hx
theorem free_nil : freeK [] = 166 := by decide +kernel
theorem key_ok (i : Int) (b : Bool) : isKey true (.tup ([AV.int i, AV.bl b].map nkA)) = true := rfl
theorem nin_b {h : AH} {D : Nat} {kvs : List (AV × AV)} {j : Nat} {b : Bool} {o : Option AV} (e : h[D]? = some (.dct true kvs)) (ev : valA kvs (kyL j b) = o) : fNotInB (.tup [.int (j : Int), .bl b]) (.ref D) h = .ok (.bl (!o.isSome)) h := by
  subst ev
  unfold fNotInB
  dsimp only
  rw [e]
  rfl
theorem ix_b {h : AH} {D : Nat} {kvs : List (AV × AV)} {j : Nat} {b : Bool} {v : AV} (e : h[D]? = some (.dct true kvs)) (ev : valA kvs (kyL j b) = some v) : fIxB (.ref D) (.tup [.int (j : Int), .bl b]) h = .ok v h := by
  have ev' : valA kvs (.tup ([AV.int (j : Int), AV.bl b].map nkA)) = some v := ev
  unfold fIxB
  dsimp only
  rw [e]
  dsimp only
  rw [if_pos (key_ok _ _), ev']
theorem set_b {h : AH} {D : Nat} {kvs : List (AV × AV)} {j : Nat} {b : Bool} {v : AV} {en : En} (e : h[D]? = some (.dct true kvs)) (ev : valA kvs (kyL j b) = none) (hl : kvs.length < sizeLine) : fSetB D (.tup [.int (j : Int), .bl b]) v en h = .nx en (h.set D (.dct true (kvs ++ [(kyL j b, v)]))) := by
  have ev' : putA kvs (.tup ([AV.int (j : Int), AV.bl b].map nkA)) v = kvs ++ [(kyL j b, v)] := putA_new ev
  unfold fSetB
  dsimp only
  rw [e]
  dsimp only
  rw [if_pos ⟨rfl, hl⟩, ev']
end Sk

namespace Sk
open PySem PySem.Spec L2 Sm
structure LS0 (p D : Nat) (hh : AH) (ps : List Pc) (kvs : List (AV × AV)) : Prop where
  sh : ShelfAt hh p ps
  gd : Good ps
  dc : hh[D]? = some (.dct true kvs)
  mmk : MK ps kvs
  ln : kvs.length + freeK kvs ≤ 170
structure LS1 (p D h : Nat) (b : Bool) (hh hh' : AH) (ps ps' : List Pc) (kvs kvs' : List (AV × AV)) (n : Nat) : Prop where
  st : LS0 p D hh' ps' kvs'
  pre : ps <+: ps'
  len : ps'.length + 3 * freeK kvs' ≤ ps.length + 3 * freeK kvs + 1
  lean : LN ps' h b n
  fr : ∀ i, (i ≤ p ∨ p + 8 < i) → i ≠ D → hh'[i]? = hh[i]?
  hl : hh'.length = hh.length
  up : ∀ j c, h < j → valA kvs' (kyL j c) = valA kvs (kyL j c)
  again : (∃ n0, LN ps h b n0) → ps' = ps
theorem fork_is {h : AH} {p : Nat} {ps : List Pc} {a b : Nat} {ma mb fa la fb lb : Ms} {x y : Str} (S : ShelfAt h p ps) (g : Good ps) (A : Tx ps a ma x fa la) (B : Tx ps b mb y fb lb) (hc : 8 < la.sg + fb.sg) (hv : (ma.ht - mb.ht).natAbs ≤ 1) (hm : ma.sg + mb.sg ≤ 1000000000000000000) (hz : ps.length < 16000000) :
    ∃ (n : Nat) (ps' : List Pc) (h' : AH), F_Shelf_fork [.ref p, .int a, .int b] h = .ok (.int n) h' ∧ Dd p h h' ps ps' 1 ∧ 1 ≤ n ∧ ps'[n - 1]? = some (.fork a b) ∧ (Pc.fork a b ∈ ps → ps' = ps) := by
  have F : ForkOk ps a b := ⟨A.n1, B.n1, ma, mb, la, fb, A.ms, B.ms, A.ky.ll, B.ky.fl, hc, hv, hm⟩
  by_cases hq : Pc.fork a b ∈ ps
  · obtain ⟨i, hi, e⟩ := List.getElem_of_mem hq
    have e' : ps[i]? = some (.fork a b) := by rw [List.getElem?_eq_getElem hi, e]
    exact ⟨i + 1, ps, h, f_fork_old S g.nodup F e', ⟨S, g, List.prefix_refl _, by omega, fun _ _ => rfl, rfl⟩, by omega, e', fun _ => rfl⟩
  · have g' : Good (ps ++ [.fork a b]) := .snoc g hq F
    have e' : (ps ++ [Pc.fork a b])[ps.length]? = some (.fork a b) := by simp
    exact ⟨ps.length + 1, _, _, f_fork_new S F hq hz, ⟨putSh_at S, g', List.prefix_append _ _, by simp, fun i hi => putSh_ne hi, putSh_len _ _ _⟩, by omega, e', fun z => absurd z hq⟩
theorem leaf_is {h : AH} {p : Nat} {ps : List Pc} {x : Str} (S : ShelfAt h p ps) (g : Good ps) (hx : shortS x = true) (hz : ps.length < 16000000) :
    ∃ (n : Nat) (ps' : List Pc) (h' : AH), F_Shelf_leaf [.ref p, .str x] h = .ok (.int n) h' ∧ Dd p h h' ps ps' 1 ∧ 1 ≤ n ∧ ps'[n - 1]? = some (.leaf x) ∧ (Pc.leaf x ∈ ps → ps' = ps) := by
  obtain ⟨s1, s2, s3⟩ := short_len hx
  have hs : x.length ≤ sizeLine := Nat.le_trans s2 (by decide)
  by_cases hq : Pc.leaf x ∈ ps
  · obtain ⟨i, hi, e⟩ := List.getElem_of_mem hq
    have e' : ps[i]? = some (.leaf x) := by rw [List.getElem?_eq_getElem hi, e]
    exact ⟨i + 1, ps, h, f_leaf_old S g.nodup hx hs e', ⟨S, g, List.prefix_refl _, by omega, fun _ _ => rfl, rfl⟩, by omega, e', fun _ => rfl⟩
  · have g' : Good (ps ++ [.leaf x]) := .snoc g hq hx
    have e' : (ps ++ [Pc.leaf x])[ps.length]? = some (.leaf x) := by simp
    exact ⟨ps.length + 1, _, _, f_leaf_new S hx hs hq hz, ⟨putSh_at S, g', List.prefix_append _ _, by simp, fun i hi => putSh_ne hi, putSh_len _ _ _⟩, by omega, e', fun z => absurd z hq⟩
theorem LS0.dd {p D k : Nat} {hh h' : AH} {ps ps' : List Pc} {kvs : List (AV × AV)} (s : LS0 p D hh ps kvs) (hD : D < p ∨ p + 8 < D) (d : Dd p hh h' ps ps' k) : LS0 p D h' ps' kvs :=
  ⟨d.sh, d.gd, by rw [d.fr D (hD.imp Nat.le_of_lt id)]; exact s.dc, s.mmk.pre d.pre, s.ln⟩
theorem lt_0 {h h' : AH} {p D d : Nat} {b : Bool} {ps : List Pc} {n : Int} (S : ShelfAt h p ps) (e : F_Shelf_leaf [.ref p, .str (lfS b)] h = .ok (.int n) h') : F_lean_text (d + 1) [.ref p, .int (0 : Nat), .bl b, .ref D] h = .ok (.int n) h' := by
  have ob := S.ob
  show S_lean_text (F_lean_text d) _ h = _
  generalize F_lean_text d = G
  cases b
  · have e' : F_Shelf_leaf [.ref p, .str "bbbbbbbb"] h = .ok (.int n) h' := e
    simp [S_lean_text, ob, e']
  · have e' : F_Shelf_leaf [.ref p, .str "a"] h = .ok (.int n) h' := e
    simp [S_lean_text, ob, e']
theorem lt_hit {h : AH} {p D d j : Nat} {b : Bool} {kvs : List (AV × AV)} {v : AV} (e : h[D]? = some (.dct true kvs)) (ev : valA kvs (kyL (j + 1) b) = some v) : F_lean_text (d + 1) [.ref p, .int (j + 1 : Nat), .bl b, .ref D] h = .ok v h := by
  have n1 := nin_b e ev
  have i1 := ix_b e ev
  have z : ¬ ((j + 1 : Nat) : Int) = 0 := by omega
  show S_lean_text (F_lean_text d) _ h = _
  generalize F_lean_text d = G
  generalize ((j + 1 : Nat) : Int) = J at *
  simp [S_lean_text, z, n1, i1]
theorem lt_miss {h h1 h2 h3 h4 : AH} {p D d j a c lv n : Nat} {b : Bool} {ps1 ps2 : List Pc} {kvs kvs2 : List (AV × AV)} (e : h[D]? = some (.dct true kvs)) (ev : valA kvs (kyL (j + 1) b) = none)
    (g1 : F_lean_text d [.ref p, .int j, .bl b, .ref D] h = .ok (.int a) h1) (o1 : ShelfAt h1 p ps1) (gl : F_Shelf_leaves [.ref p, .int a] h1 = .ok (.int lv) h1)
    (g2 : F_lean_text d [.ref p, .int (j - 1 : Nat), .bl (nxB lv b), .ref D] h1 = .ok (.int c) h2) (o2 : ShelfAt h2 p ps2) (gf : F_Shelf_fork [.ref p, .int a, .int c] h2 = .ok (.int n) h3) (e3 : h3[D]? = some (.dct true kvs2)) (ev3 : valA kvs2 (kyL (j + 1) b) = none) (hl : kvs2.length < sizeLine)
    (e4 : h4 = h3.set D (.dct true (kvs2 ++ [(kyL (j + 1) b, .int n)]))) : F_lean_text (d + 1) [.ref p, .int (j + 1 : Nat), .bl b, .ref D] h = .ok (.int n) h4 := by
  have n1 := nin_b e ev
  have st := set_b (v := .int n) (en := [some (.ref p), some (.int (j + 1 : Nat)), some (.bl b), some (.ref D), some (.tup [.int (j + 1 : Nat), .bl b]), some (.int a), some (.bl (evB lv)), some (.int c)]) e3 ev3 hl
  have i4 : fIxB (.ref D) (.tup [.int (j + 1 : Nat), .bl b]) h4 = .ok (.int n) h4 := by
    refine ix_b (kvs := kvs2 ++ [(kyL (j + 1) b, .int n)]) (by rw [e4]; exact List.getElem?_set_self (lt_of e3)) ?_
    rw [valA_snoc, ev3, if_pos rfl]; rfl
  rw [← e4] at st
  have z : ¬ ((j + 1 : Nat) : Int) = 0 := by omega
  have z0 : fEq (.int ((j + 1 : Nat) : Int)) (.int 0) h = .ok (.bl false) h := by simp; omega
  have s1 : ((j + 1 : Nat) : Int) - 1 = (j : Int) := by omega
  have mx : fMax2 [.int (((j + 1 : Nat) : Int) - 2), .int 0] h1 = .ok (.int (j - 1 : Nat)) h1 := by
    have : (if (0 : Int) > ((j + 1 : Nat) : Int) - 2 then (0 : Int) else ((j + 1 : Nat) : Int) - 2) = ((j - 1 : Nat) : Int) := by split <;> omega
    simp only [fMax2, this]
  have md : fMod (.int (lv : Int)) (.int 2) h1 = .ok (.int ((lv % 2 : Nat) : Int)) h1 := by
    simp [fMod]
  have eq1 : fEq (.int ((lv % 2 : Nat) : Int)) (.int 0) h1 = .ok (.bl (evB lv)) h1 := by
    have : decide (((lv % 2 : Nat) : Int) = 0) = evB lv := by unfold evB; congr 1; exact propext ⟨fun _ => by omega, fun _ => by omega⟩
    rw [← this]; simp
  have eq2 : fEq (.bl b) (.bl (evB lv)) h1 = .ok (.bl (nxB lv b)) h1 := by
    unfold nxB; cases b <;> cases evB lv <;> rfl
  have ob1 := o1.ob
  have ob2 := o2.ob
  show S_lean_text (F_lean_text d) _ h = _
  generalize F_lean_text d = G at *
  generalize ((j - 1 : Nat) : Int) = J1 at *
  generalize ((j + 1 : Nat) : Int) = J at *
  generalize ((lv % 2 : Nat) : Int) = LV at *
  generalize nxB lv b = NB at *
  generalize evB lv = EB at *
  simp [S_lean_text, z0, n1, s1, g1, gl, md, eq1, mx, eq2, g2, ob1, ob2, gf, st, i4, -fEq, -fMod, -fMax2]
theorem f_lean {p D : Nat} (hD : D < p ∨ p + 8 < D) : ∀ (d h : Nat) (b : Bool) {hh : AH} {ps : List Pc} {kvs : List (AV × AV)}, h < d → h ≤ 82 → LS0 p D hh ps kvs → ps.length + 3 * freeK kvs + h < 15000000 →
    ∃ (n : Nat) (ps' : List Pc) (kvs' : List (AV × AV)) (hh' : AH), F_lean_text d [.ref p, .int h, .bl b, .ref D] hh = .ok (.int n) hh' ∧ LS1 p D h b hh hh' ps ps' kvs kvs' n
  | 0, _, _, _, _, _, hd, _, _, _ => absurd hd (Nat.not_lt_zero _)
  | d + 1, 0, b, hh, ps, kvs, _, _, s, hz => by
    obtain ⟨n, ps', h', e, D', n1, en, ag⟩ := leaf_is s.sh s.gd (lfS_short b) (by omega)
    refine ⟨n, ps', kvs, h', lt_0 s.sh e, s.dd hD D', D'.pre, by have := D'.len; omega, LN_0.mpr ⟨n1, en⟩, fun i hi _ => D'.fr i hi, D'.hl, fun _ _ _ => rfl, ?_⟩
    rintro ⟨n0, t⟩
    exact ag (List.mem_of_getElem? (LN_0.mp t).2)
  | d + 1, h + 1, b, hh, ps, kvs, hd, h82, s, hz => by
    cases ev : valA kvs (kyL (h + 1) b) with
    | some v =>
      obtain ⟨n, rfl, t⟩ := s.mmk _ _ _ ev
      exact ⟨n, ps, kvs, hh, lt_hit s.dc ev, s, List.prefix_refl _, by omega, t, fun _ _ _ => rfl, rfl, fun _ _ _ => rfl, fun _ => rfl⟩
    | none =>
      obtain ⟨a, ps1, kvs1, h1, g1, s1⟩ := f_lean hD d h b (by omega) (by omega) s (by omega)
      obtain ⟨ma, xa, fa, la, TA⟩ := LN.tx s1.st.gd (h + 1) h (by omega) s1.lean
      have gl := f_leaves s1.st.sh TA.tx.ms
      rw [TA.lv] at gl
      have l1 := s1.len
      obtain ⟨c, ps2, kvs2, h2, g2, s2⟩ := f_lean hD d (h - 1) (nxB (ll h) b) (by omega) (by omega) s1.st (by omega)
      have l2 := s2.len
      obtain ⟨mc, xc, fc, lc, TC⟩ := LN.tx s2.st.gd (h + 1) (h - 1) (by omega) s2.lean
      have A2 := TA.tx.pre s2.pre
      have hm : ma.sg + mc.sg ≤ 1000000000000000000 := by
        rw [TA.sg, TC.sg, ← sgs_add, ← ll_pv]; exact sgs_le b h82
      obtain ⟨n, ps3, h3, gf, D3, n1, en, ag⟩ := fork_is s2.st.sh s2.st.gd A2 TC.tx (by rw [TA.lsg, TC.fs]; exact las_close _ _) (by rw [TA.ht, TC.ht]; omega) hm (by omega)
      have l3 := D3.len
      have s3 := s2.st.dd hD D3
      have up : ∀ j c, h < j → valA kvs2 (kyL j c) = valA kvs (kyL j c) := fun j c hj => (s2.up j c (by omega)).trans (s1.up j c hj)
      have ev3 : valA kvs2 (kyL (h + 1) b) = none := (up _ _ (by omega)).trans ev
      have fp := free_put (v := .int n) h82 ev3
      have ln2 := s2.st.ln
      have hs : kvs2.length < sizeLine := Nat.lt_of_le_of_lt (m := 170) (by omega) (by decide)
      have lean : LN ps3 (h + 1) b n := LN_s.mpr ⟨n1, a, c, en, LN.pre (s2.pre.trans D3.pre) (h + 1) h (by omega) s1.lean, LN.pre D3.pre (h + 1) (h - 1) (by omega) s2.lean⟩
      refine ⟨n, ps3, kvs2 ++ [(kyL (h + 1) b, .int n)], _, lt_miss s.dc ev g1 s1.st.sh gl g2 s2.st.sh gf s3.dc ev3 hs rfl, ⟨?_, s3.gd, List.getElem?_set_self (lt_of s3.dc), ?_, ?_⟩, s1.pre.trans (s2.pre.trans D3.pre), by omega, lean, ?_, ?_, ?_, ?_⟩
      · exact s3.sh.keep fun i i1 i8 => List.getElem?_set_ne (by omega)
      · intro j c v e
        rw [valA_snoc] at e
        cases hv : valA kvs2 (kyL j c) with
        | some w => rw [hv] at e; cases e; exact s3.mmk _ _ _ hv
        | none =>
          rw [hv] at e
          by_cases q : kyL (h + 1) b = kyL j c
          · rw [if_pos q] at e
            cases e
            obtain ⟨rfl, rfl⟩ := ky_inj q
            exact ⟨n, rfl, lean⟩
          · rw [if_neg q] at e; cases e
      · rw [List.length_append, List.length_singleton]; omega
      · intro i hi hn
        rw [List.getElem?_set_ne (by omega), D3.fr i hi, s2.fr i hi hn, s1.fr i hi hn]
      · rw [List.length_set, D3.hl, s2.hl, s1.hl]
      · intro j c' hj
        rw [valA_snoc, if_neg (fun q => by have := (ky_inj q).1; omega), up j c' (by omega)]
        cases valA kvs (kyL j c') <;> rfl
      · rintro ⟨n0, t⟩
        obtain ⟨_, a0, c0, e0, A0, C0⟩ := LN_s.mp t
        have p1 := s1.again ⟨a0, A0⟩
        subst p1
        have p2 := s2.again ⟨c0, C0⟩
        subst p2
        have ea := LN.uniq s.gd.nodup (h + 1) h (by omega) s1.lean A0
        have ec := LN.uniq s.gd.nodup (h + 1) (h - 1) (by omega) s2.lean C0
        subst ea; subst ec
        exact ag (List.mem_of_getElem? e0)
theorem MK.nil (ps : List Pc) : MK ps [] := fun _ _ _ e => nomatch e
theorem f_leanest {hh : AH} {p h : Nat} {ps : List Pc} (S : ShelfAt hh p ps) (g : Good ps) (h82 : h ≤ 82) (hz : ps.length < 14000000) :
    ∃ (n : Nat) (ps' : List Pc) (hh' : AH), F_leanest [.ref p, .int h] hh = .ok (.int n) hh' ∧ ShelfAt hh' p ps' ∧ Good ps' ∧ ps <+: ps' ∧ ps'.length ≤ ps.length + 600 ∧ LN ps' h true n ∧ (∀ i, (i ≤ p ∨ p + 8 < i) → i < hh.length → hh'[i]? = hh[i]?) ∧ hh'.length = hh.length + 1 ∧ ((∃ n0, LN ps h true n0) → ps' = ps) := by
  have pl := lt_of S.h8
  have s0 : LS0 p hh.length (hh ++ [.dct true []]) ps [] := ⟨S.app _, g, by simp, MK.nil ps, by rw [free_nil]; decide⟩
  obtain ⟨n, ps', kvs', hh', e, s1⟩ := f_lean (.inr (by omega)) 90 h true (by omega) h82 s0 (by rw [free_nil]; omega)
  have l1 := s1.len
  rw [free_nil] at l1
  have lsg := least_signs_eq h (by omega) hh
  have mst : ls h ≤ 1000000000000000000 := by rw [← sgs_ls]; exact sgs_le true h82
  have gt : fGt (.int (ls h)) (.int 1000000000000000000) hh = .ok (.bl false) hh := by
    have : ¬ (1000000000000000000 : Int) < (ls h : Nat) := by omega
    simp only [fGt, this, decide_false]
  have lt : fLt (.int h) (.int 0) hh = .ok (.bl false) hh := by
    have : ¬ (h : Int) < 0 := by omega
    simp only [fLt, this, decide_false]
  refine ⟨n, ps', hh', ?_, s1.st.sh, s1.st.gd, s1.pre, by omega, s1.lean, ?_, ?_, s1.again⟩
  · have dc : ∀ en : En, sDict true en hh = .ok (.ref hh.length) (hh ++ [.dct true []]) := fun _ => rfl
    unfold F_leanest
    generalize F_lean_text 90 = FL at *
    generalize sDict true = DT at *
    generalize hh ++ [AO.dct true []] = h1 at *
    simp [lt, lsg, gt, dc, e, -fLt, -fGt]
  · intro i hi hl
    rw [s1.fr i hi (by omega), List.getElem?_append_left hl]
  · rw [s1.hl, List.length_append]; rfl
end Sk

namespace Sk
open PySem PySem.Spec L2 Sm
noncomputable abbrev BK := List ((Int × Int) × Int)
noncomputable def kT (k : Int × Int) : AV := .tup [.int k.1, .int k.2]
noncomputable def eB (x : (Int × Int) × Int) : AV × AV := (kT x.1, .int x.2)
theorem kT_inj {a b : Int × Int} (e : kT a = kT b) : a = b := by
  obtain ⟨a1, a2⟩ := a
  obtain ⟨b1, b2⟩ := b
  simp [kT] at e
  rw [e.1, e.2]
theorem val_cons (x : (Int × Int) × Int) (D : BK) (k : Int × Int) : valA ((x :: D).map eB) (kT k) = if x.1 = k then some (.int x.2) else valA (D.map eB) (kT k) := by
  unfold valA
  rw [List.map_cons, List.find?_cons]
  by_cases e : x.1 = k
  · have : decide ((eB x).1 = kT k) = true := decide_eq_true (by rw [← e]; rfl)
    rw [this, if_pos e]; rfl
  · have : decide ((eB x).1 = kT k) = false := decide_eq_false fun z => e (kT_inj z)
    rw [this, if_neg e]
theorem val_in : ∀ {D : BK}, (D.map (·.1)).Nodup → ∀ {x : (Int × Int) × Int}, x ∈ D → valA (D.map eB) (kT x.1) = some (.int x.2)
  | [], _, x, hx => nomatch hx
  | y :: D, nd, x, hx => by
    rw [val_cons]
    rw [List.map_cons, List.nodup_cons] at nd
    rcases List.mem_cons.mp hx with e | hx
    · rw [e, if_pos rfl]
    · rw [if_neg (fun e => nd.1 (by rw [e]; exact List.mem_map.mpr ⟨x, hx, rfl⟩))]
      exact val_in nd.2 hx
theorem val_no : ∀ {D : BK} {k : Int × Int}, (∀ v, (k, v) ∉ D) → valA (D.map eB) (kT k) = none
  | [], k, _ => rfl
  | y :: D, k, h => by
    rw [val_cons, if_neg (fun e => h y.2 (by rw [← e]; exact List.mem_cons_self ..))]
    exact val_no fun v hv => h v (List.mem_cons_of_mem _ hv)
noncomputable def putB (D : BK) (k : Int × Int) (v : Int) : BK := if (D.any fun x => decide (x.1 = k)) = true then D.map fun x => if x.1 = k then (x.1, v) else x else D ++ [(k, v)]
theorem put_eB (D : BK) (k : Int × Int) (v : Int) : putA (D.map eB) (kT k) (.int v) = (putB D k v).map eB := by
  have e : ((D.map eB).any fun p => decide (p.1 = kT k)) = D.any fun x => decide (x.1 = k) := by
    rw [List.any_map]
    congr 1
    funext x
    show decide (kT x.1 = kT k) = _
    by_cases z : x.1 = k
    · rw [decide_eq_true z, decide_eq_true (by rw [z])]
    · rw [decide_eq_false z, decide_eq_false fun q => z (kT_inj q)]
  unfold putA putB
  rw [e]
  by_cases q : (D.any fun x => decide (x.1 = k)) = true
  · rw [if_pos q, if_pos q, List.map_map, List.map_map]
    apply List.map_congr_left
    intro x _
    show (if kT x.1 = kT k then (kT x.1, AV.int v) else eB x) = eB (if x.1 = k then (x.1, v) else x)
    by_cases z : x.1 = k
    · rw [if_pos z, if_pos (by rw [z])]; rfl
    · rw [if_neg z, if_neg fun q => z (kT_inj q)]
  · rw [if_neg q, if_neg q, List.map_append]; rfl
theorem mem_put {D : BK} {k : Int × Int} {v : Int} {y : (Int × Int) × Int} (h : y ∈ putB D k v) : y = (k, v) ∨ (y ∈ D ∧ y.1 ≠ k) := by
  unfold putB at h
  by_cases q : (D.any fun x => decide (x.1 = k)) = true
  · rw [if_pos q] at h
    obtain ⟨x, hx, rfl⟩ := List.mem_map.mp h
    by_cases z : x.1 = k
    · rw [if_pos z, z]; exact .inl rfl
    · rw [if_neg z]; exact .inr ⟨hx, z⟩
  · rw [if_neg q] at h
    rcases List.mem_append.mp h with h | h
    · exact .inr ⟨h, fun e => q (List.any_eq_true.mpr ⟨y, h, decide_eq_true e⟩)⟩
    · exact .inl (by simpa using h)
theorem put_new (D : BK) (k : Int × Int) (v : Int) : (k, v) ∈ putB D k v := by
  unfold putB
  by_cases q : (D.any fun x => decide (x.1 = k)) = true
  · rw [if_pos q]
    obtain ⟨x, hx, e⟩ := List.any_eq_true.mp q
    have e := of_decide_eq_true e
    exact List.mem_map.mpr ⟨x, hx, by rw [if_pos e, e]⟩
  · rw [if_neg q]; simp
theorem put_old {D : BK} {k : Int × Int} {v : Int} {y : (Int × Int) × Int} (h : y ∈ D) (ne : y.1 ≠ k) : y ∈ putB D k v := by
  unfold putB
  split
  · exact List.mem_map.mpr ⟨y, h, by rw [if_neg ne]⟩
  · exact List.mem_append_left _ h
theorem put_nd {D : BK} (nd : (D.map (·.1)).Nodup) (k : Int × Int) (v : Int) : ((putB D k v).map (·.1)).Nodup := by
  unfold putB
  by_cases q : (D.any fun x => decide (x.1 = k)) = true
  · rw [if_pos q, List.map_map]
    have : (fun x : (Int × Int) × Int => x.1) ∘ (fun x => if x.1 = k then (x.1, v) else x) = fun x => x.1 := by
      funext x; show (if x.1 = k then (x.1, v) else x).1 = x.1; split <;> rfl
    rw [this]; exact nd
  · rw [if_neg q, List.map_append, List.nodup_append]
    refine ⟨nd, by simp, fun a ha b hb z => q ?_⟩
    have e : b = k := by simpa using hb
    obtain ⟨x, hx, ex⟩ := List.mem_map.mp ha
    exact List.any_eq_true.mpr ⟨x, hx, decide_eq_true (by rw [ex, z, e])⟩
structure BI (R : Int × Int → Int → Prop) (D : BK) : Prop where
  nd : (D.map (·.1)).Nodup
  ok : ∀ x ∈ D, (1 ≤ x.1.1 ∧ x.1.1 ≤ 8 ∧ 1 ≤ x.1.2 ∧ x.1.2 ≤ 8) ∧ R x.1 x.2
noncomputable def all64 : List (Int × Int) := (List.range 64).map fun n : Nat => ((n : Int) / 8 + 1, (n : Int) % 8 + 1)
theorem BI.len {R : Int × Int → Int → Prop} {D : BK} (b : BI R D) : D.length ≤ 64 := by
  have : (D.map (·.1)).length ≤ all64.length := List.Nodup.length_le_of_subset b.nd fun k hk => by
    obtain ⟨x, hx, rfl⟩ := List.mem_map.mp hk
    obtain ⟨⟨h1, h2, h3, h4⟩, _⟩ := b.ok x hx
    obtain ⟨⟨p, q⟩, v⟩ := x
    dsimp only at h1 h2 h3 h4 ⊢
    refine List.mem_map.mpr ⟨(8 * (p - 1) + (q - 1)).toNat, List.mem_range.mpr (by omega), ?_⟩
    have e : (((8 * (p - 1) + (q - 1)).toNat : Nat) : Int) = 8 * (p - 1) + (q - 1) := Int.toNat_of_nonneg (by omega)
    rw [e]
    have e1 : (8 * (p - 1) + (q - 1)) / 8 + 1 = p := by omega
    have e2 : (8 * (p - 1) + (q - 1)) % 8 + 1 = q := by omega
    rw [e1, e2]
  rw [List.length_map] at this
  exact Nat.le_trans this (by simp [all64])
theorem BI.mono {R R' : Int × Int → Int → Prop} {D : BK} (b : BI R D) (h : ∀ x ∈ D, R x.1 x.2 → R' x.1 x.2) : BI R' D := ⟨b.nd, fun x hx => ⟨(b.ok x hx).1, h x hx (b.ok x hx).2⟩⟩
theorem BI.nil (R : Int × Int → Int → Prop) : BI R [] := ⟨List.nodup_nil, fun _ h => nomatch h⟩
noncomputable def Lo (D D' : BK) : Prop := ∀ k v, (k, v) ∈ D → ∃ u, u ≤ v ∧ (k, u) ∈ D'
theorem Lo.refl (D : BK) : Lo D D := fun k v h => ⟨v, Int.le_refl _, h⟩
theorem Lo.trans {A B C : BK} (h : Lo A B) (g : Lo B C) : Lo A C := fun k v q => by
  obtain ⟨u, u1, u2⟩ := h k v q
  obtain ⟨t, t1, t2⟩ := g k u u2
  exact ⟨t, Int.le_trans t1 u1, t2⟩
noncomputable def mn (a b : Int) : Int := if b < a then b else a
theorem mn_le (a b : Int) : mn a b ≤ a ∧ mn a b ≤ b ∧ (mn a b = a ∨ mn a b = b) := by unfold mn; split <;> omega
noncomputable def gtB (D : BK) (k : Int × Int) (s : Int) : Int := match valA (D.map eB) (kT k) with
  | some (.int v) => v
  | _ => s
theorem gtB_or {R : Int × Int → Int → Prop} {D : BK} (b : BI R D) (k : Int × Int) (s : Int) : (valA (D.map eB) (kT k)).getD (.int s) = .int (gtB D k s) ∧ ((k, gtB D k s) ∈ D ∨ ((∀ v, (k, v) ∉ D) ∧ gtB D k s = s)) := by
  unfold gtB
  by_cases h : ∃ v, (k, v) ∈ D
  · obtain ⟨v, hv⟩ := h
    have := val_in b.nd hv
    rw [this]; exact ⟨rfl, .inl hv⟩
  · have h' : ∀ v, (k, v) ∉ D := fun v hv => h ⟨v, hv⟩
    rw [val_no h']; exact ⟨rfl, .inr ⟨h', rfl⟩⟩
noncomputable def inB (D : BK) (k : Int × Int) (s : Int) : BK := putB D k (mn s (gtB D k s))
theorem inB_ok {R : Int × Int → Int → Prop} {D : BK} (b : BI R D) {k : Int × Int} {s : Int} (hk : 1 ≤ k.1 ∧ k.1 ≤ 8 ∧ 1 ≤ k.2 ∧ k.2 ≤ 8) (hs : R k s) : BI R (inB D k s) ∧ Lo D (inB D k s) ∧ ∃ u, u ≤ s ∧ (k, u) ∈ inB D k s := by
  obtain ⟨_, alt⟩ := gtB_or b k s
  obtain ⟨m1, m2, m3⟩ := mn_le s (gtB D k s)
  have rm : R k (mn s (gtB D k s)) := by
    rcases m3 with e | e
    · rw [e]; exact hs
    · rw [e]
      rcases alt with h | ⟨_, h⟩
      · exact (b.ok _ h).2
      · rw [h]; exact hs
  refine ⟨⟨put_nd b.nd _ _, fun x hx => ?_⟩, fun j v hv => ?_, _, m1, put_new _ _ _⟩
  · rcases mem_put hx with rfl | ⟨h, _⟩
    · exact ⟨hk, rm⟩
    · exact b.ok x h
  · by_cases e : j = k
    · subst e
      refine ⟨_, ?_, put_new _ _ _⟩
      rcases alt with h | ⟨h, _⟩
      · have z1 := val_in b.nd h
        have z2 := val_in b.nd hv
        have z3 : valA (D.map eB) (kT j) = some (.int (gtB D j s)) := z1
        have z4 : valA (D.map eB) (kT j) = some (.int v) := z2
        rw [z3] at z4
        injection z4 with z4; injection z4 with z4
        rw [← z4]; exact m2
      · exact absurd hv (h v)
    · exact ⟨v, Int.le_refl _, put_old hv e⟩
theorem keys2 (a b : Int) : (keysOf? [AV.int a, AV.int b]).isSome = true := rfl
theorem ix_x {h : AH} {n : Nat} {D : BK} {x : (Int × Int) × Int} (e : h[n]? = some (.dcx (D.map eB))) (nd : (D.map (·.1)).Nodup) (hx : x ∈ D) : fIxX (.ref n) (.tup [.int x.1.1, .int x.1.2]) h = .ok (.int x.2) h := by
  have v := val_in nd hx
  unfold kT at v
  unfold fIxX
  dsimp only
  rw [e]
  dsimp only
  rw [if_pos (keys2 _ _), v]
theorem get_x {R : Int × Int → Int → Prop} {h : AH} {n : Nat} {D : BK} (b : BI R D) (e : h[n]? = some (.dcx (D.map eB))) (k : Int × Int) (s : Int) : fGetX n (.tup [.int k.1, .int k.2]) (.int s) h = .ok (.int (gtB D k s)) h := by
  have v := (gtB_or b k s).1
  unfold kT at v
  unfold fGetX
  dsimp only
  rw [e]
  dsimp only
  rw [if_pos (keys2 _ _), v]
theorem set_x {R : Int × Int → Int → Prop} {h : AH} {n : Nat} {D : BK} (b : BI R D) (e : h[n]? = some (.dcx (D.map eB))) (k : Int × Int) (s : Int) (en : En) : fSetX n (.tup [.int k.1, .int k.2]) (.int s) en h = .nx en (h.set n (.dcx ((putB D k s).map eB))) := by
  have v := put_eB D k s
  unfold kT at v
  unfold fSetX
  dsimp only
  rw [e]
  dsimp only
  rw [if_pos ⟨keys2 _ _, by rw [List.length_map]; exact Nat.lt_of_le_of_lt b.len (by decide)⟩, v]
theorem forL_p {L : AH → Bool} {t : Tg} {b : SS} (P : Nat → En → AH → Prop) : ∀ (xs : List AV) (i : Nat) (en : En) (h : AH), P i en h → (∀ i en h, P i en h → L h = true) →
    (∀ (j : Nat) (x : AV) (en : En) (h : AH), xs[j]? = some x → P (i + j) en h → ∃ e1, setT t x en = some e1 ∧ ∃ e2 h2, b e1 h = .nx e2 h2 ∧ P (i + j + 1) e2 h2) →
    ∃ e' h', sForL L t b xs en h = .nx e' h' ∧ P (i + xs.length) e' h'
  | [], i, en, h, p, lv, _ => ⟨en, h, by unfold sForL; rw [if_pos (lv _ _ _ p)], p⟩
  | x :: xs, i, en, h, p, lv, s => by
    obtain ⟨e1, q1, e2, h2, q2, q3⟩ := s 0 x en h rfl p
    obtain ⟨e', h', r1, r2⟩ := forL_p P xs (i + 1) e2 h2 q3 lv fun j y en h e q => by
      have := s (j + 1) y en h (by simpa using e) (by rw [show i + (j + 1) = i + 1 + j by omega]; exact q)
      rw [show i + (j + 1) + 1 = i + 1 + j + 1 by omega] at this
      exact this
    refine ⟨e', h', ?_, by rw [List.length_cons, show i + (xs.length + 1) = i + 1 + xs.length by omega]; exact r2⟩
    unfold sForL
    rw [if_pos (lv _ _ _ p)]
    simp only [q1, q2]
    exact r1
end Sk

namespace Sk
open PySem PySem.Spec L2 Sm
theorem setZ (h : AH) (a b : AO) : (h ++ [a]).set h.length b = h ++ [b] := by
  rw [List.set_append_right _ _ (Nat.le_refl _), Nat.sub_self]; rfl
theorem atZ (h : AH) (a : AO) : (h ++ [a])[h.length]? = some a := by simp
theorem atX {h : AH} {i : Nat} {o : AO} (e : h[i]? = some o) (r : AH) : (h ++ r)[i]? = some o := by
  rw [List.getElem?_append_left (lt_of e)]; exact e
noncomputable def stp (D : BK) (x y : (Int × Int) × Int) : BK := if 8 < x.1.2 + y.1.1 then inB D (x.1.1, y.1.2) (x.2 + y.2) else D
theorem min2_i (a b : Int) (h : AH) : fMin2 [.int a, .int b] h = .ok (.int (mn a b)) h := rfl
theorem add_i (a b : Int) (h : AH) : fAdd (.int a) (.int b) h = .ok (.int (a + b)) h := rfl
theorem t_put {R R1 R2 : Int × Int → Int → Prop} {h : AH} {n1 n2 : Nat} {D1 D2 D : BK} {x y : (Int × Int) × Int} (e1 : h[n1]? = some (.dcx (D1.map eB))) (e2 : h[n2]? = some (.dcx (D2.map eB))) (b1 : BI R1 D1) (b2 : BI R2 D2) (b : BI R D) (hx : x ∈ D1) (hy : y ∈ D2) (o7 : Option AV) :
    ∃ o7', B_law_put_together_1 [some (.ref n1), some (.ref n2), some (.ref h.length), some (.int x.1.1), some (.int x.1.2), some (.int y.1.1), some (.int y.1.2), o7] (h ++ [.dcx (D.map eB)]) =
      .nx [some (.ref n1), some (.ref n2), some (.ref h.length), some (.int x.1.1), some (.int x.1.2), some (.int y.1.1), some (.int y.1.2), o7'] (h ++ [.dcx ((stp D x y).map eB)]) := by
  obtain ⟨H, eH⟩ : ∃ H, H = h ++ [.dcx (D.map eB)] := ⟨_, rfl⟩
  have i1 := ix_x (h := H) (by rw [eH]; exact atX e1 _) b1.nd hx
  have i2 := ix_x (h := H) (by rw [eH]; exact atX e2 _) b2.nd hy
  have hf : H[h.length]? = some (.dcx (D.map eB)) := by rw [eH]; exact atZ _ _
  unfold stp
  by_cases q : 8 < x.1.2 + y.1.1
  · rw [if_pos q]
    have gt : fGt (.int (x.1.2 + y.1.1)) (.int 8) H = .ok (.bl true) H := by simp only [fGt, q, decide_true]
    have gg := get_x b hf (x.1.1, y.1.2) (x.2 + y.2)
    have ss := set_x b hf (x.1.1, y.1.2) (mn (x.2 + y.2) (gtB D (x.1.1, y.1.2) (x.2 + y.2))) [some (.ref n1), some (.ref n2), some (.ref h.length), some (.int x.1.1), some (.int x.1.2), some (.int y.1.1), some (.int y.1.2), some (.int (x.2 + y.2))]
    have ad := add_i x.2 y.2 H
    have ad2 := add_i x.1.2 y.1.1 H
    have mm := min2_i (x.2 + y.2) (gtB D (x.1.1, y.1.2) (x.2 + y.2)) H
    refine ⟨some (.int (x.2 + y.2)), ?_⟩
    rw [← eH]
    have fin : H.set h.length (.dcx ((inB D (x.1.1, y.1.2) (x.2 + y.2)).map eB)) = h ++ [.dcx ((inB D (x.1.1, y.1.2) (x.2 + y.2)).map eB)] := by rw [eH, setZ]
    rw [← fin]
    unfold inB
    unfold B_law_put_together_1
    dsimp only at gg ss
    generalize gtB D (x.1.1, y.1.2) (x.2 + y.2) = g at *
    have gx : sGetX (sVar 2) (sTup (sCons (sVar 3) (sCons (sVar 6) sNil))) (sVar 7) [some (.ref n1), some (.ref n2), some (.ref h.length), some (.int x.1.1), some (.int x.1.2), some (.int y.1.1), some (.int y.1.2), some (.int (x.2 + y.2))] H = .ok (.int g) H := by
      unfold sGetX
      simp [hf, gg]
    simp [ad2, gt, i1, i2, ad, gx, mm, ss, -fGt, -fAdd, -fMin2]
  · rw [if_neg q, ← eH]
    have gt : fGt (.int (x.1.2 + y.1.1)) (.int 8) H = .ok (.bl false) H := by simp only [fGt, q, decide_false]
    have ad2 := add_i x.1.2 y.1.1 H
    refine ⟨o7, ?_⟩
    unfold B_law_put_together_1
    simp [ad2, gt, -fGt, -fAdd]
theorem stp_ok {R : Int × Int → Int → Prop} {D : BK} (b : BI R D) {x y : (Int × Int) × Int} (hx : 1 ≤ x.1.1 ∧ x.1.1 ≤ 8 ∧ 1 ≤ x.1.2 ∧ x.1.2 ≤ 8) (hy : 1 ≤ y.1.1 ∧ y.1.1 ≤ 8 ∧ 1 ≤ y.1.2 ∧ y.1.2 ≤ 8) (hR : 8 < x.1.2 + y.1.1 → R (x.1.1, y.1.2) (x.2 + y.2)) :
    BI R (stp D x y) ∧ Lo D (stp D x y) ∧ (8 < x.1.2 + y.1.1 → ∃ u, u ≤ x.2 + y.2 ∧ ((x.1.1, y.1.2), u) ∈ stp D x y) := by
  unfold stp
  by_cases q : 8 < x.1.2 + y.1.1
  · rw [if_pos q]
    obtain ⟨a1, a2, a3⟩ := inB_ok b (k := (x.1.1, y.1.2)) ⟨hx.1, hx.2.1, hy.2.2.1, hy.2.2.2⟩ (hR q)
    exact ⟨a1, a2, fun _ => a3⟩
  · rw [if_neg q]; exact ⟨b, .refl D, fun z => absurd z q⟩
theorem keys_eB (D : BK) : (D.map eB).map (·.1) = D.map fun x => kT x.1 := by rw [List.map_map]; rfl
theorem live_x {h : AH} {n : Nat} {D : BK} (e : h[n]? = some (.dcx (D.map eB))) : liveD n (D.map fun x => kT x.1) h = true := by
  unfold liveD
  rw [e]
  dsimp only
  rw [keys_eB]
  exact decide_eq_true rfl
theorem mem_at {α : Type} {l : List α} {i : Nat} {x : α} (e : l[i]? = some x) : x ∈ l := List.mem_of_getElem? e
theorem l_in {R R1 R2 : Int × Int → Int → Prop} {h : AH} {n1 n2 : Nat} {D1 D2 D : BK} {x : (Int × Int) × Int} (e1 : h[n1]? = some (.dcx (D1.map eB))) (e2 : h[n2]? = some (.dcx (D2.map eB))) (b1 : BI R1 D1) (b2 : BI R2 D2) (b : BI R D) (hx : x ∈ D1)
    (hR : ∀ y ∈ D2, 8 < x.1.2 + y.1.1 → R (x.1.1, y.1.2) (x.2 + y.2)) (o5 o6 o7 : Option AV) :
    ∃ (o5' o6' o7' : Option AV) (D' : BK), B_law_put_together_2 [some (.ref n1), some (.ref n2), some (.ref h.length), some (.int x.1.1), some (.int x.1.2), o5, o6, o7] (h ++ [.dcx (D.map eB)]) =
      .nx [some (.ref n1), some (.ref n2), some (.ref h.length), some (.int x.1.1), some (.int x.1.2), o5', o6', o7'] (h ++ [.dcx (D'.map eB)]) ∧ BI R D' ∧ Lo D D' ∧ ∀ y ∈ D2, 8 < x.1.2 + y.1.1 → ∃ u, u ≤ x.2 + y.2 ∧ ((x.1.1, y.1.2), u) ∈ D' := by
  obtain ⟨e', H', r1, r2⟩ := forL_p (L := liveD n2 (D2.map fun x => kT x.1)) (t := .tup [5, 6]) (b := B_law_put_together_1)
    (fun j en H => ∃ (o5 o6 o7 : Option AV) (D' : BK), en = [some (.ref n1), some (.ref n2), some (.ref h.length), some (.int x.1.1), some (.int x.1.2), o5, o6, o7] ∧ H = h ++ [.dcx (D'.map eB)] ∧ BI R D' ∧ Lo D D' ∧ ∀ i y, i < j → D2[i]? = some y → 8 < x.1.2 + y.1.1 → ∃ u, u ≤ x.2 + y.2 ∧ ((x.1.1, y.1.2), u) ∈ D')
    (D2.map fun x => kT x.1) 0 [some (.ref n1), some (.ref n2), some (.ref h.length), some (.int x.1.1), some (.int x.1.2), o5, o6, o7] (h ++ [.dcx (D.map eB)]) ⟨o5, o6, o7, D, rfl, rfl, b, .refl D, fun i y hi => absurd hi (Nat.not_lt_zero _)⟩
    (fun _ _ _ ⟨_, _, _, D', _, eH, _⟩ => by rw [eH]; exact live_x (atX e2 _)) (by
      intro j k en H hk hp
      rw [List.getElem?_map] at hk
      obtain ⟨y, hy, rfl⟩ := Option.map_eq_some_iff.mp hk
      obtain ⟨p5, p6, p7, D', rfl, rfl, bD, lo, cv⟩ := hp
      refine ⟨_, rfl, ?_⟩
      obtain ⟨q7, e⟩ := t_put e1 e2 b1 b2 bD hx (mem_at hy) p7
      obtain ⟨s1, s2, s3⟩ := stp_ok bD (b1.ok x hx).1 (b2.ok y (mem_at hy)).1 (hR y (mem_at hy))
      refine ⟨_, _, e, some (.int y.1.1), some (.int y.1.2), q7, _, rfl, rfl, s1, lo.trans s2, fun i z hi hz hq => ?_⟩
      rw [Nat.zero_add] at hi
      by_cases z1 : i = j
      · subst z1
        rw [hy] at hz; cases hz
        exact s3 hq
      · obtain ⟨u, u1, u2⟩ := cv i z (by omega) hz hq
        obtain ⟨t, t1, t2⟩ := s2 _ u u2
        exact ⟨t, Int.le_trans t1 u1, t2⟩)
  obtain ⟨p5, p6, p7, D', rfl, rfl, bD, lo, cv⟩ := r2
  refine ⟨p5, p6, p7, D', ?_, bD, lo, fun y hy hq => ?_⟩
  · unfold B_law_put_together_2 sForD
    have a2 := atX e2 [.dcx (D.map eB)]
    rw [← keys_eB] at r1
    simp [a2] at r1 ⊢
    exact r1
  · obtain ⟨i, hi⟩ := List.mem_iff_getElem?.mp hy
    exact cv i y (by have := (List.getElem?_eq_some_iff.mp hi).1; simpa using this) hi hq
theorem f_put {R R1 R2 : Int × Int → Int → Prop} {h : AH} {n1 n2 : Nat} {D1 D2 : BK} (e1 : h[n1]? = some (.dcx (D1.map eB))) (e2 : h[n2]? = some (.dcx (D2.map eB))) (b1 : BI R1 D1) (b2 : BI R2 D2)
    (hR : ∀ x ∈ D1, ∀ y ∈ D2, 8 < x.1.2 + y.1.1 → R (x.1.1, y.1.2) (x.2 + y.2)) :
    ∃ D' : BK, F_law_put_together [.ref n1, .ref n2] h = .ok (.ref h.length) (h ++ [.dcx (D'.map eB)]) ∧ BI R D' ∧ ∀ x ∈ D1, ∀ y ∈ D2, 8 < x.1.2 + y.1.1 → ∃ u, u ≤ x.2 + y.2 ∧ ((x.1.1, y.1.2), u) ∈ D' := by
  obtain ⟨e', H', r1, r2⟩ := forL_p (L := liveD n1 (D1.map fun x => kT x.1)) (t := .tup [3, 4]) (b := B_law_put_together_2)
    (fun j en H => ∃ (o3 o4 o5 o6 o7 : Option AV) (D' : BK), en = [some (.ref n1), some (.ref n2), some (.ref h.length), o3, o4, o5, o6, o7] ∧ H = h ++ [.dcx (D'.map eB)] ∧ BI R D' ∧ ∀ i x, i < j → D1[i]? = some x → ∀ y ∈ D2, 8 < x.1.2 + y.1.1 → ∃ u, u ≤ x.2 + y.2 ∧ ((x.1.1, y.1.2), u) ∈ D')
    (D1.map fun x => kT x.1) 0 [some (.ref n1), some (.ref n2), some (.ref h.length), none, none, none, none, none] (h ++ [.dcx []]) ⟨none, none, none, none, none, [], rfl, rfl, .nil R, fun i y hi => absurd hi (Nat.not_lt_zero _)⟩
    (fun _ _ _ ⟨_, _, _, _, _, D', _, eH, _⟩ => by rw [eH]; exact live_x (atX e1 _)) (by
      intro j k en H hk hp
      rw [List.getElem?_map] at hk
      obtain ⟨x, hx, rfl⟩ := Option.map_eq_some_iff.mp hk
      obtain ⟨p3, p4, p5, p6, p7, D', rfl, rfl, bD, cv⟩ := hp
      refine ⟨_, rfl, ?_⟩
      obtain ⟨q5, q6, q7, D2', e, bD2, lo, cv2⟩ := l_in e1 e2 b1 b2 bD (mem_at hx) (hR x (mem_at hx)) p5 p6 p7
      refine ⟨_, _, e, some (.int x.1.1), some (.int x.1.2), q5, q6, q7, D2', rfl, rfl, bD2, fun i z hi hz y hy hq => ?_⟩
      rw [Nat.zero_add] at hi
      by_cases z1 : i = j
      · subst z1
        rw [hx] at hz; cases hz
        exact cv2 y hy hq
      · obtain ⟨u, u1, u2⟩ := cv i z (by omega) hz y hy hq
        obtain ⟨t, t1, t2⟩ := lo _ u u2
        exact ⟨t, Int.le_trans t1 u1, t2⟩)
  obtain ⟨p3, p4, p5, p6, p7, D', rfl, rfl, bD, cv⟩ := r2
  refine ⟨D', ?_, bD, fun x hx y hy hq => ?_⟩
  · have a1 := atX e1 [.dcx []]
    rw [← keys_eB] at r1
    have f1 : sForD (sVar 0) (.tup [3, 4]) B_law_put_together_2 [some (.ref n1), some (.ref n2), some (.ref h.length), none, none, none, none, none] (h ++ [.dcx []]) = .nx [some (.ref n1), some (.ref n2), some (.ref h.length), p3, p4, p5, p6, p7] (h ++ [.dcx (D'.map eB)]) := by
      unfold sForD
      generalize B_law_put_together_2 = BB at *
      simp [a1] at r1 ⊢
      exact r1
    have dx : ∀ en : En, sDictX en h = .ok (.ref h.length) (h ++ [.dcx []]) := fun _ => rfl
    unfold F_law_put_together
    generalize sForD (sVar 0) (.tup [3, 4]) B_law_put_together_2 = F1 at *
    simp [dx, f1]
  · obtain ⟨i, hi⟩ := List.mem_iff_getElem?.mp hx
    exact cv i x (by have := (List.getElem?_eq_some_iff.mp hi).1; simpa using this) hi y hy hq
end Sk

namespace Sk
open PySem PySem.Spec L2 Sm
theorem kT_def (k : Int × Int) : kT k = .tup [.int k.1, .int k.2] := rfl
theorem t_join {R : Int × Int → Int → Prop} {h : AH} {n : Nat} {B D : BK} {x : (Int × Int) × Int} (e : h[n]? = some (.dcx (B.map eB))) (bB : BI R B) (b : BI R D) (hx : x ∈ B) (o0 : Option AV) :
    B_law_joined_1 [o0, some (.ref h.length), some (.ref n), some (kT x.1)] (h ++ [.dcx (D.map eB)]) = .nx [o0, some (.ref h.length), some (.ref n), some (kT x.1)] (h ++ [.dcx ((inB D x.1 x.2).map eB)]) := by
  obtain ⟨H, eH⟩ : ∃ H, H = h ++ [.dcx (D.map eB)] := ⟨_, rfl⟩
  have i1 := ix_x (h := H) (by rw [eH]; exact atX e _) bB.nd hx
  have hf : H[h.length]? = some (.dcx (D.map eB)) := by rw [eH]; exact atZ _ _
  have gg := get_x b hf x.1 x.2
  have ss := set_x b hf x.1 (mn x.2 (gtB D x.1 x.2)) [o0, some (.ref h.length), some (.ref n), some (kT x.1)]
  have mm := min2_i x.2 (gtB D x.1 x.2) H
  have fin : H.set h.length (.dcx ((inB D x.1 x.2).map eB)) = h ++ [.dcx ((inB D x.1 x.2).map eB)] := by rw [eH, setZ]
  rw [← eH, ← fin]
  unfold inB
  rw [← kT_def] at i1 gg ss
  unfold B_law_joined_1
  generalize gtB D x.1 x.2 = g at *
  generalize kT x.1 = k at *
  have gx : sGetX (sVar 1) (sVar 3) (sOp2 fIxX (sVar 2) (sVar 3)) [o0, some (.ref h.length), some (.ref n), some k] H = .ok (.int g) H := by
    unfold sGetX
    simp [hf, i1, gg]
  simp [i1, gx, mm, ss, -fMin2]
theorem l_join {R : Int × Int → Int → Prop} {h : AH} {n : Nat} {B D : BK} (e : h[n]? = some (.dcx (B.map eB))) (bB : BI R B) (b : BI R D) (o0 o3 : Option AV) :
    ∃ (o3' : Option AV) (D' : BK), B_law_joined_2 [o0, some (.ref h.length), some (.ref n), o3] (h ++ [.dcx (D.map eB)]) = .nx [o0, some (.ref h.length), some (.ref n), o3'] (h ++ [.dcx (D'.map eB)]) ∧ BI R D' ∧ Lo D D' ∧ Lo B D' := by
  obtain ⟨e', H', r1, r2⟩ := forL_p (L := liveD n (B.map fun x => kT x.1)) (t := .nm 3) (b := B_law_joined_1)
    (fun j en H => ∃ (o3 : Option AV) (D' : BK), en = [o0, some (.ref h.length), some (.ref n), o3] ∧ H = h ++ [.dcx (D'.map eB)] ∧ BI R D' ∧ Lo D D' ∧ ∀ i x, i < j → B[i]? = some x → ∃ u, u ≤ x.2 ∧ (x.1, u) ∈ D')
    (B.map fun x => kT x.1) 0 [o0, some (.ref h.length), some (.ref n), o3] (h ++ [.dcx (D.map eB)]) ⟨o3, D, rfl, rfl, b, .refl D, fun i y hi => absurd hi (Nat.not_lt_zero _)⟩
    (fun _ _ _ ⟨_, D', _, eH, _⟩ => by rw [eH]; exact live_x (atX e _)) (by
      intro j k en H hk hp
      rw [List.getElem?_map] at hk
      obtain ⟨x, hx, rfl⟩ := Option.map_eq_some_iff.mp hk
      obtain ⟨p3, D', rfl, rfl, bD, lo, cv⟩ := hp
      refine ⟨_, rfl, ?_⟩
      obtain ⟨s1, s2, s3⟩ := inB_ok bD (bB.ok x (mem_at hx)).1 (bB.ok x (mem_at hx)).2
      refine ⟨_, _, t_join e bB bD (mem_at hx) o0, some (kT x.1), _, rfl, rfl, s1, lo.trans s2, fun i z hi hz => ?_⟩
      rw [Nat.zero_add] at hi
      by_cases z1 : i = j
      · subst z1
        rw [hx] at hz; cases hz
        exact s3
      · obtain ⟨u, u1, u2⟩ := cv i z (by omega) hz
        obtain ⟨t, t1, t2⟩ := s2 _ u u2
        exact ⟨t, Int.le_trans t1 u1, t2⟩)
  obtain ⟨p3, D', rfl, rfl, bD, lo, cv⟩ := r2
  refine ⟨p3, D', ?_, bD, lo, fun k v hv => ?_⟩
  · unfold B_law_joined_2 sForD
    have a2 := atX e [.dcx (D.map eB)]
    rw [← keys_eB] at r1
    simp [a2] at r1 ⊢
    exact r1
  · obtain ⟨i, hi⟩ := List.mem_iff_getElem?.mp hv
    exact cv i _ (by have := (List.getElem?_eq_some_iff.mp hi).1; simpa using this) hi
theorem f_join {R : Int × Int → Int → Prop} {h : AH} {s : Nat} {bs : List (Nat × BK)} (es : h[s]? = some (.lst (bs.map fun b => AV.ref b.1))) (hb : ∀ b ∈ bs, h[b.1]? = some (.dcx (b.2.map eB)) ∧ BI R b.2) :
    ∃ D' : BK, F_law_joined [.ref s] h = .ok (.ref h.length) (h ++ [.dcx (D'.map eB)]) ∧ BI R D' ∧ ∀ b ∈ bs, Lo b.2 D' := by
  obtain ⟨e', H', r1, r2⟩ := for_p (w := some s) (all := bs.map fun b => AV.ref b.1) (t := .nm 2) (b := B_law_joined_2) (xs := bs.map fun b => AV.ref b.1) (en := [some (.ref s), some (.ref h.length), none, none]) (h := h ++ [.dcx []])
    (fun j en H => ∃ (o2 o3 : Option AV) (D' : BK), en = [some (.ref s), some (.ref h.length), o2, o3] ∧ H = h ++ [.dcx (D'.map eB)] ∧ BI R D' ∧ ∀ i b, i < j → bs[i]? = some b → Lo b.2 D')
    ⟨none, none, [], rfl, rfl, .nil R, fun i y hi => absurd hi (Nat.not_lt_zero _)⟩
    (fun _ _ _ ⟨_, _, D', _, eH, _⟩ => by
      have := atX es [.dcx (D'.map eB)]
      rw [eH]
      simp [liveB, this]) (by
      intro j k en H hk hp
      rw [List.getElem?_map] at hk
      obtain ⟨b, hx, rfl⟩ := Option.map_eq_some_iff.mp hk
      obtain ⟨p2, p3, D', rfl, rfl, bD, cv⟩ := hp
      obtain ⟨q3, D2, e, bD2, lo, lo2⟩ := l_join (hb b (mem_at hx)).1 (hb b (mem_at hx)).2 bD (some (.ref s)) p3
      obtain ⟨BB, hB⟩ : ∃ BB, BB = B_law_joined_2 := ⟨_, rfl⟩
      rw [← hB] at e ⊢
      show thn (BB [some (.ref s), some (.ref h.length), some (.ref b.1), p3] (h ++ [.dcx (D'.map eB)])) _
      rw [e]
      refine ⟨_, q3, D2, rfl, rfl, bD2, fun i c hi hc => ?_⟩
      by_cases z1 : i = j
      · subst z1
        rw [hx] at hc; cases hc
        exact lo2
      · exact (cv i c (by omega) hc).trans lo)
  obtain ⟨p2, p3, D', rfl, rfl, bD, cv⟩ := r2
  refine ⟨D', ?_, bD, fun b hb => ?_⟩
  · have a1 := atX es [.dcx []]
    have it : iVal (sVar 0) [some (.ref s), some (.ref h.length), none, none] (h ++ [.dcx []]) = .ok (bs.map (fun b => AV.ref b.1), some s) (h ++ [.dcx []]) := by simp [a1]
    have f1 := (for_of (t := .nm 2) (b := B_law_joined_2) it).trans r1
    have dx : ∀ en : En, sDictX en h = .ok (.ref h.length) (h ++ [.dcx []]) := fun _ => rfl
    unfold F_law_joined
    generalize sFor (iVal (sVar 0)) (.nm 2) B_law_joined_2 = F1 at *
    simp [dx, f1]
  · obtain ⟨i, hi⟩ := List.mem_iff_getElem?.mp hb
    exact cv i b (by have := (List.getElem?_eq_some_iff.mp hi).1; simpa using this) hi
end Sk

namespace Sk
open PySem PySem.Spec L2 Sm
noncomputable def Rh (i : Nat) (k : Int × Int) (v : Int) : Prop := ∃ m : Nat, (ll i ≤ 2 * m ∧ 9 * (m : Int) ≤ v ∧ k.1 + k.2 + 9 * m ≤ v + 9) ∨ (ll i ≤ 2 * m + 1 ∧ 9 * (m : Int) + k.1 ≤ v ∧ 9 * (m : Int) + k.2 ≤ v)
theorem Rh.put {i j t : Nat} {b a f e v w : Int} (h1 : Rh i (b, a) v) (h2 : Rh j (f, e) w) (q : 8 < a + f) (ht : ll t ≤ ll i + ll j) : Rh t (b, e) (v + w) := by
  obtain ⟨m, h1⟩ := h1
  obtain ⟨n, h2⟩ := h2
  dsimp only at h1 h2
  generalize ll i = x at *
  generalize ll j = y at *
  unfold Rh
  generalize ll t = z at *
  dsimp only
  rcases h1 with ⟨a1, a2, a3⟩ | ⟨a1, a2, a3⟩ <;> rcases h2 with ⟨b1, b2, b3⟩ | ⟨b1, b2, b3⟩
  · exact ⟨m + n, .inl (by omega)⟩
  · exact ⟨m + n, .inr (by omega)⟩
  · exact ⟨m + n, .inr (by omega)⟩
  · exact ⟨m + n + 1, .inl (by omega)⟩
theorem Rh.ls {i : Nat} {k : Int × Int} {v : Int} (h : Rh i k v) (hk : 1 ≤ k.1) : (ls i : Int) ≤ v := by
  obtain ⟨m, h⟩ := h
  unfold Sk.ls
  generalize ll i = x at *
  omega
noncomputable def Tg (i : Nat) (D : BK) : Prop := ∀ b : Bool, ∃ u : Int, u ≤ (sgs (ll i) b : Nat) ∧ ((((f18 b : Nat) : Int), ((las (ll i) b : Nat) : Int)), u) ∈ D
structure Bk (i : Nat) (D : BK) : Prop where
  bi : BI (Rh i) D
  tg : Tg i D
theorem Tg.lo {i : Nat} {D D' : BK} (t : Tg i D) (l : Lo D D') : Tg i D' := fun b => by
  obtain ⟨u, u1, u2⟩ := t b
  obtain ⟨w, w1, w2⟩ := l _ u u2
  exact ⟨w, Int.le_trans w1 u1, w2⟩
theorem minL_eq {ns : List Int} {m : Int} (hm : m ∈ ns) (hl : ∀ x ∈ ns, m ≤ x) : minL ns = m := by
  have key : ∀ (l : List Int) (a : Int), (∀ x ∈ l, m ≤ x) → m ≤ a → (m ∈ l ∨ a = m) → l.foldl (fun m x => if x < m then x else m) a = m := by
    intro l
    induction l with
    | nil => intro a _ _ h; rcases h with h | h
             · exact nomatch h
             · exact h
    | cons y l ih =>
      intro a h1 h2 h3
      rw [List.foldl_cons]
      have hy := h1 y (List.mem_cons_self ..)
      have hl' : ∀ x ∈ l, m ≤ x := fun x hx => h1 x (List.mem_cons_of_mem _ hx)
      by_cases q : y < a
      · rw [if_pos q]
        refine ih y hl' hy ?_
        rcases h3 with h3 | h3
        · rcases List.mem_cons.mp h3 with e | h3
          · exact .inr e.symm
          · exact .inl h3
        · omega
      · rw [if_neg q]
        refine ih a hl' h2 ?_
        rcases h3 with h3 | h3
        · rcases List.mem_cons.mp h3 with e | h3
          · exact .inr (by omega)
          · exact .inl h3
        · exact .inr h3
  cases ns with
  | nil => exact nomatch hm
  | cons a r =>
    refine key r a (fun x hx => hl x (List.mem_cons_of_mem _ hx)) (hl a (List.mem_cons_self ..)) ?_
    rcases List.mem_cons.mp hm with e | e
    · exact .inr e.symm
    · exact .inl e
theorem Bk.min {i : Nat} {D : BK} (b : Bk i D) : D.map (·.2) ≠ [] ∧ minL (D.map (·.2)) = (ls i : Nat) := by
  obtain ⟨u, u1, u2⟩ := b.tg true
  rw [sgs_ls] at u1
  have lo : ∀ x ∈ D, ((ls i : Nat) : Int) ≤ x.2 := fun x hx => (b.bi.ok x hx).2.ls (b.bi.ok x hx).1.1
  have e : u = (ls i : Nat) := Int.le_antisymm u1 (lo _ u2)
  have mm : ((ls i : Nat) : Int) ∈ D.map (·.2) := List.mem_map.mpr ⟨_, u2, e⟩
  refine ⟨fun z => (by rw [z] at mm; exact nomatch mm), minL_eq mm fun x hx => ?_⟩
  obtain ⟨y, hy, rfl⟩ := List.mem_map.mp hx
  exact lo y hy
theorem intsA_map (ns : List Int) : intsA (ns.map AV.int) = some ns := by
  induction ns with
  | nil => rfl
  | cons a r ih => rw [List.map_cons]; show (intsA (r.map AV.int)).map (a :: ·) = _; rw [ih]; rfl
theorem minV_x {h : AH} {n i : Nat} {D : BK} {sa : SE} {en : En} (b : Bk i D) (e : h[n]? = some (.dcx (D.map eB))) (ea : sa en h = .ok (.ref n) h) : sMinV sa en h = .ok (.int (ls i : Nat)) h := by
  have iv : intsA ((D.map eB).map (·.2)) = some (D.map (·.2)) := by
    have z := intsA_map (D.map (·.2))
    rw [List.map_map] at z ⊢
    exact z
  unfold sMinV
  rw [ea]
  dsimp only [Out.bind]
  rw [e]
  dsimp only
  rw [iv]
  dsimp only
  rw [if_neg b.min.1, b.min.2]
theorem put_tg {H : Nat} {D1 D2 D : BK} (t1 : Tg H D1) (t2 : Tg (H - 1) D2) (cv : ∀ x ∈ D1, ∀ y ∈ D2, 8 < x.1.2 + y.1.1 → ∃ u, u ≤ x.2 + y.2 ∧ ((x.1.1, y.1.2), u) ∈ D) : Tg (H + 1) D := fun b => by
  obtain ⟨u, u1, u2⟩ := t1 b
  obtain ⟨w, w1, w2⟩ := t2 (nxB (ll H) b)
  have cl := las_close (ll H) b
  obtain ⟨z, z1, z2⟩ := cv _ u2 _ w2 (by show (8 : Int) < ((las (ll H) b : Nat) : Int) + ((f18 (nxB (ll H) b) : Nat) : Int); omega)
  dsimp only at z1 z2
  refine ⟨z, ?_, ?_⟩
  · rw [ll_pv, sgs_add]; omega
  · rw [ll_pv, las_add]; exact z2
theorem ll_up (H : Nat) : ll (H + 1) ≤ ll H + ll H := by
  rw [ll_pv]
  have := ll_mono (Nat.sub_le H 1)
  omega
noncomputable def d0 (n : Nat) : BK := (List.range n).map fun i : Nat => (((i : Int) + 1, (i : Int) + 1), (i : Int) + 1)
theorem d0_put : ∀ n, n < 8 → putB (d0 n) ((n : Int) + 1, (n : Int) + 1) ((n : Int) + 1) = d0 (n + 1) := by decide +kernel
theorem d0_nd : ∀ n, n < 9 → ((d0 n).map (·.1)).Nodup := by decide +kernel
theorem d0_bi {n : Nat} (hn : n ≤ 8) : BI (Rh 0) (d0 n) := by
  refine ⟨d0_nd n (by omega), fun x hx => ?_⟩
  obtain ⟨i, hi, rfl⟩ := List.mem_map.mp hx
  have := List.mem_range.mp hi
  refine ⟨⟨by dsimp only; omega, by dsimp only; omega, by dsimp only; omega, by dsimp only; omega⟩, 0, .inr ⟨Nat.le_refl _, by dsimp only; omega, by dsimp only; omega⟩⟩
theorem d0_bk : Bk 0 (d0 8) := ⟨d0_bi (Nat.le_refl _), fun b => by
  cases b
  · exact ⟨8, by decide +kernel, List.mem_map.mpr ⟨7, List.mem_range.mpr (by decide), by decide +kernel⟩⟩
  · exact ⟨1, by decide +kernel, List.mem_map.mpr ⟨0, List.mem_range.mpr (by decide), by decide +kernel⟩⟩⟩
end Sk

namespace Sk
open PySem PySem.Spec L2 Sm
theorem app_x {h : AH} {n : Nat} {xs : List AV} (e : h[n]? = some (.lst xs)) (hl : xs.length < 1000) (y : AV) : mAppend (.ref n) [y] h = .ok .non (h.set n (.lst (xs ++ [y]))) := by
  have l : xs.length < sizeLine := Nat.lt_trans hl (by decide)
  simp only [mAppend, e, l, if_true]
theorem isl_x {h : AH} {n : Nat} {xs : List AV} (e : h[n]? = some (.lst xs)) : isLst (.ref n) h = true := by simp [isLst, e]
theorem ix_l {h : AH} {n : Nat} {xs : List AV} (e : h[n]? = some (.lst xs)) {i : Nat} {v : AV} (hv : xs[i]? = some v) : fIx (.ref n) (.int (i : Nat)) h = .ok v h := by
  have a : atI xs (i : Int) = some v := atI_nat hv
  simp only [fIx, e, a]
structure Fw (h : AH) (j : Nat) (bs : List (Nat × BK)) : Prop where
  l1 : h[1]? = some (.lst (bs.map fun b => AV.ref b.1))
  l2 : h[2]? = some (.lst ((List.range (j + 1)).map fun i : Nat => AV.int (ll i : Nat)))
  len : bs.length = j + 1
  bk : ∀ (i : Nat) (b : Nat × BK), bs[i]? = some b → h[b.1]? = some (.dcx (b.2.map eB)) ∧ Bk i b.2
theorem minl_x {h : AH} {n : Nat} {ns : List Int} (e : h[n]? = some (.lst (ns.map AV.int))) (ne : ns ≠ []) : fMinL [.ref n] h = .ok (.int (minL ns)) h := by
  have l : lstOf (.ref n) h = some (ns.map AV.int) := by simp [lstOf, e]
  unfold fMinL
  dsimp only
  rw [l]
  dsimp only
  rw [intsA_map]
  dsimp only
  rw [if_neg ne]
theorem tl_few {h a : AH} {H s f : Nat} {bs cs : List (Nat × BK)} {ns : List Int} (F : Fw h H bs) (hH : H < 100) (pre : ∀ (i : Nat) (o : AO), h[i]? = some o → a[i]? = some o) (es : a[s]? = some (.lst (cs.map fun b => AV.ref b.1)))
    (hb : ∀ b ∈ cs, a[b.1]? = some (.dcx (b.2.map eB)) ∧ BI (Rh (H + 1)) b.2) (ht : ∃ b ∈ cs, Tg (H + 1) b.2) (ef : a[f]? = some (.lst (ns.map AV.int))) (ne : ns ≠ []) (mn : minL ns = (ll (H + 1) : Nat)) (f2 : 2 < f) (o0 o2 o4 : Option AV) :
    ∃ (h' : AH) (bs' : List (Nat × BK)), (sSeq (sExpr (sBM isLst mAppend (sVar 1) (sCons (sAppl F_law_joined (sCons (sVar 5) sNil)) sNil)))
      (sExpr (sBM isLst mAppend (sVar 3) (sCons (sAppl fMinL (sCons (sVar 6) sNil)) sNil)))) [o0, some (.ref 1), o2, some (.ref 2), o4, some (.ref s), some (.ref f)] a = .nx [o0, some (.ref 1), o2, some (.ref 2), o4, some (.ref s), some (.ref f)] h' ∧ Fw h' (H + 1) bs' := by
  obtain ⟨D, ej, bi, lo⟩ := f_join es hb
  have a1 := pre _ _ F.l1
  have a2 := pre _ _ F.l2
  have bl := F.len
  obtain ⟨A, eA⟩ : ∃ A, A = a ++ [.dcx (D.map eB)] := ⟨_, rfl⟩
  have A1 : A[1]? = some (.lst (bs.map fun b => AV.ref b.1)) := by rw [eA]; exact atX a1 _
  have p1 := app_x A1 (by rw [List.length_map, bl]; omega) (.ref a.length)
  have n1 : 1 < A.length := lt_of A1
  obtain ⟨B, eB'⟩ : ∃ B, B = A.set 1 (.lst (bs.map (fun b => AV.ref b.1) ++ [.ref a.length])) := ⟨_, rfl⟩
  have gB : ∀ (i : Nat) (o : AO), i ≠ 1 → A[i]? = some o → B[i]? = some o := fun i o hi e => by rw [eB', List.getElem?_set_ne (Ne.symm hi)]; exact e
  have B2 : B[2]? = some (.lst ((List.range (H + 1)).map fun i : Nat => AV.int (ll i : Nat))) := gB 2 _ (by decide) (by rw [eA]; exact atX a2 _)
  have Bf : B[f]? = some (.lst (ns.map AV.int)) := gB f _ (by omega) (by rw [eA]; exact atX ef _)
  have mv := minl_x Bf ne
  rw [mn] at mv
  have p2 := app_x B2 (by simp; omega) (.int (ll (H + 1) : Nat))
  have n2 : 2 < B.length := lt_of B2
  have i1 := isl_x a1
  have i2 := isl_x B2
  rw [← eA] at ej
  rw [← eB'] at p1
  obtain ⟨C, eC⟩ : ∃ C, C = B.set 2 (.lst ((List.range (H + 1)).map (fun i : Nat => AV.int (ll i : Nat)) ++ [.int (ll (H + 1) : Nat)])) := ⟨_, rfl⟩
  rw [← eC] at p2
  refine ⟨C, bs ++ [(a.length, D)], ?_, ?_, ?_, by rw [List.length_append, bl]; rfl, fun i b e => ?_⟩
  · generalize F_law_joined = FJ at *
    simp [i1, ej, p1, i2, mv, p2, -mAppend, -isLst]
  · rw [eC, List.getElem?_set_ne (by decide), eB', List.getElem?_set_self n1, List.map_append]; rfl
  · rw [eC, List.getElem?_set_self n2, List.range_succ (n := H + 1), List.map_append]; rfl
  · have gC : ∀ (i : Nat) (o : AO), i ≠ 1 → i ≠ 2 → A[i]? = some o → C[i]? = some o := fun i o h1 h2 e => by rw [eC, List.getElem?_set_ne (Ne.symm h2)]; exact gB i o h1 e
    by_cases hi : i < bs.length
    · rw [List.getElem?_append_left hi] at e
      obtain ⟨q1, q2⟩ := F.bk i b e
      refine ⟨gC b.1 _ (fun z => ?_) (fun z => ?_) (by rw [eA]; exact atX (pre _ _ q1) _), q2⟩
      · rw [z, F.l1] at q1; cases q1
      · rw [z, F.l2] at q1; cases q1
    · have hi2 : i = bs.length := by
        have := (List.getElem?_eq_some_iff.mp e).1
        simp at this; omega
      subst hi2
      rw [List.getElem?_append_right (Nat.le_refl _), Nat.sub_self] at e
      cases e
      have l2 : 2 < a.length := lt_of a2
      rw [bl]
      obtain ⟨c, hc, tc⟩ := ht
      exact ⟨gC _ _ (fun z => by dsimp only at z; omega) (fun z => by dsimp only at z; omega) (by rw [eA]; exact atZ _ _), bi, tc.lo (lo c hc)⟩
end Sk

namespace Sk
open PySem PySem.Spec L2 Sm
theorem sub1 (H : Nat) (h : AH) : fSub (.int ((H : Int) + 1)) (.int 1) h = .ok (.int (H : Nat)) h := by
  have : (H : Int) + 1 - 1 = (H : Nat) := by omega
  simp only [fSub, this]
theorem sub2 (K : Nat) (h : AH) : fSub (.int (((K + 1 : Nat) : Int) + 1)) (.int 2) h = .ok (.int (K : Nat)) h := by
  have : ((K + 1 : Nat) : Int) + 1 - 2 = (K : Nat) := by omega
  simp only [fSub, this]
theorem mul2 (n : Int) (h : AH) : fMul (.int n) (.int 2) h = .ok (.int (n * 2)) h := by simp [fMul]
theorem t_few {h : AH} {H : Nat} {bs : List (Nat × BK)} (F : Fw h H bs) (hH : H < 50) (o0 o2 o5 o6 : Option AV) :
    ∃ (o5' o6' : Option AV) (h' : AH) (bs' : List (Nat × BK)), B_law_fewest_2 [o0, some (.ref 1), o2, some (.ref 2), some (.int ((H : Int) + 1)), o5, o6] h = .nx [o0, some (.ref 1), o2, some (.ref 2), some (.int ((H : Int) + 1)), o5', o6'] h' ∧ Fw h' (H + 1) bs' := by
  have bl := F.len
  obtain ⟨⟨n1, D1⟩, hb1⟩ : ∃ b, bs[H]? = some b := ⟨bs[H], by simp [bl]⟩
  obtain ⟨q1, k1⟩ := F.bk H _ hb1
  dsimp only at q1 k1
  have L2 : 2 < h.length := lt_of F.l2
  obtain ⟨E1, p1, bi1, cv1⟩ := f_put (R := Rh (H + 1)) q1 q1 k1.bi k1.bi fun x hx y hy q => Rh.put (k1.bi.ok x hx).2 (k1.bi.ok y hy).2 q (ll_up H)
  have x1 : ∀ a : AH, a[1]? = some (.lst (bs.map fun b => AV.ref b.1)) → fIx (.ref 1) (.int (H : Nat)) a = .ok (.ref n1) a := fun a e => ix_l e (by rw [List.getElem?_map, hb1]; rfl)
  have x2 : ∀ a : AH, a[2]? = some (.lst ((List.range (H + 1)).map fun i : Nat => AV.int (ll i : Nat))) → fIx (.ref 2) (.int (H : Nat)) a = .ok (.int (ll H : Nat)) a := fun a e => ix_l e (by simp)
  obtain ⟨A1, e1⟩ : ∃ A, A = h ++ [.dcx (E1.map eB)] := ⟨_, rfl⟩
  obtain ⟨A2, e2⟩ : ∃ A, A = A1 ++ [.lst [.ref h.length]] := ⟨_, rfl⟩
  obtain ⟨A3, e3⟩ : ∃ A, A = A2 ++ [.lst [.int ((ll H : Nat) * 2)]] := ⟨_, rfl⟩
  have s1 := sub1 H
  rw [← e1] at p1
  have S1 : (sSet 5 (sLstM (sCons (sAppl F_law_put_together (sCons (sOp2 fIx (sVar 1) (sOp2 fSub (sVar 4) (sLit (.int 1)))) (sCons (sOp2 fIx (sVar 1) (sOp2 fSub (sVar 4) (sLit (.int 1)))) sNil))) sNil))) [o0, some (.ref 1), o2, some (.ref 2), some (.int ((H : Int) + 1)), o5, o6] h = .nx [o0, some (.ref 1), o2, some (.ref 2), some (.int ((H : Int) + 1)), some (.ref A1.length), o6] A2 := by
    have := x1 h F.l1
    generalize F_law_put_together = FP at *
    simp [s1, this, p1, e2, -fIx, -fSub]
  have l1 : A1.length = h.length + 1 := by rw [e1]; simp
  have l2 : A2.length = h.length + 2 := by rw [e2, List.length_append, l1]; rfl
  have l3 : A3.length = h.length + 3 := by rw [e3, List.length_append, l2]; rfl
  have g2 : ∀ (i : Nat) (o : AO), h[i]? = some o → A2[i]? = some o := fun i o e => by rw [e2, e1]; exact atX (atX e _) _
  have g3 : ∀ (i : Nat) (o : AO), h[i]? = some o → A3[i]? = some o := fun i o e => by rw [e3]; exact atX (g2 i o e) _
  have S2 : (sSet 6 (sLstM (sCons (sOp2 fMul (sOp2 fIx (sVar 3) (sOp2 fSub (sVar 4) (sLit (.int 1)))) (sLit (.int 2))) sNil))) [o0, some (.ref 1), o2, some (.ref 2), some (.int ((H : Int) + 1)), some (.ref A1.length), o6] A2 = .nx [o0, some (.ref 1), o2, some (.ref 2), some (.int ((H : Int) + 1)), some (.ref A1.length), some (.ref A2.length)] A3 := by
    have := x2 A2 (g2 _ _ F.l2)
    have m := mul2 (ll H : Nat) A2
    simp [s1, this, m, e3, -fIx, -fSub, -fMul]
  have as : A3[A1.length]? = some (.lst [.ref h.length]) := by rw [e3, e2]; exact atX (atZ _ _) _
  have af : A3[A2.length]? = some (.lst [.int ((ll H : Nat) * 2)]) := by rw [e3]; exact atZ _ _
  have aL : A3[h.length]? = some (.dcx (E1.map eB)) := by rw [e3, e2, e1]; exact atX (atX (atZ _ _) _) _
  cases H with
  | zero =>
    have S3 : (sIf (sBool (sOp2 fGt (sVar 4) (sLit (.int 1)))) (sSeq (sExpr (sBM isLst mAppend (sVar 5) (sCons (sAppl F_law_put_together (sCons (sOp2 fIx (sVar 1) (sOp2 fSub (sVar 4) (sLit (.int 1)))) (sCons (sOp2 fIx (sVar 1) (sOp2 fSub (sVar 4) (sLit (.int 2)))) sNil))) sNil)))
    (sSeq (sExpr (sBM isLst mAppend (sVar 5) (sCons (sAppl F_law_put_together (sCons (sOp2 fIx (sVar 1) (sOp2 fSub (sVar 4) (sLit (.int 2)))) (sCons (sOp2 fIx (sVar 1) (sOp2 fSub (sVar 4) (sLit (.int 1)))) sNil))) sNil)))
    (sExpr (sBM isLst mAppend (sVar 6) (sCons (sOp2 fAdd (sOp2 fIx (sVar 3) (sOp2 fSub (sVar 4) (sLit (.int 1)))) (sOp2 fIx (sVar 3) (sOp2 fSub (sVar 4) (sLit (.int 2))))) sNil))))) sNext) [o0, some (.ref 1), o2, some (.ref 2), some (.int (((0 : Nat) : Int) + 1)), some (.ref A1.length), some (.ref A2.length)] A3 = .nx [o0, some (.ref 1), o2, some (.ref 2), some (.int (((0 : Nat) : Int) + 1)), some (.ref A1.length), some (.ref A2.length)] A3 := by
      have gt : fGt (.int (((0 : Nat) : Int) + 1)) (.int 1) A3 = .ok (.bl false) A3 := rfl
      generalize F_law_put_together = FP at *
      generalize (((0 : Nat) : Int) + 1) = X at *
      simp [gt, -fGt]
    obtain ⟨h', bs', r, Fh⟩ := tl_few (s := A1.length) (f := A2.length) (cs := [(h.length, E1)]) (ns := [((ll 0 : Nat) : Int) * 2]) F (by omega) g3 as (fun b hb => by
      have : b = (h.length, E1) := by simpa using hb
      subst this
      exact ⟨aL, bi1⟩) ⟨_, List.mem_singleton.mpr rfl, put_tg k1.tg k1.tg cv1⟩ af (by simp) rfl (by omega) o0 o2 (some (.int (((0 : Nat) : Int) + 1)))
    refine ⟨some (.ref A1.length), some (.ref A2.length), h', bs', ?_, Fh⟩
    unfold B_law_fewest_2
    show sSeq _ _ _ _ = _
    simp only [sSeq, S1, S2, S3]
    exact r
  | succ K =>
    obtain ⟨⟨n2, D2⟩, hb2⟩ : ∃ b, bs[K]? = some b := ⟨bs[K]'(by omega), by simp [bl]⟩
    obtain ⟨q2, k2⟩ := F.bk K _ hb2
    dsimp only at q2 k2
    have y1 : ∀ a : AH, a[1]? = some (.lst (bs.map fun b => AV.ref b.1)) → fIx (.ref 1) (.int (K : Nat)) a = .ok (.ref n2) a := fun a e => ix_l e (by rw [List.getElem?_map, hb2]; rfl)
    have y2 : ∀ a : AH, a[2]? = some (.lst ((List.range (K + 1 + 1)).map fun i : Nat => AV.int (ll i : Nat))) → fIx (.ref 2) (.int (K : Nat)) a = .ok (.int (ll K : Nat)) a := fun a e => ix_l e (by
      rw [List.getElem?_map, List.getElem?_range (by omega)]; rfl)
    have s2 := sub2 K
    obtain ⟨E2, p2, bi2, cv2⟩ := f_put (R := Rh (K + 1 + 1)) (g3 _ _ q1) (g3 _ _ q2) k1.bi k2.bi fun x hx y hy q => Rh.put (k1.bi.ok x hx).2 (k2.bi.ok y hy).2 q (Nat.le_of_eq (ll_pv (K + 1)))
    obtain ⟨A4, e4⟩ : ∃ A, A = A3 ++ [.dcx (E2.map eB)] := ⟨_, rfl⟩
    rw [← e4] at p2
    have a4s : A4[A1.length]? = some (.lst [.ref h.length]) := by rw [e4]; exact atX as _
    have c1 := app_x a4s (show 1 < 1000 by decide) (.ref A3.length)
    obtain ⟨A5, e5⟩ : ∃ A, A = A4.set A1.length (.lst ([.ref h.length] ++ [.ref A3.length])) := ⟨_, rfl⟩
    rw [← e5] at c1
    have l5 : A5.length = h.length + 4 := by rw [e5, List.length_set, e4, List.length_append, l3]; rfl
    have g5 : ∀ (i : Nat) (o : AO), i ≠ A1.length → A4[i]? = some o → A5[i]? = some o := fun i o hi e => by rw [e5, List.getElem?_set_ne (Ne.symm hi)]; exact e
    have g5h : ∀ (i : Nat) (o : AO), h[i]? = some o → A5[i]? = some o := fun i o e => g5 i o (by have := lt_of e; omega) (by rw [e4]; exact atX (g3 i o e) _)
    obtain ⟨E3, p3, bi3, cv3⟩ := f_put (R := Rh (K + 1 + 1)) (g5h _ _ q2) (g5h _ _ q1) k2.bi k1.bi fun x hx y hy q => Rh.put (k2.bi.ok x hx).2 (k1.bi.ok y hy).2 q (Nat.le_of_eq (by have z := ll_pv (K + 1); rw [Nat.add_sub_cancel] at z; rw [z, Nat.add_comm]))
    obtain ⟨A6, e6⟩ : ∃ A, A = A5 ++ [.dcx (E3.map eB)] := ⟨_, rfl⟩
    rw [← e6] at p3
    have a5s : A5[A1.length]? = some (.lst [.ref h.length, .ref A3.length]) := by rw [e5, List.getElem?_set_self (lt_of a4s)]; rfl
    have a6s : A6[A1.length]? = some (.lst [.ref h.length, .ref A3.length]) := by rw [e6]; exact atX a5s _
    have c2 := app_x a6s (show 2 < 1000 by decide) (.ref A5.length)
    obtain ⟨A7, e7⟩ : ∃ A, A = A6.set A1.length (.lst ([.ref h.length, .ref A3.length] ++ [.ref A5.length])) := ⟨_, rfl⟩
    rw [← e7] at c2
    have g7 : ∀ (i : Nat) (o : AO), i ≠ A1.length → A5[i]? = some o → A7[i]? = some o := fun i o hi e => by rw [e7, List.getElem?_set_ne (Ne.symm hi), e6]; exact atX e _
    have a5f : A5[A2.length]? = some (.lst [.int ((ll (K + 1) : Nat) * 2)]) := g5 _ _ (by omega) (by rw [e4]; exact atX af _)
    have a7f : A7[A2.length]? = some (.lst [.int ((ll (K + 1) : Nat) * 2)]) := g7 _ _ (by omega) a5f
    have c3 := app_x a7f (show 1 < 1000 by decide) (.int ((ll (K + 1) : Nat) + (ll K : Nat)))
    obtain ⟨A8, e8⟩ : ∃ A, A = A7.set A2.length (.lst ([.int ((ll (K + 1) : Nat) * 2)] ++ [.int ((ll (K + 1) : Nat) + (ll K : Nat))])) := ⟨_, rfl⟩
    rw [← e8] at c3
    have g8 : ∀ (i : Nat) (o : AO), i ≠ A1.length → i ≠ A2.length → A5[i]? = some o → A8[i]? = some o := fun i o hi hj e => by rw [e8, List.getElem?_set_ne (Ne.symm hj)]; exact g7 i o hi e
    have S3 : (sIf (sBool (sOp2 fGt (sVar 4) (sLit (.int 1)))) (sSeq (sExpr (sBM isLst mAppend (sVar 5) (sCons (sAppl F_law_put_together (sCons (sOp2 fIx (sVar 1) (sOp2 fSub (sVar 4) (sLit (.int 1)))) (sCons (sOp2 fIx (sVar 1) (sOp2 fSub (sVar 4) (sLit (.int 2)))) sNil))) sNil)))
    (sSeq (sExpr (sBM isLst mAppend (sVar 5) (sCons (sAppl F_law_put_together (sCons (sOp2 fIx (sVar 1) (sOp2 fSub (sVar 4) (sLit (.int 2)))) (sCons (sOp2 fIx (sVar 1) (sOp2 fSub (sVar 4) (sLit (.int 1)))) sNil))) sNil)))
    (sExpr (sBM isLst mAppend (sVar 6) (sCons (sOp2 fAdd (sOp2 fIx (sVar 3) (sOp2 fSub (sVar 4) (sLit (.int 1)))) (sOp2 fIx (sVar 3) (sOp2 fSub (sVar 4) (sLit (.int 2))))) sNil))))) sNext) [o0, some (.ref 1), o2, some (.ref 2), some (.int (((K + 1 : Nat) : Int) + 1)), some (.ref A1.length), some (.ref A2.length)] A3 = .nx [o0, some (.ref 1), o2, some (.ref 2), some (.int (((K + 1 : Nat) : Int) + 1)), some (.ref A1.length), some (.ref A2.length)] A8 := by
      have gt : fGt (.int (((K + 1 : Nat) : Int) + 1)) (.int 1) A3 = .ok (.bl true) A3 := by
        have : (1 : Int) < ((K + 1 : Nat) : Int) + 1 := by omega
        simp only [fGt, this, decide_true]
      have i3 := isl_x as
      have i5 := isl_x a5s
      have i7 := isl_x a7f
      have u1 := x1 A3 (g3 _ _ F.l1)
      have u2 := y1 A3 (g3 _ _ F.l1)
      have u3 := x1 A5 (g5h _ _ F.l1)
      have u4 := y1 A5 (g5h _ _ F.l1)
      have m7 := g7 2 _ (by omega) (g5h _ _ F.l2)
      have u5 := x2 A7 m7
      have u6 := y2 A7 m7
      have ad := add_i (ll (K + 1) : Nat) (ll K : Nat) A7
      generalize (((K + 1 : Nat) : Int) + 1) = X at *
      generalize ((K + 1 : Nat) : Int) = X1 at *
      generalize ((ll (K + 1) : Nat) : Int) = Y at *
      generalize ((ll K : Nat) : Int) = Y1 at *
      clear e1 e2 e3 e4 e5 e6 e7 e8 S1 S2
      generalize F_law_put_together = FP at *
      simp [gt, i3, s1, s2, u1, u2, p2, c1, i5, u3, u4, p3, c2, i7, u5, u6, ad, c3, -fGt, -fIx, -fSub, -fAdd, -isLst, -mAppend]
    obtain ⟨h', bs', r, Fh⟩ := tl_few (a := A8) (s := A1.length) (f := A2.length) (cs := [(h.length, E1), (A3.length, E2), (A5.length, E3)]) (ns := [((ll (K + 1) : Nat) : Int) * 2, (ll (K + 1) : Nat) + (ll K : Nat)]) F (by omega) (fun i o e => g8 i o (by have := lt_of e; omega) (by have := lt_of e; omega) (g5h i o e))
      (by rw [e8, List.getElem?_set_ne (by omega), e7, List.getElem?_set_self (lt_of a6s)]; rfl) (fun b hb => by
      have hb' : b = (h.length, E1) ∨ b = (A3.length, E2) ∨ b = (A5.length, E3) := by simpa using hb
      rcases hb' with rfl | rfl | rfl
      · exact ⟨g8 _ _ (by dsimp only; omega) (by dsimp only; omega) (g5 _ _ (by dsimp only; omega) (by rw [e4]; exact atX aL _)), bi1⟩
      · exact ⟨g8 _ _ (by dsimp only; omega) (by dsimp only; omega) (g5 _ _ (by dsimp only; omega) (by rw [e4]; exact atZ _ _)), bi2⟩
      · refine ⟨?_, bi3⟩
        dsimp only
        rw [e8, List.getElem?_set_ne (by omega), e7, List.getElem?_set_ne (by omega), e6]
        exact atZ _ _) ⟨(A3.length, E2), by simp, put_tg k1.tg k2.tg cv2⟩ (by rw [e8, List.getElem?_set_self (lt_of a7f)]; rfl) (by simp) (by
        have e := ll_pv (K + 1)
        have m := ll_mono (show K ≤ K + 1 by omega)
        rw [Nat.add_sub_cancel] at e
        refine minL_eq (by rw [e]; simp) fun x hx => ?_
        have hx' : x = ((ll (K + 1) : Nat) : Int) * 2 ∨ x = (ll (K + 1) : Nat) + (ll K : Nat) := by simpa using hx
        rw [e]
        rcases hx' with rfl | rfl <;> omega) (by omega) o0 o2 (some (.int (((K + 1 : Nat) : Int) + 1)))
    refine ⟨some (.ref A1.length), some (.ref A2.length), h', bs', ?_, Fh⟩
    unfold B_law_fewest_2
    show sSeq _ _ _ _ = _
    simp only [sSeq, S1, S2, S3]
    exact r
end Sk

namespace Sk
open PySem PySem.Spec L2 Sm
theorem rngA_map (n : Nat) : rangeA 0 n = (List.range n).map fun k : Nat => AV.int k := by
  apply List.ext_getElem?
  intro i
  rw [rangeA_at, List.getElem?_map]
  by_cases q : i < n
  · rw [if_pos q, List.getElem?_range q]; simp
  · rw [if_neg q, List.getElem?_eq_none (by simpa using q)]; rfl
theorem few_1 (o0 : Option AV) : ∃ o2, sFor (iRange2 (sLit (.int 1)) (sLit (.int 9))) (.nm 2) B_law_fewest_1 [o0, some (.ref 1), none, none, none, none, none] [.dcx [], .lst [.ref 0]] = .nx [o0, some (.ref 1), o2, none, none, none, none] [.dcx ((d0 8).map eB), .lst [.ref 0]] := by
  obtain ⟨e', H', r1, r2⟩ := for_p (w := none) (all := rangeA 1 8) (t := .nm 2) (b := B_law_fewest_1) (xs := rangeA 1 8) (en := [o0, some (.ref 1), none, none, none, none, none]) (h := [.dcx [], .lst [.ref 0]])
    (fun j en H => j ≤ 8 → ∃ o2, en = [o0, some (.ref 1), o2, none, none, none, none] ∧ H = [.dcx ((d0 j).map eB), .lst [.ref 0]]) (fun _ => ⟨none, rfl, rfl⟩) (fun _ _ _ _ => rfl) (by
      intro j x en H hx hp
      rw [rangeA_at] at hx
      by_cases q : j < 8
      · rw [if_pos q] at hx
        cases hx
        obtain ⟨o2, rfl, rfl⟩ := hp (by omega)
        have e1 : (1 : Int) + j = j + 1 := by omega
        rw [e1]
        have ix : fIx (.ref 1) (.int 0) [.dcx ((d0 j).map eB), .lst [.ref 0]] = .ok (.ref 0) [.dcx ((d0 j).map eB), .lst [.ref 0]] := rfl
        have ss := set_x (h := [.dcx ((d0 j).map eB), .lst [.ref 0]]) (n := 0) (d0_bi (n := j) (by omega)) rfl ((j : Int) + 1, (j : Int) + 1) ((j : Int) + 1) [o0, some (.ref 1), some (.int ((j : Int) + 1)), none, none, none, none]
        rw [d0_put j q] at ss
        dsimp only at ss
        have fin : ([.dcx ((d0 j).map eB), .lst [.ref 0]] : AH).set 0 (.dcx ((d0 (j + 1)).map eB)) = [.dcx ((d0 (j + 1)).map eB), .lst [.ref 0]] := rfl
        rw [fin] at ss
        have eB1 : B_law_fewest_1 [o0, some (.ref 1), some (.int ((j : Int) + 1)), none, none, none, none] [.dcx ((d0 j).map eB), .lst [.ref 0]] = .nx [o0, some (.ref 1), some (.int ((j : Int) + 1)), none, none, none, none] [.dcx ((d0 (j + 1)).map eB), .lst [.ref 0]] := by
          unfold B_law_fewest_1
          generalize ((j : Int) + 1) = J at *
          generalize ([.dcx ((d0 j).map eB), .lst [.ref 0]] : AH) = Q1 at *
          generalize ([.dcx ((d0 (j + 1)).map eB), .lst [.ref 0]] : AH) = Q2 at *
          simp [ix, ss, -fIx]
        obtain ⟨BB, hB⟩ : ∃ BB, BB = B_law_fewest_1 := ⟨_, rfl⟩
        rw [← hB] at eB1 ⊢
        show thn (BB [o0, some (.ref 1), some (.int ((j : Int) + 1)), none, none, none, none] _) _
        rw [eB1]
        exact fun _ => ⟨_, rfl, rfl⟩
      · rw [if_neg q] at hx; cases hx)
  rw [rangeA_len] at r2
  obtain ⟨o2, rfl, rfl⟩ := r2 (Nat.le_refl _)
  exact ⟨o2, (for_of (t := .nm 2) (b := B_law_fewest_1) (range2_of (a := sLit (.int 1)) (b := sLit (.int 9)) (en := [o0, some (.ref 1), none, none, none, none, none]) (h := [.dcx [], .lst [.ref 0]]) (i := 1) (j := 9) (m := 8) rfl rfl (by decide) (by decide) (by decide))).trans r1⟩
theorem fw_0 : Fw [.dcx ((d0 8).map eB), .lst [.ref 0], .lst [.int 1]] 0 [(0, d0 8)] :=
  ⟨rfl, rfl, rfl, fun i b e => by
    cases i with
    | zero => cases e; exact ⟨rfl, d0_bk⟩
    | succ i => simp at e⟩
theorem few_2 (m : Nat) (hm : m ≤ 40) (o0 o2 : Option AV) (h0 : o0 = some (.int m)) : ∃ (o4 o5 o6 : Option AV) (H : AH) (bs : List (Nat × BK)), sFor (iRange2 (sLit (.int 1)) (sOp2 fAdd (sVar 0) (sLit (.int 1)))) (.nm 4) B_law_fewest_2 [o0, some (.ref 1), o2, some (.ref 2), none, none, none] [.dcx ((d0 8).map eB), .lst [.ref 0], .lst [.int 1]] = .nx [o0, some (.ref 1), o2, some (.ref 2), o4, o5, o6] H ∧ Fw H m bs := by
  obtain ⟨h3, e3⟩ : ∃ h : AH, h = [.dcx ((d0 8).map eB), .lst [.ref 0], .lst [.int 1]] := ⟨_, rfl⟩
  have F0 := fw_0
  rw [← e3] at F0 ⊢
  obtain ⟨e', H', r1, r2⟩ := for_p (w := none) (all := rangeA 1 m) (t := .nm 4) (b := B_law_fewest_2) (xs := rangeA 1 m) (en := [o0, some (.ref 1), o2, some (.ref 2), none, none, none]) (h := h3)
    (fun j en H => j ≤ m → ∃ (o4 o5 o6 : Option AV) (bs : List (Nat × BK)), en = [o0, some (.ref 1), o2, some (.ref 2), o4, o5, o6] ∧ Fw H j bs) (fun _ => ⟨none, none, none, _, rfl, F0⟩) (fun _ _ _ _ => rfl) (by
      intro j x en H hx hp
      rw [rangeA_at] at hx
      by_cases q : j < m
      · rw [if_pos q] at hx
        cases hx
        obtain ⟨o4, o5, o6, bs, rfl, F⟩ := hp (by omega)
        have e1 : (1 : Int) + j = j + 1 := by omega
        rw [e1]
        obtain ⟨p5, p6, h', bs', e, F'⟩ := t_few F (by omega) o0 o2 o5 o6
        obtain ⟨BB, hB⟩ : ∃ BB, BB = B_law_fewest_2 := ⟨_, rfl⟩
        rw [← hB] at e ⊢
        show thn (BB [o0, some (.ref 1), o2, some (.ref 2), some (.int ((j : Int) + 1)), o5, o6] _) _
        rw [e]
        exact fun _ => ⟨_, p5, p6, bs', rfl, F'⟩
      · rw [if_neg q] at hx; cases hx)
  rw [rangeA_len] at r2
  obtain ⟨o4, o5, o6, bs, rfl, F⟩ := r2 (Nat.le_refl _)
  subst h0
  exact ⟨o4, o5, o6, H', bs, (for_of (t := .nm 4) (b := B_law_fewest_2) (range2_of (a := sLit (.int 1)) (b := sOp2 fAdd (sVar 0) (sLit (.int 1))) (en := [some (.int m), some (.ref 1), o2, some (.ref 2), none, none, none]) (h := h3) (i := 1) (j := (m : Int) + 1) (m := m) rfl rfl (by omega) (by decide) (by omega))).trans r1, F⟩
noncomputable abbrev kn (m : Nat) : AV := .fl ((List.range (m + 1)).map fun j : Nat => AV.tup [.int (ll j), .int (ls j)])
theorem few_3 {H : AH} {m : Nat} {bs : List (Nat × BK)} (hm : m ≤ 40) (F : Fw H m bs) (o2 o4 o5 o6 : Option AV) :
    sComp [3, 1] (iRange1 (sOp2 fAdd (sVar 0) (sLit (.int 1)))) sYes (sTup (sCons (sOp2 fIx (sVar 1) (sVar 0)) (sCons (sMinV (sOp2 fIx (sVar 2) (sVar 0))) sNil))) [some (.int m), some (.ref 1), o2, some (.ref 2), o4, o5, o6] H = .ok (kn m) H := by
  have it := range1_of (a := sOp2 fAdd (sVar 0) (sLit (.int 1))) (en := [some (.int m), some (.ref 1), o2, some (.ref 2), o4, o5, o6]) (h := H) (h1 := H) (n := m + 1) rfl (by omega)
  have c := comp_all (js := [3, 1]) (en := [some (.int m), some (.ref 1), o2, some (.ref 2), o4, o5, o6]) (w := none) (all := rangeA 0 (m + 1)) (e := sTup (sCons (sOp2 fIx (sVar 1) (sVar 0)) (sCons (sMinV (sOp2 fIx (sVar 2) (sVar 0))) sNil)))
    (g := fun j : Nat => AV.int j) (f := fun j : Nat => AV.tup [.int (ll j), .int (ls j)]) (h := H) rfl (List.range (m + 1)) [] (fun j hj => by
      have hj := List.mem_range.mp hj
      have bl := F.len
      obtain ⟨⟨n, D⟩, hb⟩ : ∃ b, bs[j]? = some b := ⟨bs[j]'(by omega), by simp [bl, hj]⟩
      obtain ⟨q1, k1⟩ := F.bk j _ hb
      have x1 : fIx (.ref 1) (.int (j : Nat)) H = .ok (.ref n) H := ix_l F.l1 (by rw [List.getElem?_map, hb]; rfl)
      have x2 : fIx (.ref 2) (.int (j : Nat)) H = .ok (.int (ll j : Nat)) H := ix_l F.l2 (by rw [List.getElem?_map, List.getElem?_range hj]; rfl)
      have mv := minV_x (sa := sOp2 fIx (sVar 2) (sVar 0)) (en := [some (.int (j : Nat)), some (.ref 2), some (.ref 1)]) k1 q1 (by simp [x1, -fIx])
      show sTup _ [some (.int (j : Nat)), some (.ref 2), some (.ref 1)] H = _
      generalize sMinV (sOp2 fIx (sVar 2) (sVar 0)) = MV at *
      simp [x2, mv, -fIx]) (by
      simp only [List.length_nil, List.length_range]; exact Nat.le_trans (show 0 + (m + 1) ≤ 1003 by omega) (by decide))
  rw [← rngA_map, List.nil_append] at c
  unfold sComp
  rw [it]
  dsimp only
  rw [c]
theorem f_few (m : Nat) (hm : m ≤ 40) : ∃ H, F_law_fewest [.int m] [] = .ok (kn m) H := by
  obtain ⟨o2, f1⟩ := few_1 (some (.int m))
  obtain ⟨o4, o5, o6, H, bs, f2, F⟩ := few_2 m hm (some (.int m)) o2 rfl
  have f3 := few_3 hm F o2 o4 o5 o6
  refine ⟨H, ?_⟩
  have dx : ∀ (en : En) (h : AH), sDictX en h = .ok (.ref h.length) (h ++ [.dcx []]) := fun _ _ => rfl
  unfold F_law_fewest
  generalize sFor (iRange2 (sLit (.int 1)) (sLit (.int 9))) (.nm 2) B_law_fewest_1 = G1 at *
  generalize sFor (iRange2 (sLit (.int 1)) (sOp2 fAdd (sVar 0) (sLit (.int 1)))) (.nm 4) B_law_fewest_2 = G2 at *
  generalize sComp [3, 1] (iRange1 (sOp2 fAdd (sVar 0) (sLit (.int 1)))) sYes (sTup (sCons (sOp2 fIx (sVar 1) (sVar 0)) (sCons (sMinV (sOp2 fIx (sVar 2) (sVar 0))) sNil))) = G3 at *
  simp [dx, f1, f2, f3]
end Sk

namespace Sk
open PySem PySem.Spec L2 Sm
theorem ne_pr18 (a b : Int) (h : AH) : fNe (.tup [.int a, .int b]) (.tup [.int a, .int b]) h = .ok (.bl false) h := by
  have t : toD 8 h (.tup [.int a, .int b]) = some (.tuple [.int a, .int b]) := rfl
  have e : eqA (.tup [.int a, .int b]) (.tup [.int a, .int b]) h = some true := by
    show (match toD 8 h (.tup [.int a, .int b]), toD 8 h (.tup [.int a, .int b]) with | some d, some e => some (PyData.eqv d e) | _, _ => none) = _
    rw [t]
    show some (PyData.eqv (.tuple _) (.tuple _)) = some true
    simp [PyData.eqv, PyData.eqvAll]
  show (match eqA (.tup [.int a, .int b]) (.tup [.int a, .int b]) h with | some b => Out.ok (AV.bl !b) h | none => Out.bad) = _
  rw [e]; rfl
theorem maxL_in {ns : List Int} (hl : ∀ x ∈ ns, 0 ≤ x ∧ x ≤ 6) (ne : ns ≠ []) : 0 ≤ maxL ns ∧ maxL ns ≤ 6 := by
  have key : ∀ (l : List Int) (a : Int), (∀ x ∈ l, 0 ≤ x ∧ x ≤ 6) → 0 ≤ a ∧ a ≤ 6 → 0 ≤ l.foldl (fun m x => if x > m then x else m) a ∧ l.foldl (fun m x => if x > m then x else m) a ≤ 6 := by
    intro l
    induction l with
    | nil => intro a _ h; exact h
    | cons y l ih =>
      intro a h1 h2
      rw [List.foldl_cons]
      have hl' : ∀ x ∈ l, 0 ≤ x ∧ x ≤ 6 := fun x hx => h1 x (List.mem_cons_of_mem _ hx)
      by_cases q : y > a
      · rw [if_pos q]; exact ih y hl' (h1 y (List.mem_cons_self ..))
      · rw [if_neg q]; exact ih a hl' h2
  cases ns with
  | nil => exact absurd rfl ne
  | cons a r => exact key r a (fun x hx => hl x (List.mem_cons_of_mem _ hx)) (hl a (List.mem_cons_self ..))
theorem most_18 (ns : List Int) (hl : ns.length ≤ 63) (o1 o2 o3 o4 o5 : Option AV) : ∃ m : Nat, m ≤ 6 ∧ sMaxD (sComp [] (iVal (sVar 0)) sYes (sOp2 fMod (sVar 0) (sLit (.int 7)))) (sLit (.int 3)) [some (.fl (ns.map AV.int)), o1, o2, o3, o4, o5] [] = .ok (.int m) [] := by
  have c := comp_all (js := []) (en := [some (.fl (ns.map AV.int)), o1, o2, o3, o4, o5]) (w := none) (all := ns.map AV.int) (e := sOp2 fMod (sVar 0) (sLit (.int 7))) (g := AV.int) (f := fun i => AV.int (i % 7)) (h := []) rfl ns [] (fun j _ => by simp) (by
      simp only [List.length_nil]; exact Nat.le_trans (show 0 + ns.length ≤ 63 by omega) (by decide))
  rw [List.nil_append] at c
  have cc : sComp [] (iVal (sVar 0)) sYes (sOp2 fMod (sVar 0) (sLit (.int 7))) [some (.fl (ns.map AV.int)), o1, o2, o3, o4, o5] [] = .ok (.fl ((ns.map (· % 7)).map AV.int)) [] := by
    have it : iVal (sVar 0) [some (.fl (ns.map AV.int)), o1, o2, o3, o4, o5] [] = .ok (ns.map AV.int, none) [] := by simp
    unfold sComp
    rw [it]
    dsimp only
    rw [c, List.map_map]; rfl
  have iv := intsA_map (ns.map (· % 7))
  obtain ⟨ms, ems⟩ : ∃ ms, ms = ns.map (· % 7) := ⟨_, rfl⟩
  rw [← ems] at cc iv
  have all : ∀ x ∈ ms, 0 ≤ x ∧ x ≤ 6 := fun x hx => by
    rw [ems] at hx
    obtain ⟨y, _, rfl⟩ := List.mem_map.mp hx
    have h0 := Int.emod_nonneg y (show (7 : Int) ≠ 0 by decide)
    have h1 := Int.emod_lt_of_pos y (show (0 : Int) < 7 by decide)
    omega
  have ev : sMaxD (sComp [] (iVal (sVar 0)) sYes (sOp2 fMod (sVar 0) (sLit (.int 7)))) (sLit (.int 3)) [some (.fl (ns.map AV.int)), o1, o2, o3, o4, o5] [] = .ok (if ms = [] then .int 3 else .int (maxL ms)) [] := by
    unfold sMaxD
    rw [cc]
    dsimp only [Out.bind, sLit, lstOf]
    rw [iv]
  by_cases z : ms = []
  · rw [if_pos z] at ev; exact ⟨3, by decide, ev⟩
  · rw [if_neg z] at ev
    obtain ⟨b1, b2⟩ := maxL_in all z
    refine ⟨(maxL ms).toNat, by omega, ?_⟩
    rw [ev, Int.toNat_of_nonneg b1]
theorem lean_two {h : AH} {p H n : Nat} {ps : List Pc} (S : ShelfAt h p ps) (g : Good ps) (t : LN ps H true n) : F_Shelf_signs [.ref p, .int n] h = .ok (.int (ls H)) h ∧ F_Shelf_leaves [.ref p, .int n] h = .ok (.int (ll H)) h := by
  obtain ⟨m, x, f, l, T⟩ := LN.tx g (H + 1) H (by omega) t
  have s := f_signs S T.tx.ms
  have v := f_leaves S T.tx.ms
  rw [T.sg, sgs_ls] at s
  rw [T.lv] at v
  exact ⟨s, v⟩
theorem turn18 {h : AH} {p m j : Nat} {ps : List Pc} (S : ShelfAt h p ps) (g : Good ps) (hz : ps.length < 13000000) (hj : j ≤ m) (hm : m ≤ 6) (o0 o1 o5 : Option AV) :
    ∃ (o5' : Option AV) (ps' : List Pc) (h' : AH), B_law_1 [o0, o1, some (kn m), some (.ref p), some (.int (j : Nat)), o5] h = .nx [o0, o1, some (kn m), some (.ref p), some (.int (j : Nat)), o5'] h' ∧ ShelfAt h' p ps' ∧ Good ps' ∧ ps'.length ≤ ps.length + 600 := by
  obtain ⟨n, ps', h', e, S', g', _, l', t', _⟩ := f_leanest S g (show j ≤ 82 by omega) (by omega)
  obtain ⟨s1, v1⟩ := lean_two S' g' t'
  have a1 := least_leaves_eq j (by omega) h
  have a2 := least_signs_eq j (by omega) h
  have k1 : fIx (kn m) (.int (j : Nat)) h = .ok (.tup [.int (ll j), .int (ls j)]) h := known_at (n := j) (m := m + 1) (by omega) h
  have k2 : fIx (kn m) (.int (j : Nat)) h' = .ok (.tup [.int (ll j), .int (ls j)]) h' := known_at (n := j) (m := m + 1) (by omega) h'
  have ne1 := ne_pr18 (ll j) (ls j) h
  have ne2 := ne_pr18 (ll j) (ls j) h'
  have ob := S'.ob
  refine ⟨some (.int n), ps', h', ?_, S', g', l'⟩
  unfold B_law_1
  generalize kn m = KN at *
  generalize ((ll j : Nat) : Int) = Y1 at *
  generalize ((ls j : Nat) : Int) = Y2 at *
  generalize F_leanest = G1 at *
  generalize F_least_leaves = G2 at *
  generalize F_least_signs = G3 at *
  generalize F_Shelf_leaves = G4 at *
  generalize F_Shelf_signs = G5 at *
  simp [a1, a2, k1, ne1, e, ob, v1, s1, k2, ne2, -fIx, -fNe]
theorem law_true (ns : List Int) (hl : ns.length ≤ 63) : ∃ h', F_law [.fl (ns.map AV.int)] [] = .ok (.bl true) h' := by
  obtain ⟨m, hm, f1⟩ := most_18 ns hl none none none none none
  obtain ⟨H, f2⟩ := f_few m (by omega)
  have mk := f_make [some (.fl (ns.map AV.int)), some (.int m), some (kn m), none, none, none] H
  have S0 : ShelfAt (H ++ shNew H.length) H.length [] := by have := new_at H []; simpa using this
  obtain ⟨sc, esc⟩ : ∃ sc : Option AV, sc = some (.fl (ns.map AV.int)) := ⟨_, rfl⟩
  obtain ⟨e', H2, r1, r2⟩ := for_p (w := none) (all := rangeA 0 (m + 1)) (t := .nm 4) (b := B_law_1) (xs := rangeA 0 (m + 1)) (en := [sc, some (.int m), some (kn m), some (.ref H.length), none, none]) (h := H ++ shNew H.length)
    (fun i en h' => i ≤ m + 1 → ∃ (o4 o5 : Option AV) (ps : List Pc), en = [sc, some (.int m), some (kn m), some (.ref H.length), o4, o5] ∧ ShelfAt h' H.length ps ∧ Good ps ∧ ps.length ≤ 600 * i)
    (fun _ => ⟨none, none, [], rfl, S0, .nil, Nat.zero_le _⟩) (fun _ _ _ _ => rfl) (by
      intro j x en h' hx hp
      rw [rangeA_at] at hx
      by_cases q : j < m + 1
      · rw [if_pos q, Int.zero_add] at hx
        cases hx
        obtain ⟨o4, o5, ps, rfl, S, g, lp⟩ := hp (by omega)
        obtain ⟨p5, ps2, h2, e, S2, g2, lp2⟩ := turn18 (m := m) S g (by omega) (show j ≤ m by omega) hm sc (some (.int m)) o5
        obtain ⟨BB, hB⟩ : ∃ BB, BB = B_law_1 := ⟨_, rfl⟩
        rw [← hB] at e ⊢
        show thn (BB [sc, some (.int m), some (kn m), some (.ref H.length), some (.int (j : Nat)), o5] h') _
        rw [e]
        exact fun _ => ⟨_, p5, ps2, rfl, S2, g2, by omega⟩
      · rw [if_neg q] at hx; cases hx)
  rw [rangeA_len] at r2
  obtain ⟨o4, o5, ps, rfl, S2, g2, lp⟩ := r2 (Nat.le_refl _)
  subst esc
  have f3 := (for_of (t := .nm 4) (b := B_law_1) (range1_of (a := sOp2 fAdd (sVar 1) (sLit (.int 1))) (en := [some (.fl (ns.map AV.int)), some (.int m), some (kn m), some (.ref H.length), none, none]) (h := H ++ shNew H.length) (h1 := H ++ shNew H.length) (n := m + 1) rfl (by omega))).trans r1
  refine ⟨H2, ?_⟩
  generalize hmk : sMake 0 8 F_Shelf_init sNil = MK at mk
  generalize hF3 : sFor (iRange1 (sOp2 fAdd (sVar 1) (sLit (.int 1)))) (.nm 4) B_law_1 = G3 at f3
  generalize hM : sMaxD (sComp [] (iVal (sVar 0)) sYes (sOp2 fMod (sVar 0) (sLit (.int 7)))) (sLit (.int 3)) = G1 at f1
  unfold F_law
  rw [hmk, hF3, hM]
  clear r1 S0 S2
  generalize kn m = KN at *
  generalize F_law_fewest = G2 at *
  simp [f1, f2, mk, f3]
end Sk

namespace Sk
open PySem PySem.Spec L2 Sm
noncomputable def top (i : Nat) : Stmt := PySem.Challenge.pw_skeinwood_k18_whole_least_of_all_shapes.main.body.getD i (.Pass ⟨0, 0, 0, 0⟩)
noncomputable abbrev s_law_put_together : Stmt := top 26
noncomputable abbrev s_law_joined : Stmt := top 27
noncomputable abbrev s_law_fewest : Stmt := top 28
noncomputable abbrev s_Shelf_init : Stmt := inClass (top 17) 0
noncomputable abbrev s_is_plain_sign : Stmt := top 12
noncomputable abbrev s_is_plain : Stmt := top 11
noncomputable abbrev s_is_short : Stmt := top 13
noncomputable abbrev s_Shelf_lay : Stmt := inClass (top 17) 17
noncomputable abbrev s_ends_in : Stmt := top 14
noncomputable abbrev s_Shelf_lay_leaf : Stmt := inClass (top 17) 15
noncomputable abbrev s_Shelf_leaf : Stmt := inClass (top 17) 1
noncomputable abbrev s_is_whole : Stmt := top 10
noncomputable abbrev s_Shelf_has_piece : Stmt := inClass (top 17) 11
noncomputable abbrev s_Shelf_check_piece : Stmt := inClass (top 17) 12
noncomputable abbrev s_Shelf_check_fork : Stmt := inClass (top 17) 14
noncomputable abbrev s_Shelf_lay_fork : Stmt := inClass (top 17) 16
noncomputable abbrev s_Shelf_fork : Stmt := inClass (top 17) 2
noncomputable abbrev s_Shelf_check_text : Stmt := inClass (top 17) 13
noncomputable abbrev s_Shelf_leaves : Stmt := inClass (top 17) 7
noncomputable abbrev s_lean_text : Stmt := top 24
noncomputable abbrev s_least_leaves : Stmt := top 21
noncomputable abbrev s_least_signs : Stmt := top 22
noncomputable abbrev s_leanest : Stmt := top 23
noncomputable abbrev s_Shelf_signs : Stmt := inClass (top 17) 5
noncomputable abbrev s_law : Stmt := top 29
noncomputable def flds : Nat → List Str
  | 0 => ["pieces", "numbers", "sign_counts", "end_counts", "leaf_counts", "heights", "first_leaves", "last_leaves"]
  | _ => []
theorem flds_nd : ∀ c, (flds c).Nodup
  | 0 => by decide +kernel
  | _ + 1 => List.nodup_nil
theorem flds_few : ∀ c, (flds c).length ≤ 500
  | 0 => by decide +kernel
  | _ + 1 => Nat.zero_le _
noncomputable abbrev mkT (K : PySem.W.Frag) (cls exc : Nat → Option Addr) : Tb := ⟨K, cls, exc, flds, flds_nd, flds_few⟩
structure Facts (P : Program) (w : World) (K : PySem.W.Frag) (cls exc : Nat → Option Addr) (mg : Str → Option Value) (base : Heap) : Prop where
  b_abs : mg "abs" = none
  b_all : mg "all" = none
  b_bool : mg "bool" = none
  b_int : mg "int" = none
  b_isinstance : mg "isinstance" = none
  b_len : mg "len" = none
  b_max : mg "max" = none
  b_min : mg "min" = none
  b_range : mg "range" = none
  b_str : mg "str" = none
  c_LEAF_SIGNS : ∃ t, mg "LEAF_SIGNS" = some (.int 8 t)
  c_MOST_SIGNS : ∃ t, mg "MOST_SIGNS" = some (.int 1000000000000000000 t)
  c_SMALL_LEAF : ∃ t, mg "SMALL_LEAF" = some (.str "a" t)
  c_FULL_LEAF : ∃ t, mg "FULL_LEAF" = some (.str "bbbbbbbb" t)
  cf_Shelf : CF (mkT K cls exc) 0
  x_NoText : GX (mkT K cls exc) mg base 1 "NoText"
  x_NoPiece : GX (mkT K cls exc) mg base 2 "NoPiece"
  x_Loose : GX (mkT K cls exc) mg base 3 "Loose"
  x_Unlevel : GX (mkT K cls exc) mg base 4 "Unlevel"
  x_TooLong : GX (mkT K cls exc) mg base 5 "TooLong"
  d_law_put_together : DG K mg "_law_put_together" s_law_put_together ["one", "other"]
  d_law_joined : DG K mg "_law_joined" s_law_joined ["some"]
  d_law_fewest : DG K mg "_law_fewest" s_law_fewest ["most"]
  d_Shelf_init : DI K cls mg 0 "Shelf" "Shelf.__init__" s_Shelf_init ["self"]
  d_is_plain_sign : DG K mg "is_plain_sign" s_is_plain_sign ["sign"]
  d_is_plain : DG K mg "is_plain" s_is_plain ["thing"]
  d_is_short : DG K mg "is_short" s_is_short ["thing"]
  d_Shelf_lay : DMm K cls 0 "lay" "Shelf.lay" s_Shelf_lay ["self", "made"]
  d_ends_in : DG K mg "ends_in" s_ends_in ["plain"]
  d_Shelf_lay_leaf : DMm K cls 0 "lay_leaf" "Shelf.lay_leaf" s_Shelf_lay_leaf ["self", "made"]
  d_Shelf_leaf : DMm K cls 0 "leaf" "Shelf.leaf" s_Shelf_leaf ["self", "plain"]
  d_is_whole : DG K mg "is_whole" s_is_whole ["thing"]
  d_Shelf_has_piece : DMm K cls 0 "has_piece" "Shelf.has_piece" s_Shelf_has_piece ["self", "number"]
  d_Shelf_check_piece : DMm K cls 0 "check_piece" "Shelf.check_piece" s_Shelf_check_piece ["self", "number"]
  d_Shelf_check_fork : DMm K cls 0 "check_fork" "Shelf.check_fork" s_Shelf_check_fork ["self", "one", "other"]
  d_Shelf_lay_fork : DMm K cls 0 "lay_fork" "Shelf.lay_fork" s_Shelf_lay_fork ["self", "made"]
  d_Shelf_fork : DMm K cls 0 "fork" "Shelf.fork" s_Shelf_fork ["self", "one", "other"]
  d_Shelf_check_text : DMm K cls 0 "check_text" "Shelf.check_text" s_Shelf_check_text ["self", "text"]
  d_Shelf_leaves : DMm K cls 0 "leaves" "Shelf.leaves" s_Shelf_leaves ["self", "text"]
  d_lean_text : DG K mg "lean_text" s_lean_text ["shelf", "height", "small_first", "made"]
  d_least_leaves : DG K mg "least_leaves" s_least_leaves ["height"]
  d_least_signs : DG K mg "least_signs" s_least_signs ["height"]
  d_leanest : DG K mg "leanest" s_leanest ["shelf", "height"]
  d_Shelf_signs : DMm K cls 0 "signs" "Shelf.signs" s_Shelf_signs ["self", "text"]
  d_law : DG K mg "law" s_law ["script"]
theorem sc_law_put_together : FnScope ["one", "other", "found", "begin", "amid", "further", "end", "signs"] ["one", "other"] (defScope s_law_put_together) := fsk
theorem sc_law_joined : FnScope ["some", "found", "book", "ends"] ["some"] (defScope s_law_joined) := fsk
theorem sc_law_fewest : FnScope ["most", "books", "many", "leaves", "height", "some", "few"] ["most"] (defScope s_law_fewest) := fsk
theorem sc_Shelf_init : FnScope ["self"] ["self"] (defScope s_Shelf_init) := fsk
theorem sc_is_plain_sign : FnScope ["sign"] ["sign"] (defScope s_is_plain_sign) := fsk
theorem sc_is_plain : FnScope ["thing"] ["thing"] (defScope s_is_plain) := fsk
theorem sc_is_short : FnScope ["thing"] ["thing"] (defScope s_is_short) := fsk
theorem sc_Shelf_lay : FnScope ["self", "made", "number"] ["self", "made"] (defScope s_Shelf_lay) := fsk
theorem sc_ends_in : FnScope ["plain"] ["plain"] (defScope s_ends_in) := fsk
theorem sc_Shelf_lay_leaf : FnScope ["self", "made", "number", "plain"] ["self", "made"] (defScope s_Shelf_lay_leaf) := fsk
theorem sc_Shelf_leaf : FnScope ["self", "plain", "made"] ["self", "plain"] (defScope s_Shelf_leaf) := fsk
theorem sc_is_whole : FnScope ["thing"] ["thing"] (defScope s_is_whole) := fsk
theorem sc_Shelf_has_piece : FnScope ["self", "number"] ["self", "number"] (defScope s_Shelf_has_piece) := fsk
theorem sc_Shelf_check_piece : FnScope ["self", "number"] ["self", "number"] (defScope s_Shelf_check_piece) := fsk
theorem sc_Shelf_check_fork : FnScope ["self", "one", "other", "seam"] ["self", "one", "other"] (defScope s_Shelf_check_fork) := fsk
theorem sc_Shelf_lay_fork : FnScope ["self", "made", "one", "other"] ["self", "made"] (defScope s_Shelf_lay_fork) := fsk
theorem sc_Shelf_fork : FnScope ["self", "one", "other", "made"] ["self", "one", "other"] (defScope s_Shelf_fork) := fsk
theorem sc_Shelf_check_text : FnScope ["self", "text"] ["self", "text"] (defScope s_Shelf_check_text) := fsk
theorem sc_Shelf_leaves : FnScope ["self", "text"] ["self", "text"] (defScope s_Shelf_leaves) := fsk
theorem sc_lean_text : FnScope ["shelf", "height", "small_first", "made", "wanted", "one", "in_pairs", "other"] ["shelf", "height", "small_first", "made"] (defScope s_lean_text) := fsk
theorem sc_least_leaves : FnScope ["height", "leaves", "higher", "step", "both"] ["height"] (defScope s_least_leaves) := fsk
theorem sc_least_signs : FnScope ["height", "leaves"] ["height"] (defScope s_least_signs) := fsk
theorem sc_leanest : FnScope ["shelf", "height"] ["shelf", "height"] (defScope s_leanest) := fsk
theorem sc_Shelf_signs : FnScope ["self", "text"] ["self", "text"] (defScope s_Shelf_signs) := fsk
theorem sc_law : FnScope ["script", "most", "known", "shelf", "height", "number"] ["script"] (defScope s_law) := fsk
section
variable {P : Program} {w : World} {K : PySem.W.Frag} {cls exc : Nat → Option Addr} {mg : Str → Option Value} {base : Heap} (Z : Facts P w K cls exc mg base)
include Z
theorem P_law_put_together : GF P w (mkT K cls exc) mg base 1 "_law_put_together" F_law_put_together := gf Z.d_law_put_together sc_law_put_together fun hr C hu nd =>
  (rs_cons (r_set (i := 2) nd r_dictX)
    (rs_cons (r_forD rfl (r_var 0) (rg_tup rfl rfl (rgs_cons (i := 3) nd (rgs_cons (i := 4) nd rgs_nil))) (rs_one (r_forD rfl (r_var 1) (rg_tup rfl rfl (rgs_cons (i := 5) nd (rgs_cons (i := 6) nd rgs_nil))) (rs_one (r_if (rt_cmp o_gt (r_bin (o_add rfl) (r_var 4) (r_var 5)) r_int (nomark _)) (rs_cons (r_set (i := 7) nd (r_bin (o_add rfl) (r_ixX hu (r_var 0) (r_tup (ra_cons (r_var 3) (ra_cons (r_var 4) ra_nil)))) (r_ixX hu (r_var 1) (r_tup (ra_cons (r_var 5) (ra_cons (r_var 6) ra_nil))))))
    (rs_one (r_setIxX hu (r_var 2) (r_tup (ra_cons (r_var 3) (ra_cons (r_var 6) ra_nil))) (r_bi (b_min2) rfl Z.b_min PyProof.Rows.boot_min (ra_cons (r_var 7) (ra_cons (r_getX hu (r_var 2) (r_tup (ra_cons (r_var 3) (ra_cons (r_var 6) ra_nil))) (r_var 7)) ra_nil)))))) rs_nil)))))
    (rs_one (r_ret (r_var 2)))))
theorem P_law_joined : GF P w (mkT K cls exc) mg base 1 "_law_joined" F_law_joined := gf Z.d_law_joined sc_law_joined fun hr C hu nd =>
  (rs_cons (r_set (i := 1) nd r_dictX)
    (rs_cons (r_for rfl (ri_val (E := EN) rfl (r_var 0)) (rg_name (i := 2) nd) (rs_one (r_forD rfl (r_var 2) (rg_name (i := 3) nd) (rs_one (r_setIxX hu (r_var 1) (r_var 3) (r_bi (b_min2) rfl Z.b_min PyProof.Rows.boot_min (ra_cons (r_ixX hu (r_var 2) (r_var 3)) (ra_cons (r_getX hu (r_var 1) (r_var 3) (r_ixX hu (r_var 2) (r_var 3))) ra_nil))))))))
    (rs_one (r_ret (r_var 1)))))
theorem P_law_fewest : GF P w (mkT K cls exc) mg base 2 "_law_fewest" F_law_fewest := gf Z.d_law_fewest sc_law_fewest fun {f cdv A outer s H E} hr C hu nd =>
  (rs_cons (r_set (i := 1) nd (r_lstM (ra_cons r_dictX ra_nil)))
    (rs_cons (r_for rfl (ri_range2 (E := EN) rfl Z.b_range r_int r_int) (rg_name (i := 2) nd) (rs_one (r_setIxX hu (r_ix rfl hu (r_var 1) r_int) (r_tup (ra_cons (r_var 2) (ra_cons (r_var 2) ra_nil))) (r_var 2))))
    (rs_cons (r_set (i := 3) nd (r_lstM (ra_cons r_int ra_nil)))
    (rs_cons (r_for rfl (ri_range2 (E := EN) rfl Z.b_range r_int (r_bin (o_add rfl) (r_var 0) r_int)) (rg_name (i := 4) nd) (rs_cons (r_set (i := 5) nd (r_lstM (ra_cons (r_call rfl (C.nox) (P_law_put_together Z) hr.m rfl (ra_cons (r_ix rfl hu (r_var 1) (r_bin o_sub (r_var 4) r_int)) (ra_cons (r_ix rfl hu (r_var 1) (r_bin o_sub (r_var 4) r_int)) ra_nil))) ra_nil)))
    (rs_cons (r_set (i := 6) nd (r_lstM (ra_cons (r_bin o_mul (r_ix rfl hu (r_var 3) (r_bin o_sub (r_var 4) r_int)) r_int) ra_nil)))
    (rs_cons (r_if (rt_cmp o_gt (r_var 4) r_int (nomark _)) (rs_cons (r_expr (r_bm rfl PySem.F.plainAttrs_list PySem.F.slot_list_append PySem.F.type_list_append (m_append) chk_lst (r_var 5) (ra_cons (r_call rfl (C.nox) (P_law_put_together Z) hr.m rfl (ra_cons (r_ix rfl hu (r_var 1) (r_bin o_sub (r_var 4) r_int)) (ra_cons (r_ix rfl hu (r_var 1) (r_bin o_sub (r_var 4) r_int)) ra_nil))) ra_nil)))
    (rs_cons (r_expr (r_bm rfl PySem.F.plainAttrs_list PySem.F.slot_list_append PySem.F.type_list_append (m_append) chk_lst (r_var 5) (ra_cons (r_call rfl (C.nox) (P_law_put_together Z) hr.m rfl (ra_cons (r_ix rfl hu (r_var 1) (r_bin o_sub (r_var 4) r_int)) (ra_cons (r_ix rfl hu (r_var 1) (r_bin o_sub (r_var 4) r_int)) ra_nil))) ra_nil)))
    (rs_one (r_expr (r_bm rfl PySem.F.plainAttrs_list PySem.F.slot_list_append PySem.F.type_list_append (m_append) chk_lst (r_var 6) (ra_cons (r_bin (o_add rfl) (r_ix rfl hu (r_var 3) (r_bin o_sub (r_var 4) r_int)) (r_ix rfl hu (r_var 3) (r_bin o_sub (r_var 4) r_int))) ra_nil)))))) rs_nil)
    (rs_cons (r_expr (r_bm rfl PySem.F.plainAttrs_list PySem.F.slot_list_append PySem.F.type_list_append (m_append) chk_lst (r_var 1) (ra_cons (r_call rfl (C.nox) (P_law_joined Z) hr.m rfl (ra_cons (r_var 5) ra_nil)) ra_nil)))
    (rs_one (r_expr (r_bm rfl PySem.F.plainAttrs_list PySem.F.slot_list_append PySem.F.type_list_append (m_append) chk_lst (r_var 3) (ra_cons (r_bi (b_minL rfl) rfl Z.b_min PyProof.Rows.boot_min (ra_cons (r_var 6) ra_nil)) ra_nil)))))))))
    (rs_one (r_ret (r_comp (jf := [(3, "leaves"), (1, "books")]) (compOk_of (N := ["most", "books", "many", "leaves", "height", "some", "few"]) (sc := defScope s_law_fewest) rfl (fun _ => rfl) (by decide +kernel)) rfl (ri_range1 (E := (fun _ => E)) rfl Z.b_range (r_bin (o_add rfl) (r_var 0) r_int)) (fun _ _ _ _ _ => rts_nil) (fun _ _ _ _ _ => (r_tup (ra_cons (r_ix rfl hu (r_var 1) (r_var 0)) (ra_cons (r_minV rfl rfl Z.b_min (r_ix rfl hu (r_var 2) (r_var 0))) ra_nil)))))))))))
theorem P_Shelf_init : GK P w (mkT K cls exc) mg base 1 0 "Shelf" F_Shelf_init := gk Z.d_Shelf_init sc_Shelf_init fun hr C hu nd =>
  (rs_cons (r_setFld rfl Z.cf_Shelf (r_var 0) (r_lstM ra_nil))
    (rs_cons (r_setFld rfl Z.cf_Shelf (r_var 0) r_dictT)
    (rs_cons (r_setFld rfl Z.cf_Shelf (r_var 0) (r_lstM (ra_cons r_int ra_nil)))
    (rs_cons (r_setFld rfl Z.cf_Shelf (r_var 0) (r_lstM (ra_cons r_int ra_nil)))
    (rs_cons (r_setFld rfl Z.cf_Shelf (r_var 0) (r_lstM (ra_cons r_int ra_nil)))
    (rs_cons (r_setFld rfl Z.cf_Shelf (r_var 0) (r_lstM (ra_cons (r_neg r_int) ra_nil)))
    (rs_cons (r_setFld rfl Z.cf_Shelf (r_var 0) (r_lstM (ra_cons r_int ra_nil)))
    (rs_one (r_setFld rfl Z.cf_Shelf (r_var 0) (r_lstM (ra_cons r_int ra_nil)))))))))))
theorem P_is_plain_sign : GF P w (mkT K cls exc) mg base 1 "is_plain_sign" F_is_plain_sign := gf Z.d_is_plain_sign sc_is_plain_sign fun hr C hu nd =>
  (rs_one (r_ret (r_or (r_cmp (o_eq rfl hu) (r_var 0) r_str (nomark _)) (r_one (r_chain o_le o_le r_str (r_var 0) r_str)))))
theorem P_is_plain : GF P w (mkT K cls exc) mg base 2 "is_plain" F_is_plain := gf Z.d_is_plain sc_is_plain fun {f cdv A outer s H E} hr C hu nd =>
  (rs_cons (r_if (rt_not (rt_truth rfl (r_isB rfl rfl Z.b_isinstance (r_var 0) rfl Z.b_str bt_str (by decide)))) (rs_one (r_ret r_bl)) rs_nil)
    (rs_one (r_ret (r_bi (b_all rfl) rfl Z.b_all PyProof.Rows.boot_all (ra_cons (r_comp (jf := []) (compOk_of (N := ["thing"]) (sc := defScope s_is_plain) rfl (fun _ => rfl) (by decide +kernel)) rfl (ri_val (E := (fun _ => E)) rfl (r_var 0)) (fun _ _ _ _ _ => rts_nil) (fun _ _ _ _ _ => (r_call rfl (CA.never rfl) (P_is_plain_sign Z) hr.m rfl (ra_cons (r_var 0) ra_nil)))) ra_nil)))))
theorem P_is_short : GF P w (mkT K cls exc) mg base 3 "is_short" F_is_short := gf Z.d_is_short sc_is_short fun hr C hu nd =>
  (rs_one (r_ret (r_and (r_call rfl C (P_is_plain Z) hr.m rfl (ra_cons (r_var 0) ra_nil)) (r_one (r_chain o_le o_le r_int (r_bi (b_len rfl) rfl Z.b_len PySem.boot_len (ra_cons (r_var 0) ra_nil)) (r_gI rfl Z.c_LEAF_SIGNS))))))
theorem P_Shelf_lay : GM P w (mkT K cls exc) mg base 1 0 "lay" F_Shelf_lay := gm Z.d_Shelf_lay sc_Shelf_lay (show ("lay" : Str) ∉ flds 0 by decide +kernel) fun hr C hu nd =>
  (rs_cons (r_expr (r_bm rfl PySem.F.plainAttrs_list PySem.F.slot_list_append PySem.F.type_list_append (m_append) chk_lst (r_fld rfl Z.cf_Shelf (r_var 0)) (ra_cons (r_var 1) ra_nil)))
    (rs_cons (r_set (i := 2) nd (r_bi (b_len rfl) rfl Z.b_len PySem.boot_len (ra_cons (r_fld rfl Z.cf_Shelf (r_var 0)) ra_nil)))
    (rs_cons (r_setIx hu (r_fld rfl Z.cf_Shelf (r_var 0)) (r_var 1) (r_var 2))
    (rs_one (r_ret (r_var 2))))))
theorem P_ends_in : GF P w (mkT K cls exc) mg base 1 "ends_in" F_ends_in := gf Z.d_ends_in sc_ends_in fun hr C hu nd =>
  (rs_one (r_ret (r_bm rfl PySem.F.plainAttrs_str PySem.F.slot_str_count PySem.F.type_str_count (m_countS) chk_str (r_var 0) (ra_cons r_str ra_nil))))
theorem P_Shelf_lay_leaf : GM P w (mkT K cls exc) mg base 2 0 "lay_leaf" F_Shelf_lay_leaf := gm Z.d_Shelf_lay_leaf sc_Shelf_lay_leaf (show ("lay_leaf" : Str) ∉ flds 0 by decide +kernel) fun hr C hu nd =>
  (rs_cons (r_set (i := 2) nd (r_meth rfl C (P_Shelf_lay Z) hr.m (r_var 0) (ra_cons (r_var 1) ra_nil)))
    (rs_cons (r_set (i := 3) nd (r_ix rfl hu (r_var 1) r_int))
    (rs_cons (r_expr (r_bm rfl PySem.F.plainAttrs_list PySem.F.slot_list_append PySem.F.type_list_append (m_append) chk_lst (r_fld rfl Z.cf_Shelf (r_var 0)) (ra_cons (r_bi (b_len rfl) rfl Z.b_len PySem.boot_len (ra_cons (r_var 3) ra_nil)) ra_nil)))
    (rs_cons (r_expr (r_bm rfl PySem.F.plainAttrs_list PySem.F.slot_list_append PySem.F.type_list_append (m_append) chk_lst (r_fld rfl Z.cf_Shelf (r_var 0)) (ra_cons (r_call rfl C (P_ends_in Z) hr.m rfl (ra_cons (r_var 3) ra_nil)) ra_nil)))
    (rs_cons (r_expr (r_bm rfl PySem.F.plainAttrs_list PySem.F.slot_list_append PySem.F.type_list_append (m_append) chk_lst (r_fld rfl Z.cf_Shelf (r_var 0)) (ra_cons r_int ra_nil)))
    (rs_cons (r_expr (r_bm rfl PySem.F.plainAttrs_list PySem.F.slot_list_append PySem.F.type_list_append (m_append) chk_lst (r_fld rfl Z.cf_Shelf (r_var 0)) (ra_cons r_int ra_nil)))
    (rs_cons (r_expr (r_bm rfl PySem.F.plainAttrs_list PySem.F.slot_list_append PySem.F.type_list_append (m_append) chk_lst (r_fld rfl Z.cf_Shelf (r_var 0)) (ra_cons (r_var 2) ra_nil)))
    (rs_one (r_expr (r_bm rfl PySem.F.plainAttrs_list PySem.F.slot_list_append PySem.F.type_list_append (m_append) chk_lst (r_fld rfl Z.cf_Shelf (r_var 0)) (ra_cons (r_var 2) ra_nil)))))))))))
theorem P_Shelf_leaf : GM P w (mkT K cls exc) mg base 4 0 "leaf" F_Shelf_leaf := gm Z.d_Shelf_leaf sc_Shelf_leaf (show ("leaf" : Str) ∉ flds 0 by decide +kernel) fun hr C hu nd =>
  (rs_cons (r_if (rt_not (rt_truth rfl (r_call rfl C (P_is_short Z) hr.m rfl (ra_cons (r_var 1) ra_nil)))) (rs_one (r_raise Z.x_NoText raisesE rfl (ra_cons r_str ra_nil))) rs_nil)
    (rs_cons (r_set (i := 2) nd (r_tup (ra_cons r_str (ra_cons (r_var 1) ra_nil))))
    (rs_cons (r_if (rt_cmp (o_notIn rfl hu) (r_var 2) (r_fld rfl Z.cf_Shelf (r_var 0)) rfl) (rs_one (r_expr (r_meth rfl C (P_Shelf_lay_leaf Z) hr.m (r_var 0) (ra_cons (r_var 2) ra_nil)))) rs_nil)
    (rs_one (r_ret (r_ix rfl hu (r_fld rfl Z.cf_Shelf (r_var 0)) (r_var 2)))))))
theorem P_is_whole : GF P w (mkT K cls exc) mg base 1 "is_whole" F_is_whole := gf Z.d_is_whole sc_is_whole fun hr C hu nd =>
  (rs_one (r_ret (r_and (r_isB rfl rfl Z.b_isinstance (r_var 0) rfl Z.b_int bt_int (by decide)) (r_one (r_not (r_isB rfl rfl Z.b_isinstance (r_var 0) rfl Z.b_bool bt_bool (by decide)))))))
theorem P_Shelf_has_piece : GM P w (mkT K cls exc) mg base 2 0 "has_piece" F_Shelf_has_piece := gm Z.d_Shelf_has_piece sc_Shelf_has_piece (show ("has_piece" : Str) ∉ flds 0 by decide +kernel) fun hr C hu nd =>
  (rs_one (r_ret (r_and (r_call rfl C (P_is_whole Z) hr.m rfl (ra_cons (r_var 1) ra_nil)) (r_one (r_chain o_le o_le r_int (r_var 1) (r_bi (b_len rfl) rfl Z.b_len PySem.boot_len (ra_cons (r_fld rfl Z.cf_Shelf (r_var 0)) ra_nil)))))))
theorem P_Shelf_check_piece : GM P w (mkT K cls exc) mg base 3 0 "check_piece" F_Shelf_check_piece := gm Z.d_Shelf_check_piece sc_Shelf_check_piece (show ("check_piece" : Str) ∉ flds 0 by decide +kernel) fun hr C hu nd =>
  (rs_one (r_if (rt_not (rt_truth rfl (r_meth rfl C (P_Shelf_has_piece Z) hr.m (r_var 0) (ra_cons (r_var 1) ra_nil)))) (rs_one (r_raise Z.x_NoPiece raisesE rfl (ra_cons r_str ra_nil))) rs_nil))
theorem P_Shelf_check_fork : GM P w (mkT K cls exc) mg base 4 0 "check_fork" F_Shelf_check_fork := gm Z.d_Shelf_check_fork sc_Shelf_check_fork (show ("check_fork" : Str) ∉ flds 0 by decide +kernel) fun hr C hu nd =>
  (rs_cons (r_expr (r_meth rfl C (P_Shelf_check_piece Z) hr.m (r_var 0) (ra_cons (r_var 1) ra_nil)))
    (rs_cons (r_expr (r_meth rfl C (P_Shelf_check_piece Z) hr.m (r_var 0) (ra_cons (r_var 2) ra_nil)))
    (rs_cons (r_set (i := 3) nd (r_bin (o_add rfl) (r_ix rfl hu (r_fld rfl Z.cf_Shelf (r_var 0)) (r_ix rfl hu (r_fld rfl Z.cf_Shelf (r_var 0)) (r_var 1))) (r_ix rfl hu (r_fld rfl Z.cf_Shelf (r_var 0)) (r_ix rfl hu (r_fld rfl Z.cf_Shelf (r_var 0)) (r_var 2)))))
    (rs_cons (r_if (rt_cmp o_le (r_var 3) (r_gI rfl Z.c_LEAF_SIGNS) (nomark _)) (rs_one (r_raise Z.x_Loose raisesE rfl (ra_cons r_str ra_nil))) rs_nil)
    (rs_cons (r_if (rt_cmp o_gt (r_bi (b_abs) rfl Z.b_abs PyProof.Rows.boot_abs (ra_cons (r_bin o_sub (r_ix rfl hu (r_fld rfl Z.cf_Shelf (r_var 0)) (r_var 1)) (r_ix rfl hu (r_fld rfl Z.cf_Shelf (r_var 0)) (r_var 2))) ra_nil)) r_int (nomark _)) (rs_one (r_raise Z.x_Unlevel raisesE rfl (ra_cons r_str ra_nil))) rs_nil)
    (rs_one (r_if (rt_cmp o_gt (r_bin (o_add rfl) (r_ix rfl hu (r_fld rfl Z.cf_Shelf (r_var 0)) (r_var 1)) (r_ix rfl hu (r_fld rfl Z.cf_Shelf (r_var 0)) (r_var 2))) (r_gI rfl Z.c_MOST_SIGNS) (nomark _)) (rs_one (r_raise Z.x_TooLong raisesE rfl (ra_cons r_str ra_nil))) rs_nil)))))))
theorem P_Shelf_lay_fork : GM P w (mkT K cls exc) mg base 2 0 "lay_fork" F_Shelf_lay_fork := gm Z.d_Shelf_lay_fork sc_Shelf_lay_fork (show ("lay_fork" : Str) ∉ flds 0 by decide +kernel) fun hr C hu nd =>
  (rs_cons (r_expr (r_meth rfl C (P_Shelf_lay Z) hr.m (r_var 0) (ra_cons (r_var 1) ra_nil)))
    (rs_cons (r_set (i := 2) nd (r_ix rfl hu (r_var 1) r_int))
    (rs_cons (r_set (i := 3) nd (r_ix rfl hu (r_var 1) r_int))
    (rs_cons (r_expr (r_bm rfl PySem.F.plainAttrs_list PySem.F.slot_list_append PySem.F.type_list_append (m_append) chk_lst (r_fld rfl Z.cf_Shelf (r_var 0)) (ra_cons (r_bin (o_add rfl) (r_ix rfl hu (r_fld rfl Z.cf_Shelf (r_var 0)) (r_var 2)) (r_ix rfl hu (r_fld rfl Z.cf_Shelf (r_var 0)) (r_var 3))) ra_nil)))
    (rs_cons (r_expr (r_bm rfl PySem.F.plainAttrs_list PySem.F.slot_list_append PySem.F.type_list_append (m_append) chk_lst (r_fld rfl Z.cf_Shelf (r_var 0)) (ra_cons (r_bin (o_add rfl) (r_ix rfl hu (r_fld rfl Z.cf_Shelf (r_var 0)) (r_var 2)) (r_ix rfl hu (r_fld rfl Z.cf_Shelf (r_var 0)) (r_var 3))) ra_nil)))
    (rs_cons (r_expr (r_bm rfl PySem.F.plainAttrs_list PySem.F.slot_list_append PySem.F.type_list_append (m_append) chk_lst (r_fld rfl Z.cf_Shelf (r_var 0)) (ra_cons (r_bin (o_add rfl) (r_ix rfl hu (r_fld rfl Z.cf_Shelf (r_var 0)) (r_var 2)) (r_ix rfl hu (r_fld rfl Z.cf_Shelf (r_var 0)) (r_var 3))) ra_nil)))
    (rs_cons (r_expr (r_bm rfl PySem.F.plainAttrs_list PySem.F.slot_list_append PySem.F.type_list_append (m_append) chk_lst (r_fld rfl Z.cf_Shelf (r_var 0)) (ra_cons (r_bin (o_add rfl) (r_bi (b_max2) rfl Z.b_max PyProof.Rows.boot_max (ra_cons (r_ix rfl hu (r_fld rfl Z.cf_Shelf (r_var 0)) (r_var 2)) (ra_cons (r_ix rfl hu (r_fld rfl Z.cf_Shelf (r_var 0)) (r_var 3)) ra_nil))) r_int) ra_nil)))
    (rs_cons (r_expr (r_bm rfl PySem.F.plainAttrs_list PySem.F.slot_list_append PySem.F.type_list_append (m_append) chk_lst (r_fld rfl Z.cf_Shelf (r_var 0)) (ra_cons (r_ix rfl hu (r_fld rfl Z.cf_Shelf (r_var 0)) (r_var 2)) ra_nil)))
    (rs_one (r_expr (r_bm rfl PySem.F.plainAttrs_list PySem.F.slot_list_append PySem.F.type_list_append (m_append) chk_lst (r_fld rfl Z.cf_Shelf (r_var 0)) (ra_cons (r_ix rfl hu (r_fld rfl Z.cf_Shelf (r_var 0)) (r_var 3)) ra_nil))))))))))))
theorem P_Shelf_fork : GM P w (mkT K cls exc) mg base 5 0 "fork" F_Shelf_fork := gm Z.d_Shelf_fork sc_Shelf_fork (show ("fork" : Str) ∉ flds 0 by decide +kernel) fun hr C hu nd =>
  (rs_cons (r_expr (r_meth rfl C (P_Shelf_check_fork Z) hr.m (r_var 0) (ra_cons (r_var 1) (ra_cons (r_var 2) ra_nil))))
    (rs_cons (r_set (i := 3) nd (r_tup (ra_cons r_str (ra_cons (r_var 1) (ra_cons (r_var 2) ra_nil)))))
    (rs_cons (r_if (rt_cmp (o_notIn rfl hu) (r_var 3) (r_fld rfl Z.cf_Shelf (r_var 0)) rfl) (rs_one (r_expr (r_meth rfl C (P_Shelf_lay_fork Z) hr.m (r_var 0) (ra_cons (r_var 3) ra_nil)))) rs_nil)
    (rs_one (r_ret (r_ix rfl hu (r_fld rfl Z.cf_Shelf (r_var 0)) (r_var 3)))))))
theorem P_Shelf_check_text : GM P w (mkT K cls exc) mg base 4 0 "check_text" F_Shelf_check_text := gm Z.d_Shelf_check_text sc_Shelf_check_text (show ("check_text" : Str) ∉ flds 0 by decide +kernel) fun hr C hu nd =>
  (rs_one (r_if (rt_cmp (o_ne rfl hu) (r_var 1) r_int (nomark _)) (rs_one (r_expr (r_meth rfl C (P_Shelf_check_piece Z) hr.m (r_var 0) (ra_cons (r_var 1) ra_nil)))) rs_nil))
theorem P_Shelf_leaves : GM P w (mkT K cls exc) mg base 5 0 "leaves" F_Shelf_leaves := gm Z.d_Shelf_leaves sc_Shelf_leaves (show ("leaves" : Str) ∉ flds 0 by decide +kernel) fun hr C hu nd =>
  (rs_cons (r_expr (r_meth rfl C (P_Shelf_check_text Z) hr.m (r_var 0) (ra_cons (r_var 1) ra_nil)))
    (rs_one (r_ret (r_ix rfl hu (r_fld rfl Z.cf_Shelf (r_var 0)) (r_var 1)))))
theorem P_lean_text : ∀ d, GF P w (mkT K cls exc) mg base (5 + d + 1) "lean_text" (F_lean_text d)
  | 0 => gf Z.d_lean_text sc_lean_text fun _ _ _ _ => rs_bad
  | d + 1 => gf Z.d_lean_text sc_lean_text fun hr C hu nd =>
    (rs_cons (r_if (rt_cmp (o_eq rfl hu) (r_var 1) r_int (nomark _)) (rs_one (r_ret (r_meth rfl C (P_Shelf_leaf Z) (hr.mono (show 4 ≤ 5 + (d + 1) by omega)) (r_var 0) (ra_cons (r_ifE (rt_truth rfl (r_var 2)) (r_gS rfl Z.c_SMALL_LEAF) (r_gS rfl Z.c_FULL_LEAF)) ra_nil)))) rs_nil)
    (rs_cons (r_set (i := 4) nd (r_tup (ra_cons (r_var 1) (ra_cons (r_var 2) ra_nil))))
    (rs_cons (r_if (rt_cmp (o_notInB hu) (r_var 4) (r_var 3) rfl) (rs_cons (r_set (i := 5) nd (r_call rfl C (P_lean_text d) (hr.mono (by omega)) rfl (ra_cons (r_var 0) (ra_cons (r_bin o_sub (r_var 1) r_int) (ra_cons (r_var 2) (ra_cons (r_var 3) ra_nil))))))
    (rs_cons (r_set (i := 6) nd (r_cmp (o_eq rfl hu) (r_bin o_mod (r_meth rfl C (P_Shelf_leaves Z) (hr.mono (show 5 ≤ 5 + (d + 1) by omega)) (r_var 0) (ra_cons (r_var 5) ra_nil)) r_int) r_int (nomark _)))
    (rs_cons (r_set (i := 7) nd (r_call rfl C (P_lean_text d) (hr.mono (by omega)) rfl (ra_cons (r_var 0) (ra_cons (r_bi (b_max2) rfl Z.b_max PyProof.Rows.boot_max (ra_cons (r_bin o_sub (r_var 1) r_int) (ra_cons r_int ra_nil))) (ra_cons (r_cmp (o_eq rfl hu) (r_var 2) (r_var 6) (nomark _)) (ra_cons (r_var 3) ra_nil))))))
    (rs_one (r_setIxB hu (r_var 3) (r_var 4) (r_meth rfl C (P_Shelf_fork Z) (hr.mono (show 5 ≤ 5 + (d + 1) by omega)) (r_var 0) (ra_cons (r_var 5) (ra_cons (r_var 7) ra_nil)))))))) rs_nil)
    (rs_one (r_ret (r_ixB hu (r_var 3) (r_var 4)))))))
theorem P_least_leaves : GF P w (mkT K cls exc) mg base 1 "least_leaves" F_least_leaves := gf Z.d_least_leaves sc_least_leaves fun hr C hu nd =>
  (rs_cons (r_if (rt_cmp o_lt (r_var 0) r_int (nomark _)) (rs_one (r_ret r_int)) rs_nil)
    (rs_cons (r_set (i := 1) nd r_int)
    (rs_cons (r_set (i := 2) nd r_int)
    (rs_cons (r_for rfl (ri_range1 (E := EN) rfl Z.b_range (r_var 0)) (rg_name (i := 3) nd) (rs_cons (r_set (i := 4) nd (r_bin (o_add rfl) (r_var 1) (r_var 2)))
    (rs_cons (r_set (i := 1) nd (r_var 2))
    (rs_one (r_set (i := 2) nd (r_var 4))))))
    (rs_one (r_ret (r_var 1)))))))
theorem P_least_signs : GF P w (mkT K cls exc) mg base 2 "least_signs" F_least_signs := gf Z.d_least_signs sc_least_signs fun hr C hu nd =>
  (rs_cons (r_set (i := 1) nd (r_call rfl C (P_least_leaves Z) hr.m rfl (ra_cons (r_var 0) ra_nil)))
    (rs_one (r_ret (r_bin (o_add rfl) (r_bin o_mul r_int (r_bin o_div (r_var 1) r_int)) (r_bin o_mod (r_var 1) r_int)))))
theorem P_leanest : GF P w (mkT K cls exc) mg base 97 "leanest" F_leanest := gf Z.d_leanest sc_leanest fun hr C hu nd =>
  (rs_cons (r_if (rt_cmp o_lt (r_var 1) r_int (nomark _)) (rs_one (r_ret r_int)) rs_nil)
    (rs_cons (r_if (rt_cmp o_gt (r_call rfl C (P_least_signs Z) hr.m rfl (ra_cons (r_var 1) ra_nil)) (r_gI rfl Z.c_MOST_SIGNS) (nomark _)) (rs_one (r_raise Z.x_TooLong raisesE rfl (ra_cons r_str ra_nil))) rs_nil)
    (rs_one (r_ret (r_call rfl C (P_lean_text Z 90) hr.m rfl (ra_cons (r_var 0) (ra_cons (r_var 1) (ra_cons r_bl (ra_cons r_dictT ra_nil)))))))))
theorem P_Shelf_signs : GM P w (mkT K cls exc) mg base 5 0 "signs" F_Shelf_signs := gm Z.d_Shelf_signs sc_Shelf_signs (show ("signs" : Str) ∉ flds 0 by decide +kernel) fun hr C hu nd =>
  (rs_cons (r_expr (r_meth rfl C (P_Shelf_check_text Z) hr.m (r_var 0) (ra_cons (r_var 1) ra_nil)))
    (rs_one (r_ret (r_ix rfl hu (r_fld rfl Z.cf_Shelf (r_var 0)) (r_var 1)))))
theorem Q_law {f : Addr} {fd : FuncData} (h4 : Fun K "law" "law" s_law f fd) : FnOk P w K mg base (CXE P w) 98 f fd ["script"] (spA (mkT K cls exc) F_law) := gl (T := mkT K cls exc) h4 sc_law fun {cdv A outer s H E} hr C hu nd =>
  (rs_cons (r_set (i := 1) nd (r_maxD rfl rfl rfl Z.b_max (r_comp (jf := []) (compOk_of (N := ["script", "most", "known", "shelf", "height", "number"]) (sc := defScope s_law) rfl (fun _ => rfl) (by decide +kernel)) rfl (ri_val (E := (fun _ => E)) rfl (r_var 0)) (fun _ _ _ _ _ => rts_nil) (fun _ _ _ _ _ => (r_bin o_mod (r_var 0) r_int))) r_int))
    (rs_cons (r_set (i := 2) nd (r_call rfl C (P_law_fewest Z) hr.m rfl (ra_cons (r_var 1) ra_nil)))
    (rs_cons (r_set (i := 3) nd (r_make0 rfl C (P_Shelf_init Z) hr.m rfl))
    (rs_cons (r_for rfl (ri_range1 (E := EN) rfl Z.b_range (r_bin (o_add rfl) (r_var 1) r_int)) (rg_name (i := 4) nd) (rs_cons (r_if (rt_cmp (o_ne rfl hu) (r_tup (ra_cons (r_call rfl (C.nox) (P_least_leaves Z) hr.m rfl (ra_cons (r_var 4) ra_nil)) (ra_cons (r_call rfl (C.nox) (P_least_signs Z) hr.m rfl (ra_cons (r_var 4) ra_nil)) ra_nil))) (r_ix rfl hu (r_var 2) (r_var 4)) (nomark _)) (rs_one (r_ret r_bl)) rs_nil)
    (rs_cons (r_set (i := 5) nd (r_call rfl (C.nox) (P_leanest Z) hr.m rfl (ra_cons (r_var 3) (ra_cons (r_var 4) ra_nil))))
    (rs_one (r_if (rt_cmp (o_ne rfl hu) (r_tup (ra_cons (r_meth rfl (C.nox) (P_Shelf_leaves Z) hr.m (r_var 3) (ra_cons (r_var 5) ra_nil)) (ra_cons (r_meth rfl (C.nox) (P_Shelf_signs Z) hr.m (r_var 3) (ra_cons (r_var 5) ra_nil)) ra_nil))) (r_ix rfl hu (r_var 2) (r_var 4)) (nomark _)) (rs_one (r_ret r_bl)) rs_nil)))))
    (rs_one (r_ret r_bl))))))
end
end Sk

namespace Sk
open PySem PySem.Spec L2 Sm
noncomputable abbrev FX (l : PySem.W.OpenLaw) (w : World) (K : PySem.W.Frag) (mg : Str → Option Value) (fa : Addr) : Prop := ∃ fd : FuncData, (∀ (s : Shared) (v : Value), BindsTo s fd ⟨[v], []⟩ [("script", v)]) ∧ ∀ base : Heap, K.In base → base.Ns mainGlobals mg → FnOk l.prog w K mg base (CXE l.prog w) 98 fa fd ["script"] (spL K)
theorem all_mk {l : PySem.W.OpenLaw} {w : World} {K : PySem.W.Frag} {h : Heap} {mg : Str → Option Value} {fa C0 X0 X1 X2 X3 X4 X5 : Addr} {tk_LEAF_SIGNS tk_MOST_SIGNS tk_SMALL_LEAF tk_FULL_LEAF : Tok} (X : K.In h) (G : h.Ns mainGlobals mg) (hfa : mg "law" = some (.ref fa))
    (aC0 : NA K "Shelf" (some (.ref C0))) (a3 : DN K C0 "__init__" "Shelf.__init__" s_Shelf_init) (a7 : DN K C0 "lay" "Shelf.lay" s_Shelf_lay) (a9 : DN K C0 "lay_leaf" "Shelf.lay_leaf" s_Shelf_lay_leaf) (a10 : DN K C0 "leaf" "Shelf.leaf" s_Shelf_leaf) (a12 : DN K C0 "has_piece" "Shelf.has_piece" s_Shelf_has_piece) (a13 : DN K C0 "check_piece" "Shelf.check_piece" s_Shelf_check_piece) (a14 : DN K C0 "check_fork" "Shelf.check_fork" s_Shelf_check_fork) (a15 : DN K C0 "lay_fork" "Shelf.lay_fork" s_Shelf_lay_fork) (a16 : DN K C0 "fork" "Shelf.fork" s_Shelf_fork) (a17 : DN K C0 "check_text" "Shelf.check_text" s_Shelf_check_text) (a18 : DN K C0 "leaves" "Shelf.leaves" s_Shelf_leaves) (a23 : DN K C0 "signs" "Shelf.signs" s_Shelf_signs) (a0 : DK K "_law_put_together" s_law_put_together) (a1 : DK K "_law_joined" s_law_joined) (a2 : DK K "_law_fewest" s_law_fewest) (a4 : DK K "is_plain_sign" s_is_plain_sign) (a5 : DK K "is_plain" s_is_plain) (a6 : DK K "is_short" s_is_short) (a8 : DK K "ends_in" s_ends_in) (a11 : DK K "is_whole" s_is_whole) (a19 : DK K "lean_text" s_lean_text) (a20 : DK K "least_leaves" s_least_leaves) (a21 : DK K "least_signs" s_least_signs) (a22 : DK K "leanest" s_leanest) (a24 : DK K "law" s_law) (kk0 : Cls K C0) (mk0 : PySem.W.makesIn K C0 = true) (kc0 : PySem.W.keepIn K (.ref C0) = true) (nf0_0 : FA K C0 "pieces") (nf0_1 : FA K C0 "numbers") (nf0_2 : FA K C0 "sign_counts") (nf0_3 : FA K C0 "end_counts") (nf0_4 : FA K C0 "leaf_counts") (nf0_5 : FA K C0 "heights") (nf0_6 : FA K C0 "first_leaves") (nf0_7 : FA K C0 "last_leaves") (z_abs : NA K "abs" none) (z_all : NA K "all" none) (z_bool : NA K "bool" none) (z_int : NA K "int" none) (z_isinstance : NA K "isinstance" none) (z_len : NA K "len" none) (z_max : NA K "max" none) (z_min : NA K "min" none) (z_range : NA K "range" none) (z_str : NA K "str" none) (e_SkeinError : NA K "SkeinError" (some (.ref X0))) (e_NoText : NA K "NoText" (some (.ref X1))) (x_NoText : XI K X1) (e_NoPiece : NA K "NoPiece" (some (.ref X2))) (x_NoPiece : XI K X2) (e_Loose : NA K "Loose" (some (.ref X3))) (x_Loose : XI K X3) (e_Unlevel : NA K "Unlevel" (some (.ref X4))) (x_Unlevel : XI K X4) (e_TooLong : NA K "TooLong" (some (.ref X5))) (x_TooLong : XI K X5) (m_LEAF_SIGNS : NA K "LEAF_SIGNS" (some (.int 8 tk_LEAF_SIGNS))) (m_MOST_SIGNS : NA K "MOST_SIGNS" (some (.int 1000000000000000000 tk_MOST_SIGNS))) (m_SMALL_LEAF : NA K "SMALL_LEAF" (some (.str "a" tk_SMALL_LEAF))) (m_FULL_LEAF : NA K "FULL_LEAF" (some (.str "bbbbbbbb" tk_FULL_LEAF)))
    : FX l w K mg fa := by
  have Z : ∀ base : Heap, K.In base → Facts l.prog w K (fun n => [C0][n]?) (fun n => [X0, X1, X2, X3, X4, X5][n]?) mg base := fun base KB => {
      b_abs := PySem.W.mg_none_of X G z_abs,
      b_all := PySem.W.mg_none_of X G z_all,
      b_bool := PySem.W.mg_none_of X G z_bool,
      b_int := PySem.W.mg_none_of X G z_int,
      b_isinstance := PySem.W.mg_none_of X G z_isinstance,
      b_len := PySem.W.mg_none_of X G z_len,
      b_max := PySem.W.mg_none_of X G z_max,
      b_min := PySem.W.mg_none_of X G z_min,
      b_range := PySem.W.mg_none_of X G z_range,
      b_str := PySem.W.mg_none_of X G z_str,
      c_LEAF_SIGNS := ⟨_, PySem.W.mg_of X G m_LEAF_SIGNS⟩,
      c_MOST_SIGNS := ⟨_, PySem.W.mg_of X G m_MOST_SIGNS⟩,
      c_SMALL_LEAF := ⟨_, PySem.W.mg_of X G m_SMALL_LEAF⟩,
      c_FULL_LEAF := ⟨_, PySem.W.mg_of X G m_FULL_LEAF⟩,
      cf_Shelf := ⟨C0, rfl, kk0, fun f hf => by
      have hf2 : f ∈ flds 0 := hf
      simp only [flds, List.mem_cons, List.not_mem_nil, or_false] at hf2
      rcases hf2 with rfl | rfl | rfl | rfl | rfl | rfl | rfl | rfl
      · exact nf0_0
      · exact nf0_1
      · exact nf0_2
      · exact nf0_3
      · exact nf0_4
      · exact nf0_5
      · exact nf0_6
      · exact nf0_7⟩,
      x_NoText := gx KB X G rfl e_NoText x_NoText,
      x_NoPiece := gx KB X G rfl e_NoPiece x_NoPiece,
      x_Loose := gx KB X G rfl e_Loose x_Loose,
      x_Unlevel := gx KB X G rfl e_Unlevel x_Unlevel,
      x_TooLong := gx KB X G rfl e_TooLong x_TooLong,
      d_law_put_together := dg X G a0 bl2,
      d_law_joined := dg X G a1 bl1,
      d_law_fewest := dg X G a2 bl1,
      d_Shelf_init := di rfl (PySem.W.mg_of X G aC0) mk0 kc0 a3 bl1,
      d_is_plain_sign := dg X G a4 bl1,
      d_is_plain := dg X G a5 bl1,
      d_is_short := dg X G a6 bl1,
      d_Shelf_lay := dm rfl kk0 a7 bl2,
      d_ends_in := dg X G a8 bl1,
      d_Shelf_lay_leaf := dm rfl kk0 a9 bl2,
      d_Shelf_leaf := dm rfl kk0 a10 bl2,
      d_is_whole := dg X G a11 bl1,
      d_Shelf_has_piece := dm rfl kk0 a12 bl2,
      d_Shelf_check_piece := dm rfl kk0 a13 bl2,
      d_Shelf_check_fork := dm rfl kk0 a14 bl3,
      d_Shelf_lay_fork := dm rfl kk0 a15 bl2,
      d_Shelf_fork := dm rfl kk0 a16 bl3,
      d_Shelf_check_text := dm rfl kk0 a17 bl2,
      d_Shelf_leaves := dm rfl kk0 a18 bl2,
      d_lean_text := dg X G a19 bl4,
      d_least_leaves := dg X G a20 bl1,
      d_least_signs := dg X G a21 bl1,
      d_leanest := dg X G a22 bl2,
      d_Shelf_signs := dm rfl kk0 a23 bl2,
      d_law := dg X G a24 bl1 }
  obtain ⟨fd, h1, F⟩ := dlaw (p := "script") X G hfa a24 bl1
  exact ⟨fd, h1, fun base KB _ => FnOk.imp (Q_law (Z base KB) F) (law_imp (T := mkT K (fun n => [C0][n]?) (fun n => [X0, X1, X2, X3, X4, X5][n]?)) law_true)⟩
theorem walk {l : PySem.W.OpenLaw} {q : Program} {loose : List Str} {XP : (Str → Option Value) → Heap → Prop} {YP : World → Heap → Prop} {d : DefRec} {K : Params → PySem.W.Frag} (hn : l.most = some 63) (hdf : d.params.defaults = [])
    (hY : ∀ (w : World) (h : Heap), YP w h → (K w.params).In h)
    (F : ∀ (w : World) (mg : Str → Option Value) (fa : Addr) (h : Heap), (K w.params).In h → h.Ns mainGlobals mg → mg d.name = some (.ref fa) → FX l w (K w.params) mg fa) :
    PySem.W.WalkO q loose XP YP l.row.toRowW d [] (fun f vs => PySem.call f vs) :=
  L2.walk_of (n := 63) (k := 98) (x := "script") (CX := fun w => CXE l.prog w) (sp := fun w => spL (K w.params)) hn (by decide) hdf ⟨rfl, by decide, by decide⟩ hY F (fun _ _ a ns hl _ hS => ⟨a, ns, rfl, hS, hl, fun _ => rfl⟩) fun _ _ _ _ _ z => cxe_false z
end Sk
open PySem PySem.W PyProof.Rows
noncomputable section
namespace PySem.W.Fast
def tw8660370767878299100 := 0
def tw8373313121989313747 := 0
def tw15224352730019727199 := 0
def tw18246381229404412703 := 0
def tw2493665997054006975 := 0
def tw15911170422108104319 := 0
def tw1553563477635848799 := 0
def tw6884051890009806367 := 0
def tw9457913214397696191 := 0
def tw316975217033225407 := 0
def tw6547229935903583070 := 0
def tw9455184593598375742 := 0
def tw17905188186838040286 := 0
def tw1515418721738787486 := 0
def tw3702331359188413054 := 0
def tw7137153301220316414 := 0
def tw9025559819174000798 := 0
def tw10175761450326332413 := 0
def tw5894299955784472573 := 0
def tw9409715609370681277 := 0
def tw6014729059112016829 := 0
def tw11499943748098961309 := 0
def tw14419272964457084701 := 0
def tw18210644504318793341 := 0
def tw6992667006291533373 := 0
def tw13767507549317637629 := 0
def tw2145427664639690045 := 0
def tw13724975210481291485 := 0
def tw1282230882898143389 := 0
def tw9330018463326203997 := 0
def tw10942918266520875037 := 0
def tw3726973203792330781 := 0
def tw10841377471150606332 := 0
def tw4395534259843850108 := 0
def tw12092616518088390364 := 0
def tw12071934734116499708 := 0
def tw5099854060789712956 := 0
def tw5728215287131476763 := 0
def tw4953519155503919739 := 0
def tw606744810818340411 := 0
def tw2371636791813979483 := 0
def tw13259794549405196635 := 0
def tw9114872362096830747 := 0
def tw1653108597498462267 := 0
def tw4988474273335163418 := 0
def tw5828576678398102010 := 0
def tw16740758471447603674 := 0
def tw16030797568539784602 := 0
def tw16189009110621787514 := 0
def tw2724008716730114170 := 0
def tw559864437792503898 := 0
def tw7745234864337843226 := 0
def tw18322189621858302841 := 0
def tw5833340654995192601 := 0
def tw5214258080060601049 := 0
def tw10623489660988654937 := 0
def tw15118123541412481337 := 0
def tw6101890232736763193 := 0
def tw14288487854078019865 := 0
def tw2331179474666912728 := 0
def tw9906707566681607896 := 0
def tw6409143200450602552 := 0
def tw16879632853992389176 := 0
def tw12283297297483528632 := 0
def tw6120998487349608760 := 0
def tw1221260921032121656 := 0
def tw13434055811876706360 := 0
def tw9923861824768547703 := 0
def tw14793318390028653399 := 0
def tw3577872997535592055 := 0
def tw1112839888445313527 := 0
def tw6411935001278327255 := 0
def tw7636454250774106551 := 0
def tw8569264648350299287 := 0
def tw18170358856962476758 := 0
def tw4511545480142589462 := 0
def tw8465524621245603286 := 0
def tw1510443519338178870 := 0
def tw12911889752955318261 := 0
def tw14851008721693553013 := 0
def tw2555113874124445013 := 0
def tw5666067664199543893 := 0
def tw3688313931488077492 := 0
def tw4542216941171521044 := 0
def tw6942351898775011860 := 0
def tw487249554585540884 := 0
def tw17894069444123390164 := 0
def tw9041061094436093108 := 0
def tw3412597858496900915 := 0
def tw16240070806839873267 := 0
def tw4313096485519445427 := 0
def tw16711691374021738675 := 0
def tw635490740827256851 := 0
def tw7174372653919414258 := 0
def tw14031967533421941490 := 0
def tw1270811940395338290 := 0
def tw6367089460129982962 := 0
def tw13171109941625260338 := 0
def tw8750651757723118770 := 0
def tw6425792021225351250 := 0
def tw9358411970143023186 := 0
def tw13336095980305208338 := 0
def tw14615964268306152305 := 0
def tw7607513970482403185 := 0
def tw6690448988144616177 := 0
def tw1873475001136154321 := 0
def tw6519649118125179569 := 0
def tw1998471265940822673 := 0
def tw6211544539156082193 := 0
def tw15472158831834346865 := 0
def tw8786250208806380721 := 0
def tw10227527156065734705 := 0
def tw14120493484927138833 := 0
def tw4496262741368505040 := 0
def tw7595523953362179632 := 0
def tw5476137660998205904 := 0
def tw11606046003724181936 := 0
def tw5692282877068132175 := 0
def tw12814984106293929743 := 0
def tw9477571816858978063 := 0
def tw6455164081663984303 := 0
def tw16846904587711216303 := 0
def tw4380808754522648175 := 0
def tw13242465846724254319 := 0
def tw9096560540790853231 := 0
def tw13676591197241876047 := 0
def tw10567264899341683215 := 0
def tw12889125492790385135 := 0
def tw14174413322416088495 := 0
def tw12221908096040504719 := 0
def tw13201928520094404783 := 0
def tw11595869954399373391 := 0
def tw4472131286503752783 := 0
def tw4623658898917994190 := 0
def tw5996728092426422926 := 0
def tw1495783658559224430 := 0
def tw3983167366816466510 := 0
def tw16253764305061620270 := 0
def tw15764777240234794382 := 0
def tw9436286578350025934 := 0
def tw6900294957825476750 := 0
def tw14301374162390530190 := 0
def tw17217131010717621358 := 0
def tw8515065288960544782 := 0
def tw16044049994378248077 := 0
def tw9567970957462120141 := 0
def tw168993378809426605 := 0
def tw10076143568585581869 := 0
def tw5088381512307972301 := 0
def tw16574436920216588397 := 0
def tw14450061307920165933 := 0
def tw11157083958445453036 := 0
def tw16735009199142524588 := 0
def tw12526740190804252108 := 0
def tw13328840844203252108 := 0
def tw3757488502762644780 := 0
def tw2920494779276032108 := 0
def tw11661366574626627499 := 0
def tw3044729416369143435 := 0
def tw1381523051650050475 := 0
def tw10833328056191630571 := 0
def tw15571024286845075563 := 0
def tw46469427314030410 := 0
def tw11783795523022628618 := 0
def tw10523350309829928618 := 0
def tw2185640024123793994 := 0
def tw10774199896109397450 := 0
def tw17992139453938058474 := 0
def tw2966680737627799562 := 0
def tw17532637377434717833 := 0
def tw1092719094504316553 := 0
def tw14384876192262469161 := 0
def tw6993944220115410441 := 0
def tw8739627035541269897 := 0
def tw14095053983337273673 := 0
def tw13144578197342204105 := 0
def tw5422162065688769705 := 0
def tw8774211576716635273 := 0
def tw16336618486079905865 := 0
def tw1349653340969372296 := 0
def tw3103399699898547656 := 0
def tw14656254827363213736 := 0
def tw4761120269874652520 := 0
def tw14828492188520633608 := 0
def tw12226497333923123368 := 0
def tw9429969829505708903 := 0
def tw14278147392282209031 := 0
def tw3221079639387074247 := 0
def tw10377570642391960199 := 0
def tw11529335205982221927 := 0
def tw15084125808804463175 := 0
def tw15658593371633504647 := 0
def tw780186557293816103 := 0
def tw3388468042617562375 := 0
def tw3220693839428656231 := 0
def tw17554418606300949511 := 0
def tw17087728375470056358 := 0
def tw3198737186107207302 := 0
def tw5775048656895807014 := 0
def tw2047858717610759686 := 0
def tw2189099872458064102 := 0
def tw15856769042206051877 := 0
def tw3958708477101002245 := 0
def tw3903424287893310372 := 0
def tw14108923256313797444 := 0
def tw6105140235470712580 := 0
def tw11283525252093748996 := 0
def tw8534946564397491908 := 0
def tw13322219714035927748 := 0
def tw17047249968384716132 := 0
def tw6537424046804662596 := 0
def tw10349004047775398020 := 0
def tw8550887005890760740 := 0
def tw17207057322772310723 := 0
def tw8102307639626528355 := 0
def tw11715384898257300035 := 0
def tw13480312429887457859 := 0
def tw3111896032917273123 := 0
def tw5757909292578437379 := 0
def tw8879091216707300451 := 0
def tw6653184077637290083 := 0
def tw4878728626932942915 := 0
def tw12596788079729738819 := 0
def tw4362815398938396610 := 0
def tw2659854712474963714 := 0
def tw9130959091637722722 := 0
def tw18078594872234732930 := 0
def tw7420098635704622338 := 0
def tw9684410551774260354 := 0
def tw6265386672345582273 := 0
def tw15701121051838136737 := 0
def tw7431793771169400097 := 0
def tw13016348233212578913 := 0
def tw5282107262160399425 := 0
def tw13173180871395774304 := 0
def tw4370232016940620480 := 0
def tw15755639420722041472 := 0
def tw5915858076477727136 := 0
def tw7942496594930717920 := 0
def tw2550468824640754912 := 0
end PySem.W.Fast
end
set_option maxRecDepth 100000 in
set_option maxHeartbeats 0 in
theorem PySem.Challenge.cw_skeinwood_k18_whole_least_of_all_shapes_holds : PySem.Challenge.rw_skeinwood_k18_whole_least_of_all_shapes.Holds := by
  w_on; o_law; k_head; (case hw => w_witness2)
  k_fill
  refine Sk.walk (l := PySem.Challenge.rw_skeinwood_k18_whole_least_of_all_shapes) rfl rfl (fun w h Y => PySem.W.kIn_of Y) ?F
  case F =>
    intro w mg fa h KX G hmg
    refine' Sk.all_mk KX G hmg ?aC0 ?a3 ?a7 ?a9 ?a10 ?a12 ?a13 ?a14 ?a15 ?a16 ?a17 ?a18 ?a23 ?a0 ?a1 ?a2 ?a4 ?a5 ?a6 ?a8 ?a11 ?a19 ?a20 ?a21 ?a22 ?a24 ?kk0 ?mk0 ?kc0 ?nf0_0 ?nf0_1 ?nf0_2 ?nf0_3 ?nf0_4 ?nf0_5 ?nf0_6 ?nf0_7 ?z_abs ?z_all ?z_bool ?z_int ?z_isinstance ?z_len ?z_max ?z_min ?z_range ?z_str ?e_SkeinError ?e_NoText ?x_NoText ?e_NoPiece ?x_NoPiece ?e_Loose ?x_Loose ?e_Unlevel ?x_Unlevel ?e_TooLong ?x_TooLong ?m_LEAF_SIGNS ?m_MOST_SIGNS ?m_SMALL_LEAF ?m_FULL_LEAF
    (case aC0 => apply Sm.na;k_is)
    (case a3 => apply Sm.dn<;>k_is)
    (case a7 => apply Sm.dn<;>k_is)
    (case a9 => apply Sm.dn<;>k_is)
    (case a10 => apply Sm.dn<;>k_is)
    (case a12 => apply Sm.dn<;>k_is)
    (case a13 => apply Sm.dn<;>k_is)
    (case a14 => apply Sm.dn<;>k_is)
    (case a15 => apply Sm.dn<;>k_is)
    (case a16 => apply Sm.dn<;>k_is)
    (case a17 => apply Sm.dn<;>k_is)
    (case a18 => apply Sm.dn<;>k_is)
    (case a23 => apply Sm.dn<;>k_is)
    (case a0 => apply Sm.dk<;>k_is)
    (case a1 => apply Sm.dk<;>k_is)
    (case a2 => apply Sm.dk<;>k_is)
    (case a4 => apply Sm.dk<;>k_is)
    (case a5 => apply Sm.dk<;>k_is)
    (case a6 => apply Sm.dk<;>k_is)
    (case a8 => apply Sm.dk<;>k_is)
    (case a11 => apply Sm.dk<;>k_is)
    (case a19 => apply Sm.dk<;>k_is)
    (case a20 => apply Sm.dk<;>k_is)
    (case a21 => apply Sm.dk<;>k_is)
    (case a22 => apply Sm.dk<;>k_is)
    (case a24 => apply Sm.dk<;>k_is)
    (case kk0 => constructor<;>k_is)
    (case mk0 => k_is)
    (case kc0 => k_is)
    (case nf0_0 => apply Sm.fatt;k_is)
    (case nf0_1 => apply Sm.fatt;k_is)
    (case nf0_2 => apply Sm.fatt;k_is)
    (case nf0_3 => apply Sm.fatt;k_is)
    (case nf0_4 => apply Sm.fatt;k_is)
    (case nf0_5 => apply Sm.fatt;k_is)
    (case nf0_6 => apply Sm.fatt;k_is)
    (case nf0_7 => apply Sm.fatt;k_is)
    (case z_abs => apply Sm.na;k_is)
    (case z_all => apply Sm.na;k_is)
    (case z_bool => apply Sm.na;k_is)
    (case z_int => apply Sm.na;k_is)
    (case z_isinstance => apply Sm.na;k_is)
    (case z_len => apply Sm.na;k_is)
    (case z_max => apply Sm.na;k_is)
    (case z_min => apply Sm.na;k_is)
    (case z_range => apply Sm.na;k_is)
    (case z_str => apply Sm.na;k_is)
    (case e_SkeinError => apply Sm.na;k_is)
    (case e_NoText => apply Sm.na;k_is)
    (case x_NoText => apply Sm.xi;k_exc)
    (case e_NoPiece => apply Sm.na;k_is)
    (case x_NoPiece => apply Sm.xi;k_exc)
    (case e_Loose => apply Sm.na;k_is)
    (case x_Loose => apply Sm.xi;k_exc)
    (case e_Unlevel => apply Sm.na;k_is)
    (case x_Unlevel => apply Sm.xi;k_exc)
    (case e_TooLong => apply Sm.na;k_is)
    (case x_TooLong => apply Sm.xi;k_exc)
    (case m_LEAF_SIGNS => apply Sm.na;k_is)
    (case m_MOST_SIGNS => apply Sm.na;k_is)
    (case m_SMALL_LEAF => apply Sm.na;k_is)
    (case m_FULL_LEAF => apply Sm.na;k_is)
